import PyProof.Rows.All
import Wide.All
import OpenK.AllK
import Wide.FinOn
import HandS.ForMost
import HandS.Exc
import HandS.TryOnly
import HandS.ExcOwn
import HandS.WordsExc
import HandS.IsInst
import HandS.Zip
import HandS.Sort
import HandS.Conv
import HandS.DictComp
import HandS.Walk
import HandS.Star
import HandS.SortInts
import KE.KExcSuper
import HandS.ExcIs
import HandS.ExcField
import HandS.SetFor
import HandS.Style
import KE.RegKIsAll
import PySem.Challenge.RW_gongpath_k03_rounds
set_option Elab.async false
set_option linter.all false
set_option maxRecDepth 100000
set_option maxHeartbeats 4000000
namespace G
open PySem PySem.Spec PyProof.Rows L2
def topS (i : Nat) : Stmt := PySem.Challenge.pw_gongpath_k03_rounds.main.body.getD i (.Pass ⟨0, 0, 0, 0⟩)
abbrev s__law_mixed : Stmt := topS 24
theorem sc__law_mixed : FnScope ["_law_number", "_law_k"] ["_law_number", "_law_k"] (defScope s__law_mixed) := ⟨rfl, rfl, rfl, by decide +kernel, rfl, by decide +kernel, by decide +kernel⟩
abbrev s_is_number : Stmt := topS 9
theorem sc_is_number : FnScope ["value"] ["value"] (defScope s_is_number) := ⟨rfl, rfl, rfl, by decide +kernel, rfl, by decide +kernel, by decide +kernel⟩
abbrev s_is_player : Stmt := topS 10
theorem sc_is_player : FnScope ["value"] ["value"] (defScope s_is_player) := ⟨rfl, rfl, rfl, by decide +kernel, rfl, by decide +kernel, by decide +kernel⟩
abbrev s_is_place : Stmt := topS 11
theorem sc_is_place : FnScope ["value", "many"] ["value", "many"] (defScope s_is_place) := ⟨rfl, rfl, rfl, by decide +kernel, rfl, by decide +kernel, by decide +kernel⟩
/-- what of the built-ins stands free at the module's top -/
structure Bt (mg : Str → Option Value) : Prop where
  len_ : mg "len" = none
  isinstance_ : mg "isinstance" = none
  int_ : mg "int" = none
  bool_ : mg "bool" = none
  list_ : mg "list" = none
  tuple_ : mg "tuple" = none
  set_ : mg "set" = none
  all_ : mg "all" = none
  max_ : mg "max" = none
  min_ : mg "min" = none
  sum_ : mg "sum" = none
  range_ : mg "range" = none
  enumerate_ : mg "enumerate" = none
  ValueError_ : mg "ValueError" = none
  super_ : mg "super" = none
  sorted_ : mg "sorted" = none
  any_ : mg "any" = none
  reversed_ : mg "reversed" = none
/-- a def that may be called by its name -/
structure Cal (P : Program) (w : World) (K : PySem.W.Frag) (mg : Str → Option Value) (base : Heap) (k : Nat) (x : Str) (sp : Sp) : Prop where
  ex : ∃ (f : Addr) (fd : FuncData) (ps : List Str), FnOk P w K mg base (L2.CX P w) k f fd ps sp ∧ mg x = some (.ref f) ∧ PySem.W.keepIn K (.ref f) = true ∧ Binds K fd ps []
theorem pe_cal {X : Cx} {k j : Nat} {x : Str} {sp : Sp} {p pos : Pos} {e : Expr} {es : List Expr} {t : TA} (c : Cal X.prog X.w X.K X.mg X.base k x sp) (hr : Room j X.A) (hk : k ≤ j) (hg : Gl X x) (ha : PA X (e :: es) t)
    (hdb : (x == ("__debug__" : Str)) = false := by decide) (he : starEach (e :: es) X.env = (false, eval e X.env) :: starEach es X.env := by rfl) (hpl : (backTo pos (starEach es X.env)).any (·.1) = false := by rfl) :
    PE X (.Call (.Name x p) (e :: es) [] pos) (tCall sp [] E0 t) := by
  obtain ⟨f, fd, ps, F, hm, kp, b⟩ := c.ex
  exact pe_call F (hr.mono hk) hg hm kp b .nil passL ha hdb he hpl
section
variable {P : Program} {w : World} {K : PySem.W.Frag} {mg : Str → Option Value} {base : Heap}
def mixed (n k : Int) : Int :=
  ((n % 2147483647 + 7919 * k * k + 31 * k) * 48271 % 2147483647) * (69621 + 2 * k) % 2147483629
def spMixed : Sp := fun vs H Q _ => ∃ n k : Int, vs = [.int n, .int k] ∧ 0 ≤ k ∧ k ≤ 1000000 ∧ Q (.int (mixed n k)) H
theorem ok_mixed {f : Addr} {fd : FuncData} (F : Fun K "_law_mixed" "_law_mixed" s__law_mixed f fd) : FnOk P w K mg base (L2.CX P w) 1 f fd ["_law_number", "_law_k"] spMixed := by
  refine F.okX sc__law_mixed (fun vs H Q E h => ?_) (fun cdv A outer s H vs Q E hr h => ?_)
  · obtain ⟨n, k, rfl, _⟩ := h
    rfl
  · obtain ⟨n, k, rfl, h0, h1, q⟩ := h
    refine ⟨_, (pss_cons (ps_set (i := 0) sc__law_mixed.nd rfl (Or.inl rfl) (pe_op op_mod (pe_op op_mul (pe_op op_add (pe_op op_add (pe_op op_mod (pv 0) pe_int) (pe_op op_mul (pe_op op_mul pe_int (pv 1)) (pv 1))) (pe_op op_mul pe_int (pv 1))) pe_int) pe_int))
      (pss_one (ps_ret (pe_op op_mod (pe_op op_mul (pv 0) (pe_op op_add pe_int (pe_op op_mul pe_int (pv 1)))) pe_int)))), ?_⟩
    have hm : 0 ≤ n % 2147483647 := Int.emod_nonneg _ (by decide)
    have hm2 : n % 2147483647 < 2147483647 := Int.emod_lt_of_pos _ (by decide)
    refine ⟨_, rfl, _, _, rfl, rfl, (by show (0:Int) < 2147483647; decide), _, rfl, _, _, rfl, rfl, .inl ⟨by decide, by decide⟩, _, rfl, _, _, rfl, rfl, .inr ⟨by omega, by omega⟩, _, _, rfl, rfl, _, rfl, _, _, rfl, rfl, .inl ⟨by decide, by decide⟩, _, _, rfl, rfl, _, _, rfl, rfl, .inr ⟨by decide, by decide⟩, _, _, rfl, rfl, (by show (0:Int) < 2147483647; decide), ?_⟩
    refine ⟨_, rfl, _, rfl, _, _, rfl, rfl, .inl ⟨by decide, by decide⟩, _, _, rfl, rfl, _, _, rfl, rfl, .inr ⟨by omega, by omega⟩, _, _, rfl, rfl, (by show (0:Int) < 2147483629; decide), ?_⟩
    exact q
end
end G

namespace G
open PySem PySem.Spec PyProof.Rows L2
/-! ### data at a value -/
inductive Dx (K : PySem.W.Frag) (H : Hp) : V → PyData → Prop
  | of {v : V} {d : PyData} (h : Dp K H v d) : Dx K H v d
  | dict0 {a : Addr} (h : H a = some (.dK [])) : Dx K H (.ref a) (.dict [])
def tyName : PyData → String
  | .none => "NoneType" | .bool _ => "bool" | .int _ => "int" | .str _ => "str" | .list _ => "list" | .tuple _ => "tuple" | .dict _ => "dict"
theorem sql_ty {K : PySem.W.Frag} {H : Hp} {a : Addr} {xs : List V} (h : SqL K H a xs) : TyX K H (.ref a) (.type "list") := by
  rcases h with (h | ⟨o, h⟩) | ⟨o, _, _, h, c, _⟩
  · exact .base (.lst h)
  · exact .base (.frz h)
  · exact .kList h c
theorem sqt_ty {K : PySem.W.Frag} {H : Hp} {a : Addr} {xs : List V} (h : SqT K H a xs) : TyX K H (.ref a) (.type "tuple") := by
  rcases h with (h | ⟨o, h⟩) | ⟨o, _, _, h, c, _⟩
  · exact .base (.tup h)
  · exact .fTuple h
  · exact .kTuple h c
theorem Dx.ty {K : PySem.W.Frag} {H : Hp} {v : V} {d : PyData} (h : Dx K H v d) : TyX K H v (.type (tyName d)) := by
  cases h with
  | of h =>
    cases h with
    | non => exact .base .non
    | bl b => exact .base (.bl b)
    | int i => exact .base (.int i)
    | str x => exact .base (.str x)
    | lst h _ => exact sql_ty h
    | tup h _ => exact sqt_ty h
  | dict0 h => exact .base (.dK h)
/-- what was tracked stays: data stays -/
theorem same_sqt {K : PySem.W.Frag} {H H' : Hp} {a : Addr} {xs : List V} (e : Same H H') (h : SqT K H a xs) : SqT K H' a xs := by
  rcases h with (h | ⟨o, h⟩) | h
  · exact .inl (.inl (e _ _ h))
  · exact .inl (.inr ⟨o, e _ _ h⟩)
  · exact .inr h
mutual
theorem dp_mono {K : PySem.W.Frag} {H H' : Hp} (s : Same H H') : ∀ (d : PyData) (v : V), Dp K H v d → Dp K H' v d
  | .none, _, h => by cases h; exact .non
  | .bool b, _, h => by cases h; exact .bl b
  | .int i, _, h => by cases h; exact .int i
  | .str x, _, h => by cases h; exact .str x
  | .list ds, _, h => by
    cases h with
    | lst hs ha => exact .lst (s.seq hs) (dp_monoAll s ds _ ha)
  | .tuple ds, _, h => by
    cases h with
    | tup hs ha => exact .tup (same_sqt s hs) (dp_monoAll s ds _ ha)
  | .dict _, _, h => by cases h
theorem dp_monoAll {K : PySem.W.Frag} {H H' : Hp} (s : Same H H') : ∀ (ds : List PyData) (vs : List V), DpAll K H vs ds → DpAll K H' vs ds
  | [], _, h => by cases h; exact .nil
  | d :: ds, _, h => by
    cases h with
    | cons h1 h2 => exact .cons (dp_mono s d _ h1) (dp_monoAll s ds _ h2)
end
theorem Dx.mono {K : PySem.W.Frag} {H H' : Hp} {v : V} {d : PyData} (s : Same H H') (h : Dx K H v d) : Dx K H' v d := by
  cases h with
  | of h => exact .of (dp_mono s _ _ h)
  | dict0 h => exact .dict0 (s _ _ h)
theorem DpAll.len {K : PySem.W.Frag} {H : Hp} : ∀ {vs : List V} {ds : List PyData}, DpAll K H vs ds → vs.length = ds.length
  | [], [], _ => rfl
  | _ :: _, _ :: _, .cons _ h => congrArg (· + 1) (DpAll.len h)
theorem DpAll.get {K : PySem.W.Frag} {H : Hp} : ∀ {vs : List V} {ds : List PyData} {i : Nat} {v : V}, DpAll K H vs ds → vs[i]? = some v → ∃ d, ds[i]? = some d ∧ Dp K H v d
  | _ :: _, _ :: _, 0, _, .cons h _, e => by
    cases e
    exact ⟨_, rfl, h⟩
  | _ :: _, _ :: _, i + 1, _, .cons _ h, e => DpAll.get (i := i) h e
  | [], [], _, _, .nil, e => by cases e
/-- isinstance of built-in kinds -/
def isTy (d : PyData) (T : String) : Bool := (kitB (tyName d) T).getD false
theorem kit_int (d : PyData) : kitB (tyName d) "int" = some (isTy d "int") := by unfold isTy; cases d <;> (dsimp only [tyName]; decide +kernel)
theorem kit_bool (d : PyData) : kitB (tyName d) "bool" = some (isTy d "bool") := by unfold isTy; cases d <;> (dsimp only [tyName]; decide +kernel)
theorem kit_list (d : PyData) : kitB (tyName d) "list" = some (isTy d "list") := by unfold isTy; cases d <;> (dsimp only [tyName]; decide +kernel)
theorem kit_tuple (d : PyData) : kitB (tyName d) "tuple" = some (isTy d "tuple") := by unfold isTy; cases d <;> (dsimp only [tyName]; decide +kernel)
theorem rd_isi {K : PySem.W.Frag} {H : Hp} {x : V} {d : PyData} {T : String} {b : Bool} {Q : VK} (h : Dx K H x d) (e : kitB (tyName d) T = some b) (q : Q (.bl b) H) : rIsi K [x, .ty T] H Q :=
  ⟨x, .ty T, _, _, b, rfl, .ty T, h.ty, kit_ty e, q⟩
/-! ### the checks, over data -/
def isNum : PyData → Bool | .int _ => true | _ => false
theorem isNum_ty (d : PyData) : (isTy d "int" && !isTy d "bool") = isNum d := by unfold isTy; cases d <;> (dsimp only [tyName, isNum]; decide +kernel)
def isPlayer : PyData → Bool | .int i => decide (i = 0) || decide (i = 1) | _ => false
def isPlace (d : PyData) (many : Int) : Bool := match d with | .int i => decide (0 ≤ i) && decide (i < many) | _ => false
section
variable {P : Program} {w : World} {K : PySem.W.Frag} {mg : Str → Option Value} {base : Heap}
def spIsNumber (K : PySem.W.Frag) : Sp := fun vs H Q _ => ∃ v d, vs = [v] ∧ Dx K H v d ∧ Q (.bl (isNum d)) H
theorem ok_is_number {f : Addr} {fd : FuncData} (B : Bt mg) (F : Fun K "is_number" "is_number" s_is_number f fd) : FnOk P w K mg base (L2.CX P w) 1 f fd ["value"] (spIsNumber K) := by
  refine F.okX sc_is_number (fun vs H Q E h => ?_) (fun cdv A outer s H vs Q E hr h => ?_)
  · obtain ⟨n, k, rfl, _⟩ := h
    rfl
  · obtain ⟨v, d, rfl, hd, q⟩ := h
    refine ⟨_, (pss_one (ps_ret (pe_and (pe_callB call_isi (by rfl) B.isinstance_ (by decide +kernel) (pa_cons (pv 0) (pa_cons (pe_bltn (v := .ty "int") (u := .type "int") (by rfl) B.int_ (by decide +kernel) rfl) pa_nil))) (pe_one (pe_not (pe_callB call_isi (by rfl) B.isinstance_ (by decide +kernel) (pa_cons (pv 0) (pa_cons (pe_bltn (v := .ty "bool") (u := .type "bool") (by rfl) B.bool_ (by decide +kernel) rfl) pa_nil)))))))), ?_⟩
    refine ⟨_, rfl, _, _, _, _, _, rfl, .ty _, hd.ty, kit_ty (kit_int d), _, rfl, ?_⟩
    rw [← isNum_ty d] at q
    cases e : isTy d "int" with
    | false =>
      rw [e] at q
      exact iteF q
    | true =>
      rw [e] at q
      refine iteT ⟨_, rfl, _, _, _, _, _, rfl, .ty _, hd.ty, kit_ty (kit_bool d), _, rfl, ?_⟩
      exact q
def spIsPlayer (K : PySem.W.Frag) : Sp := fun vs H Q _ => ∃ v d, vs = [v] ∧ Dx K H v d ∧ ∀ H', Same H H' → Q (.bl (isPlayer d)) H'
theorem same_upd {H : Hp} {p : Addr} {o : HO} (h : H p = none) : Same H (upd H p o) := fun b x e => by
  rw [upd_ne (ne_of_none e h)]
  exact e
theorem num_int {K : PySem.W.Frag} {H : Hp} {v : V} {d : PyData} (h : Dx K H v d) (e : isNum d = true) : ∃ i, d = .int i ∧ v = .int i := by
  cases h with
  | of h =>
    cases h with
    | int i => exact ⟨i, rfl, rfl⟩
    | _ => cases e
  | dict0 h => cases e
theorem ok_is_player {f : Addr} {fd : FuncData} (F : Fun K "is_player" "is_player" s_is_player f fd) (C_is_number : Cal P w K mg base 1 "is_number" (spIsNumber K)) : FnOk P w K mg base (L2.CX P w) 2 f fd ["value"] (spIsPlayer K) := by
  refine F.okX sc_is_player (fun vs H Q E h => ?_) (fun cdv A outer s H vs Q E hr h => ?_)
  · obtain ⟨n, k, rfl, _⟩ := h
    rfl
  · obtain ⟨v, d, rfl, hd, q⟩ := h
    refine ⟨_, (pss_one (ps_ret (pe_and (pe_cal C_is_number hr (by decide) (by rfl) (pa_cons (pv 0) pa_nil)) (pe_one (pe_cmpR op_in_seq (pv 0) (pe_tup (pa_cons pe_int (pa_cons pe_int pa_nil))) (by rfl)))))), ?_⟩
    refine ⟨_, rfl, _, _, rfl, hd, _, rfl, ?_⟩
    cases e : isNum d with
    | false =>
      refine iteF ?_
      have e2 : isPlayer d = false := by cases d <;> first | rfl | cases e
      rw [e2] at q
      exact q _ (Same.refl _)
    | true =>
      obtain ⟨i, rfl, rfl⟩ := num_int hd e
      refine iteT ⟨_, rfl, (by show 2 ≤ sizeLine; decide), fun p hp => ⟨p, _, rfl, .inr (SqT.of upd_same), rfl, rfl, ?_⟩⟩
      have e2 : inV (.int i) [.int 0, .int 1] = isPlayer (.int i) := by
        show ((0 : Int) == i || ((1 : Int) == i || false)) = (decide (i = 0) || decide (i = 1))
        rw [Bool.or_false]
        by_cases h0 : i = 0
        · subst h0; rfl
        · by_cases h1 : i = 1
          · subst h1; rfl
          · rw [decide_eq_false h0, decide_eq_false h1, beq_eq_false_iff_ne.mpr (Ne.symm h0), beq_eq_false_iff_ne.mpr (Ne.symm h1)]
      show Q (.bl (inV (.int i) [.int 0, .int 1])) _
      rw [e2]
      exact q _ (same_upd hp)
def spIsPlace (K : PySem.W.Frag) : Sp := fun vs H Q _ => ∃ (v : V) (d : PyData) (m : Int), vs = [v, .int m] ∧ Dx K H v d ∧ Q (.bl (isPlace d m)) H
theorem ok_is_place {f : Addr} {fd : FuncData} (F : Fun K "is_place" "is_place" s_is_place f fd) (C_is_number : Cal P w K mg base 1 "is_number" (spIsNumber K)) : FnOk P w K mg base (L2.CX P w) 2 f fd ["value", "many"] (spIsPlace K) := by
  refine F.okX sc_is_place (fun vs H Q E h => ?_) (fun cdv A outer s H vs Q E hr h => ?_)
  · obtain ⟨v, d, m, rfl, _⟩ := h
    rfl
  · obtain ⟨v, d, m, rfl, hd, q⟩ := h
    refine ⟨_, (pss_one (ps_ret (pe_and (pe_cal C_is_number hr (by decide) (by rfl) (pa_cons (pv 0) pa_nil)) (pe_one (pe_chain op_le op_lt pe_int (pv 0) (pv 1)))))), ?_⟩
    refine ⟨_, rfl, _, _, rfl, hd, _, rfl, ?_⟩
    cases e : isNum d with
    | false =>
      refine iteF ?_
      have e2 : isPlace d m = false := by cases d <;> first | rfl | cases e
      rw [e2] at q
      exact q
    | true =>
      obtain ⟨i, rfl, rfl⟩ := num_int hd e
      refine iteT ⟨_, rfl, 0, i, rfl, rfl, _, rfl, ?_⟩
      by_cases h0 : (0 : Int) ≤ i
      · rw [decide_eq_true h0]
        refine iteT ⟨_, rfl, i, m, rfl, rfl, ?_⟩
        have e2 : isPlace (.int i) m = decide (i < m) := by
          show (decide (0 ≤ i) && decide (i < m)) = _
          rw [decide_eq_true h0, Bool.true_and]
        rw [e2] at q
        exact q
      · rw [decide_eq_false h0]
        refine iteF ?_
        have e2 : isPlace (.int i) m = false := by
          show (decide (0 ≤ i) && decide (i < m)) = _
          rw [decide_eq_false h0, Bool.false_and]
        rw [e2] at q
        exact q
end
end G

namespace PySem
namespace BadX
open PySem.W PySem.Calls PyProof.Rows PySem.HandSPX
/-! ### the text of __init__: super().__init__(f't1{at}t2'); self.at = at -/
def iA (p1 p2 : Pos) : Arguments := { posonlyargs := [], args := [{ arg := "self", annotation := none, pos := p1 }, { arg := "at", annotation := none, pos := p2 }], vararg := none, kwonlyargs := [], kw_defaults := [], kwarg := none, defaults := [] }
structure Ps where
  a : Pos
  b : Pos
  c : Pos
  d : Pos
  e : Pos
  f : Pos
  g : Pos
  h : Pos
  i : Pos
  j : Pos
  k : Pos
  l : Pos
  m : Pos
  n : Pos
def iB (t1 t2 : Str) (p : Ps) : List Stmt := [
  .Expr (.Call (.Attribute (.Call (.Name "super" p.a) [] [] p.b) "__init__" p.c) [.JoinedStr [.Constant (.str t1) 0 p.d, .FormattedValue (.Name "at" p.e) (-1) none p.f, .Constant (.str t2) 0 p.g] p.h] [] p.i) p.j,
  .Assign [.Attribute (.Name "self" p.k) "at" p.l] (.Name "at" p.m) p.n]
def callE (t1 t2 : Str) (p : Ps) : Expr := .Call (.Attribute (.Call (.Name "super" p.a) [] [] p.b) "__init__" p.c) [.JoinedStr [.Constant (.str t1) 0 p.d, .FormattedValue (.Name "at" p.e) (-1) none p.f, .Constant (.str t2) 0 p.g] p.h] [] p.i
def iS : Scope := { kind := .function, names := [(PySem.Str.ofString "self", .local), (PySem.Str.ofString "at", .local), (PySem.Str.ofString "__class__", .free), (PySem.Str.ofString "super", .globalImplicit)], isGenerator := false, isCoroutine := false, more := [] }
/-- what the written part says of the class at C, and of its __init__, at fI -/
structure BadTxt (prog : Program) (K : Frag) (mg : Str → Option Value) (x qual t1 t2 : Str) (C fI : Addr) : Prop where
  gC : mg x = some (.ref C)
  cls : ∃ nm q N bs bm sn sub ab col dd k0 k1 k2 k3 k5, K.lookup C = some (excClassObj nm q C N bs bm true sn sub ab col dd k0 k1 k2 k3 k5 "ValueError.__new__") ∧ refsVE bm = true ∧ alongIn K "__init__" bm = some (some (.builtin "ValueError.__init__"))
  sa : findIn K (.ref C) "__setattr__" = some (some (.builtin "object.__setattr__"))
  noN : findIn K (.ref C) "at" = some none
  iC : findIn K (.ref C) "__init__" = some (some (.ref fI))
  tC : typeIn K (.ref fI) = some (.type "function")
  kC : keepIn K (.ref C) = true
  exC : subIn K (.ref C) (.type "BaseException") = some true
  veC : subIn K (.ref C) (.type "ValueError") = some true
  tyC : typeIn K (.ref C) = some (.type "type")
  moC : mroIn K C (.ref C) = some true
  opq : nsIn K cStatics "thirdparty.any" = some none
  msu : mg "super" = none
  htop : (prog.main.scope.names.lookup ("super" : Str)).isSome = false
  fn : ∃ (oc : Value) (od : Option Addr) (doc pm : Value) (an : Option Addr) (ct : Value) (osl : Array (Option Value)) (p1 p2 : Pos) (p : Ps) (cc cda : Addr) (ccl cl : Value) (cdd cld : Option Addr) (ccs csl : Array (Option Value)) (vs : Array Value) (file : Str) (tf : Tok),
    K.lookup fI = some ⟨oc, od, .func (ksFn "__init__" qual (iA p1 p2) (iB t1 t2 p) iS .none .none doc pm an (.ref cda) ct cc), osl⟩ ∧ codeIn K (.ref cda) qual = true ∧
    K.lookup cda = some ⟨ccl, cdd, .fields vs, ccs⟩ ∧ vs[2]? = some (.str file tf) ∧ ((prog.main.file : Str) == file) = true ∧ K.lookup cc = some ⟨cl, cld, .cell (some (.ref C)), csl⟩ ∧
    (∀ L : Addr, ∃ pl : Sem Bool, eval (callE t1 t2 p) (ksEnv qual iS L fI (.ref cda) cc) = (do
      let ov ← attributeBase (.Call (.Name "super" p.a) [] [] p.b) "__init__" (ksEnv qual iS L fI (.ref cda) cc) (eval (.Call (.Name "super" p.a) [] [] p.b) (ksEnv qual iS L fI (.ref cda) cc))
      standAt p.c.atName
      let (f, first) ← holding [ov] (getMethod ov "__init__" pl)
      callWith p.i f first (backTo p.i (starEach [.JoinedStr [.Constant (.str t1) 0 p.d, .FormattedValue (.Name "at" p.e) (-1) none p.f, .Constant (.str t2) 0 p.g] p.h] (ksEnv qual iS L fI (.ref cda) cc))) []))
  z1 : t1.length ≤ 1000
  z2 : t2.length ≤ 1000
theorem one_size (v : Value) : [v].length ≤ sizeLine := by
  rw [sizeLine_eq]
  exact (by decide : 1 ≤ 16777216)
/-- what __init__ leaves of a fresh exception at x -/
structure InitEnd (h h' : Heap) (x C dx t1 : Addr) (v : Value) : Prop where
  keep : ∀ b o, b ≠ x → h.get? b = some o → h'.get? b = some o
  obj : h'.get? x = some { cls := .ref C, dict := some dx, data := .fields #[.ref t1, .none, .none, .none, .bool false, .none] }
  dbig : h.objs.size ≤ dx
  dne : dx ≠ x
  ns : h'.Ns1 dx (fun y => if y = "at" then some v else none)
/-- what may be told: None, or a small number -/
def Small (v : Value) : Prop := v = .none ∨ ∃ (i : Nat) (t : Tok), v = .int (i : Int) t ∧ i < 64
section
variable {prog : Program} {w : World} {A : Around} {E : Value → Shared → Prop} {R : Result → Shared → Prop} {s : Shared} {K : Frag} {mg : Str → Option Value} {x qual t1 t2 : Str} {C fI : Addr} {base : Heap}
theorem len_app (a b : Str) : (a ++ b).length = a.length + b.length := Str.length_append a b
theorem int_small : ∀ i : Nat, i < 64 → (Str.ofString (toString (i : Int))).length ≤ 1000 ∧ ((i : Int)).natAbs.log2 < 1920 := by decide +kernel
theorem int_text_len {i : Nat} (h : i < 64) : (Str.ofString (toString (i : Int))).length ≤ 100000 := Nat.le_trans (int_small i h).1 (by decide)
theorem int_log {i : Nat} (h : i < 64) : ((i : Int)).natAbs.log2 < 1920 := (int_small i h).2
/-- {at} in the middle -/
theorem joined_at {env : Env} {pd pe pf pg ph : Pos} {v : Value} {Q : Value → Shared → Prop} (hv : Small v) (z1 : t1.length ≤ 1000) (z2 : t2.length ≤ 1000)
    (hat : ∀ {Q : Value → Shared → Prop} {s' : Shared}, s'.heap = s.heap → Q v s' → wpAny (model prog w) A (eval (.Name "at" pe) env) Q E s')
    (h : ∀ y k, Q (.str y k) { s with toks := k + 1 }) :
    wpAny (model prog w) A (eval (.JoinedStr [.Constant (.str t1) 0 pd, .FormattedValue (.Name "at" pe) (-1) none pf, .Constant (.str t2) 0 pg] ph) env) Q E s := by
  have e0 : evalEach [.Constant (.str t1) 0 pd, .FormattedValue (.Name "at" pe) (-1) none pf, .Constant (.str t2) 0 pg] env = [eval (.Constant (.str t1) 0 pd) env, eval (.FormattedValue (.Name "at" pe) (-1) none pf) env, eval (.Constant (.str t2) 0 pg) env] := by
    first | rfl | simp [evalEach]
  refine wpAny_JoinedStr ?_
  rw [e0]
  have a0 : (Str.empty ++ t1).length ≤ 1000 := by
    rw [len_app]
    show 0 + t1.length ≤ 1000
    omega
  refine Calls.Constant_str ⟨t1, _, rfl, Nat.le_trans a0 (by decide), ?_⟩
  refine wpAny_FormattedValue_plain (hat rfl ?_)
  have fin : ∀ (y : Str) (s' : Shared), s' = { s with toks := s'.toks } → y.length ≤ 100000 → Joins (model prog w) A E [eval (.Constant (.str t2) 0 pg) env] (Str.empty ++ t1 ++ y) (fun out s₁ => out.length ≤ sizeLine ∧ Q (.str out s₁.toks) { s₁ with toks := s₁.toks + 1 }) s' := fun y s' es hy => by
    have a2 : (Str.empty ++ t1 ++ y ++ t2).length ≤ sizeLine := by
      rw [len_app, len_app]
      exact Nat.le_trans (by omega : _ ≤ 200000) (by decide)
    refine Calls.Constant_str ⟨t2, _, rfl, a2, ?_⟩
    refine ⟨a2, ?_⟩
    rw [es]
    exact h _ _
  have a1 : ∀ y : Str, y.length ≤ 100000 → (Str.empty ++ t1 ++ y).length ≤ sizeLine := fun y hy => by
    rw [len_app]
    exact Nat.le_trans (by omega : _ ≤ 200000) (by decide)
  rcases hv with rfl | ⟨i, t, rfl, hi⟩
  · exact wpAny_formatField_none ⟨_, _, rfl, a1 _ (by decide), fin _ _ rfl (by decide)⟩
  · exact wpAny_formatField_int (int_log hi) ⟨_, _, rfl, a1 _ (int_text_len hi), fin _ _ rfl (int_text_len hi)⟩
theorem mw_with {M : Model} {i : String} {u y : Addr} {pos : Pos} {env : Env} {e : Expr} {rest : List Expr} {Q : Value → Shared → Prop}
    (h : wpAny M A (spliced (backTo pos (starEach (e :: rest) env))) (fun vs s₁ => KxsAt i u y s₁.heap ∧ wpAny M A (call (.ref u) vs) Q E s₁) E s)
    (he : starEach (e :: rest) env = (false, eval e env) :: starEach rest env := by rfl) (hplain : (backTo pos (starEach rest env)).any (·.1) = false := by rfl) :
    wpAny M A (callWith pos (.ref u) [] (backTo pos (starEach (e :: rest) env)) []) Q E s := by
  rw [he] at h ⊢
  refine kxs_callWith (i := i) (x := y) (by show (false || (backTo pos (starEach rest env)).any (·.1)) = false; rw [hplain]; rfl) ?_
  exact evalArgs_plain h
/-- the call of the bound ValueError.__init__ -/
theorem call_mw {u e t0 : Addr} {rest : List Value} {nm q : Str} {N : Addr} {bs bm : List Value} {hdct : Bool} {sn : List Str} {sub : List Value} {ab : Bool} {col : Option Bool} {dd : Option Addr} {k0 k1 k2 k3 k5 : Option Value} {Q : Value → Shared → Prop}
    (hC : s.heap.get? C = some (excClassObj nm q C N bs bm hdct sn sub ab col dd k0 k1 k2 k3 k5 "ValueError.__new__")) (he : s.heap.get? e = some (excO C t0)) (hu : s.heap.get? u = some (kxs_mw "ValueError.__init__" e)) (hrest : rest.length ≤ sizeLine)
    (hq : ∀ h' t1, (∀ b o, b ≠ e → s.heap.get? b = some o → h'.get? b = some o) → h'.get? e = some (excO C t1) → Q .none { s with heap := h' }) :
    wpAny (model prog w) A (call (.ref u) rest) Q E s := by
  obtain ⟨hh, g, d, tk, os⟩ := s
  refine wpAny_call (codeAny_of_tree ?_)
  show wpAny _ A.in1 (callAny (.ref u) ⟨rest, []⟩) _ _ _
  simp only [callAny]
  refine wpAny_bind (wpAny_load hu ?_)
  simp only [kxs_mw, show (Value.type "method-wrapper" == Value.type "method" || Value.type "method-wrapper" == Value.type "builtin_function_or_method" || Value.type "method-wrapper" == Value.type "method-wrapper") = true by decide, if_true]
  refine KFB.if_so (by decide) ?_
  refine wpAny_bind (check_bound_init F.excBase_ValueError.toExcCallFacts hC he rfl ?_)
  refine wpAny_bind (wpAny_pure (wpAny_pure ?_))
  refine ⟨plainId_quiet F.excBase_ValueError.init.plain _, codeAny_builtin F.excBase_ValueError.initEntry ?_⟩
  rw [Around.under_plainId F.excBase_ValueError.init.plain _]
  refine exc_init_tree (cls := .ref C) (t0 := t0) (dv := none) (c2 := .none) (c3 := .none) (b4 := .bool false) he hrest fun h' k e' _ => ?_
  exact hq h' _ k e'
theorem bad_init (T : BadTxt prog K mg x qual t1 t2 C fI) {x0 t0 : Addr} {v : Value} (M : L2.Mod K mg base) (kb : ∀ b o, base.get? b = some o → s.heap.get? b = some o) (hlim : s.heap.NoLimit) (hx : s.heap.get? x0 = some (excO C t0)) (hnx : K.lookup x0 = none) (hroom : A.depth < recursionLimit) (hv : Small v)
    (hq : ∀ h' tk dx t1, InitEnd s.heap h' x0 C dx t1 v → R (.ok (.ret .none)) { s with heap := h', toks := tk }) :
    codeAny (model prog w) A (.call (.ref fI) ⟨[.ref x0, v], []⟩) R s := by
  obtain ⟨oc, od, doc, pm, an, ct, osl, p1, p2, p, cc, cda, ccl, cl, cdd, cld, ccs, csl, vs, file, tf, ho, hcd, hcode, hvs, hfile, hcell, hev⟩ := T.fn
  obtain ⟨pl, hev⟩ := hev s.heap.objs.size
  obtain ⟨nm, q, N, bs, bm, sn, sub, ab, col, dd, k0, k1, k2, k3, k5, hC, hbm, hal⟩ := T.cls
  have X : K.In s.heap := M.kin.keeps kb
  have hcl : clsIn K C = some { name := nm, bases := bs, mro := .ref C :: bm, ns := N, qualname := q, hasDict := true, slotNames := sn, subclasses := sub, abstract := ab, collection := col, hasDel := false } := by unfold clsIn; rw [hC] <;> rfl
  refine ks_codeAny_call_defAt (fd := ksFn "__init__" qual (iA p1 p2) (iB t1 t2 p) iS .none .none doc pm an (.ref cda) ct cc) (body := iB t1 t2 p) (binds := [("self", .ref x0), ("at", v)]) hroom (X _ _ ho) rfl hlim (codeRec_of X hcd) rfl (BindsTo.of_eq (by first | rfl | with_unfolding_all rfl)) (by show ∀ y ∈ iS.names, y.2 ≠ .cell; decide) (by intro y hy; rcases List.mem_cons.mp hy with rfl | hy; rfl; rcases List.mem_cons.mp hy with rfl | hy; rfl; cases hy) (fun h₀ hns hk₁ => ?_)
  have hns' : h₀.Ns s.heap.objs.size (fun y => ([("self", Value.ref x0), ("at", v)] : List (Str × Value)).reverse.lookup y) := hns
  have X₀ : K.In h₀ := X.keeps hk₁
  have hx₀ := hk₁ _ _ hx
  have hxL : x0 ≠ s.heap.objs.size := Nat.ne_of_lt (Heap.lt_size hx)
  obtain ⟨mb, hb1, hb2⟩ := M.blt
  have hxC : x0 ≠ C := fun z => by
    rw [z, hC] at hnx
    cases hnx
  show _root_.PySem.wpAt (model prog w) (A.deeper (ksEnv qual iS s.heap.objs.size fI (.ref cda) cc)) (.func (iB t1 t2 p) (ksEnv qual iS s.heap.objs.size fI (.ref cda) cc)) (execs (iB t1 t2 p) (ksEnv qual iS s.heap.objs.size fI (.ref cda) cc)) _ _ _
  refine ks_wpAt_execs_cons (ks_wpAt_Expr_any (ks_wpAt_MethodCall (pl := pl) ?_ hev))
  refine ks_wpAt_super_base (env := ksEnv qual iS s.heap.objs.size fI (.ref cda) cc) rfl rfl (by decide) rfl (X₀ _ _ ho) rfl rfl rfl (X₀ _ _ hcode) rfl hvs hfile T.htop ?_
  refine ks_loadName_global rfl rfl (loadGlobal_builtin (env := ksEnv qual iS s.heap.objs.size fI (.ref cda) cc) (M.glob.keeps fun b o e => hk₁ b o (kb b o e)) T.msu (hb1.keeps fun b o e => hk₁ b o (kb b o e)) ((hb2 _ (by decide)).trans PyProof.Rows.Boot.«super») ⟨rfl, ?_⟩)
  refine wpAny_loadName_free rfl rfl rfl ⟨_, X₀ _ _ hcell, rfl⟩ ?_
  refine wpAny_loadName_local rfl rfl hns' (v := .ref x0) (by first | rfl | kernel_rfl) ?_
  have hD1 : h₀.get? C = some (excClassObj nm q C N bs bm true sn sub ab col dd k0 k1 k2 k3 k5 "ValueError.__new__") := X₀ _ _ hC
  refine ks_wpAny_isType_cls hD1 rfl ⟨rfl, ?_⟩
  refine ks_wpAny_call_super hD1 rfl hx₀ rfl (fun c e => by cases e) (looks_mroIn X₀ T.moC) (fun h₁ e₁ k₁ => ?_)
  have X₁ : K.In h₁ := X₀.keeps k₁
  have hx₁ := k₁ _ _ hx₀
  have I₁ : InstAt h₁ x0 (excO C t0) C none := ⟨hx₁, rfl, rfl, trivial⟩
  refine kxs_getMethod kxs_ValueError e₁ (looks_opaque X₁ T.opq) (l₀ := .ref C :: bm) ((looks_clsIn X₁ hcl).andThen .now) (l := bm) (by simp [List.dropWhile_cons]) X₁ hal (I₁.type.andThen (looks_subIn X₁ T.veC)) hxC (by decide) ?_
  have k₂ : ∀ b o, h₁.get? b = some o → (h₁.push (kxs_mw "ValueError.__init__" x0)).get? b = some o := fun b o e => Heap.get?_push_of_some _ e
  have eu : (h₁.push (kxs_mw "ValueError.__init__" x0)).get? h₁.objs.size = some (kxs_mw "ValueError.__init__" x0) := Heap.get?_push_at rfl rfl
  have hns₂ := hns'.keeps fun b o e => k₂ b o (k₁ b o e)
  show wpAny _ _ (callWith p.i (.ref h₁.objs.size) [] (backTo p.i (starEach [.JoinedStr [.Constant (.str t1) 0 p.d, .FormattedValue (.Name "at" p.e) (-1) none p.f, .Constant (.str t2) 0 p.g] p.h] (ksEnv qual iS s.heap.objs.size fI (.ref cda) cc))) []) _ _ _
  refine mw_with (i := "ValueError.__init__") (y := x0) (PyProof.Rows.args_cons ?_ rfl)
  refine joined_at hv T.z1 T.z2 (fun {Q' s'} es hq' => ?_) (fun y k => PyProof.Rows.args_nil ⟨eu, ?_⟩)
  · refine wpAny_Name (wpAny_loadName_local (m := fun y => ([("self", Value.ref x0), ("at", v)] : List (Str × Value)).reverse.lookup y) rfl rfl ?_ (by first | rfl | kernel_rfl) hq') (by decide)
    rw [es]
    exact hns₂
  refine call_mw (C := C) (e := x0) (t0 := t0) (k₂ _ _ (X₁ _ _ hC)) (k₂ _ _ hx₁) eu (one_size _) fun h₃ t3 k₃ hx₃ => ?_
  have kk : ∀ b o, b ≠ x0 → s.heap.get? b = some o → h₃.get? b = some o := fun b o hb e => k₃ b o hb (k₂ b o (k₁ b o (hk₁ b o e)))
  have X₃ : K.In h₃ := fun b o e => kk b o (fun z => by rw [z, hnx] at e; cases e) (X b o e)
  have hns₃ : h₃.Ns s.heap.objs.size (fun y => ([("self", Value.ref x0), ("at", v)] : List (Str × Value)).reverse.lookup y) := by
    obtain ⟨oL, es, ep, hL, r⟩ := hns₂
    exact ⟨oL, es, ep, k₃ _ _ hxL.symm hL, r⟩
  refine ks_wpAt_execs_cons (ks_wpAt_Assign_Attr (wpAt_of_wpAny ?_))
  refine wpAny_Name (wpAny_loadName_local rfl rfl hns₃ (v := v) (by first | rfl | kernel_rfl) ?_) (by decide)
  refine wpAny_Name (wpAny_loadName_local rfl rfl hns₃ (v := .ref x0) (by first | rfl | kernel_rfl) ?_) (by decide)
  refine set_plain X₃ (ox := excO C t3) (od := none) ⟨hx₃, rfl, rfl, trivial⟩ T.sa ?_
  refine exc_osa X₃ hx₃ hcl (show refsVE (.ref C :: bm) = true from hbm) rfl T.noN (fun h₄ tk₄ dx k₄ dn dne hx₄ hn₄ => ?_)
  refine wpAt_of_wpAny (wpAny_execs_nil ?_)
  have z3 : s.heap.objs.size ≤ h₃.objs.size := by
    obtain ⟨oL, es, ep, hL, r⟩ := hns₃
    exact Nat.le_of_lt (Heap.lt_size hL)
  exact hq h₄ tk₄ dx t3 ⟨fun b o hb e => k₄ b o hb (kk b o hb e), hx₄, Nat.le_trans z3 dn, dne, hn₄⟩
/-- a made one -/
structure OwnMade (h h' : Heap) (e C d : Addr) (v : Value) : Prop where
  keep : ∀ b o, h.get? b = some o → h'.get? b = some o
  new : h.objs.size ≤ e
  obj : ∃ oe vs, h'.get? e = some oe ∧ oe.cls = .ref C ∧ oe.dict = some d ∧ oe.data = .fields vs ∧ vs[1]? = some .none
  dbig : h.objs.size ≤ d
  dne : d ≠ e
  ns : h'.Ns1 d (fun y => if y = "at" then some v else none)
theorem bad_made (T : BadTxt prog K mg x qual t1 t2 C fI) {v : Value} (M : L2.Mod K mg base) (kb : ∀ b o, base.get? b = some o → s.heap.get? b = some o) (hlim : s.heap.NoLimit) (hroom : A.depth + 1 < recursionLimit) (hv : Small v)
    (hq : ∀ h' tk e d, OwnMade s.heap h' e C d v → R (.ok (.ret (.ref e))) { s with heap := h', toks := tk }) :
    codeAny (model prog w) A (.call (.ref C) ⟨[v], []⟩) R s := by
  obtain ⟨nm, q, N, bs, bm, sn, sub, ab, col, dd, k0, k1, k2, k3, k5, hC, hbm, hal⟩ := T.cls
  have X : K.In s.heap := M.kin.keeps kb
  obtain ⟨hp, g, dr, tk, os⟩ := s
  have k : ∀ b o, hp.get? b = some o → ((hp.push (kdv_tup [v])).push (excO C hp.objs.size)).get? b = some o := fun b o e => Heap.get?_push_of_some _ (Heap.get?_push_of_some _ e)
  have hget : ((hp.push (kdv_tup [v])).push (excO C hp.objs.size)).get? (hp.objs.size + 1) = some (excO C hp.objs.size) := by heap_get
  have hnx : K.lookup (hp.objs.size + 1) = none := by
    cases e : K.lookup (hp.objs.size + 1) with
    | none => rfl
    | some o =>
      have z : hp.get? (hp.objs.size + 1) = some o := X _ _ e
      exact absurd (Nat.lt_of_succ_lt (Heap.lt_size z)) (Nat.lt_irrefl _)
  refine call_own F.excBase_ValueError (fun X => refsVE_contains X bm hbm) (X _ _ hC) (looks_findIn X T.iC) (fun self => bind_fn X self T.tC) (one_size v) ?_
  refine bad_init (s := ⟨(hp.push (kdv_tup [v])).push (excO C hp.objs.size), g, dr, tk, os⟩) T M (fun b o e => k b o (kb b o e)) (hlim.keeps k) hget hnx ?_ hv fun h' tk' dx t3 ⟨k', hx, dn, dne, hns⟩ => ?_
  · show A.depth + 1 < recursionLimit
    exact hroom
  · have old : ∀ b o, hp.get? b = some o → h'.get? b = some o := fun b o e => k' b o (Nat.ne_of_lt (Nat.lt_succ_of_lt (Heap.lt_size e))) (k b o e)
    have z : hp.objs.size + 1 + 1 ≤ dx := by
      first
        | (simpa only [Heap.size_push] using dn)
        | exact dn
        | (have q := dn; rw [Heap.size_push, Heap.size_push] at q; exact q)
    exact ⟨rfl, hq h' tk' (hp.objs.size + 1) dx ⟨old, Nat.le_succ _, ⟨_, _, hx, rfl, rfl, rfl, rfl⟩, Nat.le_trans (Nat.le_trans (Nat.le_succ _) (Nat.le_succ _)) z, dne, hns⟩⟩
end
end BadX
end PySem
namespace L2
open PySem PySem.Spec PyProof.Rows
theorem relO_bad {v : V} {v' : Value} (r : RelV v v') (f : Str) : RelO (List.lookup f [(("at" : Str), v)]) (if f = "at" then some v' else none) := by
  by_cases hw : f = "at"
  · subst hw
    rw [if_pos rfl]
    have q : List.lookup ("at" : Str) [(("at" : Str), v)] = some v := by simp [List.lookup]
    rw [q]
    exact r
  · rw [if_neg hw]
    have qw : (f == ("at" : Str)) = false := by simpa using hw
    have q2 : List.lookup f [(("at" : Str), v)] = none := by simp [List.lookup, qw]
    rw [q2]
    trivial
def SmallV (v : V) : Prop := v = .non ∨ ∃ i : Nat, v = .int (i : Int) ∧ i < 64
theorem SmallV.rel {v : V} {u : Value} (h : SmallV v) (r : RelV v u) : PySem.BadX.Small u := by
  rcases h with rfl | ⟨i, rfl, hi⟩
  · exact .inl r
  · obtain ⟨t, rfl⟩ := r
    exact .inr ⟨i, t, rfl, hi⟩
section
variable {X : Cx} {C fI : Addr} {cx qual t1 t2 : Str}
/-- C(e) -/
def tMkBad (C : Addr) (ta : TA) : St → Hp → XK → Prop := fun σ H Q => ta σ H fun vs H1 => ∃ v, vs = [v] ∧ SmallV v ∧ ∀ d, H1 d = none → Q (.ref C) (some d) (upd H1 d (.xd [(("at" : Str), v)]))
theorem pmk_bad {a : Expr} {ta : TA} {p pos : Pos} {k : Nat} (T : PySem.BadX.BadTxt X.prog X.K X.mg cx qual t1 t2 C fI) (hr : Room k X.A) (hk : 1 ≤ k) (ha : PA X [a] ta) (hg : Gl X cx := by rfl) (hdb : (cx == ("__debug__" : Str)) = false := by decide)
    (he : starEach (a :: []) X.env = (false, eval a X.env) :: starEach [] X.env := by rfl) (hpl : (backTo pos (starEach [] X.env)).any (·.1) = false := by rfl) :
    PMk X (.Call (.Name cx p) [a] [] pos) (tMkBad C ta) := by
  intro pins s σ H Q I h
  refine wpAny_Call_Name_kw (ld_glob I hg T.gC ?_ hdb)
  refine PySem.W.callWith_K (h₀ := X.base) I.ok.mod.kin T.kC (thn (ha.run pos pins s σ H _ I h) fun us s1 hh => ?_) he hpl
  obtain ⟨vs, H1, I1, r1, v, ev, hsm, q1⟩ := hh
  subst ev
  refine ⟨I1.kIn, ?_⟩
  cases r1 with
  | cons rv rn =>
    rename_i v' us'
    cases rn
    show wpAny _ _ (call (.ref C) [v']) _ _ _
    have hlim := I1.nolimit
    have hbk := I1.bk
    obtain ⟨hp, g, dr, tk, os⟩ := s1
    refine wpAny_call (PySem.BadX.bad_made T I1.ok.mod hbk hlim (by have := hr.dp; omega) (hsm.rel rv) fun h' tk' e d M => ?_)
    show MkP X pins σ Q (.ref e) ⟨h', g, dr, tk', os⟩
    obtain ⟨oe, fv, hoe, hc, hd, hdat, h1⟩ := M.obj
    have hns := M.ns
    obtain ⟨G', g1, g2⟩ := restrict h' fun b => decide (b ≠ e)
    have gk : ∀ b, b ≠ e → G'.get? b = h'.get? b := fun b hb => g1 b (decide_eq_true hb)
    have ge : G'.get? e = none := g2 e (by simp)
    have old : ∀ b o, hp.get? b = some o → G'.get? b = some o := fun b o q => (gk b (Nat.ne_of_lt (Nat.lt_of_lt_of_le (Heap.lt_size q) M.new))).trans (M.keep b o q)
    have ob : ObjOk X.prog X.w (upd H1 d (.xd [(("at" : Str), v)])) G' d (.xd [(("at" : Str), v)]) :=
      ⟨_, hns.at (fun o q => (gk d M.dne).trans q), fun f => relO_bad rv f⟩
    have J : Inv X pins σ (upd H1 d (.xd [(("at" : Str), v)])) ⟨G', g, dr, tk', os⟩ := I1.laid (t' := tk') old M.dbig ob
    refine ⟨e, oe, fv, ⟨G', g, dr, tk', os⟩, _, .ref C, some d, rfl, J, fun b o q => ?_, ge, hoe, ⟨hc, hd⟩, hdat, h1, ?_, rfl, I1.bare, raises_own T.exC T.tyC, q1 d (I1.hok.fresh M.dbig)⟩
    · by_cases hb : b = e
      · have q' : G'.get? b = some o := q
        rw [hb, ge] at q'; cases q'
      · exact (gk b hb).symm.trans q
    · rw [upd_ne (Ne.symm M.dne)]
      exact I1.hok.fresh M.new
/-- raise C(e) -/
def tRaiseBad (C : Addr) (W : WX) (ta : TA) : TS := fun _ σ H => tMkBad C ta σ H fun cls d H' => W cls d σ H'
theorem ps_raiseBad {a : Expr} {ta : TA} {W : WX} {p pos pos2 : Pos} {k : Nat} (hc : X.calm = true) (T : PySem.BadX.BadTxt X.prog X.K X.mg cx qual t1 t2 C fI) (hr : Room k X.A) (hk : 1 ≤ k) (tk : Takes X W) (ha : PA X [a] ta) (hg : Gl X cx := by rfl) (hdb : (cx == ("__debug__" : Str)) = false := by decide)
    (he : starEach (a :: []) X.env = (false, eval a X.env) :: starEach [] X.env := by rfl) (hpl : (backTo pos (starEach [] X.env)).any (·.1) = false := by rfl) :
    PS X (.Raise (some (.Call (.Name cx p) [a] [] pos)) none pos2) (tRaiseBad C W ta) := ps_raise hc tk (pmk_bad T hr hk ha hg hdb he hpl)
end
end L2

namespace L2
open PySem PySem.Spec PyProof.Rows
/-! ### a caught exception that stays: tracked behind its suite -/
/-- at a: an exception of the class cls, its own dict d -/
def exH (a : Addr) (cls : Value) (d : Option Addr) : HO := .ext fun h => ∃ oe : Obj, h.get? a = some oe ∧ Zc cls d oe ∧ ∃ vs, oe.data = .fields vs
theorem exH_ok {P : Program} {w : World} {H : Hp} {h : Heap} {a : Addr} {cls : Value} {d : Option Addr} {oe : Obj} {vs : Array Value} (e : h.get? a = some oe) (z : Zc cls d oe) (hd : oe.data = .fields vs) : ObjOk P w H h a (exH a cls d) :=
  ⟨⟨oe, e, z, vs, hd⟩, ⟨_, e⟩, fun h1 h2 z k => by
    obtain ⟨o, q, z1, z2⟩ := z
    exact ⟨o, k _ q, z1, z2⟩⟩
theorem exH_at {P : Program} {w : World} {H : Hp} {h : Heap} {a : Addr} {cls : Value} {d : Option Addr} (hok : HOk P w H h) (he : H a = some (exH a cls d)) : ∃ oe : Obj, h.get? a = some oe ∧ Zc cls d oe ∧ ∃ vs, oe.data = .fields vs := by
  have x : ObjOk P w H h a (.ext fun h => ∃ oe : Obj, h.get? a = some oe ∧ Zc cls d oe ∧ ∃ vs, oe.data = .fields vs) := hok a _ he
  exact x.1
section
variable {X : Cx} {pins : List (Addr × Obj)} {σ : St} {H : Hp} {s : Shared}
theorem Inv.unsuiteP {a : Addr} {q : Addr × Obj} {pn' : List (Addr × Obj)} (I : Inv (X.suite a (q :: (X.pn ++ pins))) pn' σ H s) (ok : X.Ok) : Inv X (q :: pins) σ H s :=
  ⟨ok, I.os, I.bare, I.base, I.loc, I.cell, I.free, I.freeC, fun p hp => by
    refine I.pin p (List.mem_append_left _ ?_)
    rcases List.mem_append.mp hp with h | h
    · exact List.mem_cons_of_mem _ (List.mem_append_left _ h)
    · rcases List.mem_cons.mp h with e | h
      · rw [e]; exact List.mem_cons_self
      · exact List.mem_cons_of_mem _ (List.mem_append_right _ h), I.hok, I.len⟩
/-- a pinned exception, made behind the entry, is tracked -/
theorem Inv.track {a : Addr} {oe : Obj} {cls : Value} {d : Option Addr} {vs : Array Value} (I : Inv X ((a, oe) :: pins) σ H s) (hz : Zc cls d oe) (hd : oe.data = .fields vs) (hnew : X.s_0.heap.get? a = none) (hc : ∀ x c, X.env.cells.lookup x = some c → c ≠ a) (hp : ∀ p ∈ X.pn ++ pins, p.1 ≠ a) :
    Inv X pins σ (upd H a (exH a cls d)) s := by
  obtain ⟨ea, na, nL, nF, _⟩ := I.pin (a, oe) (List.mem_append_right _ List.mem_cons_self)
  have ea' : s.heap.get? a = some oe := ea
  have na' : H a = none := na
  have nL' : a ≠ X.env.locals := nL
  have nw : ∀ {b : Addr} {o : Obj}, X.s_0.heap.get? b = some o → b ≠ a := fun {b o} e z => by rw [z, hnew] at e; cases e
  refine ⟨I.ok, I.os, I.bare, ⟨I.base.keep, I.base.slot, fun b o e n hx => ?_, I.base.there, fun b xs e => ?_, fun b o v e => ?_, fun b ps e => ?_⟩, I.loc, I.cell, ?_, fun x c e => ?_, fun p hp' => ?_, fun b o e => ?_, I.len⟩
  · rw [upd_ne (nw e)]
    exact I.base.free b o e n hx
  · have q := I.base.tups b xs e
    rw [upd_ne (ne_of_none q na')]
    exact q
  · have q := I.base.frzs b o v e
    rw [upd_ne (ne_of_none q na')]
    exact q
  · obtain ⟨more, q⟩ := I.base.tbls b ps e
    exact ⟨more, by rw [upd_ne (ne_of_none q na')]; exact q⟩
  · rw [upd_ne nL'.symm]
    exact I.free
  · rw [upd_ne (hc x c e)]
    exact I.freeC x c e
  · obtain ⟨e1, e2, e3, e4, e5⟩ := I.pin p (by
      rcases List.mem_append.mp hp' with h | h
      · exact List.mem_append_left _ h
      · exact List.mem_append_right _ (List.mem_cons_of_mem _ h))
    exact ⟨e1, by rw [upd_ne (hp p hp')]; exact e2, e3, e4, e5⟩
  · by_cases hb : b = a
    · subst hb
      rw [upd_same] at e
      cases e
      exact exH_ok ea' hz hd
    · rw [upd_ne hb] at e
      exact (I.hok b o e).stay (fun _ _ _ q => q) (fun c q => by rw [upd_ne (ne_of_none q na')]; exact q) fun c xs q => by rw [upd_ne (ne_of_none q na')]; exact q
end
section
variable {X : Cx} {pins : List (Addr × Obj)} {σ : St} {H : Hp} {s : Shared}
theorem Inv.unpin {q : Addr × Obj} (I : Inv X (q :: pins) σ H s) : Inv X pins σ H s :=
  ⟨I.ok, I.os, I.bare, I.base, I.loc, I.cell, I.free, I.freeC, fun p hp => I.pin p (by
    rcases List.mem_append.mp hp with h | h
    · exact List.mem_append_left _ h
    · exact List.mem_append_right _ (List.mem_cons_of_mem _ h)), I.hok, I.len⟩
end
/-- what the clause 'except x as n' wishes; behind a suite that runs through the exception is tracked -/
def wAsT (K : PySem.W.Frag) (c : Value) (i : Nat) (ts : Addr → Value → Option Addr → TS) (Wout : WX) (D : Ends) : WX := fun cls d σ H =>
  ∃ b, PySem.W.exmOne K cls c = some b ∧ (b = true → ∀ a, H a = none → ts a cls d { nx := fun σ' H' => D.nx (σ'.set i none) (upd H' a (exH a cls d)), rt := D.rt, bk := fun σ' H' => D.bk (σ'.set i none) H', ct := fun σ' H' => D.ct (σ'.set i none) H' } (σ.set i (some (.ref a))) H) ∧
    (b = false → Wout cls d σ H)
section
variable {X : Cx} {x n : Str} {c : Value} {i : Nat} {body suite : List Stmt} {b₀ : Stmt} {np pos pos' : Pos} {tb : WX → TS} {ts : Addr → Value → Option Addr → TS} {Wout : WX}
theorem ps_try_asT (hexn : X.ex = []) (hs : X.stack = X.env :: X.outer) (hf : X.env.frame = some X.env.locals) (hN : X.N.Nodup) (hi : X.N[i]? = some n) (hln : X.env.kindOf n = some .local) (hc : Names X x c) (tk : Takes X Wout)
    (hb : ∀ (W : WX) (pn : List (Addr × Obj)) (xe : Value → Shared → Prop), Takes (X.tr pn xe) W → PassesOwn (model X.prog X.w) X.A X.env xe → PSs (X.tr pn xe) body (tb W))
    (hsu : ∀ (a : Addr) (oe : Obj) (cls : Value) (d : Option Addr) (pn : List (Addr × Obj)), Zc cls d oe → (∃ vs, oe.data = .fields vs) → PSs (X.suite a ((a, oe) :: pn)) (b₀ :: suite) (ts a cls d)) :
    PS X (.Try body [.ExceptHandler (some (.Name x np)) (some n) (b₀ :: suite) pos'] [] [] pos) (fun D σ H => tb (wAsT X.K c i ts Wout D) D σ H) := by
  refine ⟨fun pins s σ H D I h => ?_⟩
  have ok := I.ok
  have hfr : X.A.frames = some (X.env :: X.outer) := by rw [ok.frames, hs]
  have hloc : Loc X.env.scope n := .inl hln
  refine wpAny_Try_except ?_
  refine wpAny_mono ((hb (wAsT X.K c i ts Wout D) (X.pn ++ pins) (fun e s₁ => wpAny (model X.prog X.w) X.A (noteFrame e X.env) (fun _ s₂ => wpAny (model X.prog X.w) X.A (setFlight e none) (fun _ s₃ =>
    wpAny (model X.prog X.w) X.A (handleBy e X.env [.ExceptHandler (some (.Name x np)) (some n) (b₀ :: suite) pos']) (SP X pins D) X.xe s₃) X.xe s₂) X.xe s₁) (fun u s' xx => ?_) PassesOwn.looking).run [] s σ H D (I.toTry _) h) (fun f s1 hsp => ?_) (fun e s1 he => he)
  · -- the catch
    obtain ⟨a, B, sI, pins', σ', H', cls, d, rfl, J', nb, up, sky, na, os, ag, b, hb1, hyes, hno⟩ := xx
    have J : Inv X pins σ' H' sI := J'.ofTry ok
    have sky' : Sky B (X.env :: X.outer) a (Zc cls d) X.env.locals s'.heap := by rw [← hs]; exact sky
    show wpAny (model X.prog X.w) X.A (noteFrame (.ref a) X.env) _ _ _
    refine Sky.land Zc.steady hfr hf sky' fun h3 fl3 up3 => ?_
    have J3 : Inv X pins σ' H' { s' with heap := h3 } := J.landed nb fl3.1 (up.trans up3) os ag
    obtain ⟨oe3, vs3, he3, hz3, hd3⟩ := fl3.there
    have notFr : ∀ {h : Heap} {o : Obj} {vs : Array Value}, h.FunFrames B (X.env :: X.outer) → h.get? a = some o → o.data = .fields vs → a ∉ frs (X.env :: X.outer) := fun {h o vs} ff e dd hm => by
      obtain ⟨_, o', e', hnf⟩ := ff.mem hm
      rw [e] at e'; cases e'
      exact hnf _ dd
    have nfr := notFr fl3.2.2.1 he3 hd3
    have nL : a ≠ X.env.locals := fun z => nfr (List.mem_filterMap.mpr ⟨X.env, List.mem_cons_self, by rw [hf, z]⟩)
    have nF : a ∉ X.fs := fun hm => by
      obtain ⟨e, he, q⟩ := List.mem_filterMap.mp hm
      exact nfr (List.mem_filterMap.mpr ⟨e, List.mem_cons_of_mem _ he, q⟩)
    have S3 := J3.suite he3 hd3 na nL nF
    refine wpAny_handleBy_cons (codeAny_handlers_test ?_) (by intro q; cases q)
    have LT : PySem.W.Looks (model X.prog X.w) h3 (typeOf (.ref a)) cls := fun A Q E s k q => wpAny_typeOf_ref (k _ _ he3) (by rw [hz3.1]; exact q)
    have LM := PySem.W.exm_one (M := model X.prog X.w) (J3.kIn) LT hb1
    have test : ∀ {Q : Value → Shared → Prop} {E : Value → Shared → Prop}, Q c { s' with heap := h3 } → wpAny (model X.prog X.w) (X.A.mark (some (.ref a))) (eval (.Name x np) X.env) Q E { s' with heap := h3 } := fun {Q E} q => by
      obtain ⟨hg, hdbg, hm | ⟨hm, hv, hnn⟩⟩ := hc
      · exact ld_glob (X := X.suite a ((a, oe3) :: (X.pn ++ pins))) S3 hg hm q hdbg
      · exact ld_blt (X := X.suite a ((a, oe3) :: (X.pn ++ pins))) S3 hg hm hv q hnn hdbg
    refine test (LM.here ?_)
    cases b with
    | true =>
      refine codeAny_handlers_suite_as ?_
      refine HandSPX.lands_againZ fl3 fun h4 fl4 up4 => ?_
      have J4 : Inv X pins σ' H' { s' with heap := h4 } := J.landed nb fl4.1 ((up.trans up3).trans up4) os ag
      obtain ⟨oe4, vs4, he4, hz4, hd4⟩ := fl4.there
      have S4 := J4.suite he4 hd4 na nL nF
      refine store_ok (X := X.suite a ((a, oe4) :: (X.pn ++ pins))) (v := .ref a) S4 hN hi hloc rfl (fun s5 S5 => ?_) (.inr hln)
      refine wpAny_mono ((hsu a oe4 cls d (X.pn ++ pins) hz4 ⟨_, hd4⟩).run [] s5 _ H' _ S5 (hyes rfl a na)) (fun f s6 hsp => ?_) (fun _ _ z => False.elim z)
      have hn0 : X.s_0.heap.get? a = none := by
        cases e0 : X.s_0.heap.get? a with
        | none => rfl
        | some o0 =>
          obtain ⟨o1, e1⟩ := J.base.there a o0 e0 (fun hx => by rw [hexn] at hx; cases hx)
          have z := nb a o1 e1 (by rw [hs]; exact nfr)
          rw [fl3.2.1] at z
          cases z
      have hpn : ∀ p ∈ X.pn ++ pins, p.1 ≠ a := fun p hp z => by
        obtain ⟨e1, _, n1, n2, _⟩ := J.pin p hp
        have z2 := nb p.1 p.2 e1 (by rw [z, hs]; exact nfr)
        rw [z, fl3.2.1] at z2
        cases z2
      have end_ : ∀ {σ6 : St} {H6 : Hp} {Q : Shared → Prop}, Inv (X.suite a ((a, oe4) :: (X.pn ++ pins))) [] σ6 H6 s6 → (∀ s7, Inv X ((a, oe4) :: pins) (σ6.set i none) H6 s7 → Q s7) →
          wpAny (model X.prog X.w) X.A (do bindName X.env n .none; unbindBehindTheSuite X.env n pos') (fun _ s7 => Q s7) X.xe s6 := fun {σ6 H6 Q} S6 hq => gone_ok (S6.unsuiteP ok) hN hi hln hq
      cases f with
      | next =>
        obtain ⟨σ6, H6, S6, q6⟩ := hsp
        refine end_ S6 fun s7 J7 => ⟨_, _, J7.track hz4 hd4 hn0 (fun y cc ey z => ?_) hpn, q6⟩
        obtain ⟨w', oc, q1, q2⟩ := J7.cell y cc ey
        obtain ⟨e7, _⟩ := J7.pin (a, oe4) (List.mem_append_right _ List.mem_cons_self)
        have e7' : s7.heap.get? a = some oe4 := e7
        rw [z, e7'] at q1
        cases q1
        rw [hd4] at q2
        cases q2
      | brk =>
        obtain ⟨σ6, H6, S6, q6⟩ := hsp
        exact end_ S6 fun s7 J7 => ⟨_, _, J7.unpin, q6⟩
      | cont =>
        obtain ⟨σ6, H6, S6, q6⟩ := hsp
        exact end_ S6 fun s7 J7 => ⟨_, _, J7.unpin, q6⟩
      | ret u =>
        obtain ⟨v6, σ6, H6, S6, r6, q6⟩ := hsp
        exact end_ S6 fun s7 J7 => ⟨_, _, _, J7.unpin, r6, q6⟩
    | false =>
      show wpAny _ X.A (handleBy (.ref a) X.env []) _ _ _
      refine wpAny_handleBy_nil ?_
      obtain ⟨k1, k2, k3, oe, vs, T, oT, ts', he, hz, hd, h1, hr⟩ := id fl3
      unfold PySem.passOn
      refine wpAny_bind (wpAny_field he hd h1 ?_)
      rw [if_neg (show ¬ ((Value.ref T == Value.none) = true) from by simp)]
      have fin : wpAny (model X.prog X.w) X.A (setFlight (.ref a) X.env.frame) (fun _ s4 => wpAny (model X.prog X.w) X.A (throw (.ref a) : Sem Flow) (SP X pins D) X.xe s4) X.xe { s' with heap := h3 } := by
        rw [hf]
        refine HandSPX.setFlight_upZ fl3 fun h4 hh4 up4 => wpAny_throw (tk _ _ ?_)
        exact ⟨a, B, sI, pins, σ', H', cls, d, rfl, J, nb, (up.trans up3).trans up4, .inr (.inr (by rw [hs]; exact hh4)), na, os, ag, hno rfl⟩
      first
        | exact wpAny_bind (wpAny_pure (wpAny_bind fin))
        | exact wpAny_bind fin
  · cases f with
    | next =>
      obtain ⟨σ', H', J', q⟩ := hsp
      exact wpAny_execs_nil ⟨σ', H', J'.ofTry ok, q⟩
    | brk =>
      obtain ⟨σ', H', J', q⟩ := hsp
      exact ⟨σ', H', J'.ofTry ok, q⟩
    | cont =>
      obtain ⟨σ', H', J', q⟩ := hsp
      exact ⟨σ', H', J'.ofTry ok, q⟩
    | ret u =>
      obtain ⟨v, σ', H', J', r, q⟩ := hsp
      exact ⟨v, σ', H', J'.ofTry ok, r, q⟩
end
end L2

namespace PySem.BadX
open PySem PySem.Spec PySem.Calls PyProof.Rows PySem.W
section
variable {prog : Program} {w : World} {A : Around} {E : Value → Shared → Prop} {s : Shared} {K : Frag} {x D : Addr} {ox : Obj} {od : Option Obj}
/-- the class of an exception's object, asked as an attribute: whatever its own dict holds -/
theorem class_found (hd : hasDictIn K D = true) (ha : findIn K (.ref D) "__class__" = some (some (.builtin "object.__class__")))
    (hn : specialIn K (.builtin "object.__class__") "__get__" = some (some (.builtin "getset_descriptor.__get__"))) (ht : takesIn K (.builtin "object.__class__") = some true) :
    findObj K D od "__class__" = some (.bind (.builtin "getset_descriptor.__get__") (.builtin "object.__class__")) := by
  obtain ⟨cd, hc, _⟩ := any_some hd
  simp [findObj, hc, ha, hn, ht]
theorem class_asked {Q : Option Value → Shared → Prop} (C : L2.ExcC K D) (X : K.In s.heap) (I : InstAt s.heap x ox D od) (h : Q (some (.ref D)) { s with toks := s.toks + 1 }) : wpAny (model prog w) A (getAttr? (.ref x) "__class__") Q E s := by
  obtain ⟨hga, hgt, hsub, hdct, ha, hn, htk, hm⟩ := C
  obtain ⟨hp, g, dr, t, os⟩ := s
  have LT := I.type (M := model prog w)
  have LG := looks_findIn (M := model prog w) X hga
  have LH := looks_findIn (M := model prog w) X hgt
  have LF := looks_find (M := model prog w) X I (class_found (od := od) hdct ha hn htk)
  have LS : Looks (model prog w) hp (isInstance (.ref x) (.type "BaseException")) true := LT.andThen (looks_subIn X hsub)
  have no1 : (onTheHeap (Value.ref D) && Value.builtin "BaseException.__getattribute__" == Value.builtin "object.__getattribute__") = false := by
    rw [show (Value.builtin "BaseException.__getattribute__" == Value.builtin "object.__getattribute__") = false by decide +kernel]; rfl
  unfold getAttr? getAttrBy? getAttrBy
  refine wpAny_bind (wpAny_mkText (wpAny_bind (wpAny_attempt (wpAny_holding (wpAny_bind (LT.at (wpAny_bind (LG.at ?_))))))))
  refine (show wpAny _ _ (if (onTheHeap (Value.ref D) && Value.builtin "BaseException.__getattribute__" == Value.builtin "object.__getattribute__") = true then _ else _) _ _ _ from ?_)
  rw [no1, if_neg Bool.false_ne_true]
  unfold getAttrByItsOwn hookBefore
  refine wpAny_bind ?_
  rw [if_pos (show onTheHeap (Value.ref D) = true from rfl)]
  refine LH.at (wpAny_bind (wpAny_attempt (wpAny_holding ?_)))
  unfold callGetattribute
  rw [show (false && onTheHeap (Value.builtin "BaseException.__getattribute__")) = false from rfl, if_neg Bool.false_ne_true]
  unfold boundAndCalled
  rw [PySem.F.excAttr_ValueError.ga.bind (.ref x)]
  refine wpAny_bind (wpAny_pure ?_)
  refine (show wpAny _ _ (call (.builtin "BaseException.__getattribute__") [.ref x, .str "__class__" t]) _ _ _ from ?_)
  refine wpAny_call (codeAny_call_builtin PySem.F.excAttr_ValueError.ga.plain PySem.F.entry_bexc_ga (@check_slot (model prog w) _ _ ⟨hp, g, dr, t + 1, os⟩ "BaseException.__getattribute__" "BaseException" "__getattribute__" (.ref x) [.str "__class__" t] [] _ (by decide +kernel) (by decide +kernel) LS (PySem.F.args_bexc_ga (.ref x) (.str "__class__" t)) ?_))
  unfold Builtin.«object.__getattribute__»
  refine wpAny_bind (wpAny_of_eq (a := ((Value.ref x : Value), [Value.str "__class__" t])) (by first | rfl | (simp only [slotArgs]; rfl)) (wpAny_bind (wpAny_pure (wpAny_bind (LT.at (wpAny_bind (LF.at ?_)))))))
  refine (show wpAny _ _ (holding [Value.builtin "object.__class__"] (call (.builtin "getset_descriptor.__get__") [.builtin "object.__class__", .ref x, .ref D]) >>= ret) _ _ _ from ?_)
  refine wpAny_bind (wpAny_holding (wpAny_call (class_get (s := ⟨hp, g, dr, t + 1, os⟩) (ox := ox) (od := od) X I hm (wpAny_pure ?_))))
  refine (show wpAny _ _ (handedOut (.ref D)) _ _ _ from ?_)
  rw [handedOut_of (v := .ref D) rfl]
  first
    | exact wpAny_pure (wpAny_pure h)
    | exact wpAny_pure h
    | exact wpAny_pure (wpAny_bind (wpAny_pure (wpAny_pure h)))
theorem cls_obj (hd : hasDictIn K D = true) : ∃ c d cd sl, K.lookup D = some ⟨c, d, .cls cd, sl⟩ := by
  obtain ⟨cdD, hcD, _⟩ := any_some hd
  unfold clsIn at hcD
  split at hcD
  · rename_i c d cd sl ho
    exact ⟨c, d, cd, sl, ho⟩
  · cases hcD
theorem kitx_bad (C : L2.ExcC K D) : KitX K (.ref x) (.ref D) (fun h => InstAt h x ox D od) where
  ty := fun _ _ _ I => I.type
  it := fun _ _ X _ => by
    obtain ⟨c, d, cd, sl, ho⟩ := cls_obj C.hd
    intro A' Q' E' s' k q
    unfold isType loadHead
    exact wpAny_bind (wpAny_loadPart (k _ _ (X _ _ ho)) (wpAny_pure q))
  ne := fun h tp dd its n sl X htp => by
    obtain ⟨c, d, cd, sl, ho⟩ := cls_obj C.hd
    refine Bool.eq_false_iff.mpr fun q => ?_
    have e : D = tp := Value.ref.inj (beq_iff_eq.mp q)
    subst e
    have z := (X _ _ ho).symm.trans htp
    cases z
  ca := fun X I k => class_asked C X I k
end
end PySem.BadX
namespace L2
open PySem PySem.Spec PyProof.Rows
/-- a tracked exception's own dict, if it has one -/
def DictOk (H : Hp) : Option Addr → Prop
  | none => True
  | some dd => ∃ fs, H dd = some (.xd fs)
theorem inst_bad {X : Cx} {pins : List (Addr × Obj)} {σ : St} {H : Hp} {s : Shared} {a D : Addr} {d : Option Addr} (I : Inv X pins σ H s) (e : H a = some (exH a (.ref D) d)) (hd : DictOk H d) : ∃ ox od, PySem.W.InstAt s.heap a ox D od := by
  obtain ⟨oe, h1, h2, vs, h3⟩ := exH_at I.hok e
  obtain ⟨oc, odd, oda, osl⟩ := oe
  obtain ⟨z1, z2⟩ := h2
  dsimp only at z1 z2 h3
  subst z1 z2 h3
  cases odd with
  | none => exact ⟨_, none, h1, rfl, rfl, trivial⟩
  | some dd =>
    obtain ⟨fs, hf⟩ := hd
    have hx : ObjOk X.prog X.w H s.heap dd (.xd fs) := I.hok dd _ hf
    obtain ⟨mA, hns, hr⟩ := hx
    obtain ⟨od, ho, hl⟩ := lookIn_ns hns
    exact ⟨_, some od, h1, rfl, rfl, ho⟩
/-- isinstance(e, c), e a tracked exception -/
def rIsX (K : PySem.W.Frag) : List V → Hp → VK → Prop := fun xs H Q => ∃ (a D : Addr) (d : Option Addr) (c : V) (cv : Value) (b : Bool), xs = [.ref a, c] ∧ ExcC K D ∧ H a = some (exH a (.ref D) d) ∧ DictOk H d ∧ ClsV c cv ∧ PySem.W.kitOne K (.ref D) cv = some b ∧ Q (.bl b) H
/-- isinstance(x, c), x a plain value or a tracked exception -/
def rIsXV (K : PySem.W.Frag) : List V → Hp → VK → Prop := fun xs H Q => rIsX K xs H Q ∨ rIsi K xs H Q
section
variable {X : Cx}
theorem call_isX : CallR X (.builtin "isinstance") (rIsX X.K) := by
  intro pins s σ H xs us Q I r h
  obtain ⟨a, D, d, c, cv, b, rfl, C, ea, hd, k, e, q⟩ := h
  obtain ⟨u1, u2, rfl, r1, r2⟩ := vals2 r
  cases r1
  have ec := k.eq r2
  subst ec
  obtain ⟨ox, od, J⟩ := inst_bad I ea hd
  exact PySem.W.kia_one (PySem.BadX.kitx_bad C) I.kIn J e (fun z => nomatch z) fun tk => ⟨.bl b, H, I.kept (t' := tk) fun _ _ z => z, rfl, q⟩
theorem call_isXV : CallR X (.builtin "isinstance") (rIsXV X.K) := by
  intro pins s σ H xs us Q I r h
  rcases h with h | h
  · exact call_isX pins s σ H xs us Q I r h
  · exact call_isi pins s σ H xs us Q I r h
/-- e.f, e a tracked exception -/
def tXa (K : PySem.W.Frag) (f : Str) (te : TE) : TE := fun σ H Q => te σ H fun x H1 => ∃ (a D dd : Addr) (fs : List (Str × V)) (v : V), x = .ref a ∧ XfC K D ∧ PySem.W.findIn K (.ref D) f = some none ∧ H1 a = some (exH a (.ref D) (some dd)) ∧ H1 dd = some (.xd fs) ∧ fs.lookup f = some v ∧ Q v H1
theorem pe_xa {e : Expr} {te : TE} {pos : Pos} {n : Str} (he : PE X e te) (hb : attributeBase e n X.env (eval e X.env) = eval e X.env := by rfl) : PE X (.Attribute e n pos) (tXa X.K n te) := by
  refine ⟨fun pins s σ H Q I h => ?_⟩
  refine attr_of hb (thn (he.run pins s σ H _ I h) fun u s1 hh => ?_)
  obtain ⟨x, H1, I1, rx, a, D, dd, fs, v, rfl, T, hno, ea, ed, l, q⟩ := hh
  obtain rfl : u = Value.ref a := rx
  obtain ⟨oe, h1, h2, vs, h3⟩ := exH_at I1.hok ea
  have hx : ObjOk X.prog X.w H1 s1.heap dd (.xd fs) := I1.hok dd _ ed
  obtain ⟨mA, hns, hr⟩ := hx
  obtain ⟨od, ho, hl⟩ := lookIn_ns hns
  obtain ⟨u, hu, ru⟩ := RelO.some_of (v := v) (o := mA n) (by rw [← l]; exact hr n)
  have J : PySem.W.InstAt s1.heap a oe D (some od) := ⟨h1, h2.1, by unfold PySem.W.notCls; rw [h3] <;> rfl, by rw [h2.2]; exact ho⟩
  exact HandSPX.exc_get I1.kIn J T.ga T.gg T.exC (PySem.W.findObj_own T.hdC hno rfl (by rw [hl, hu])) (handed_of ru) ⟨v, H1, I1.tok _, ru, q⟩
end
end L2

namespace G
open PySem PySem.Spec PyProof.Rows L2
abbrev s_is_places : Stmt := topS 12
theorem sc_is_places : FnScope ["value", "many", "item"] ["value", "many"] (defScope s_is_places) := ⟨rfl, rfl, rfl, by decide +kernel, rfl, by decide +kernel, by decide +kernel⟩
abbrev s_is_ways : Stmt := topS 13
theorem sc_is_ways : FnScope ["value", "many"] ["value", "many"] (defScope s_is_ways) := ⟨rfl, rfl, rfl, by decide +kernel, rfl, by decide +kernel, by decide +kernel⟩
abbrev s_is_row : Stmt := topS 14
theorem sc_is_row : FnScope ["value", "many", "player", "number", "ways"] ["value", "many"] (defScope s_is_row) := ⟨rfl, rfl, rfl, by decide +kernel, rfl, by decide +kernel, by decide +kernel⟩
abbrev s_check_game : Stmt := topS 15
theorem sc_check_game : FnScope ["game", "place", "row"] ["game"] (defScope s_check_game) := ⟨rfl, rfl, rfl, by decide +kernel, rfl, by decide +kernel, by decide +kernel⟩
/-! ### helpers: comprehensions that keep all, enumerate -/
theorem lc_pure {K : PySem.W.Frag} {a : Addr} {xs : List V} {g : TG} {te : TE} {vs : List Nat} {σ : L2.St} {H1 : Hp} {D : Addr} {Qd : Hp → Prop} (ys : List V) (hl : ys.length = xs.length) (hS : SqL K H1 a xs) (nD : H1 D = none) (hz : xs.length ≤ 1000)
    (hs : ∀ (i : Nat) (x y : V) (H : Hp) (Q : VK), xs[i]? = some x → ys[i]? = some y → Same H1 H → (∀ H', Same H H' → Q y H') → g x (wipe σ vs) H fun σ2 H2 => wipe σ2 vs = wipe σ vs ∧ te σ2 H2 Q)
    (hd : ∀ H, Same H1 H → H D = some (.lst ys) → Qd H) :
    ∃ W : Nat → Nat → Hp → Prop, (∃ m, W 0 m (upd H1 D (.lst []))) ∧ ∀ i m H, W i m H →
      ((Itl K a).stop i H ∧ Qd H) ∨ ((Itl K a).go i H ∧ ∃ Nx : Hp → Prop, (∀ H', Nx H' → ∃ m', m' < m ∧ W (i + 1) m' H') ∧ ∀ x H', (Itl K a).yld i H x H' → g x (wipe σ vs) H' fun σ2 H2 => wipe σ2 vs = wipe σ vs ∧ tYes σ2 H2 fun b H3 =>
        if b = true then te σ2 H3 fun y H4 => ∃ acc, H4 D = some (.lst acc) ∧ acc.length < sizeLine ∧ Nx (upd H4 D (.lst (acc ++ [y]))) else Nx H3) := by
  refine lc_list (K := K) (a := a) (xs := xs) (fun i H => Same H1 H ∧ H D = some (.lst (ys.take i))) ⟨same_upd nD, by rw [upd_same]; rfl⟩ (fun i H _ p => p.1.seq hS) (fun i x H hi p => ?_) (fun H p => hd H p.1 ?_)
  · have hlt : i < ys.length := by rw [hl]; exact (List.getElem?_eq_some_iff.mp hi).1
    refine hs i x ys[i] H _ hi (List.getElem?_eq_getElem hlt) p.1 (fun H' s => ⟨_, s _ _ p.2, ?_, fun b o e => ?_, ?_⟩)
    · rw [List.length_take]
      exact small1000 (Nat.le_trans (Nat.min_le_right _ _) (by omega))
    · rw [upd_ne (ne_of_none e nD)]
      exact s _ _ (p.1 _ _ e)
    · rw [upd_same, List.take_add_one, List.getElem?_eq_getElem hlt]
      rfl
  · have q := p.2
    rw [← hl, List.take_length] at q
    exact q
theorem for_enum {K : PySem.W.Frag} {a : Addr} {xs : List V} {g : TG} {tb : TS} {D : Ends} {σ : L2.St} {H : Hp} (Pv : Nat → L2.St → Hp → Prop) (h0 : Pv 0 σ H) (hl : ∀ i σ H, i ≤ xs.length → Pv i σ H → SqL K H a xs)
    (hs : ∀ i x T σ H, xs[i]? = some x → Pv i σ H → H T = none → g (.ref T) σ (upd H T (.tup [.int (i : Nat), x])) fun σ2 H2 => tb { D with nx := Pv (i + 1), ct := Pv (i + 1), bk := D.nx } σ2 H2) (hd : ∀ σ H, Pv xs.length σ H → D.nx σ H) :
    ∃ W : Nat → Nat → L2.St → Hp → Prop, (∃ m, W 0 m σ H) ∧ ∀ i m σ H, W i m σ H →
      ((Ite K a).stop i H ∧ D.nx σ H) ∨ ((Ite K a).go i H ∧ ∃ N : L2.St → Hp → Prop, (∀ σ' H', N σ' H' → ∃ m', m' < m ∧ W (i + 1) m' σ' H') ∧ ∀ x H', (Ite K a).yld i H x H' → g x σ H' fun σ2 H2 => tb { D with nx := N, ct := N, bk := D.nx } σ2 H2) := by
  refine ⟨fun i m σ H => m = xs.length - i ∧ i ≤ xs.length ∧ Pv i σ H, ⟨xs.length, by simp, Nat.zero_le _, h0⟩, fun i m σ H h => ?_⟩
  obtain ⟨rfl, hi, p⟩ := h
  have q := hl i σ H hi p
  by_cases hlt : i < xs.length
  · refine .inr ⟨⟨xs, xs[i], q, by simp [hlt]⟩, Pv (i + 1), fun σ' H' p' => ⟨xs.length - (i + 1), by omega, rfl, hlt, p'⟩, fun v H' y => ?_⟩
    obtain ⟨T, x, rfl, nT, rfl, y⟩ := y
    exact hs i x T σ H (y xs q) p nT
  · obtain rfl : i = xs.length := by omega
    exact .inl ⟨⟨xs, q, Nat.le_refl _⟩, hd σ H p⟩
/-! ### len(set(xs)) of ints -/
def uniqN (ns : List Int) : Nat := (PyProof.Rows.firstMet (fun i => ns.getD i 0) ns.length).length
theorem uniq_le (f : Nat → Int) : ∀ n, (PyProof.Rows.firstMet f n).length = n → PyProof.Rows.firstMet f n = (List.range n).map f ∧ ((List.range n).map f).Nodup
  | 0, _ => ⟨rfl, List.nodup_nil⟩
  | n + 1, h => by
    have hle := PyProof.Rows.firstMet_length_le f n
    rw [PyProof.Rows.firstMet_succ] at h ⊢
    have hd : PyProof.Rows.step_dedup (PyProof.Rows.firstMet f n) (f n) = if (PyProof.Rows.firstMet f n).any (· == f n) then PyProof.Rows.firstMet f n else PyProof.Rows.firstMet f n ++ [f n] := rfl
    rw [hd] at h ⊢
    cases ha : (PyProof.Rows.firstMet f n).any (· == f n) with
    | true =>
      rw [ha, if_pos rfl] at h
      omega
    | false =>
      rw [ha, if_neg Bool.false_ne_true, List.length_append, List.length_singleton] at h
      obtain ⟨e1, e2⟩ := uniq_le f n (by omega)
      rw [if_neg Bool.false_ne_true, List.range_succ, List.map_append, e1]
      refine ⟨rfl, List.nodup_append.mpr ⟨e2, by simp, fun x hx y hy => ?_⟩⟩
      rw [e1] at ha
      have hy' : y = f n := by simpa using hy
      intro z
      have : (List.map f (List.range n)).any (· == f n) = true := List.any_eq_true.mpr ⟨x, hx, by rw [z, hy']; exact beq_self_eq_true _⟩
      rw [ha] at this
      cases this
theorem uniq_iff (ns : List Int) : uniqN ns = ns.length ↔ ns.Nodup := by
  have e : (List.range ns.length).map (fun i => ns.getD i 0) = ns := by
    apply List.ext_getElem?
    intro i
    by_cases h : i < ns.length
    · simp [h]
    · simp [h]
  constructor
  · intro h
    have q := (uniq_le (fun i => ns.getD i 0) ns.length h).2
    rw [e] at q
    exact q
  · intro h
    unfold uniqN
    rw [RZ.firstMet_nodup h ns.length (Nat.le_refl _), List.take_length]
def tLenSetU (K : PySem.W.Frag) (ta : TE) : TE := fun σ H Q => ta σ H fun x H1 => ∃ (l : Addr) (ns : List Int), x = .ref l ∧ SqL K H1 l (ns.map V.int) ∧ ns.length ≤ 4000 ∧ Q (.int (uniqN ns : Nat)) H1
theorem pe_lenset {X : Cx} {a : Expr} {ta : TE} {p p2 q pos : Pos} (hg : Gl X "len") (hm : X.mg "len" = none) (hg2 : Gl X "set") (hm2 : X.mg "set" = none) (ha : PE X a ta) (hc : X.calm = true := by rfl)
    (na : starEach [a] X.env = (false, eval a X.env) :: starEach [] X.env := by rfl) : PE X (.Call (.Name "len" p) [.Call (.Name "set" p2) [a] [] q] [] pos) (tLenSetU X.K ta) := by
  refine ⟨fun pins s σ H Q I h => Call_ (ld_blt I hg hm boot_len (PyProof.Rows.callWith_builtin1 (PyProof.Rows.args_cons (Call_ (ld_blt I hg2 hm2 boot_set (PyProof.Rows.callWith_type1 (PyProof.Rows.args_cons (thn (ha.run pins s σ H _ I h) fun v s1 hv => PyProof.Rows.args_nil ?_) na) na rfl))) rfl) rfl rfl))⟩
  obtain ⟨x, H1, I1, r1, l, ns, rfl, hq, hl, q1⟩ := hv
  cases r1
  obtain ⟨its, r, pl, hz⟩ := I1.list hq
  have hlen : its.toArray.size = ns.length := by rw [List.size_toArray, ← r.length, List.length_map]
  refine call_set_list (I1.ok.hd hc) pl.isList (by simpa using RZ.intsAre_vals r) (by rw [hlen]; unfold scanBound; omega) fun h' tk hS hk => PyProof.Rows.args_nil ?_
  rw [hlen] at hS
  obtain ⟨o, es, ep, t, ho, hex, hd, _, _, _, hf, hn⟩ := hS
  have I2 : Inv X pins σ H1 { s1 with heap := h', toks := tk } := I1.kept fun b o e => hk b o (Heap.lt_size e) e
  have hu : (PyProof.Rows.firstMet (fun i => ns.getD i 0) ns.length).length ≤ ns.length := PyProof.Rows.firstMet_length_le _ _
  exact call_len_set ho hex hd hf (by rw [hn]; omega) ⟨.int (uniqN ns : Nat), H1, I2.tok _, ⟨_, by rw [hn]; rfl⟩, q1⟩
end G

namespace G
open PySem PySem.Spec PyProof.Rows L2
def toI : PyData → Int | .int i => i | _ => 0
def isPlaces (d : PyData) (m : Int) : Bool := match d with
  | .list ds => ds.all (fun e => isPlace e m) && decide ((ds.map toI).Nodup)
  | _ => false
def isWays (d : PyData) (m : Int) : Bool := match d with
  | .list ds => !ds.isEmpty && isPlaces (.list ds) m
  | _ => false
theorem list_or (d : PyData) : (∃ ds, d = .list ds) ∨ (isTy d "list" = false ∧ ∀ m, isPlaces d m = false) := by
  cases d with
  | list ds => exact .inl ⟨ds, rfl⟩
  | _ => exact .inr ⟨by unfold isTy; dsimp only [tyName]; decide +kernel, fun _ => rfl⟩
theorem isTy_list (ds : List PyData) : isTy (.list ds) "list" = true := by unfold isTy; dsimp only [tyName]; decide +kernel
theorem isTy_tuple (ds : List PyData) : isTy (.tuple ds) "tuple" = true := by unfold isTy; dsimp only [tyName]; decide +kernel
theorem place_int {d : PyData} {m : Int} (h : isPlace d m = true) : ∃ i, d = .int i ∧ 0 ≤ i ∧ i < m := by
  cases d with
  | int i =>
    have h' : (decide (0 ≤ i) && decide (i < m)) = true := h
    rw [Bool.and_eq_true, decide_eq_true_eq, decide_eq_true_eq] at h'
    exact ⟨i, rfl, h'.1, h'.2⟩
  | _ => cases h
theorem dp_ints {K : PySem.W.Frag} {H : Hp} {m : Int} : ∀ {ds : List PyData} {xs : List V}, DpAll K H xs ds → ds.all (fun e => isPlace e m) = true → xs = (ds.map toI).map V.int
  | [], _, .nil, _ => rfl
  | d :: ds, _, .cons h hs, e => by
    rw [List.all_cons, Bool.and_eq_true] at e
    obtain ⟨i, rfl, _⟩ := place_int e.1
    cases h
    rw [dp_ints hs e.2]
    rfl
theorem DpAll.getD {K : PySem.W.Frag} {H : Hp} {vs : List V} {ds : List PyData} {i : Nat} {v : V} {d : PyData} (h : DpAll K H vs ds) (e : vs[i]? = some v) (e2 : ds[i]? = some d) : Dp K H v d := by
  obtain ⟨d', q, r⟩ := DpAll.get h e
  rw [e2] at q
  cases q
  exact r
section
variable {P : Program} {w : World} {K : PySem.W.Frag} {mg : Str → Option Value} {base : Heap}
def spIsPlaces (K : PySem.W.Frag) : Sp := fun vs H Q _ => ∃ (v : V) (d : PyData) (m : Int), vs = [v, .int m] ∧ Dx K H v d ∧ (∀ ds, d = .list ds → ds.length ≤ 1000) ∧ ∀ H', Same H H' → Q (.bl (isPlaces d m)) H'
theorem ok_is_places {f : Addr} {fd : FuncData} (B : Bt mg) (F : Fun K "is_places" "is_places" s_is_places f fd) (C_is_place : Cal P w K mg base 2 "is_place" (spIsPlace K)) : FnOk P w K mg base (L2.CX P w) 3 f fd ["value", "many"] (spIsPlaces K) := by
  refine F.okX sc_is_places (fun vs H Q E h => ?_) (fun cdv A outer s H vs Q E hr h => ?_)
  · obtain ⟨v, d, m, rfl, _⟩ := h
    rfl
  · obtain ⟨v, d, m, rfl, hd, hz, q⟩ := h
    refine ⟨_, (pss_cons (ps_if (pt_not (pt_val (pe_callB call_isi (by rfl) B.isinstance_ (by decide +kernel) (pa_cons (pv 0) (pa_cons (pe_bltn (v := .ty "list") (u := .type "list") (by rfl) B.list_ (by decide +kernel) rfl) pa_nil))))) (pss_one (ps_ret pe_bl)) pss_nil)
      (pss_cons (ps_if (pt_not (pt_val (pe_callB (cr_all rfl) (by rfl) B.all_ (by decide +kernel) (pa_cons (pe_lc (own := [("item", 2)]) (by rfl) sc_is_places.nd (pi_list (pv 0)) (blkOk_by (own := [("item", 2)]) (N := ["value", "many", "item"]) (sc := defScope s_is_places) (by decide +kernel)) (fun _ _ _ _ _ => (pg_name (i := 2) sc_is_places.nd rfl (Or.inl rfl))) (fun _ _ _ _ _ => pts_nil) (fun _ _ _ _ _ => (pe_cal C_is_place hr (by decide) (by rfl) (pa_cons (pv 2) (pa_cons (pv 1) pa_nil))))) pa_nil)))) (pss_one (ps_ret pe_bl)) pss_nil)
      (pss_one (ps_ret (pe_cmpR op_eq (pe_lenset (by rfl) B.len_ (by rfl) B.set_ (pv 0)) (pe_callB call_len_seq (by rfl) B.len_ (by decide +kernel) (pa_cons (pv 0) pa_nil)) (nomark _)))))), ?_⟩
    refine ⟨_, rfl, _, _, _, _, _, rfl, .ty _, hd.ty, kit_ty (kit_list d), _, rfl, ?_⟩
    rcases list_or d with ⟨ds, rfl⟩ | ⟨e1, e2⟩
    · rw [isTy_list]
      obtain ⟨a, xs, rfl, hS, hA⟩ : ∃ a xs, v = .ref a ∧ SqL K H a xs ∧ DpAll K H xs ds := by
        cases hd with
        | of hd =>
          cases hd with
          | lst h1 h2 => exact ⟨_, _, rfl, h1, h2⟩
      have hlen := DpAll.len hA
      have hz' := hz ds rfl
      refine iteF ⟨_, rfl, a, rfl, ⟨_, hS⟩, fun D nD => lc_pure (ds.map fun e => V.bl (isPlace e m)) (by rw [List.length_map, hlen]) hS nD (by omega) (fun i x y H' Q' hx hy sm hQ => ?_) (fun H' sm hD => ?_)⟩
      · rw [List.getElem?_map] at hy
        obtain ⟨e', he, rfl⟩ := Option.map_eq_some_iff.mp hy
        refine ⟨rfl, _, rfl, _, rfl, _, _, _, rfl, .of (dp_mono sm _ _ (DpAll.getD hA hx he)), hQ _ (Same.refl _)⟩
      · refine ⟨D, ds.map (fun e => isPlace e m), rfl, .inl (.inl (by rw [hD, List.map_map]; rfl)), _, rfl, ?_⟩
        have eall : (ds.map (fun e => isPlace e m)).all id = ds.all (fun e => isPlace e m) := by rw [List.all_map]; rfl
        rw [eall]
        cases ha : ds.all (fun e => isPlace e m) with
        | false =>
          refine iteT ?_
          have e2 : isPlaces (.list ds) m = false := by
            show (ds.all (fun e => isPlace e m) && _) = false
            rw [ha, Bool.false_and]
          rw [e2] at q
          exact q _ sm
        | true =>
          have ex := dp_ints hA ha
          subst ex
          refine iteF ⟨_, rfl, a, _, rfl, sm.seq hS, (by rw [List.length_map]; omega), _, rfl, a, _, rfl, .inl (sm.seq hS), rfl, ?_⟩
          have e2 : isPlaces (.list ds) m = decide (V.int (uniqN (ds.map toI) : Nat) = V.int ((((ds.map toI).map V.int).length : Nat) : Int)) := by
            show (ds.all (fun e => isPlace e m) && decide ((ds.map toI).Nodup)) = _
            rw [ha, Bool.true_and]
            have hu := uniq_iff (ds.map toI)
            refine decide_eq_decide.mpr (hu.symm.trans ⟨fun e => ?_, fun e => ?_⟩)
            · rw [e, List.length_map, List.length_map, List.length_map]
            · have e' := V.int.inj e
              rw [List.length_map] at e'
              omega
          rw [e2] at q
          exact q _ sm
    · rw [e1]
      refine iteT ?_
      have q' := q _ (Same.refl _)
      rw [show isPlaces d m = false from e2 m] at q'
      exact q'
def spIsWays (K : PySem.W.Frag) : Sp := fun vs H Q _ => ∃ (v : V) (d : PyData) (m : Int), vs = [v, .int m] ∧ Dx K H v d ∧ (∀ ds, d = .list ds → ds.length ≤ 1000) ∧ ∀ H', Same H H' → Q (.bl (isWays d m)) H'
theorem ok_is_ways {f : Addr} {fd : FuncData} (B : Bt mg) (F : Fun K "is_ways" "is_ways" s_is_ways f fd) (C_is_places : Cal P w K mg base 3 "is_places" (spIsPlaces K)) : FnOk P w K mg base (L2.CX P w) 4 f fd ["value", "many"] (spIsWays K) := by
  refine F.okX sc_is_ways (fun vs H Q E h => ?_) (fun cdv A outer s H vs Q E hr h => ?_)
  · obtain ⟨v, d, m, rfl, _⟩ := h
    rfl
  · obtain ⟨v, d, m, rfl, hd, hz, q⟩ := h
    refine ⟨_, (pss_one (ps_ret (pe_and (pe_cal C_is_places hr (by decide) (by rfl) (pa_cons (pv 0) (pa_cons (pv 1) pa_nil))) (pe_one (pe_cmpR op_gt (pe_callB call_len_seq (by rfl) B.len_ (by decide +kernel) (pa_cons (pv 0) pa_nil)) pe_int (nomark _)))))), ?_⟩
    refine ⟨_, rfl, _, rfl, _, _, _, rfl, hd, hz, fun H' sm => ⟨_, rfl, ?_⟩⟩
    cases hb : isPlaces d m with
    | false =>
      refine iteF ?_
      have e : isWays d m = false := by
        cases d with
        | list ds =>
          show (!ds.isEmpty && isPlaces (.list ds) m) = false
          rw [hb, Bool.and_false]
        | _ => rfl
      rw [e] at q
      exact q _ sm
    | true =>
      rcases list_or d with ⟨ds, rfl⟩ | ⟨_, e2⟩
      · obtain ⟨a, xs, rfl, hS, hA⟩ : ∃ a xs, v = .ref a ∧ SqL K H a xs ∧ DpAll K H xs ds := by
          cases hd with
          | of hd =>
            cases hd with
            | lst h1 h2 => exact ⟨_, _, rfl, h1, h2⟩
        have hlen := DpAll.len hA
        refine iteT ⟨_, rfl, _, _, rfl, .inl (sm.seq hS), _, _, rfl, rfl, ?_⟩
        have e : isWays (.list ds) m = decide ((xs.length : Int) > 0) := by
          show (!ds.isEmpty && isPlaces (.list ds) m) = _
          rw [hb, Bool.and_true, hlen]
          cases ds with
          | nil => rfl
          | cons x l =>
            rw [decide_eq_true (by show (0 : Int) < ((x :: l).length : Int); rw [List.length_cons]; omega)]
            rfl
        rw [e] at q
        exact q _ sm
      · rw [show isPlaces d m = false from e2 m] at hb
        cases hb
end
end G

namespace G
open PySem PySem.Spec PyProof.Rows L2
def isRow (d : PyData) (m : Int) : Bool := match d with
  | .tuple [p, n, ws] => (isNum n && decide (0 ≤ toI n)) && (isPlayer p && isWays ws m)
  | _ => false
theorem tuple_or (d : PyData) : (∃ ds, d = .tuple ds) ∨ (isTy d "tuple" = false ∧ ∀ m, isRow d m = false) := by
  cases d with
  | tuple ds => exact .inl ⟨ds, rfl⟩
  | _ => exact .inr ⟨by unfold isTy; dsimp only [tyName]; decide +kernel, fun _ => rfl⟩
def szRow (d : PyData) : Prop := ∀ p n ws, d = .tuple [p, n, .list ws] → ws.length ≤ 1000
/-- the first place whose datum is none -/
def fb (p : Nat → PyData → Bool) : List PyData → Nat → Option Nat
  | [], _ => none
  | d :: ds, k => if p k d = true then fb p ds (k + 1) else some k
theorem fb_some {p : Nat → PyData → Bool} : ∀ {ds : List PyData} {k i : Nat} {d : PyData}, (∀ j e, j < i → ds[j]? = some e → p (k + j) e = true) → ds[i]? = some d → p (k + i) d = false → fb p ds k = some (k + i)
  | [], _, _, _, _, e, _ => by cases e
  | d0 :: ds, k, 0, d, _, e, h => by
    cases e
    unfold fb
    rw [if_neg (by rw [show p k d0 = false from h]; exact Bool.false_ne_true)]
    rfl
  | d0 :: ds, k, i + 1, d, hj, e, h => by
    have h0 : p k d0 = true := hj 0 d0 (Nat.succ_pos _) rfl
    unfold fb
    rw [if_pos h0, fb_some (k := k + 1) (i := i) (d := d) (fun j e' hlt he => by
      have := hj (j + 1) e' (Nat.succ_lt_succ hlt) he
      rw [show k + 1 + j = k + (j + 1) by omega]
      exact this) e (by rw [show k + 1 + i = k + (i + 1) by omega]; exact h)]
    rw [show k + 1 + i = k + (i + 1) by omega]
theorem fb_none {p : Nat → PyData → Bool} : ∀ {ds : List PyData} {k : Nat}, (∀ j e, ds[j]? = some e → p (k + j) e = true) → fb p ds k = none
  | [], _, _ => rfl
  | d0 :: ds, k, h => by
    unfold fb
    rw [if_pos (show p k d0 = true from h 0 d0 rfl)]
    exact fb_none fun j e he => by
      rw [show k + 1 + j = k + (j + 1) by omega]
      exact h (j + 1) e he
theorem fb_all {p : Nat → PyData → Bool} : ∀ {ds : List PyData} {k : Nat}, fb p ds k = none → ∀ j e, ds[j]? = some e → p (k + j) e = true
  | [], _, _, _, _, he => by cases he
  | d0 :: ds, k, h, j, e, he => by
    unfold fb at h
    cases hp : p k d0 with
    | false =>
      rw [hp, if_neg Bool.false_ne_true] at h
      cases h
    | true =>
      rw [hp, if_pos rfl] at h
      cases j with
      | zero =>
        cases he
        exact hp
      | succ j =>
        have := fb_all h j e he
        rw [show k + (j + 1) = k + 1 + j by omega]
        exact this
def gameErr (d : PyData) : Option (Option Nat) := match d with
  | .list ds => if 40 < ds.length then some none else (fb (fun _ r => isRow r ds.length) ds 0).map some
  | _ => some none
def szGame (d : PyData) : Prop := ∀ ds, d = .list ds → ds.length ≤ 1000 ∧ ∀ r ∈ ds, szRow r
def atV : Option Nat → V
  | none => .non
  | some i => .int (i : Int)
theorem list_orG (d : PyData) : (∃ ds, d = .list ds) ∨ (isTy d "list" = false ∧ gameErr d = some none) := by
  cases d with
  | list ds => exact .inl ⟨ds, rfl⟩
  | _ => exact .inr ⟨by unfold isTy; dsimp only [tyName]; decide +kernel, rfl⟩
/-- an own exception class without an __init__ of its own -/
structure PlainX (K : PySem.W.Frag) (mg : Str → Option Value) (x : Str) (C : Addr) : Prop where
  gC : mg x = some (.ref C)
  xC : PySem.W.excIn K C [.type "ValueError", .type "Exception", .type "BaseException", .type "object"] "ValueError.__new__" = true
  kC : PySem.W.keepIn K (.ref C) = true
  exC : PySem.W.subIn K (.ref C) (.type "BaseException") = some true
  tyC : PySem.W.typeIn K (.ref C) = some (.type "type")
section
variable {P : Program} {w : World} {K : PySem.W.Frag} {mg : Str → Option Value} {base : Heap}
def spIsRow (K : PySem.W.Frag) : Sp := fun vs H Q _ => ∃ (v : V) (d : PyData) (m : Int), vs = [v, .int m] ∧ Dx K H v d ∧ szRow d ∧ ∀ H', Same H H' → Q (.bl (isRow d m)) H'
theorem ok_is_row {f : Addr} {fd : FuncData} (B : Bt mg) (F : Fun K "is_row" "is_row" s_is_row f fd) (C_is_number : Cal P w K mg base 1 "is_number" (spIsNumber K)) (C_is_player : Cal P w K mg base 2 "is_player" (spIsPlayer K)) (C_is_ways : Cal P w K mg base 4 "is_ways" (spIsWays K)) :
    FnOk P w K mg base (L2.CX P w) 5 f fd ["value", "many"] (spIsRow K) := by
  refine F.okX sc_is_row (fun vs H Q E h => ?_) (fun cdv A outer s H vs Q E hr h => ?_)
  · obtain ⟨v, d, m, rfl, _⟩ := h
    rfl
  · obtain ⟨v, d, m, rfl, hd, hz, q⟩ := h
    refine ⟨_, (pss_cons (ps_if (PW.pt (pw_or (pt_not (pt_val (pe_callB call_isi (by rfl) B.isinstance_ (by decide +kernel) (pa_cons (pv 0) (pa_cons (pe_bltn (v := .ty "tuple") (u := .type "tuple") (by rfl) B.tuple_ (by decide +kernel) rfl) pa_nil))))) (pw_or1 (pt_cmpR op_ne (pe_callB call_len_seq (by rfl) B.len_ (by decide +kernel) (pa_cons (pv 0) pa_nil)) pe_int (nomark _))))) (pss_one (ps_ret pe_bl)) pss_nil)
      (pss_cons (ps_asg (pv 0) (pg_tup (by rfl) (pgs_cons (pg_name (i := 2) sc_is_row.nd rfl (Or.inl rfl)) (pgs_cons (pg_name (i := 3) sc_is_row.nd rfl (Or.inl rfl)) (pgs_cons (pg_name (i := 4) sc_is_row.nd rfl (Or.inl rfl)) pgs_nil)))))
      (pss_cons (ps_if (PW.pt (pw_or (pt_not (pt_val (pe_cal C_is_number hr (by decide) (by rfl) (pa_cons (pv 3) pa_nil)))) (pw_or1 (pt_cmpR op_lt (pv 3) pe_int (nomark _))))) (pss_one (ps_ret pe_bl)) pss_nil)
      (pss_one (ps_ret (pe_and (pe_cal C_is_player hr (by decide) (by rfl) (pa_cons (pv 2) pa_nil)) (pe_one (pe_cal C_is_ways hr (by decide) (by rfl) (pa_cons (pv 4) (pa_cons (pv 1) pa_nil)))))))))), ?_⟩
    refine ⟨_, rfl, _, _, _, _, _, rfl, .ty _, hd.ty, kit_ty (kit_tuple d), _, rfl, ?_⟩
    rcases tuple_or d with ⟨ds, rfl⟩ | ⟨e1, e2⟩
    · rw [isTy_tuple]
      obtain ⟨a, xs, rfl, hS, hA⟩ : ∃ a xs, v = .ref a ∧ SqT K H a xs ∧ DpAll K H xs ds := by
        cases hd with
        | of hd =>
          cases hd with
          | tup h1 h2 => exact ⟨_, _, rfl, h1, h2⟩
      have hlen := DpAll.len hA
      refine iteF ⟨_, rfl, _, _, rfl, .inr hS, rfl, _, rfl, ite2 (fun e => ?_) (fun e => ?_)⟩
      · have e0 : ds.length ≠ 3 := fun z => by
          rw [Bool.not_eq_true', decide_eq_false_iff_not] at e
          exact e (by rw [hlen, z]; rfl)
        have e3 : isRow (.tuple ds) m = false := by
          match ds, e0 with
          | [], _ => rfl
          | [_], _ => rfl
          | [_, _], _ => rfl
          | [_, _, _], h => exact absurd rfl h
          | _ :: _ :: _ :: _ :: _, _ => rfl
        have q' := q _ (Same.refl _)
        rw [e3] at q'
        exact q'
      · have e0 : (xs.length : Int) = 3 := by
          rw [Bool.not_eq_true', decide_eq_false_iff_not, Classical.not_not] at e
          exact V.int.inj e
        obtain ⟨p, n, ws, rfl⟩ : ∃ p n ws, ds = [p, n, ws] := by
          match ds, (show ds.length = 3 by omega) with
          | [p, n, ws], _ => exact ⟨p, n, ws, rfl⟩
        cases hA with
        | cons hp hA =>
        cases hA with
        | cons hn hA =>
        cases hA with
        | cons hw hA =>
        cases hA
        rename_i x0 x1 x2
        refine ⟨_, rfl, a, _, rfl, hS, rfl, _, _, rfl, _, _, rfl, _, _, rfl, rfl, ?_⟩
        refine ⟨_, rfl, _, _, rfl, .of hn, _, rfl, ?_⟩
        cases en : isNum n with
        | false =>
          refine iteT (iteT ?_)
          have e3 : isRow (.tuple [p, n, ws]) m = false := by
            show ((isNum n && _) && _) = false
            rw [en, Bool.false_and, Bool.false_and]
          have q' := q _ (Same.refl _)
          rw [e3] at q'
          exact q'
        | true =>
          obtain ⟨i, rfl, rfl⟩ := num_int (.of hn) en
          refine iteF ⟨_, rfl, i, 0, rfl, rfl, _, rfl, ite2 (fun e => ?_) (fun e => ?_)⟩
          · have h0 : i < 0 := of_decide_eq_true e
            have e3 : isRow (.tuple [p, .int i, ws]) m = false := by
              show ((true && decide (0 ≤ i)) && _) = false
              rw [decide_eq_false (by omega), Bool.and_false, Bool.false_and]
            have q' := q _ (Same.refl _)
            rw [e3] at q'
            exact q'
          · have h0 : 0 ≤ i := by
              rcases Int.lt_or_le i 0 with h | h
              · exact absurd (decide_eq_true h) e
              · exact h
            refine ⟨_, rfl, _, _, rfl, .of hp, fun H' sm => ⟨_, rfl, ?_⟩⟩
            have e3 : isRow (.tuple [p, .int i, ws]) m = (isPlayer p && isWays ws m) := by
              show ((true && decide (0 ≤ i)) && _) = _
              rw [decide_eq_true h0, Bool.true_and, Bool.true_and]
            rw [e3] at q
            cases ep : isPlayer p with
            | false =>
              rw [ep, Bool.false_and] at q
              exact iteF (q _ sm)
            | true =>
              rw [ep, Bool.true_and] at q
              exact iteT ⟨_, rfl, _, rfl, _, _, _, rfl, .of (dp_mono sm _ _ hw), fun ds' e' => hz p (.int i) ds' (by rw [e']), fun H'' sm' => q _ (sm.trans sm')⟩
    · rw [e1]
      refine iteT (iteT ?_)
      have q' := q _ (Same.refl _)
      rw [e2] at q'
      exact q'
def spCheckGame (K : PySem.W.Frag) (BG : Addr) : Sp := fun vs H Q E => ∃ (v : V) (d : PyData), vs = [v] ∧ Dx K H v d ∧ szGame d ∧ (gameErr d = none → ∀ H', Same H H' → Q .non H') ∧
  ∀ e, gameErr d = some e → ∀ H' dd, Same H H' → H dd = none → H' dd = some (.xd [(("at" : Str), atV e)]) → E (.ref BG) (some dd) H'
theorem ok_check_game {f BG fG : Addr} {fd : FuncData} {tk : Tok} (B : Bt mg) (T : PySem.BadX.BadTxt P K mg "BadGame" "BadGame.__init__" "no game (at: " ")" BG fG) (M_MOST_PLACES : mg "MOST_PLACES" = some (.int 40 tk)) (F : Fun K "check_game" "check_game" s_check_game f fd) (C_is_row : Cal P w K mg base 5 "is_row" (spIsRow K)) :
    FnOk P w K mg base (L2.CX P w) 6 f fd ["game"] (spCheckGame K BG) := by
  refine F.okX sc_check_game (fun vs H Q E h => ?_) (fun cdv A outer s H vs Q E hr h => ?_)
  · obtain ⟨v, d, rfl, _⟩ := h
    rfl
  · obtain ⟨v, d, rfl, hd, hz, q, qe⟩ := h
    refine ⟨_, (pss_cons (ps_if (PW.pt (pw_or (pt_not (pt_val (pe_callB call_isi (by rfl) B.isinstance_ (by decide +kernel) (pa_cons (pv 0) (pa_cons (pe_bltn (v := .ty "list") (u := .type "list") (by rfl) B.list_ (by decide +kernel) rfl) pa_nil))))) (pw_or1 (pt_cmpR op_gt (pe_callB call_len_seq (by rfl) B.len_ (by decide +kernel) (pa_cons (pv 0) pa_nil)) (pe_glob (v := .int 40) (by rfl) M_MOST_PLACES ⟨_, rfl⟩) (nomark _))))) (pss_one (ps_raiseBad rfl T hr (by decide) (takes_of rfl rfl rfl rfl) (pa_cons pe_non pa_nil))) pss_nil)
      (pss_one (ps_for (passes_of rfl) rfl (pi_enum (by rfl) B.enumerate_ (pa_cons (pv 0) pa_nil)) (pg_tup (by rfl) (pgs_cons (pg_name (i := 1) sc_check_game.nd rfl (Or.inl rfl)) (pgs_cons (pg_name (i := 2) sc_check_game.nd rfl (Or.inl rfl)) pgs_nil))) (pss_one (ps_if (pt_not (pt_val (pe_cal C_is_row hr (by decide) (by rfl) (pa_cons (pv 2) (pa_cons (pe_callB call_len_seq (by rfl) B.len_ (by decide +kernel) (pa_cons (pv 0) pa_nil)) pa_nil))))) (pss_one (ps_raiseBad rfl T hr (by decide) (takes_of rfl rfl rfl rfl) (pa_cons (pv 1) pa_nil))) pss_nil))))), ?_⟩
    refine ⟨_, rfl, _, _, _, _, _, rfl, .ty _, hd.ty, kit_ty (kit_list d), _, rfl, ?_⟩
    rcases list_orG d with ⟨ds, rfl⟩ | ⟨e1, e2⟩
    · rw [isTy_list]
      obtain ⟨a, xs, rfl, hS, hA⟩ : ∃ a xs, v = .ref a ∧ SqL K H a xs ∧ DpAll K H xs ds := by
        cases hd with
        | of hd =>
          cases hd with
          | lst h1 h2 => exact ⟨_, _, rfl, h1, h2⟩
      have hlen := DpAll.len hA
      obtain ⟨hz1, hz2⟩ := hz ds rfl
      refine iteF ⟨_, rfl, _, _, rfl, .inl hS, _, _, rfl, rfl, _, rfl, ite2 (fun e => ?_) (fun e => ?_)⟩
      · have e0 : (40 : Int) < (xs.length : Int) := of_decide_eq_true e
        have e2 : gameErr (.list ds) = some none := if_pos (by omega)
        exact ⟨_, rfl, .inl rfl, fun dd nd => qe none e2 _ dd (same_upd nd) nd upd_same⟩
      · have e0 : ds.length ≤ 40 := by
          have := of_decide_eq_false (eq_false_of_ne_true e)
          omega
        have e2 : gameErr (.list ds) = (fb (fun _ r => isRow r ds.length) ds 0).map some := if_neg (by omega)
        refine ⟨_, rfl, a, _, rfl, hS, for_enum (K := K) (a := a) (xs := xs) (fun i σ H' => ∃ y1 y2, σ = [some (.ref a), y1, y2] ∧ Same H H' ∧ ∀ j r, j < i → ds[j]? = some r → isRow r ds.length = true)
          ⟨none, none, rfl, Same.refl _, fun j r hj => absurd hj (Nat.not_lt_zero _)⟩ (fun i σ H' _ ⟨_, _, _, sm, _⟩ => sm.seq hS) (fun i x T' σ H' hi ⟨y1, y2, es, sm, ok⟩ nT => ?_) (fun σ H' ⟨y1, y2, es, sm, ok⟩ => ?_)⟩
        · subst es
          obtain ⟨r, hr', hdr⟩ := DpAll.get hA hi
          have sm1 : Same H (upd H' T' (.tup [.int (i : Nat), x])) := sm.trans (same_upd nT)
          refine ⟨T', _, rfl, .inl (.inl upd_same), rfl, _, _, rfl, _, _, rfl, rfl, ?_⟩
          refine ⟨_, rfl, _, rfl, _, _, rfl, .inl (sm1.seq hS), _, _, _, rfl, .of (dp_mono sm1 _ _ hdr), hz2 r (List.mem_of_getElem? hr'), fun H2 sm2 => ⟨_, rfl, ?_⟩⟩
          rw [hlen]
          cases hrow : isRow r ds.length with
          | true =>
            refine iteF ⟨_, _, rfl, sm1.trans sm2, fun j r' hj hr2 => ?_⟩
            by_cases hji : j < i
            · exact ok j r' hji hr2
            · obtain rfl : j = i := by omega
              rw [hr'] at hr2
              cases hr2
              exact hrow
          | false =>
            have hlt : i < ds.length := (List.getElem?_eq_some_iff.mp hr').1
            have e3 : gameErr (.list ds) = some (some i) := by
              rw [e2, fb_some (k := 0) (i := i) (d := r) (fun j e' hj he => ok j e' hj he) hr' hrow, Nat.zero_add]
              rfl
            refine iteT ⟨_, rfl, _, rfl, .inr ⟨i, rfl, by omega⟩, fun dd nd => ?_⟩
            have sm3 := sm1.trans sm2
            exact qe (some i) e3 _ dd (sm3.trans (same_upd nd)) (Same.free sm3 nd) upd_same
        · subst es
          rw [hlen] at ok
          refine q ?_ _ sm
          rw [e2, fb_none (fun j e' he => ok j e' (List.getElem?_eq_some_iff.mp he).1 he)]
          rfl
    · rw [e1]
      exact iteT (iteT ⟨_, rfl, .inl rfl, fun dd nd => qe none e2 _ dd (same_upd nd) nd upd_same⟩)
end
end G

namespace G
open PySem PySem.Spec PyProof.Rows L2
/-! ### games as plain rows -/
structure Row where
  p : Int
  n : Int
  ws : List Int
  deriving DecidableEq
def rowD (r : Row) : PyData := .tuple [.int r.p, .int r.n, .list (r.ws.map .int)]
def gameD (g : List Row) : PyData := .list (g.map rowD)
def intsD (ns : List Int) : PyData := .list (ns.map .int)
def ValidR (r : Row) (m : Int) : Prop := (r.p = 0 ∨ r.p = 1) ∧ 0 ≤ r.n ∧ r.ws ≠ [] ∧ (∀ x ∈ r.ws, 0 ≤ x ∧ x < m) ∧ r.ws.Nodup
def ValidG (g : List Row) : Prop := g.length ≤ 40 ∧ ∀ r ∈ g, ValidR r (g.length : Int)
theorem ints_of_places {m : Int} : ∀ {ds : List PyData}, ds.all (fun e => isPlace e m) = true → ds = (ds.map toI).map .int
  | [], _ => rfl
  | d :: ds, e => by
    rw [List.all_cons, Bool.and_eq_true] at e
    obtain ⟨i, rfl, _⟩ := place_int e.1
    have ih := ints_of_places e.2
    show _ = PyData.int i :: (ds.map toI).map .int
    rw [← ih]
theorem all_ints {m : Int} (ns : List Int) : (ns.map PyData.int).all (fun e => isPlace e m) = true ↔ ∀ x ∈ ns, 0 ≤ x ∧ x < m := by
  rw [List.all_map, List.all_eq_true]
  refine ⟨fun h x hx => ?_, fun h x hx => ?_⟩
  · have := h x hx
    have h' : (decide (0 ≤ x) && decide (x < m)) = true := this
    rwa [Bool.and_eq_true, decide_eq_true_eq, decide_eq_true_eq] at h'
  · show (decide (0 ≤ x) && decide (x < m)) = true
    obtain ⟨h1, h2⟩ := h x hx
    rw [decide_eq_true h1, decide_eq_true h2]; rfl
theorem map_toI (ns : List Int) : (ns.map PyData.int).map toI = ns := by
  rw [List.map_map]
  exact List.map_id _
theorem isRow_row (r : Row) (m : Int) : isRow (rowD r) m = true ↔ ValidR r m := by
  show ((true && decide (0 ≤ r.n)) && ((decide (r.p = 0) || decide (r.p = 1)) && (!(r.ws.map PyData.int).isEmpty && ((r.ws.map PyData.int).all (fun e => isPlace e m) && decide (((r.ws.map PyData.int).map toI).Nodup))))) = true ↔ _
  rw [map_toI, Bool.true_and, Bool.and_eq_true, Bool.and_eq_true, Bool.or_eq_true, Bool.and_eq_true, Bool.and_eq_true, all_ints, decide_eq_true_eq, decide_eq_true_eq, decide_eq_true_eq, decide_eq_true_eq]
  have e1 : (!(r.ws.map PyData.int).isEmpty) = true ↔ r.ws ≠ [] := by
    cases r.ws <;> simp
  rw [e1]
  unfold ValidR
  constructor
  · rintro ⟨a, b, c, d, e⟩; exact ⟨b, a, c, d, e⟩
  · rintro ⟨a, b, c, d, e⟩; exact ⟨b, a, c, d, e⟩
theorem row_of {d : PyData} {m : Int} (h : isRow d m = true) : ∃ r, d = rowD r ∧ ValidR r m := by
  match d, h with
  | .tuple [p, n, ws], h =>
    have h0 := h
    have h' : ((isNum n && decide (0 ≤ toI n)) && (isPlayer p && isWays ws m)) = true := h
    rw [Bool.and_eq_true, Bool.and_eq_true, Bool.and_eq_true] at h'
    obtain ⟨⟨h1, _⟩, h3, h4⟩ := h'
    match n, h1 with
    | .int n, _ =>
      match p, h3 with
      | .int p, _ =>
        match ws, h4 with
        | .list ds, h4 =>
          have h5 : (!ds.isEmpty && (ds.all (fun e => isPlace e m) && decide ((ds.map toI).Nodup))) = true := h4
          rw [Bool.and_eq_true, Bool.and_eq_true] at h5
          have e : PyData.tuple [.int p, .int n, .list ds] = rowD ⟨p, n, ds.map toI⟩ := by
            unfold rowD
            rw [← ints_of_places h5.2.1]
          rw [e] at h0 ⊢
          exact ⟨_, rfl, (isRow_row _ _).mp h0⟩
theorem game_of {d : PyData} (h : gameErr d = none) : ∃ g, d = gameD g ∧ ValidG g := by
  match d, h with
  | .list ds, h =>
    have h' : (if 40 < ds.length then some none else (fb (fun _ r => isRow r ds.length) ds 0).map some) = none := h
    by_cases hl : 40 < ds.length
    · rw [if_pos hl] at h'
      cases h'
    · rw [if_neg hl] at h'
      have h2 : fb (fun _ r => isRow r ds.length) ds 0 = none := by
        cases e : fb (fun _ r => isRow r ds.length) ds 0 with
        | none => rfl
        | some x =>
          rw [e] at h'
          cases h'
      have h3 := fb_all h2
      have key : ∀ (es : List PyData), (∀ e ∈ es, isRow e (ds.length : Int) = true) → ∃ g : List Row, es = g.map rowD ∧ ∀ r ∈ g, ValidR r (ds.length : Int) := by
        intro es
        induction es with
        | nil => exact fun _ => ⟨[], rfl, fun r hr => by cases hr⟩
        | cons e es ih =>
          intro he
          obtain ⟨r, hr, vr⟩ := row_of (he e List.mem_cons_self)
          obtain ⟨g, hg, vg⟩ := ih fun e' he' => he e' (List.mem_cons_of_mem _ he')
          refine ⟨r :: g, by rw [hr, hg]; rfl, fun r' hr' => ?_⟩
          rcases List.mem_cons.mp hr' with z | z
          · rw [z]; exact vr
          · exact vg r' z
      obtain ⟨g, hg, vg⟩ := key ds fun e he => by
        obtain ⟨j, hj⟩ := List.mem_iff_getElem?.mp he
        exact h3 j e hj
      have hlen : ds.length = g.length := by rw [hg, List.length_map]
      refine ⟨g, by rw [hg]; rfl, by omega, fun r hr => by rw [← hlen]; exact vg r hr⟩
theorem gameErr_valid {g : List Row} (h : ValidG g) : gameErr (gameD g) = none := by
  show (if 40 < (g.map rowD).length then some none else (fb (fun _ r => isRow r ((g.map rowD).length : Int)) (g.map rowD) 0).map some) = none
  rw [List.length_map, if_neg (by have := h.1; omega), fb_none (fun j e he => ?_)]
  · rfl
  · rw [List.getElem?_map] at he
    obtain ⟨r, hr, rfl⟩ := Option.map_eq_some_iff.mp he
    exact (isRow_row _ _).mpr (h.2 r (List.mem_of_getElem? hr))
theorem szGame_game {g : List Row} (h : ValidG g) (hw : ∀ r ∈ g, r.ws.length ≤ 1000) : szGame (gameD g) := fun ds e => by
  have e' : g.map rowD = ds := PyData.list.inj e
  subst e'
  refine ⟨by rw [List.length_map]; have := h.1; omega, fun r hr p n ws er => ?_⟩
  obtain ⟨r0, hr0, rfl⟩ := List.mem_map.mp hr
  have e2 := PyData.tuple.inj er
  have e3 := PyData.list.inj (List.cons.inj (List.cons.inj (List.cons.inj e2).2).2).1
  rw [← e3, List.length_map]
  exact hw r0 hr0
theorem pigeon : ∀ (n : Nat) (l : List Int), l.Nodup → (∀ x ∈ l, 0 ≤ x ∧ x < (n : Int)) → l.length ≤ n
  | 0, [], _, _ => Nat.le_refl _
  | 0, x :: _, _, h => by
    have := h x List.mem_cons_self
    omega
  | n + 1, l, hN, h => by
    have hN' : (l.erase (n : Int)).Nodup := hN.erase _
    have h' : ∀ x ∈ l.erase (n : Int), 0 ≤ x ∧ x < (n : Int) := fun x hx => by
      obtain ⟨h1, h2⟩ := (hN.mem_erase_iff).mp hx
      have := h x h2
      exact ⟨this.1, by omega⟩
    have ih := pigeon n _ hN' h'
    have hl : l.length ≤ (l.erase (n : Int)).length + 1 := by
      rw [List.length_erase]
      split <;> omega
    omega
theorem ValidR.len {r : Row} {m : Nat} (h : ValidR r (m : Int)) : r.ws.length ≤ m := pigeon m r.ws h.2.2.2.2 h.2.2.2.1
theorem ValidG.sz {g : List Row} (h : ValidG g) : szGame (gameD g) := szGame_game h fun r hr => Nat.le_trans (h.2 r hr).len (by have := h.1; omega)
/-! ### reading a game -/
theorem dpa_ints {K : PySem.W.Frag} {H : Hp} : ∀ {ns : List Int} {xs : List V}, DpAll K H xs (ns.map .int) → xs = ns.map V.int
  | [], _, .nil => rfl
  | n :: ns, _, .cons h hs => by
    cases h
    rw [dpa_ints hs]
    rfl
theorem dpa_ints' {K : PySem.W.Frag} {H : Hp} : ∀ (ns : List Int), DpAll K H (ns.map V.int) (ns.map .int)
  | [] => .nil
  | n :: ns => .cons (.int n) (dpa_ints' ns)
theorem dp_intsD {K : PySem.W.Frag} {H : Hp} {v : V} {ns : List Int} (h : Dp K H v (intsD ns)) : ∃ a, v = .ref a ∧ SqL K H a (ns.map V.int) := by
  cases h with
  | lst h1 h2 =>
    have := dpa_ints h2
    subst this
    exact ⟨_, rfl, h1⟩
theorem dp_row {K : PySem.W.Frag} {H : Hp} {v : V} {r : Row} (h : Dp K H v (rowD r)) : ∃ t w, v = .ref t ∧ SqT K H t [.int r.p, .int r.n, .ref w] ∧ SqL K H w (r.ws.map V.int) := by
  cases h with
  | tup h1 h2 =>
    cases h2 with
    | cons a h2 =>
    cases h2 with
    | cons b h2 =>
    cases h2 with
    | cons c h2 =>
    cases h2
    cases a
    cases b
    obtain ⟨w, rfl, hw⟩ := dp_intsD c
    exact ⟨_, w, rfl, h1, hw⟩
theorem dp_game {K : PySem.W.Frag} {H : Hp} {v : V} {g : List Row} (h : Dp K H v (gameD g)) : ∃ a xs, v = .ref a ∧ SqL K H a xs ∧ xs.length = g.length ∧ ∀ (i : Nat) (r : Row), g[i]? = some r → ∃ t w, xs[i]? = some (.ref t) ∧ SqT K H t [.int r.p, .int r.n, .ref w] ∧ SqL K H w (r.ws.map V.int) := by
  cases h with
  | lst h1 h2 =>
    rename_i a xs
    have hl := DpAll.len h2
    rw [List.length_map] at hl
    refine ⟨a, xs, rfl, h1, hl, fun i r hr => ?_⟩
    have hlt : i < xs.length := by rw [hl]; exact (List.getElem?_eq_some_iff.mp hr).1
    have hx : xs[i]? = some xs[i] := List.getElem?_eq_getElem hlt
    have hd := DpAll.getD h2 hx (d := rowD r) (by rw [List.getElem?_map, hr]; rfl)
    obtain ⟨t, w, e, p⟩ := dp_row hd
    exact ⟨t, w, by rw [hx, e], p⟩
theorem inV_int (x : Int) (ns : List Int) : inV (.int x) (ns.map V.int) = decide (x ∈ ns) := by
  unfold inV
  rw [List.any_map]
  show (ns.any fun y => y == x) = _
  rw [Bool.eq_iff_iff, List.any_eq_true, decide_eq_true_eq]
  constructor
  · rintro ⟨y, hy, e⟩
    rw [beq_iff_eq] at e
    rw [← e]; exact hy
  · intro h
    exact ⟨x, h, beq_self_eq_true _⟩
theorem flat_ints (ns : List Int) : (ns.map V.int).all flatV = true := by
  rw [List.all_map]
  exact List.all_eq_true.mpr fun _ _ => rfl
end G

namespace G
open PySem PySem.Spec PyProof.Rows L2
/-! ### rules within a comprehension's block -/
section
variable {X : Cx} {K : PySem.W.Frag}
theorem kr_ix_list (h : X.K = K) : IxR X (rIxL K) := h ▸ ix_list
theorem kr_ix_tup (h : X.K = K) : IxR X (rIxT K) := h ▸ ix_tup
theorem kr_op_in_seq (h : X.K = K) : OpR X (compareOp .In) (rIn K false) := h ▸ op_in_seq
theorem kr_op_notIn_seq (h : X.K = K) : OpR X (compareOp .NotIn) (rIn K true) := h ▸ op_notIn_seq
theorem kr_call_isi (h : X.K = K) : CallR X (.builtin "isinstance") (rIsi K) := h ▸ call_isi
end
def numAt (g : List Row) (x : Int) : Int := ((g[x.toNat]?).map Row.n).getD 0
def maxL : List Int → Int
  | [] => 0
  | [x] => x
  | x :: y :: r => if maxL (y :: r) ≤ x then x else maxL (y :: r)
theorem maxL_spec : ∀ {l : List Int}, l ≠ [] → maxL l ∈ l ∧ ∀ y ∈ l, y ≤ maxL l
  | [], h => absurd rfl h
  | [x], _ => ⟨List.mem_cons_self, fun y hy => by
    have : y = x := by simpa using hy
    rw [this]; exact Int.le_refl _⟩
  | x :: y :: r, _ => by
    obtain ⟨h1, h2⟩ := maxL_spec (l := y :: r) (by simp)
    show (if maxL (y :: r) ≤ x then x else maxL (y :: r)) ∈ x :: y :: r ∧ _
    have e : maxL (x :: y :: r) = if maxL (y :: r) ≤ x then x else maxL (y :: r) := rfl
    rw [e]
    by_cases hc : maxL (y :: r) ≤ x
    · rw [if_pos hc]
      refine ⟨List.mem_cons_self, fun z hz => ?_⟩
      rcases List.mem_cons.mp hz with q | q
      · rw [q]; exact Int.le_refl _
      · exact Int.le_trans (h2 z q) hc
    · rw [if_neg hc]
      refine ⟨List.mem_cons_of_mem _ h1, fun z hz => ?_⟩
      rcases List.mem_cons.mp hz with q | q
      · rw [q]; omega
      · exact h2 z q
theorem maxL_eq {l : List Int} {m : Int} (h1 : m ∈ l) (h2 : ∀ y ∈ l, y ≤ m) : m = maxL l := by
  obtain ⟨a, b⟩ := maxL_spec (l := l) (fun e => by rw [e] at h1; cases h1)
  exact Int.le_antisymm (b m h1) (h2 _ a)
theorem nodup_snoc {l : List Int} {x : Int} (h : l.Nodup) (hx : x ∉ l) : (l ++ [x]).Nodup :=
  List.nodup_append.mpr ⟨h, by simp, fun a ha b hb e => hx (by
    have : b = x := by simpa using hb
    rw [← this, ← e]; exact ha)⟩
theorem atI_int {α : Type} {xs : List α} {i : Int} {v : α} (h0 : 0 ≤ i) (h : xs[i.toNat]? = some v) : atI xs i = some v := by
  have e : i = (i.toNat : Int) := by omega
  rw [e]
  exact atI_nat h
theorem cut_to (xs : List V) {j : Nat} (h : j ≤ xs.length) : cutV xs none (some (j : Int)) = xs.take j := by
  unfold cutV
  rw [HT.sIx_none, HT.sIx_nat, List.drop_zero, Nat.sub_zero, Nat.min_eq_left h]
theorem cut_from (xs : List V) {j : Nat} (h : j ≤ xs.length) : cutV xs (some (j : Int)) none = xs.drop j := by
  unfold cutV
  rw [HT.sIx_none, HT.sIx_nat, Nat.min_eq_left h]
  exact List.take_of_length_le (by rw [List.length_drop]; omega)
structure Ads where
  BadGame : Addr
  BadSteps : Addr
  BadPlace : Addr
  BadPlayer : Addr
  TooMany : Addr
  GongError : Addr
section
variable {P : Program} {w : World} {K : PySem.W.Frag} {mg : Str → Option Value} {base : Heap}
/-- a def that may raise, called where its exception leaves the caller too -/
theorem pe_calX {X : Cx} {k j : Nat} {x : Str} {sp : Sp} {E : XK} {p pos : Pos} {e : Expr} {es : List Expr} {t : TA} (c : Cal X.prog X.w X.K X.mg X.base k x sp) (hr : Room j X.A) (hk : k ≤ j) (tk : Takes X (fun cls d _ H => E cls d H)) (hg : Gl X x) (ha : PA X (e :: es) t)
    (hdb : (x == ("__debug__" : Str)) = false := by decide) (he : starEach (e :: es) X.env = (false, eval e X.env) :: starEach es X.env := by rfl) (hpl : (backTo pos (starEach es X.env)).any (·.1) = false := by rfl) :
    PE X (.Call (.Name x p) (e :: es) [] pos) (tCall sp [] E t) := by
  obtain ⟨f, fd, ps, F, hm, kp, b⟩ := c.ex
  exact pe_call F (hr.mono hk) hg hm kp b .nil (passes_call tk fun _ _ _ _ h => h) ha hdb he hpl
/-- what the three walks ask of a game, steps and a place, and how they refuse -/
def EBad (H : Hp) (C : Addr) (e : Option Nat) (E : XK) : Prop := ∀ H' dd, Same H H' → H dd = none → H' dd = some (.xd [(("at" : Str), atV e)]) → E (.ref C) (some dd) H'
theorem EBad.mono {H H1 : Hp} {C : Addr} {e : Option Nat} {E : XK} (h : EBad H C e E) (s : Same H H1) : EBad H1 C e E := fun H' dd s' nd hd => h H' dd (s.trans s') (Same.free s nd) hd
end
theorem numAt_of {g : List Row} {x : Int} {r : Row} (h : g[x.toNat]? = some r) : numAt g x = r.n := by unfold numAt; rw [h]; rfl
end G

namespace G
open PySem PySem.Spec PyProof.Rows L2
abbrev s__law_game : Stmt := topS 25
theorem sc__law_game : FnScope ["_law_script", "_law_most", "_law_number", "_law_many", "_law_wide", "_law_rows", "_law_place", "_law_more", "_law_cell", "_law_row", "_law_way"] ["_law_script", "_law_most"] (defScope s__law_game) := ⟨rfl, rfl, rfl, by decide +kernel, rfl, by decide +kernel, by decide +kernel⟩
/-! ### the law's game, plainly -/
def headOr (ns : List Int) : Int := match ns with | [] => 6 | x :: _ => x
def widesOf (many : Int) : List Int := [2, 3, 5, 10 ^ 9, many]
def manyOf (ns : List Int) (most : Int) : Int := mixed (headOr ns) 1 % most + 1
def wideOf (ns : List Int) (most : Int) : Int := (widesOf (manyOf ns most)).getD (mixed (headOr ns) 1 / 64 % 5).toNat 0
def row0 (num many wide : Int) (k : Nat) : Row := ⟨mixed num (10 + k) % 2, mixed num (10 + k) / 2 % wide, [mixed num (10 + k) / 7 % many]⟩
def rows0 (num many wide : Int) (k : Nat) : List Row := (List.range k).map (row0 num many wide)
def changed (r : Row) (m3 t way : Int) : Row :=
  if t = 0 then ⟨1 - r.p, r.n, r.ws⟩ else if t = 1 then ⟨r.p, m3, r.ws⟩ else if way ∉ r.ws then ⟨r.p, r.n, r.ws ++ [way]⟩ else if 1 < r.ws.length then ⟨r.p, r.n, r.ws.eraseIdx (r.ws.idxOf way)⟩ else r
def cellStep (many wide : Int) (g : List Row) (cell : Int) : List Row :=
  let more := mixed cell 2
  let i := (more % many).toNat
  match g[i]? with
  | none => g
  | some r => g.set i (changed r (mixed more 3 % wide) (more / 1009 % 8) (more / many % many))
def lawGame (ns : List Int) (most : Int) : List Row :=
  ns.foldl (cellStep (manyOf ns most) (wideOf ns most)) (rows0 (mixed (headOr ns) 1) (manyOf ns most) (wideOf ns most) (manyOf ns most).toNat)
theorem mixed_rg (n k : Int) : 0 ≤ mixed n k ∧ mixed n k < 2147483629 := ⟨Int.emod_nonneg _ (by decide), Int.emod_lt_of_pos _ (by decide)⟩
theorem many_rg {ns : List Int} {most : Int} (h : 1 ≤ most) : 1 ≤ manyOf ns most ∧ manyOf ns most ≤ most := by
  unfold manyOf
  have := Int.emod_nonneg (mixed (headOr ns) 1) (show most ≠ 0 by omega)
  have := Int.emod_lt_of_pos (mixed (headOr ns) 1) (show 0 < most by omega)
  omega
theorem wide_pos {ns : List Int} {most : Int} (h : 1 ≤ most) : 1 ≤ wideOf ns most := by
  have hm := (many_rg (ns := ns) h).1
  unfold wideOf widesOf
  have h0 := Int.emod_nonneg (mixed (headOr ns) 1 / 64) (show (5 : Int) ≠ 0 by decide)
  have h1 := Int.emod_lt_of_pos (mixed (headOr ns) 1 / 64) (show (0 : Int) < 5 by decide)
  generalize mixed (headOr ns) 1 / 64 % 5 = i at h0 h1
  have : i = 0 ∨ i = 1 ∨ i = 2 ∨ i = 3 ∨ i = 4 := by omega
  rcases this with rfl | rfl | rfl | rfl | rfl
  · show (1 : Int) ≤ 2; decide
  · show (1 : Int) ≤ 3; decide
  · show (1 : Int) ≤ 5; decide
  · show (1 : Int) ≤ 10 ^ 9; decide
  · exact hm
theorem mod_rg {a m : Int} (h : 1 ≤ m) : 0 ≤ a % m ∧ a % m < m := ⟨Int.emod_nonneg _ (by omega), Int.emod_lt_of_pos _ (by omega)⟩
theorem mod2 (a : Int) : a % 2 = 0 ∨ a % 2 = 1 := by omega
theorem row0_valid {num many wide : Int} {k : Nat} (hm : 1 ≤ many) (hw : 1 ≤ wide) : ValidR (row0 num many wide k) many := by
  refine ⟨mod2 _, (mod_rg hw).1, by simp [row0], fun x hx => ?_, by simp [row0]⟩
  have : x = mixed num (10 + k) / 7 % many := by simpa [row0] using hx
  rw [this]; exact mod_rg hm
theorem changed_valid {r : Row} {many m3 t way : Int} (h : ValidR r many) (h3 : 0 ≤ m3) (hw : 0 ≤ way ∧ way < many) : ValidR (changed r m3 t way) many := by
  obtain ⟨h1, h2, h4, h5, h6⟩ := h
  unfold changed
  split
  · refine ⟨?_, h2, h4, h5, h6⟩
    show 1 - r.p = 0 ∨ 1 - r.p = 1
    omega
  · split
    · exact ⟨h1, h3, h4, h5, h6⟩
    · split
      · rename_i hn
        refine ⟨h1, h2, by simp, fun x hx => ?_, nodup_snoc h6 hn⟩
        rcases List.mem_append.mp hx with q | q
        · exact h5 x q
        · have : x = way := by simpa using q
          rw [this]; exact hw
      · split
        · rename_i hl
          refine ⟨h1, h2, fun e => ?_, fun x hx => h5 x (List.mem_of_mem_eraseIdx hx), h6.sublist (List.eraseIdx_sublist _ _)⟩
          have := congrArg List.length e
          have h7 : (r.ws.eraseIdx (r.ws.idxOf way)).length ≥ r.ws.length - 1 := by
            rw [List.length_eraseIdx]
            split <;> omega
          have h8 : (r.ws.eraseIdx (r.ws.idxOf way)).length = 0 := this
          omega
        · exact ⟨h1, h2, h4, h5, h6⟩
theorem cellStep_ok {many wide : Int} (hm : 1 ≤ many) (hw : 1 ≤ wide) {g : List Row} (hl : (g.length : Int) = many) (h : ∀ r ∈ g, ValidR r many) (c : Int) : ((cellStep many wide g c).length : Int) = many ∧ ∀ r ∈ cellStep many wide g c, ValidR r many := by
  unfold cellStep
  dsimp only
  split
  · exact ⟨hl, h⟩
  · rename_i r hr
    refine ⟨by rw [List.length_set]; exact hl, fun r' hr' => ?_⟩
    rcases List.mem_or_eq_of_mem_set hr' with q | q
    · exact h r' q
    · rw [q]
      exact changed_valid (h r (List.mem_of_getElem? hr)) (mod_rg hw).1 (mod_rg hm)
theorem foldl_cell {many wide : Int} (hm : 1 ≤ many) (hw : 1 ≤ wide) : ∀ (cs : List Int) (g : List Row), (g.length : Int) = many → (∀ r ∈ g, ValidR r many) → ((cs.foldl (cellStep many wide) g).length : Int) = many ∧ ∀ r ∈ cs.foldl (cellStep many wide) g, ValidR r many
  | [], g, hl, h => ⟨hl, h⟩
  | c :: cs, g, hl, h => by
    obtain ⟨a, b⟩ := cellStep_ok hm hw hl h c
    exact foldl_cell hm hw cs _ a b
theorem rows0_ok {num many wide : Int} (hm : 1 ≤ many) (hw : 1 ≤ wide) (k : Nat) : (rows0 num many wide k).length = k ∧ ∀ r ∈ rows0 num many wide k, ValidR r many := by
  unfold rows0
  refine ⟨by rw [List.length_map, List.length_range], fun r hr => ?_⟩
  obtain ⟨j, _, rfl⟩ := List.mem_map.mp hr
  exact row0_valid hm hw
theorem lawGame_ok {ns : List Int} {most : Int} (h1 : 1 ≤ most) (h2 : most ≤ 40) : ValidG (lawGame ns most) ∧ ((lawGame ns most).length : Int) = manyOf ns most ∧ lawGame ns most ≠ [] := by
  obtain ⟨a, b⟩ := many_rg (ns := ns) h1
  have hw := wide_pos (ns := ns) h1
  obtain ⟨c, d⟩ := rows0_ok (num := mixed (headOr ns) 1) a hw (manyOf ns most).toNat
  obtain ⟨e, f⟩ := foldl_cell a hw ns _ (by rw [c]; omega) d
  have e' : ((lawGame ns most).length : Int) = manyOf ns most := e
  refine ⟨⟨by omega, fun r hr => ?_⟩, e', fun z => ?_⟩
  · rw [e']
    exact f r hr
  · rw [z] at e'
    have : (0 : Int) = manyOf ns most := e'
    omega
/-! ### heaps without the list that is being made -/
def wo (H : Hp) (D : Addr) : Hp := fun b => if b = D then none else H b
theorem wo_ne {H : Hp} {D b : Addr} (h : b ≠ D) : wo H D b = H b := if_neg h
theorem wo_sub (H : Hp) (D : Addr) : Same (wo H D) H := fun b o e => by
  by_cases h : b = D
  · rw [h] at e
    have e' : (if D = D then none else H D) = some o := e
    rw [if_pos rfl] at e'
    cases e'
  · rw [wo_ne h] at e
    exact e
theorem wo_mono {H H' : Hp} {D : Addr} (s : Same H H') : Same (wo H D) (wo H' D) := fun b o e => by
  by_cases h : b = D
  · rw [h] at e
    have e' : (if D = D then none else H D) = some o := e
    rw [if_pos rfl] at e'
    cases e'
  · rw [wo_ne h] at e ⊢
    exact s _ _ e
theorem wo_of {H H' : Hp} {D : Addr} (s : Same H H') (n : H D = none) : Same H (wo H' D) := fun b o e => by
  rw [wo_ne (ne_of_none e n)]
  exact s _ _ e
theorem wo_upd {H : Hp} {D : Addr} {o : HO} : wo (upd H D o) D = wo H D := by
  funext b
  by_cases h : b = D
  · rw [h]
    show (if D = D then none else _) = (if D = D then none else _)
    rw [if_pos rfl, if_pos rfl]
  · rw [wo_ne h, wo_ne h, upd_ne h]
theorem dpAll_snoc {K : PySem.W.Frag} {H : Hp} {v : V} {d : PyData} (h : Dp K H v d) : ∀ {vs : List V} {ds : List PyData}, DpAll K H vs ds → DpAll K H (vs ++ [v]) (ds ++ [d])
  | [], [], .nil => .cons h .nil
  | _ :: _, _ :: _, .cons a b => .cons a (dpAll_snoc h b)
theorem lc_data {K : PySem.W.Frag} {a : Addr} {xs : List V} {g : TG} {te : TE} {vs : List Nat} {σ : L2.St} {H1 : Hp} {D : Addr} {Qd : Hp → Prop} (ds : List PyData) (hl : ds.length = xs.length) (hS : SqL K H1 a xs) (nD : H1 D = none) (hz : xs.length ≤ 1000)
    (hs : ∀ (i : Nat) (x : V) (d : PyData) (H : Hp) (Q : VK), xs[i]? = some x → ds[i]? = some d → Same H1 H → (∃ acc, H D = some (.lst acc)) → (∀ y H', Same H H' → Dp K (wo H' D) y d → Q y H') → g x (wipe σ vs) H fun σ2 H2 => wipe σ2 vs = wipe σ vs ∧ te σ2 H2 Q)
    (hd : ∀ H ys, Same H1 H → H D = some (.lst ys) → DpAll K (wo H D) ys ds → Qd H) :
    ∃ W : Nat → Nat → Hp → Prop, (∃ m, W 0 m (upd H1 D (.lst []))) ∧ ∀ i m H, W i m H →
      ((Itl K a).stop i H ∧ Qd H) ∨ ((Itl K a).go i H ∧ ∃ Nx : Hp → Prop, (∀ H', Nx H' → ∃ m', m' < m ∧ W (i + 1) m' H') ∧ ∀ x H', (Itl K a).yld i H x H' → g x (wipe σ vs) H' fun σ2 H2 => wipe σ2 vs = wipe σ vs ∧ tYes σ2 H2 fun b H3 =>
        if b = true then te σ2 H3 fun y H4 => ∃ acc, H4 D = some (.lst acc) ∧ acc.length < sizeLine ∧ Nx (upd H4 D (.lst (acc ++ [y]))) else Nx H3) := by
  refine lc_list (K := K) (a := a) (xs := xs) (fun i H => Same H1 H ∧ ∃ acc, H D = some (.lst acc) ∧ DpAll K (wo H D) acc (ds.take i)) ⟨same_upd nD, [], upd_same, .nil⟩ (fun i H _ p => p.1.seq hS) (fun i x H hi p => ?_) (fun H p => ?_)
  · obtain ⟨sm, acc, hD, hA⟩ := p
    have hlt : i < ds.length := by rw [hl]; exact (List.getElem?_eq_some_iff.mp hi).1
    refine hs i x ds[i] H _ hi (List.getElem?_eq_getElem hlt) sm ⟨acc, hD⟩ (fun y H' s hy => ⟨acc, s _ _ hD, ?_, fun b o e => ?_, acc ++ [y], upd_same, ?_⟩)
    · have := DpAll.len hA
      rw [List.length_take] at this
      exact small1000 (by rw [this]; exact Nat.le_trans (Nat.min_le_right _ _) (by omega))
    · rw [upd_ne (ne_of_none e nD)]
      exact s _ _ (sm _ _ e)
    · rw [wo_upd, List.take_add_one, List.getElem?_eq_getElem hlt]
      exact dpAll_snoc hy (dp_monoAll (wo_mono s) _ _ hA)
  · obtain ⟨sm, acc, hD, hA⟩ := p
    rw [← hl, List.take_length] at hA
    exact hd H acc sm hD hA
def rLo (K : PySem.W.Frag) : List V → Hp → VK → Prop := fun xs H Q => ∃ p ys, xs = [.ref p] ∧ (SqL K H p ys ∨ SqT K H p ys) ∧ ∀ l, H l = none → Q (.ref l) (upd H l (.lst ys))
theorem kr_call_list_of {X : Cx} {K : PySem.W.Frag} (h : X.K = K) : CallR X (.type "list") (rLo K) := h ▸ call_list_of
theorem kr_pg_tup {X : Cx} {K : PySem.W.Frag} (hK : X.K = K) {es : List Expr} {k : Nat} {t : TGs} {n : Nat} {pos : Pos} (hc : X.calm = true) (h : PGs X es t) (hn : (assignEach es X.env).length = n := by rfl) (hst : (assignEach es X.env).findIdx? (·.1) = none := by rfl) : PG X (.Tuple es k pos) (gTup K n t) := hK ▸ pg_tup hc h hn hst
end G

namespace G
open PySem PySem.Spec PyProof.Rows L2
/-! ### == of plain data -/
theorem lay_ints : ∀ ns : List Int, PyData.canLayAll0 (ns.map .int) = true
  | [] => rfl
  | n :: ns => by
    show (true && PyData.canLayAll0 (ns.map .int)) = true
    rw [lay_ints ns]; rfl
theorem dep_ints : ∀ ns : List Int, PyData.depthAll (ns.map .int) = 0
  | [] => rfl
  | n :: ns => by
    show max 0 (PyData.depthAll (ns.map .int)) = 0
    rw [dep_ints ns]; rfl
theorem shaped_ints (ns : List Int) : SeqAt.shaped (intsD ns) = true := by
  show (PyData.canLayAll0 (ns.map .int) && decide (PyData.depthAll (ns.map .int) + 1 ≤ 64)) = true
  rw [lay_ints, dep_ints]; rfl
theorem eqv_nil (ns : List Int) : PyData.eqv (intsD ns) (.list []) = ns.isEmpty := by
  cases ns <;> rfl
/-! ### the law's rows, as lists that change -/
structure RowsAt (H0 H : Hp) (L : Addr) (rs : List (Addr × Addr)) (g : List Row) : Prop where
  same : Same H0 H
  l0 : H0 L = none
  list : H L = some (.lst (rs.map fun p => V.ref p.1))
  len : rs.length = g.length
  at_ : ∀ (i : Nat) (p : Addr × Addr) (r : Row), rs[i]? = some p → g[i]? = some r → H0 p.1 = none ∧ H0 p.2 = none ∧ H p.1 = some (.lst [.int r.p, .int r.n, .ref p.2]) ∧ H p.2 = some (.lst (r.ws.map V.int))
  ap : ∀ (i j : Nat) (p q : Addr × Addr), rs[i]? = some p → rs[j]? = some q → p.1 ≠ q.2 ∧ (p.1 = q.1 → i = j) ∧ (p.2 = q.2 → i = j)
  al : ∀ (i : Nat) (p : Addr × Addr), rs[i]? = some p → p.1 ≠ L ∧ p.2 ≠ L
theorem RowsAt.nil {H0 H : Hp} {L : Addr} (s : Same H0 H) (n : H0 L = none) (e : H L = some (.lst [])) : RowsAt H0 H L [] [] :=
  ⟨s, n, e, rfl, fun i p r h => by simp at h, fun i j p q h => by simp at h, fun i p h => by simp at h⟩
theorem RowsAt.there {H0 H : Hp} {L : Addr} {rs : List (Addr × Addr)} {g : List Row} (h : RowsAt H0 H L rs g) {i : Nat} {p : Addr × Addr} (hp : rs[i]? = some p) : ∃ r, g[i]? = some r := by
  have hlt : i < g.length := by rw [← h.len]; exact (List.getElem?_eq_some_iff.mp hp).1
  exact ⟨_, List.getElem?_eq_getElem hlt⟩
/-- what is new leaves it as it is -/
theorem RowsAt.grow {H0 H H' : Hp} {L : Addr} {rs : List (Addr × Addr)} {g : List Row} (h : RowsAt H0 H L rs g) (s : Same H H') : RowsAt H0 H' L rs g :=
  ⟨h.same.trans s, h.l0, s _ _ h.list, h.len, fun i p r hp hr => by
    obtain ⟨a, b, c, d⟩ := h.at_ i p r hp hr
    exact ⟨a, b, s _ _ c, s _ _ d⟩, h.ap, h.al⟩
theorem snoc_get {α : Type} {l : List α} {x y : α} {i : Nat} (h : (l ++ [x])[i]? = some y) : l[i]? = some y ∧ i < l.length ∨ i = l.length ∧ y = x := by
  rcases Nat.lt_or_ge i l.length with hi | hi
  · rw [List.getElem?_append_left hi] at h
    exact .inl ⟨h, hi⟩
  · rw [List.getElem?_append_right hi] at h
    have : i - l.length = 0 := by
      have := (List.getElem?_eq_some_iff.mp h).1
      simp at this
      omega
    rw [this] at h
    exact .inr ⟨by omega, (Option.some.inj h).symm⟩
/-- one more row: its ways' list at W, then itself at R, then the list of rows -/
theorem RowsAt.push {H0 H : Hp} {L W R : Addr} {rs : List (Addr × Addr)} {g : List Row} {r : Row} (h : RowsAt H0 H L rs g) (nW : H W = none) (nR : (upd H W (.lst (r.ws.map V.int))) R = none) :
    RowsAt H0 (upd (upd (upd H W (.lst (r.ws.map V.int))) R (.lst [.int r.p, .int r.n, .ref W])) L (.lst (rs.map (fun p => V.ref p.1) ++ [.ref R]))) L (rs ++ [(R, W)]) (g ++ [r]) := by
  have RW : R ≠ W := fun e => by
    rw [e, upd_same] at nR
    cases nR
  have nR' : H R = none := by rw [upd_ne RW] at nR; exact nR
  have LW : L ≠ W := ne_of_none h.list nW
  have LR : L ≠ R := ne_of_none h.list nR'
  have s1 : Same H (upd (upd H W (.lst (r.ws.map V.int))) R (.lst [.int r.p, .int r.n, .ref W])) := (same_upd nW).trans (same_upd nR)
  have old : ∀ {i : Nat} {p : Addr × Addr}, rs[i]? = some p → p.1 ≠ W ∧ p.1 ≠ R ∧ p.2 ≠ W ∧ p.2 ≠ R := fun hp => by
    obtain ⟨r', hr'⟩ := h.there hp
    obtain ⟨_, _, c, d⟩ := h.at_ _ _ _ hp hr'
    exact ⟨ne_of_none c nW, ne_of_none c nR', ne_of_none d nW, ne_of_none d nR'⟩
  refine ⟨fun b o e => ?_, h.l0, by rw [upd_same, List.map_append]; rfl, by rw [List.length_append, List.length_append, h.len]; rfl, fun i p r' hp hr' => ?_, fun i j p q hp hq => ?_, fun i p hp => ?_⟩
  · rw [upd_ne (ne_of_none e h.l0)]
    exact s1 _ _ (h.same _ _ e)
  · rcases snoc_get hp with ⟨hp1, hi⟩ | ⟨hi, rfl⟩
    · rw [List.getElem?_append_left (by rw [← h.len]; exact hi)] at hr'
      obtain ⟨a, b, c, d⟩ := h.at_ i p r' hp1 hr'
      obtain ⟨l1, l2⟩ := h.al i p hp1
      exact ⟨a, b, by rw [upd_ne l1]; exact s1 _ _ c, by rw [upd_ne l2]; exact s1 _ _ d⟩
    · subst hi
      rw [h.len, List.getElem?_append_right (Nat.le_refl _), Nat.sub_self] at hr'
      cases hr'
      refine ⟨h.same.free nR', h.same.free nW, ?_, ?_⟩
      · rw [upd_ne LR.symm, upd_same]
      · rw [upd_ne LW.symm, upd_ne RW.symm, upd_same]
  · rcases snoc_get hp with ⟨hp1, hi⟩ | ⟨hi, rfl⟩
    · rcases snoc_get hq with ⟨hq1, hj⟩ | ⟨hj, rfl⟩
      · exact h.ap i j p q hp1 hq1
      · obtain ⟨a, b, c, d⟩ := old hp1
        exact ⟨a, fun e => absurd e b, fun e => absurd e c⟩
    · rcases snoc_get hq with ⟨hq1, hj⟩ | ⟨hj, rfl⟩
      · obtain ⟨a, b, c, d⟩ := old hq1
        exact ⟨fun e => d e.symm, fun e => absurd e.symm b, fun e => absurd e.symm c⟩
      · exact ⟨RW, fun _ => hi.trans hj.symm, fun _ => hi.trans hj.symm⟩
  · rcases snoc_get hp with ⟨hp1, hi⟩ | ⟨hi, rfl⟩
    · exact h.al i p hp1
    · exact ⟨LR.symm, LW.symm⟩
theorem set_get {α : Type} {l : List α} {x y : α} {i j : Nat} (h : (l.set i x)[j]? = some y) : (i = j ∧ y = x) ∨ (i ≠ j ∧ l[j]? = some y) := by
  by_cases e : i = j
  · subst e
    have hlt : i < l.length := by
      have := (List.getElem?_eq_some_iff.mp h).1
      rw [List.length_set] at this
      exact this
    rw [List.getElem?_set_self hlt] at h
    exact .inl ⟨rfl, (Option.some.inj h).symm⟩
  · rw [List.getElem?_set_ne e] at h
    exact .inr ⟨e, h⟩
/-- a row gets another player or number -/
theorem RowsAt.row {H0 H : Hp} {L : Addr} {rs : List (Addr × Addr)} {g : List Row} {i : Nat} {p : Addr × Addr} {r : Row} (h : RowsAt H0 H L rs g) (hp : rs[i]? = some p) (hr : g[i]? = some r) (a b : Int) :
    RowsAt H0 (upd H p.1 (.lst [.int a, .int b, .ref p.2])) L rs (g.set i ⟨a, b, r.ws⟩) := by
  obtain ⟨n1, n2, c1, c2⟩ := h.at_ i p r hp hr
  obtain ⟨l1, l2⟩ := h.al i p hp
  refine ⟨fun b o e => ?_, h.l0, by rw [upd_ne l1.symm]; exact h.list, by rw [List.length_set]; exact h.len, fun j q r' hq hr' => ?_, h.ap, h.al⟩
  · rw [upd_ne (ne_of_none e n1)]
    exact h.same _ _ e
  · rcases set_get hr' with ⟨rfl, rfl⟩ | ⟨hne, hr''⟩
    · rw [hp] at hq
      cases hq
      exact ⟨n1, n2, upd_same, by rw [upd_ne (h.ap i i p p hp hp).1.symm]; exact c2⟩
    · obtain ⟨m1, m2, d1, d2⟩ := h.at_ j q r' hq hr''
      obtain ⟨x1, x2, _⟩ := h.ap i j p q hp hq
      exact ⟨m1, m2, by rw [upd_ne fun e => hne (x2 e.symm)]; exact d1, by rw [upd_ne x1.symm]; exact d2⟩
/-- a row's ways change -/
theorem RowsAt.ways {H0 H : Hp} {L : Addr} {rs : List (Addr × Addr)} {g : List Row} {i : Nat} {p : Addr × Addr} {r : Row} (h : RowsAt H0 H L rs g) (hp : rs[i]? = some p) (hr : g[i]? = some r) (ws : List Int) :
    RowsAt H0 (upd H p.2 (.lst (ws.map V.int))) L rs (g.set i ⟨r.p, r.n, ws⟩) := by
  obtain ⟨n1, n2, c1, c2⟩ := h.at_ i p r hp hr
  obtain ⟨l1, l2⟩ := h.al i p hp
  refine ⟨fun b o e => ?_, h.l0, by rw [upd_ne l2.symm]; exact h.list, by rw [List.length_set]; exact h.len, fun j q r' hq hr' => ?_, h.ap, h.al⟩
  · rw [upd_ne (ne_of_none e n2)]
    exact h.same _ _ e
  · rcases set_get hr' with ⟨rfl, rfl⟩ | ⟨hne, hr''⟩
    · rw [hp] at hq
      cases hq
      exact ⟨n1, n2, by rw [upd_ne (h.ap i i p p hp hp).1]; exact c1, upd_same⟩
    · obtain ⟨m1, m2, d1, d2⟩ := h.at_ j q r' hq hr''
      obtain ⟨_, _, x3⟩ := h.ap i j p q hp hq
      obtain ⟨y1, _, _⟩ := h.ap j i q p hq hp
      exact ⟨m1, m2, by rw [upd_ne y1]; exact d1, by rw [upd_ne fun e => hne (x3 e.symm)]; exact d2⟩
theorem RowsAt.id {H0 H : Hp} {L : Addr} {rs : List (Addr × Addr)} {g : List Row} {i : Nat} {r : Row} (h : RowsAt H0 H L rs g) (hr : g[i]? = some r) : RowsAt H0 H L rs (g.set i r) := by
  have e : g.set i r = g := by
    apply List.ext_getElem?
    intro j
    by_cases hj : i = j
    · subst hj
      rw [List.getElem?_set_self (List.getElem?_eq_some_iff.mp hr).1, hr]
    · rw [List.getElem?_set_ne hj]
  rw [e]
  exact h
theorem if_join {b : Bool} {ta tb : TE} {σ : L2.St} {H : Hp} {Q : VK} {v : V} (h1 : b = true → ∀ Q : VK, Q v H → ta σ H Q) (h2 : b = false → ∀ Q : VK, Q v H → tb σ H Q) (q : Q v H) : if b = true then ta σ H Q else tb σ H Q := by
  cases b with
  | true => exact iteT (h1 rfl Q q)
  | false => exact iteF (h2 rfl Q q)
theorem atI_ints {xs : List Int} {i : Int} (h0 : 0 ≤ i) (h1 : i.toNat < xs.length) : atI (xs.map V.int) i = some (.int (xs.getD i.toNat 0)) :=
  atI_int h0 (by rw [List.getElem?_map, List.getElem?_eq_getElem h1, List.getD_eq_getElem?_getD, List.getElem?_eq_getElem h1]; rfl)
end G

namespace G
open PySem PySem.Spec PyProof.Rows L2
section
variable {P : Program} {w : World} {K : PySem.W.Frag} {mg : Str → Option Value} {base : Heap}
def spLawGame (K : PySem.W.Frag) : Sp := fun vs H Q _ => ∃ (a : Addr) (ns : List Int) (most : Int), vs = [.ref a, .int most] ∧ SqL K H a (ns.map V.int) ∧ 1 ≤ most ∧ most ≤ 40 ∧ ∀ H' v, Same H H' → Dp K H' v (gameD (lawGame ns most)) → Q v H'
theorem ok_law_game {f : Addr} {fd : FuncData} (B : Bt mg) (F : Fun K "_law_game" "_law_game" s__law_game f fd) (C__law_mixed : Cal P w K mg base 1 "_law_mixed" spMixed) : FnOk P w K mg base (L2.CX P w) 2 f fd ["_law_script", "_law_most"] (spLawGame K) := by
  refine F.okX sc__law_game (fun vs H Q E h => ?_) (fun cdv Ar outer s H vs Q E hr h => ?_)
  · obtain ⟨a, ns, most, rfl, _⟩ := h
    rfl
  · obtain ⟨a, ns, most, rfl, hS, hm1, hm2, q⟩ := h
    refine ⟨_, (pss_cons (ps_set (i := 2) sc__law_game.nd rfl (Or.inl rfl) (pe_cal C__law_mixed hr (by decide) (by rfl) (pa_cons (pe_ifExp (pt_cmpR (op_neD hr.units) (pv 0) (pe_lst pa_nil) (nomark _)) (pe_ix ix_list (pv 0) pe_int (fun _ _ => rfl)) pe_int) (pa_cons pe_int pa_nil))))
      (pss_cons (ps_set (i := 3) sc__law_game.nd rfl (Or.inl rfl) (pe_op op_add (pe_op op_mod (pv 2) (pv 1)) pe_int))
      (pss_cons (ps_set (i := 4) sc__law_game.nd rfl (Or.inl rfl) (pe_ix ix_list (pe_lst (pa_cons pe_int (pa_cons pe_int (pa_cons pe_int (pa_cons (pe_op op_pow pe_int pe_int) (pa_cons (pv 3) pa_nil)))))) (pe_op op_mod (pe_op op_fdiv (pv 2) pe_int) pe_int) (fun _ _ => rfl)))
      (pss_cons (ps_set (i := 5) sc__law_game.nd rfl (Or.inl rfl) (pe_lst pa_nil))
      (pss_cons (ps_for (passes_of rfl) rfl (pi_range1 (by rfl) B.range_ (pa_cons (pv 3) pa_nil)) (pg_name (i := 6) sc__law_game.nd rfl (Or.inl rfl)) (pss_cons (ps_set (i := 7) sc__law_game.nd rfl (Or.inl rfl) (pe_cal C__law_mixed hr (by decide) (by rfl) (pa_cons (pv 2) (pa_cons (pe_op op_add pe_int (pv 6)) pa_nil))))
      (pss_one (ps_expr (pe_bm PySem.F.plainAttrs_list PySem.F.slot_list_append PySem.F.type_list_append mt_append (pv 5) (pa_cons (pe_lst (pa_cons (pe_op op_mod (pv 7) pe_int) (pa_cons (pe_op op_mod (pe_op op_fdiv (pv 7) pe_int) (pv 4)) (pa_cons (pe_lst (pa_cons (pe_op op_mod (pe_op op_fdiv (pv 7) pe_int) (pv 3)) pa_nil)) pa_nil)))) pa_nil))))))
      (pss_cons (ps_for (passes_of rfl) rfl (pi_list (pv 0)) (pg_name (i := 8) sc__law_game.nd rfl (Or.inl rfl)) (pss_cons (ps_set (i := 7) sc__law_game.nd rfl (Or.inl rfl) (pe_cal C__law_mixed hr (by decide) (by rfl) (pa_cons (pv 8) (pa_cons pe_int pa_nil))))
      (pss_cons (ps_set (i := 9) sc__law_game.nd rfl (Or.inl rfl) (pe_ix ix_list (pv 5) (pe_op op_mod (pv 7) (pv 3)) (fun _ _ => rfl)))
      (pss_cons (ps_set (i := 10) sc__law_game.nd rfl (Or.inl rfl) (pe_op op_mod (pe_op op_fdiv (pv 7) (pv 3)) (pv 3)))
      (pss_one (ps_if (pt_cmpR op_eq (pe_op op_mod (pe_op op_fdiv (pv 7) pe_int) pe_int) pe_int (nomark _)) (pss_one (ps_asg (pe_op op_sub pe_int (pe_ix ix_list (pv 9) pe_int (fun _ _ => rfl))) (pg_sub (pv 9) pe_int set_list))) (pss_one (ps_if (pt_cmpR op_eq (pe_op op_mod (pe_op op_fdiv (pv 7) pe_int) pe_int) pe_int (nomark _)) (pss_one (ps_asg (pe_op op_mod (pe_cal C__law_mixed hr (by decide) (by rfl) (pa_cons (pv 7) (pa_cons pe_int pa_nil))) (pv 4)) (pg_sub (pv 9) pe_int set_list))) (pss_one (ps_if (pt_cmpR op_notIn_seq (pv 10) (pe_ix ix_list (pv 9) pe_int (fun _ _ => rfl)) (by rfl)) (pss_one (ps_expr (pe_bm PySem.F.plainAttrs_list PySem.F.slot_list_append PySem.F.type_list_append mt_append (pe_ix ix_list (pv 9) pe_int (fun _ _ => rfl)) (pa_cons (pv 10) pa_nil)))) (pss_one (ps_if (pt_cmpR op_gt (pe_callB call_len_seq (by rfl) B.len_ (by decide +kernel) (pa_cons (pe_ix ix_list (pv 9) pe_int (fun _ _ => rfl)) pa_nil)) pe_int (nomark _)) (pss_one (ps_expr (pe_bm PySem.F.plainAttrs_list PySem.F.slot_list_remove PySem.F.type_list_remove mt_remove (pe_ix ix_list (pv 9) pe_int (fun _ _ => rfl)) (pa_cons (pv 10) pa_nil)))) pss_nil))))))))))))
      (pss_one (ps_ret (pe_lc (own := [("_law_row", 9)]) (by rfl) sc__law_game.nd (pi_list (pv 5)) (blkOk_by (own := [("_law_row", 9)]) (N := ["_law_script", "_law_most", "_law_number", "_law_many", "_law_wide", "_law_rows", "_law_place", "_law_more", "_law_cell", "_law_row", "_law_way"]) (sc := defScope s__law_game) (by decide +kernel)) (fun _ _ _ _ _ => (pg_name (i := 9) sc__law_game.nd rfl (Or.inl rfl))) (fun _ _ _ _ _ => pts_nil) (fun _ _ _ _ _ => (pe_tup (pa_cons (pe_ix (kr_ix_list (K := K) rfl) (pv 9) pe_int (fun _ _ => rfl)) (pa_cons (pe_ix (kr_ix_list (K := K) rfl) (pv 9) pe_int (fun _ _ => rfl)) (pa_cons (pe_ix (kr_ix_list (K := K) rfl) (pv 9) pe_int (fun _ _ => rfl)) pa_nil)))))))))))))), ?_⟩
    -- _law_number = _law_mixed(_law_script[0] if _law_script != [] else 6, 1)
    refine ⟨_, rfl, Nat.zero_le _, fun e0 ne0 => ⟨intsD ns, .list [], .lst ((same_upd ne0).seq hS) (dpa_ints' ns), .lst (.inl (.inl upd_same)) .nil, shaped_ints ns, rfl, _, rfl, ?_⟩⟩
    have sm0 : Same H (upd H e0 (.lst [])) := same_upd ne0
    rw [eqv_nil]
    refine if_join (v := .int (headOr ns)) (fun hb Q' q' => ?_) (fun hb Q' q' => ?_) ?_
    · cases ns with
      | nil => cases hb
      | cons x r => exact ⟨_, rfl, _, _, _, _, rfl, rfl, sm0.seq hS, atI_nat (j := 0) rfl, q'⟩
    · cases ns with
      | nil => exact q'
      | cons x r => cases hb
    have hnum := mixed_rg (headOr ns) 1
    refine ⟨_, _, rfl, by decide, by decide, ?_⟩
    -- _law_many, _law_wide, _law_rows
    refine ⟨_, rfl, _, rfl, _, _, rfl, rfl, (by omega : (0:Int) < most), _, _, rfl, rfl, ?_⟩
    obtain ⟨hk1, hk2⟩ := many_rg (ns := ns) hm1
    have hw := wide_pos (ns := ns) hm1
    have h5a := Int.emod_nonneg (mixed (headOr ns) 1 / 64) (show (5 : Int) ≠ 0 by decide)
    have h5b := Int.emod_lt_of_pos (mixed (headOr ns) 1 / 64) (show (0 : Int) < 5 by decide)
    refine ⟨_, _, rfl, rfl, ⟨by decide, by decide, by decide⟩, _, rfl, (by show 5 ≤ sizeLine; decide), fun l0 nl0 => ⟨_, rfl, _, _, rfl, rfl, ⟨by decide, by decide⟩, _, _, rfl, rfl, (by show (0:Int) < 5; decide), l0, _, _, .int (wideOf ns most), rfl, rfl, .inl (.inl upd_same), atI_ints (xs := widesOf (manyOf ns most)) h5a (by show _ < 5; omega), ?_⟩⟩
    refine ⟨Nat.zero_le _, fun L nL => ?_⟩
    have smL := sm0.trans (same_upd (o := .lst [.int 2, .int 3, .int 5, .int (10 ^ (9 : Int).toNat), .int (mixed (headOr ns) 1 % most + 1)]) nl0)
    -- for _law_place in range(_law_many)
    refine ⟨_, rfl, manyOf ns most, rfl, by omega, by omega, for_range (lo := 0) (n := (manyOf ns most).toNat) (fun i σ H' => ∃ (y6 y7 : Option V) (rs : List (Addr × Addr)), σ = [some (.ref a), some (.int most), some (.int (mixed (headOr ns) 1)), some (.int (manyOf ns most)), some (.int (wideOf ns most)), some (.ref L), y6, y7, none, none, none] ∧
        RowsAt H H' L rs (rows0 (mixed (headOr ns) 1) (manyOf ns most) (wideOf ns most) i)) ⟨none, none, [], rfl, .nil (smL.trans (same_upd nL)) (smL.free nL) upd_same⟩ (fun i σ H' hi hP => ?_) (fun σ H' hP => ?_)⟩
    · obtain ⟨y6, y7, rs, rfl, hR⟩ := hP
      refine ⟨_, rfl, _, rfl, _, _, rfl, rfl, _, _, rfl, by omega, by omega, ?_⟩
      rw [show (10 : Int) + (0 + (i : Int)) = 10 + (i : Int) by omega]
      have hmr := mixed_rg (mixed (headOr ns) 1) (10 + (i : Int))
      have hlen : rs.length = i := by rw [hR.len]; exact (rows0_ok hk1 hw i).1
      refine ⟨_, rfl, .inl ⟨rfl, _, .inl (.inl hR.list)⟩, _, rfl, _, _, rfl, rfl, (by show (0:Int) < 2; decide), _, rfl, _, _, rfl, rfl, ⟨by decide, by decide⟩, _, rfl, _, _, rfl, rfl, (by omega : (0:Int) < wideOf ns most), _, rfl, _, _, rfl, rfl, ⟨by decide, by decide⟩, _, rfl, _, _, rfl, rfl, (by omega : (0:Int) < manyOf ns most), (by show 1 ≤ sizeLine; decide), fun W nW => ⟨(by show 3 ≤ sizeLine; decide), fun R nR => ?_⟩⟩
      have hpush := hR.push (r := row0 (mixed (headOr ns) 1) (manyOf ns most) (wideOf ns most) i) nW nR
      have LW : L ≠ W := ne_of_none hR.list nW
      have nR' : H' R = none := by
        have RW : R ≠ W := fun e => by
          rw [e, upd_same] at nR
          cases nR
        rw [upd_ne RW] at nR
        exact nR
      refine ⟨L, rs.map (fun p => V.ref p.1), _, rfl, rfl, ?_, ?_⟩
      · rw [upd_ne (ne_of_none hR.list nR'), upd_ne LW]
        exact hR.list
      · refine ⟨by rw [List.length_map, hlen]; exact small1000 (by omega), ?_⟩
        refine ⟨_, _, rs ++ [(R, W)], rfl, ?_⟩
        have e1 : rows0 (mixed (headOr ns) 1) (manyOf ns most) (wideOf ns most) (i + 1) = rows0 (mixed (headOr ns) 1) (manyOf ns most) (wideOf ns most) i ++ [row0 (mixed (headOr ns) 1) (manyOf ns most) (wideOf ns most) i] := by
          unfold rows0
          rw [List.range_succ, List.map_append]
          rfl
        rw [e1]
        exact hpush
    · obtain ⟨y6, y7, rs, rfl, hR⟩ := hP
      -- for _law_cell in _law_script
      refine ⟨_, rfl, a, rfl, ⟨_, hR.same.seq hS⟩, for_list (K := K) (a := a) (xs := ns.map V.int) (fun i σ H' => ∃ (y6 y7 y8 y9 y10 : Option V) (rs : List (Addr × Addr)), σ = [some (.ref a), some (.int most), some (.int (mixed (headOr ns) 1)), some (.int (manyOf ns most)), some (.int (wideOf ns most)), some (.ref L), y6, y7, y8, y9, y10] ∧
        RowsAt H H' L rs ((ns.take i).foldl (cellStep (manyOf ns most) (wideOf ns most)) (rows0 (mixed (headOr ns) 1) (manyOf ns most) (wideOf ns most) (manyOf ns most).toNat))) ⟨y6, y7, none, none, none, rs, rfl, hR⟩ (fun i σ H' _ ⟨_, _, _, _, _, _, _, hR⟩ => hR.same.seq hS) (fun i x σ H' hi hP => ?_) (fun σ H' hP => ?_)⟩
      · obtain ⟨y6, y7, y8, y9, y10, rs, rfl, hR⟩ := hP
        rw [List.getElem?_map] at hi
        obtain ⟨c, hc, rfl⟩ := Option.map_eq_some_iff.mp hi
        obtain ⟨c1, c2⟩ := rows0_ok (num := mixed (headOr ns) 1) hk1 hw (manyOf ns most).toNat
        obtain ⟨c3, c4⟩ := foldl_cell hk1 hw (ns.take i) _ (by rw [c1]; omega) c2
        have hnext : (ns.take (i + 1)).foldl (cellStep (manyOf ns most) (wideOf ns most)) (rows0 (mixed (headOr ns) 1) (manyOf ns most) (wideOf ns most) (manyOf ns most).toNat) = cellStep (manyOf ns most) (wideOf ns most) ((ns.take i).foldl (cellStep (manyOf ns most) (wideOf ns most)) (rows0 (mixed (headOr ns) 1) (manyOf ns most) (wideOf ns most) (manyOf ns most).toNat)) c := by
          rw [List.take_add_one, hc, List.foldl_append]
          rfl
        generalize hg : (ns.take i).foldl (cellStep (manyOf ns most) (wideOf ns most)) (rows0 (mixed (headOr ns) 1) (manyOf ns most) (wideOf ns most) (manyOf ns most).toNat) = g at hR c3 c4 hnext
        obtain ⟨i0, i1⟩ := mod_rg (a := mixed c 2) hk1
        have hlt : (mixed c 2 % manyOf ns most).toNat < g.length := by omega
        have hr : g[(mixed c 2 % manyOf ns most).toNat]? = some g[(mixed c 2 % manyOf ns most).toNat] := List.getElem?_eq_getElem hlt
        have hp : rs[(mixed c 2 % manyOf ns most).toNat]? = some (rs[(mixed c 2 % manyOf ns most).toNat]'(by rw [hR.len]; exact hlt)) := List.getElem?_eq_getElem _
        generalize g[(mixed c 2 % manyOf ns most).toNat] = r at hr
        generalize (rs[(mixed c 2 % manyOf ns most).toNat]'(by rw [hR.len]; exact hlt)) = p at hp
        have hstep : cellStep (manyOf ns most) (wideOf ns most) g c = g.set (mixed c 2 % manyOf ns most).toNat (changed r (mixed (mixed c 2) 3 % wideOf ns most) (mixed c 2 / 1009 % 8) (mixed c 2 / manyOf ns most % manyOf ns most)) := by
          unfold cellStep
          dsimp only
          rw [hr]
        obtain ⟨n1, n2, d1, d2⟩ := hR.at_ _ p r hp hr
        have hvr := c4 r (List.mem_of_getElem? hr)
        have hwl : r.ws.length ≤ 40 := Nat.le_trans (ValidR.len (m := g.length) (by rw [c3]; exact hvr)) (by omega)
        -- more, row, way
        refine ⟨_, rfl, _, _, rfl, by decide, by decide, ?_⟩
        refine ⟨_, rfl, _, rfl, _, rfl, _, _, rfl, rfl, (by omega : (0:Int) < manyOf ns most), _, _, _, .ref p.1, rfl, rfl, .inl (.inl hR.list), atI_int i0 (by rw [List.getElem?_map, hp]; rfl), ?_⟩
        refine ⟨_, rfl, _, rfl, _, _, rfl, rfl, ⟨by omega, by omega⟩, _, rfl, _, _, rfl, rfl, (by omega : (0:Int) < manyOf ns most), ?_⟩
        have fin : ∀ (H2 : Hp), RowsAt H H2 L rs (g.set (mixed c 2 % manyOf ns most).toNat (changed r (mixed (mixed c 2) 3 % wideOf ns most) (mixed c 2 / 1009 % 8) (mixed c 2 / manyOf ns most % manyOf ns most))) →
            ∃ (z6 z7 z8 z9 z10 : Option V) (rs : List (Addr × Addr)), [some (V.ref a), some (.int most), some (.int (mixed (headOr ns) 1)), some (.int (manyOf ns most)), some (.int (wideOf ns most)), some (.ref L), y6, some (.int (mixed c 2)), some (.int c), some (.ref p.1), some (.int (mixed c 2 / manyOf ns most % manyOf ns most))] = [some (.ref a), some (.int most), some (.int (mixed (headOr ns) 1)), some (.int (manyOf ns most)), some (.int (wideOf ns most)), some (.ref L), z6, z7, z8, z9, z10] ∧
              RowsAt H H2 L rs ((ns.take (i + 1)).foldl (cellStep (manyOf ns most) (wideOf ns most)) (rows0 (mixed (headOr ns) 1) (manyOf ns most) (wideOf ns most) (manyOf ns most).toNat)) := fun H2 h2 => by
          rw [hnext, hstep]
          exact ⟨_, _, _, _, _, rs, rfl, h2⟩
        have hway2 := mod_rg (a := mixed c 2 / manyOf ns most) hk1
        -- if _law_more // 1009 % 8 == 0
        refine ⟨_, rfl, _, _, rfl, rfl, ⟨by decide, by decide⟩, _, _, rfl, rfl, (by show (0:Int) < 8; decide), rfl, _, rfl, ite2 (fun e => ?_) (fun e => ?_)⟩
        · have e0 : mixed c 2 / 1009 % 8 = 0 := V.int.inj (of_decide_eq_true e)
          refine ⟨_, rfl, _, _, _, _, rfl, rfl, .inl (.inl d1), atI_nat (j := 0) rfl, _, _, rfl, rfl, _, rfl, _, _, _, 0, rfl, rfl, d1, rfl, fin _ ?_⟩
          unfold changed
          rw [if_pos e0]
          exact hR.row hp hr (1 - r.p) r.n
        have e0 : ¬ mixed c 2 / 1009 % 8 = 0 := fun z => e (decide_eq_true (congrArg V.int z))
        refine ⟨_, rfl, _, _, rfl, rfl, ⟨by decide, by decide⟩, _, _, rfl, rfl, (by show (0:Int) < 8; decide), rfl, _, rfl, ite2 (fun e => ?_) (fun e => ?_)⟩
        · have e1 : mixed c 2 / 1009 % 8 = 1 := V.int.inj (of_decide_eq_true e)
          refine ⟨_, rfl, _, _, rfl, by decide, by decide, _, rfl, _, _, rfl, rfl, (by omega : (0:Int) < wideOf ns most), _, rfl, _, _, _, 1, rfl, rfl, d1, rfl, fin _ ?_⟩
          unfold changed
          rw [if_neg e0, if_pos e1]
          exact hR.row hp hr r.p _
        have e1 : ¬ mixed c 2 / 1009 % 8 = 1 := fun z => e (decide_eq_true (congrArg V.int z))
        refine ⟨_, rfl, _, rfl, _, _, _, _, rfl, rfl, .inl (.inl d1), atI_nat (j := 2) rfl, _, _, rfl, .inl (.inl (.inl d2)), rfl, flat_ints _, _, rfl, ?_⟩
        rw [inV_int]
        cases hin : decide ((mixed c 2 / manyOf ns most % manyOf ns most) ∈ r.ws) with
        | false =>
          have hno : (mixed c 2 / manyOf ns most % manyOf ns most) ∉ r.ws := of_decide_eq_false hin
          refine iteT ⟨_, rfl, _, _, _, _, rfl, rfl, .inl (.inl d1), atI_nat (j := 2) rfl, .inl ⟨rfl, _, .inl (.inl d2)⟩, _, rfl, _, _, _, rfl, rfl, d2, ?_, fin _ ?_⟩
          · rw [List.length_map]
            exact small1000 (by omega)
          · unfold changed
            rw [if_neg e0, if_neg e1, if_pos hno]
            have := hR.ways hp hr (r.ws ++ [(mixed c 2 / manyOf ns most % manyOf ns most)])
            rw [List.map_append] at this
            exact this
        | true =>
          have hyes : (mixed c 2 / manyOf ns most % manyOf ns most) ∈ r.ws := of_decide_eq_true hin
          refine iteF ⟨_, rfl, _, _, _, _, rfl, rfl, .inl (.inl d1), atI_nat (j := 2) rfl, _, _, rfl, .inl (.inl (.inl d2)), _, _, rfl, rfl, _, rfl, ite2 (fun e => ?_) (fun e => ?_)⟩
          · have e2 : 1 < r.ws.length := by
              have := of_decide_eq_true e
              rw [List.length_map] at this
              omega
            have hix := List.idxOf_lt_length_of_mem hyes
            refine ⟨_, rfl, _, _, _, _, rfl, rfl, .inl (.inl d1), atI_nat (j := 2) rfl, .inl ⟨rfl, _, .inl (.inl d2)⟩, _, rfl, p.2, r.ws, (mixed c 2 / manyOf ns most % manyOf ns most), r.ws.idxOf (mixed c 2 / manyOf ns most % manyOf ns most), rfl, rfl, d2, ?_, fun m hm hz => ?_, fin _ ?_⟩
            · rw [List.getElem?_eq_getElem hix, List.getElem_idxOf]
            · have := List.not_of_lt_findIdx (p := fun x => x == (mixed c 2 / manyOf ns most % manyOf ns most)) hm
              rw [List.getElem?_eq_getElem (Nat.lt_trans hm hix)] at hz
              rw [Option.some.inj hz] at this
              simp at this
            · unfold changed
              rw [if_neg e0, if_neg e1, if_neg (fun h => h hyes), if_pos e2]
              exact hR.ways hp hr _
          · have e2 : ¬ 1 < r.ws.length := fun z => e (decide_eq_true (by rw [List.length_map]; omega))
            refine fin _ ?_
            unfold changed
            rw [if_neg e0, if_neg e1, if_neg (fun h => h hyes), if_neg e2]
            exact hR.id hr
      · -- return [(row[0], row[1], row[2]) for row in rows]
        obtain ⟨y6, y7, y8, y9, y10, rs, rfl, hR⟩ := hP
        rw [List.length_map, List.take_length] at hR
        have hg : ns.foldl (cellStep (manyOf ns most) (wideOf ns most)) (rows0 (mixed (headOr ns) 1) (manyOf ns most) (wideOf ns most) (manyOf ns most).toNat) = lawGame ns most := rfl
        rw [hg] at hR
        obtain ⟨g1, g2, g3⟩ := lawGame_ok (ns := ns) hm1 hm2
        refine ⟨_, rfl, L, rfl, ⟨_, .inl (.inl hR.list)⟩, fun D nD => lc_data ((lawGame ns most).map rowD) (by rw [List.length_map, List.length_map, hR.len]) (.inl (.inl hR.list)) nD (by rw [List.length_map, hR.len]; have := g1.1; omega) (fun i x d H3 Q' hx hd sm3 hacc hQ => ?_) (fun H3 ys sm3 hD hA => ?_)⟩
        · rw [List.getElem?_map] at hx hd
          obtain ⟨p, hp, rfl⟩ := Option.map_eq_some_iff.mp hx
          obtain ⟨r, hr, rfl⟩ := Option.map_eq_some_iff.mp hd
          obtain ⟨n1, n2, d1, d2⟩ := hR.at_ i p r hp hr
          have d1' := sm3 _ _ d1
          refine ⟨rfl, _, rfl, _, _, _, _, rfl, rfl, .inl (.inl d1'), atI_nat (j := 0) rfl, _, rfl, _, _, _, _, rfl, rfl, .inl (.inl d1'), atI_nat (j := 1) rfl, _, rfl, _, _, _, _, rfl, rfl, .inl (.inl d1'), atI_nat (j := 2) rfl, (by show 3 ≤ sizeLine; decide), fun T nT => hQ _ _ (same_upd nT) ?_⟩
          obtain ⟨acc, hacc⟩ := hacc
          have TD : T ≠ D := (ne_of_none hacc nT).symm
          refine .tup (.inl (.inl (by rw [wo_ne TD, upd_same]))) (.cons (.int _) (.cons (.int _) (.cons (.lst (.inl (.inl ?_)) (dpa_ints' _)) .nil)))
          rw [wo_ne (ne_of_none d2 nD), upd_ne (ne_of_none (sm3 _ _ d2) nT)]
          exact sm3 _ _ d2
        · exact q _ _ (hR.same.trans sm3) (.lst (.inl (.inl hD)) (dp_monoAll (wo_sub _ _) _ _ hA))
end
end G

namespace G
open PySem PySem.Spec PyProof.Rows L2
abbrev s__law_copied : Stmt := topS 26
theorem sc__law_copied : FnScope ["_law_game_here", "_law_player", "_law_number", "_law_ways"] ["_law_game_here"] (defScope s__law_copied) := ⟨rfl, rfl, rfl, by decide +kernel, rfl, by decide +kernel, by decide +kernel⟩
section
variable {P : Program} {w : World} {K : PySem.W.Frag} {mg : Str → Option Value} {base : Heap}
def spCopied (K : PySem.W.Frag) : Sp := fun vs H Q _ => ∃ (v : V) (g : List Row), vs = [v] ∧ Dp K H v (gameD g) ∧ g.length ≤ 40 ∧ ∀ H' p, Same H H' → Dp K H' (.ref p) (gameD g) → Q (.ref p) H'
theorem ok_law_copied {f : Addr} {fd : FuncData} (B : Bt mg) (F : Fun K "_law_copied" "_law_copied" s__law_copied f fd) : FnOk P w K mg base (L2.CX P w) 1 f fd ["_law_game_here"] (spCopied K) := by
  refine F.okX sc__law_copied (fun vs H Q E h => ?_) (fun cdv Ar outer s H vs Q E hr h => ?_)
  · obtain ⟨v, g, rfl, _⟩ := h
    rfl
  · obtain ⟨v, g, rfl, hg, hl, q⟩ := h
    refine ⟨_, (pss_one (ps_ret (pe_lc (own := [("_law_player", 1), ("_law_number", 2), ("_law_ways", 3)]) (by rfl) sc__law_copied.nd (pi_list (pv 0)) (blkOk_by (own := [("_law_player", 1), ("_law_number", 2), ("_law_ways", 3)]) (N := ["_law_game_here", "_law_player", "_law_number", "_law_ways"]) (sc := defScope s__law_copied) (by decide +kernel)) (fun _ _ _ _ _ => (kr_pg_tup (K := K) (n := 3) (by rfl) (by rfl) (pgs_cons (pg_name (i := 1) sc__law_copied.nd rfl (Or.inl rfl)) (pgs_cons (pg_name (i := 2) sc__law_copied.nd rfl (Or.inl rfl)) (pgs_cons (pg_name (i := 3) sc__law_copied.nd rfl (Or.inl rfl)) pgs_nil))))) (fun _ _ _ _ _ => pts_nil) (fun _ _ _ _ _ => (pe_tup (pa_cons (pv 1) (pa_cons (pv 2) (pa_cons (pe_callTy (kr_call_list_of (K := K) rfl) (by rfl) B.list_ (by decide +kernel) (pa_cons (pv 3) pa_nil)) pa_nil)))))))), ?_⟩
    obtain ⟨ag, xg, rfl, hG, hGl, hGr⟩ := dp_game hg
    refine ⟨_, rfl, ag, rfl, ⟨_, hG⟩, fun D nD => lc_data (g.map rowD) (by rw [List.length_map, hGl]) hG nD (by omega) (fun i x d H3 Q' hx hd sm3 hacc hQ => ?_) (fun H3 ys sm3 hD hA => ?_)⟩
    · rw [List.getElem?_map] at hd
      obtain ⟨r, hr, rfl⟩ := Option.map_eq_some_iff.mp hd
      obtain ⟨t, wy, ht, hT, hW⟩ := hGr i r hr
      rw [hx] at ht
      cases ht
      obtain ⟨acc, hacc⟩ := hacc
      refine ⟨t, _, rfl, same_sqt sm3 hT, rfl, _, _, rfl, _, _, rfl, _, _, rfl, rfl, rfl, _, rfl, _, rfl, _, rfl, wy, _, rfl, .inl (sm3.seq hW), fun l nl => ⟨(by show 3 ≤ sizeLine; decide), fun T nT => hQ _ _ ((same_upd nl).trans (same_upd nT)) ?_⟩⟩
      have lD : l ≠ D := (ne_of_none hacc nl).symm
      have lT : l ≠ T := fun e => by
        rw [← e, upd_same] at nT
        cases nT
      have TD : T ≠ D := fun e => by
        rw [e, upd_ne lD.symm, hacc] at nT
        cases nT
      exact .tup (.inl (.inl (by rw [wo_ne TD, upd_same]))) (.cons (.int _) (.cons (.int _) (.cons (.lst (.inl (.inl (by rw [wo_ne lD, upd_ne lT, upd_same]))) (dpa_ints' _)) .nil)))
    · exact q _ _ sm3 (.lst (.inl (.inl hD)) (dp_monoAll (wo_sub _ _) _ _ hA))
end
end G

namespace G
open PySem PySem.Spec PyProof.Rows L2
abbrev s__law_word : Stmt := topS 27
theorem sc__law_word : FnScope ["_law_e", "_law_kinds"] ["_law_e"] (defScope s__law_word) := ⟨rfl, rfl, rfl, by decide +kernel, rfl, by decide +kernel, by decide +kernel⟩
/-! ### xs.count(y) of flat things -/
theorem count_eqU {x : V} : ∀ {xs : List V} {us : List Value}, Vals xs us → xs.all flatV = true → us.countP (eqU x) = xs.countP fun y => eqV y x
  | [], _, .nil, _ => rfl
  | y :: xs, u :: us, .cons r t, f => by
    rw [List.all_cons, Bool.and_eq_true] at f
    rw [List.countP_cons, List.countP_cons, eqU_of r f.1, count_eqU t f.2]
def rCntF (K : PySem.W.Frag) : V → List V → Hp → VK → Prop := fun x xs H Q => ∃ (p : Addr) (ys : List V) (y : V), x = .ref p ∧ xs = [y] ∧ SqL K H p ys ∧ flatV y = true ∧ ys.all flatV = true ∧ Q (.int (ys.countP fun z => eqV z y : Nat)) H
theorem mt_countF {X : Cx} : MtR X "list.count" (rCntF X.K) := by
  intro pins s σ H x xs v us Q I rx rxs h
  obtain ⟨p, ys, y, rfl, rfl, hs, fy, fys, q⟩ := h
  cases rx
  obtain ⟨u, rfl, ru⟩ := rxs.one
  obtain ⟨its, rv, ⟨⟨cls, dd, data, sl⟩, n, ho, hc, hdn, hd⟩, hlen⟩ := I.list hs
  simp only at hc hd
  subst hc hd
  refine call_meets PySem.F.slot_list_count ⟨_, ho, rfl⟩ PySem.F.entry_list_count (PySem.F.args_list_count_2 _ _) (SeqAt.list_countAt p its.toArray n dd sl u (eqU y)) ⟨ho, fun z hz => mem_eqAt ru fy rv fys z (by simpa using hz), ?_⟩
  refine ⟨.int (ys.countP fun z => eqV z y : Nat), H, I.tok _, ⟨s.toks, ?_⟩, q⟩
  show Value.int ((its.toArray.toList.countP (eqU y) : Nat) : Int) s.toks = _
  rw [show its.toArray.toList = its by simp, count_eqU rv fys]
/-! ### classes -/
structure Tx (K : PySem.W.Frag) (mg : Str → Option Value) (A : Ads) : Prop where
  g_BadGame : mg "BadGame" = some (.ref A.BadGame)
  g_BadSteps : mg "BadSteps" = some (.ref A.BadSteps)
  g_BadPlace : mg "BadPlace" = some (.ref A.BadPlace)
  g_BadPlayer : mg "BadPlayer" = some (.ref A.BadPlayer)
  g_TooMany : mg "TooMany" = some (.ref A.TooMany)
  g_GongError : mg "GongError" = some (.ref A.GongError)
/-- the class at D is the k-th of: game, player, place, steps, many -/
structure ErrKind (K : PySem.W.Frag) (A : Ads) (D : Addr) (k : Nat) : Prop where
  xc : ExcC K D
  k0 : PySem.W.kitOne K (.ref D) (.ref A.BadGame) = some (k == 0)
  k1 : PySem.W.kitOne K (.ref D) (.ref A.BadPlayer) = some (k == 1)
  k2 : PySem.W.kitOne K (.ref D) (.ref A.BadPlace) = some (k == 2)
  k3 : PySem.W.kitOne K (.ref D) (.ref A.BadSteps) = some (k == 3)
  k4 : PySem.W.kitOne K (.ref D) (.ref A.TooMany) = some (k == 4)
  ve : PySem.W.kitOne K (.ref D) (.type "ValueError") = some true
def wordOf : Nat → Str
  | 0 => "game" | 1 => "player" | 2 => "place" | 3 => "steps" | _ => "many"
section
variable {P : Program} {w : World} {K : PySem.W.Frag} {mg : Str → Option Value} {base : Heap}
def spWord (K : PySem.W.Frag) (A : Ads) : Sp := fun vs H Q _ => ∃ v : V, vs = [v] ∧ ((v = .non ∧ Q (.str "none") H) ∨ ∃ (a D : Addr) (d : Option Addr) (k : Nat), v = .ref a ∧ H a = some (exH a (.ref D) d) ∧ DictOk H d ∧ ErrKind K A D k ∧ k < 5 ∧ ∀ H', Same H H' → Q (.str (wordOf k)) H')
theorem dictOk_mono {H H' : Hp} {d : Option Addr} (s : Same H H') (h : DictOk H d) : DictOk H' d := by
  cases d with
  | none => trivial
  | some dd =>
    obtain ⟨fs, h⟩ := h
    exact ⟨fs, s _ _ h⟩
theorem ok_law_word {f : Addr} {fd : FuncData} {A : Ads} (B : Bt mg) (T : Tx K mg A) (F : Fun K "_law_word" "_law_word" s__law_word f fd) : FnOk P w K mg base (L2.CX P w) 1 f fd ["_law_e"] (spWord K A) := by
  refine F.okX sc__law_word (fun vs H Q E h => ?_) (fun cdv Ar outer s H vs Q E hr h => ?_)
  · obtain ⟨v, rfl, _⟩ := h
    rfl
  · obtain ⟨v, rfl, h⟩ := h
    refine ⟨_, (pss_cons (ps_if (pt_cmpR op_isN (pv 0) pe_non (nomark _)) (pss_one (ps_ret pe_str)) pss_nil)
      (pss_cons (ps_set (i := 1) sc__law_word.nd rfl (Or.inl rfl) (pe_lst (pa_cons (pe_callB call_isX (by rfl) B.isinstance_ (by decide +kernel) (pa_cons (pv 0) (pa_cons (pe_glob (v := .ref A.BadGame) (by rfl) T.g_BadGame rfl) pa_nil))) (pa_cons (pe_callB call_isX (by rfl) B.isinstance_ (by decide +kernel) (pa_cons (pv 0) (pa_cons (pe_glob (v := .ref A.BadPlayer) (by rfl) T.g_BadPlayer rfl) pa_nil))) (pa_cons (pe_callB call_isX (by rfl) B.isinstance_ (by decide +kernel) (pa_cons (pv 0) (pa_cons (pe_glob (v := .ref A.BadPlace) (by rfl) T.g_BadPlace rfl) pa_nil))) pa_nil)))))
      (pss_cons (ps_set (i := 1) sc__law_word.nd rfl (Or.inl rfl) (pe_op op_cat (pv 1) (pe_lst (pa_cons (pe_callB call_isX (by rfl) B.isinstance_ (by decide +kernel) (pa_cons (pv 0) (pa_cons (pe_glob (v := .ref A.BadSteps) (by rfl) T.g_BadSteps rfl) pa_nil))) (pa_cons (pe_callB call_isX (by rfl) B.isinstance_ (by decide +kernel) (pa_cons (pv 0) (pa_cons (pe_glob (v := .ref A.TooMany) (by rfl) T.g_TooMany rfl) pa_nil))) pa_nil)))))
      (pss_cons (ps_if (PW.pt (pw_or (pt_cmpR op_ne (pe_bm PySem.F.plainAttrs_list PySem.F.slot_list_count PySem.F.type_list_count mt_countF (pv 1) (pa_cons pe_bl pa_nil)) pe_int (nomark _)) (pw_or1 (pt_not (pt_val (pe_callB call_isX (by rfl) B.isinstance_ (by decide +kernel) (pa_cons (pv 0) (pa_cons (pe_bltn (v := .ty "ValueError") (u := .type "ValueError") (by rfl) B.ValueError_ (by decide +kernel) rfl) pa_nil)))))))) (pss_one (ps_ret pe_str)) pss_nil)
      (pss_one (ps_ret (pe_ix ix_list (pe_lst (pa_cons pe_str (pa_cons pe_str (pa_cons pe_str (pa_cons pe_str (pa_cons pe_str pa_nil)))))) (pe_bm PySem.F.plainAttrs_list PySem.F.slot_list_index PySem.F.type_list_index mt_index (pv 1) (pa_cons pe_bl pa_nil)) (fun _ _ => rfl)))))))), ?_⟩
    rcases h with ⟨rfl, q⟩ | ⟨a, D, d, k, rfl, ea, hd, X, hk, q⟩
    · exact ⟨_, rfl, rfl, _, rfl, iteT q⟩
    · refine ⟨_, rfl, rfl, _, rfl, iteF ?_⟩
      -- kinds = [.., .., ..]
      refine ⟨_, rfl, a, D, d, _, _, _, rfl, X.xc, ea, hd, .own _, X.k0, _, rfl, a, D, d, _, _, _, rfl, X.xc, ea, hd, .own _, X.k1, _, rfl, a, D, d, _, _, _, rfl, X.xc, ea, hd, .own _, X.k2, (by show 3 ≤ sizeLine; decide), fun l1 n1 => ?_⟩
      have s1 : Same H (upd H l1 (.lst [.bl (k == 0), .bl (k == 1), .bl (k == 2)])) := same_upd n1
      -- kinds = kinds + [.., ..]
      refine ⟨_, rfl, _, rfl, a, D, d, _, _, _, rfl, X.xc, s1 _ _ ea, dictOk_mono s1 hd, .own _, X.k3, _, rfl, a, D, d, _, _, _, rfl, X.xc, s1 _ _ ea, dictOk_mono s1 hd, .own _, X.k4, (by show 2 ≤ sizeLine; decide), fun l2 n2 => ?_⟩
      have s2 := s1.trans (same_upd (o := .lst [.bl (k == 3), .bl (k == 4)]) n2)
      have l12 : l1 ≠ l2 := fun e => by
        rw [← e, upd_same] at n2
        cases n2
      refine ⟨l1, l2, _, _, rfl, rfl, by rw [upd_ne l12, upd_same], upd_same, (by show 5 ≤ sizeLine; decide), fun l3 n3 => ?_⟩
      have s3 := s2.trans (same_upd (o := .lst ([.bl (k == 0), .bl (k == 1), .bl (k == 2)] ++ [.bl (k == 3), .bl (k == 4)])) n3)
      have hfl : ([.bl (k == 0), .bl (k == 1), .bl (k == 2)] ++ [.bl (k == 3), .bl (k == 4)] : List V).all flatV = true := rfl
      refine ⟨.ref l3, rfl, .inl ⟨rfl, _, .inl (.inl upd_same)⟩, l3, _, _, rfl, rfl, .inl (.inl upd_same), rfl, hfl, rfl, _, rfl, ?_⟩
      have hcnt : (([.bl (k == 0), .bl (k == 1), .bl (k == 2)] ++ [.bl (k == 3), .bl (k == 4)] : List V).countP fun z => eqV z (.bl true)) = 1 := by
        have : k = 0 ∨ k = 1 ∨ k = 2 ∨ k = 3 ∨ k = 4 := by omega
        rcases this with rfl | rfl | rfl | rfl | rfl <;> rfl
      rw [hcnt]
      refine iteF ⟨_, rfl, a, D, d, _, _, _, rfl, X.xc, s3 _ _ ea, dictOk_mono s3 hd, .ty _, X.ve, _, rfl, iteF ?_⟩
      -- the word
      refine ⟨(by show 5 ≤ sizeLine; decide), fun l4 n4 => ?_⟩
      have s4 := s3.trans (same_upd (o := .lst [.str "game", .str "player", .str "place", .str "steps", .str "many"]) n4)
      have l34 : l3 ≠ l4 := fun e => by
        rw [← e, upd_same] at n4
        cases n4
      have q' := q _ s4
      have hl3 : ∀ xs, (upd (upd (upd (upd H l1 (.lst [.bl (k == 0), .bl (k == 1), .bl (k == 2)])) l2 (.lst [.bl (k == 3), .bl (k == 4)])) l3 (.lst ([.bl (k == 0), .bl (k == 1), .bl (k == 2)] ++ [.bl (k == 3), .bl (k == 4)]))) l4 (.lst xs)) l3 = some (.lst ([.bl (k == 0), .bl (k == 1), .bl (k == 2)] ++ [.bl (k == 3), .bl (k == 4)])) := fun xs => by rw [upd_ne l34, upd_same]
      refine ⟨.ref l3, rfl, .inl ⟨rfl, _, .inl (.inl (hl3 _))⟩, l3, _, .bl true, k, .bl true, rfl, rfl, .inl (.inl (hl3 _)), rfl, hfl, ?_, rfl, ?_, l4, _, _, .str (wordOf k), rfl, rfl, .inl (.inl upd_same), ?_, q'⟩
      · have : k = 0 ∨ k = 1 ∨ k = 2 ∨ k = 3 ∨ k = 4 := by omega
        rcases this with rfl | rfl | rfl | rfl | rfl <;> rfl
      · intro m z' hm hz
        have : k = 0 ∨ k = 1 ∨ k = 2 ∨ k = 3 ∨ k = 4 := by omega
        have hm5 : m = 0 ∨ m = 1 ∨ m = 2 ∨ m = 3 := by omega
        rcases this with rfl | rfl | rfl | rfl | rfl <;> rcases hm5 with rfl | rfl | rfl | rfl <;> first | omega | (cases hz; rfl)
      · have : k = 0 ∨ k = 1 ∨ k = 2 ∨ k = 3 ∨ k = 4 := by omega
        rcases this with rfl | rfl | rfl | rfl | rfl <;> exact atI_nat rfl
end
end G

namespace PG
open Relation
structure Gm where
  own : Int → Int
  num : Int → Int
  way : Int → Int → Prop
def Gm.Ed (G : Gm) (i : Int) (f : Int → Int) (p q : Int) : Prop := (G.own p = i → q = f p) ∧ (G.own p ≠ i → G.way p q)
def Gm.sub (G : Gm) (V : Int → Prop) : Gm := ⟨G.own, G.num, fun p q => G.way p q ∧ V p ∧ V q⟩
def Lp (G : Gm) (i : Int) (f : Int → Int) (W : Int → Prop) (v p q : Int) : Prop := W p ∧ G.Ed i f p q ∧ G.num p ≤ G.num v
structure Good (G : Gm) (i : Int) (W : Int → Prop) (f : Int → Int) : Prop where
  step : ∀ p, W p → G.own p = i → G.way p (f p)
  stay : ∀ p q, W p → G.Ed i f p q → W q
  ring : ∀ v, W v → TransGen (Lp G i f W v) v v → G.num v % 2 = i
theorem tg_mono {r s : Int → Int → Prop} (h : ∀ p q, r p q → s p q) {a b : Int} (t : TransGen r a b) : TransGen s a b := by
  induction t with
  | single e => exact .single (h _ _ e)
  | tail _ e ih => exact .tail ih (h _ _ e)
/- what holds at the first and goes over holds along -/
theorem tg_along {r : Int → Int → Prop} {S : Int → Prop} (h : ∀ p q, S p → r p q → S q) {a b : Int} (ha : S a) (t : TransGen r a b) : S b ∧ TransGen (fun p q => S p ∧ r p q) a b := by
  induction t with
  | single e => exact ⟨h _ _ ha e, .single ⟨ha, e⟩⟩
  | tail _ e ih => exact ⟨h _ _ ih.1 e, .tail ih.2 ⟨ih.1, e⟩⟩
/- once in a closed set, for ever in it: a ring from without stays without -/
theorem tg_out {r : Int → Int → Prop} {S : Int → Prop} (h : ∀ p q, S p → r p q → S q) {a b : Int} (hb : ¬ S b) (t : TransGen r a b) : ¬ S a ∧ TransGen (fun p q => ¬ S p ∧ ¬ S q ∧ r p q) a b := by
  have key : ∀ {a b : Int}, TransGen r a b → ¬ S b → ¬ S a ∧ TransGen (fun p q => ¬ S p ∧ ¬ S q ∧ r p q) a b := by
    intro a b t
    induction t with
    | single e => exact fun hb => ⟨fun ha => hb (h _ _ ha e), .single ⟨fun ha => hb (h _ _ ha e), hb, e⟩⟩
    | tail _ e ih =>
      intro hb
      have hm := fun ha => hb (h _ _ ha e)
      have := ih hm
      exact ⟨this.1, .tail this.2 ⟨hm, hb, e⟩⟩
  exact key t hb
theorem tg_rank {r : Int → Int → Prop} {k : Int → Nat} (h : ∀ p q, r p q → k q < k p) {a b : Int} (t : TransGen r a b) : k b < k a := by
  induction t with
  | single e => exact h _ _ e
  | tail _ e ih => exact Nat.lt_trans (h _ _ e) ih
theorem ed_congr {G : Gm} {i : Int} {f g : Int → Int} {p q : Int} (h : f p = g p) (e : G.Ed i f p q) : G.Ed i g p q := ⟨fun o => (e.1 o).trans h, e.2⟩
theorem Good.congr {G : Gm} {i : Int} {W : Int → Prop} {f g : Int → Int} (h : Good G i W f) (e : ∀ p, W p → G.own p = i → f p = g p) : Good G i W g := by
  have e' : ∀ p q, W p → G.Ed i g p q → G.Ed i f p q := fun p q hp hq => ⟨fun o => (hq.1 o).trans (e p hp o).symm, hq.2⟩
  exact ⟨fun p hp o => e p hp o ▸ h.step p hp o, fun p q hp hq => h.stay p q hp (e' p q hp hq),
    fun v hv t => h.ring v hv (tg_mono (fun p q z => ⟨z.1, e' p q z.1 z.2.1, z.2.2⟩) t)⟩
theorem Good.iff {G : Gm} {i : Int} {W W' : Int → Prop} {f : Int → Int} (h : Good G i W f) (e : ∀ p, W p ↔ W' p) : Good G i W' f := by
  have : W = W' := funext fun p => propext (e p)
  exact this ▸ h
/- two layers: what goes from M goes to M or to L -/
theorem Good.union {G : Gm} {i : Int} {L M : Int → Prop} {f : Int → Int} (hL : Good G i L f) (hs : ∀ p, M p → G.own p = i → G.way p (f p)) (hc : ∀ p q, M p → G.Ed i f p q → M q ∨ L q)
    (hr : ∀ v, M v → TransGen (Lp G i f M v) v v → G.num v % 2 = i) : Good G i (fun p => M p ∨ L p) f := by
  refine ⟨fun p hp o => hp.elim (hs p · o) (hL.step p · o), fun p q hp e => hp.elim (hc p q · e) (fun h => .inr (hL.stay p q h e)), fun v hv t => ?_⟩
  have cl : ∀ p q, L p → Lp G i f (fun p => M p ∨ L p) v p q → L q := fun p q hp z => hL.stay p q hp z.2.1
  by_cases h : L v
  · exact hL.ring v h (tg_mono (fun p q z => ⟨z.1, z.2.2.1, z.2.2.2⟩) (tg_along cl h t).2)
  · have hm : M v := hv.resolve_right h
    exact hr v hm (tg_mono (fun p q z => ⟨z.2.2.1.resolve_right z.1, z.2.2.2.1, z.2.2.2.2⟩) (tg_out cl h t).2)
/- led to T within A, by ranks -/
structure Attr (G : Gm) (i : Int) (T A : Int → Prop) (f : Int → Int) (k : Int → Nat) : Prop where
  sup : ∀ p, T p → A p
  own : ∀ p, A p → ¬ T p → G.own p = i → G.way p (f p) ∧ A (f p) ∧ k (f p) < k p
  oth : ∀ p, A p → ¬ T p → G.own p ≠ i → ∀ q, G.way p q → A q ∧ k q < k p
structure Full (G : Gm) (V : Int → Prop) (i : Int) (A : Int → Prop) : Prop where
  own : ∀ p q, V p → ¬ A p → G.own p = i → G.way p q → ¬ A q
  oth : ∀ p, V p → ¬ A p → G.own p ≠ i → ∃ q, G.way p q ∧ ¬ A q
theorem Attr.ed {G : Gm} {i : Int} {T A : Int → Prop} {f : Int → Int} {k : Int → Nat} (h : Attr G i T A f k) {p q : Int} (hp : A p) (hn : ¬ T p) (e : G.Ed i f p q) : A q ∧ k q < k p := by
  by_cases o : G.own p = i
  · rw [e.1 o]; exact (h.own p hp hn o).2
  · exact h.oth p hp hn o q (e.2 o)
theorem Attr.good {G : Gm} {i : Int} {T A : Int → Prop} {f : Int → Int} {k : Int → Nat} (h : Attr G i T A f k) (hT : Good G i T f) : Good G i A f := by
  refine (Good.union (M := fun p => A p ∧ ¬ T p) hT (fun p hp o => (h.own p hp.1 hp.2 o).1) (fun p q hp e => ?_) (fun v hv t => ?_)).iff fun p => ⟨fun z => z.elim (·.1) (h.sup p), fun z => ?_⟩
  · by_cases hq : T q
    · exact .inr hq
    · exact .inl ⟨(h.ed hp.1 hp.2 e).1, hq⟩
  · exact absurd (tg_rank (k := k) (fun p q z => (h.ed z.1.1 z.1.2 z.2.1).2) t) (Nat.lt_irrefl _)
  · by_cases hz : T p
    · exact .inr hz
    · exact .inl ⟨z, hz⟩
/- what is good in a part from which the other one can't go out is good in the whole -/
theorem Good.lift {G : Gm} {V : Int → Prop} {i : Int} {W : Int → Prop} {f : Int → Int} (h : Good (G.sub V) i W f) (hW : ∀ p, W p → V p) (hv : ∀ p q, W p → G.own p ≠ i → G.way p q → V q) : Good G i W f := by
  have ed : ∀ p q, W p → G.Ed i f p q → (G.sub V).Ed i f p q := fun p q hp e => ⟨e.1, fun o => ⟨e.2 o, hW p hp, hv p q hp o (e.2 o)⟩⟩
  exact ⟨fun p hp o => (h.step p hp o).1, fun p q hp e => h.stay p q hp (ed p q hp e), fun v hv t => h.ring v hv (tg_mono (fun p q z => ⟨z.1, ed p q z.1 z.2.1, z.2.2⟩) t)⟩
/- what is good in the rest joins what is good for all -/
theorem Good.join {G : Gm} {V : Int → Prop} {i : Int} {W B : Int → Prop} {f : Int → Int} (h : Good (G.sub V) i W f) (hB : Good G i B f) (hW : ∀ p, W p → V p) (hv : ∀ p q, W p → G.own p ≠ i → G.way p q → V q ∨ B q) : Good G i (fun p => W p ∨ B p) f := by
  refine Good.union hB (fun p hp o => (h.step p hp o).1) (fun p q hp e => ?_) fun v hv' t => ?_
  · by_cases o : G.own p = i
    · exact .inl (h.stay p q hp ⟨e.1, fun z => absurd o z⟩)
    · exact (hv p q hp o (e.2 o)).imp_left fun z => h.stay p q hp ⟨e.1, fun _ => ⟨e.2 o, hW p hp, z⟩⟩
  · have nx : ∀ p q, W p → Lp G i f W v p q → W q → (G.sub V).Ed i f p q := fun p q hp z hq => ⟨z.2.1.1, fun o => ⟨z.2.1.2 o, hW p hp, hW q hq⟩⟩
    have key : ∀ {a b : Int}, TransGen (Lp G i f W v) a b → W b → TransGen (Lp (G.sub V) i f W v) a b := by
      intro a b t
      induction t with
      | single e => exact fun hb => .single ⟨e.1, nx _ _ e.1 e hb, e.2.2⟩
      | tail _ e ih => exact fun hb => .tail (ih e.1) ⟨e.1, nx _ _ e.1 e hb, e.2.2⟩
    exact h.ring v hv' (key t hv')
/- all of V: the greatest numbers are the player's, the rest is won -/
theorem Good.top {G : Gm} {V T A : Int → Prop} {i d : Int} {f : Int → Int} {k : Int → Nat} (hd : d % 2 = i) (hV : ∀ p q, V p → G.way p q → V q) (hn : ∀ p, V p → G.num p ≤ d) (hA : ∀ p, A p → V p) (hT : ∀ p, T p → G.num p = d)
    (ha : Attr G i T A f k) (ht : ∀ p, T p → G.own p = i → G.way p (f p)) (h : Good (G.sub fun p => V p ∧ ¬ A p) i (fun p => V p ∧ ¬ A p) f) : Good G i V f := by
  have st : ∀ p, V p → G.own p = i → G.way p (f p) := fun p hp o => by
    by_cases a : A p
    · by_cases t : T p
      · exact ht p t o
      · exact (ha.own p a t o).1
    · exact (h.step p ⟨hp, a⟩ o).1
  have sy : ∀ p q, V p → G.Ed i f p q → V q := fun p q hp e => by
    by_cases o : G.own p = i
    · rw [e.1 o]; exact hV p _ hp (st p hp o)
    · exact hV p q hp (e.2 o)
  refine ⟨st, sy, fun v hv t => ?_⟩
  by_cases hvd : G.num v = d
  · rw [hvd]; exact hd
  · have hlt : G.num v < d := Int.lt_iff_le_and_ne.mpr ⟨hn v hv, hvd⟩
    have nT : ∀ p q, Lp G i f V v p q → ¬ T p := fun p q z tp => by have := hT p tp; have := z.2.2; omega
    have cl : ∀ p q, A p → Lp G i f V v p q → A q := fun p q hp z => (ha.ed hp (nT p q z) z.2.1).1
    by_cases a : A v
    · exact absurd (tg_rank (k := k) (fun p q z => (ha.ed z.1 (nT p q z.2) z.2.2.1).2) (tg_along cl a t).2) (Nat.lt_irrefl _)
    · exact h.ring v ⟨hv, a⟩ (tg_mono (fun p q z => ⟨⟨z.2.2.1, z.1⟩, ⟨z.2.2.2.1.1, fun o => ⟨z.2.2.2.1.2 o, ⟨z.2.2.1, z.1⟩, ⟨sy p q z.2.2.1 z.2.2.2.1, z.2.1⟩⟩⟩, z.2.2.2.2⟩) (tg_out cl a t).2)
end PG

namespace PG
open Relation
def it (f : Int → Int) : Nat → Int → Int
  | 0, x => x
  | k + 1, x => f (it f k x)
theorem it_add (f : Int → Int) (a : Nat) (x : Int) : ∀ b, it f (b + a) x = it f b (it f a x)
  | 0 => by rw [Nat.zero_add]; rfl
  | b + 1 => by rw [Nat.succ_add]; exact congrArg f (it_add f a x b)
theorem it_mem {f : Int → Int} {W : Int → Prop} (h : ∀ p, W p → W (f p)) {x : Int} (hx : W x) : ∀ k, W (it f k x)
  | 0 => hx
  | k + 1 => h _ (it_mem h hx k)
theorem it_per {f : Int → Int} {x : Int} {k : Nat} (hk : it f k x = x) : ∀ m, it f (m * k) x = x
  | 0 => by rw [Nat.zero_mul]; rfl
  | m + 1 => by rw [Nat.succ_mul, it_add, hk]; exact it_per hk m
theorem it_mod {f : Int → Int} {x : Int} {k : Nat} (hk : it f k x = x) (m : Nat) : it f m x = it f (m % k) x := by
  have := it_add f (m / k * k) x (m % k)
  rw [it_per hk, Nat.mod_add_div' m k] at this
  exact this
/- a greatest one among the first k -/
theorem top_of (F : Nat → Int) : ∀ k, 0 < k → ∃ a, a < k ∧ ∀ m, m < k → F m ≤ F a
  | 1, _ => ⟨0, Nat.one_pos, fun m hm => by have : m = 0 := by omega
                                            rw [this]; exact Int.le_refl _⟩
  | k + 2, _ => by
    obtain ⟨a, ha, h⟩ := top_of F (k + 1) (Nat.succ_pos _)
    by_cases e : F a ≤ F (k + 1)
    · exact ⟨k + 1, by omega, fun m hm => by
        by_cases hm' : m < k + 1
        · exact Int.le_trans (h m hm') e
        · have : m = k + 1 := by omega
          rw [this]; exact Int.le_refl _⟩
    · exact ⟨a, by omega, fun m hm => by
        by_cases hm' : m < k + 1
        · exact h m hm'
        · have : m = k + 1 := by omega
          rw [this]; omega⟩
theorem tg_it {f : Int → Int} {r : Int → Int → Prop} {x : Int} (h : ∀ m, r (it f m x) (f (it f m x))) : ∀ k, TransGen r x (it f (k + 1) x)
  | 0 => .single (h 0)
  | k + 1 => .tail (tg_it h k) (h (k + 1))
/- the greatest number of a ring gone round by such steps is the player's -/
theorem Good.wins {G : Gm} {i : Int} {W : Int → Prop} {f g : Int → Int} (h : Good G i W f) (hg : ∀ p, W p → G.Ed i f p (g p)) {x : Int} (hx : W x) {k : Nat} (hk : it g (k + 1) x = x) {v : Int} (hv : ∃ a, v = it g a x) (ht : ∀ m, G.num (it g m x) ≤ G.num v) : G.num v % 2 = i := by
  obtain ⟨a, rfl⟩ := hv
  have inW := it_mem (f := g) (W := W) (fun p hp => h.stay p _ hp (hg p hp)) hx
  have per : it g (k + 1) (it g a x) = it g a x := by rw [← it_add, Nat.add_comm, it_add, hk]
  refine h.ring _ (inW a) ?_
  have := tg_it (f := g) (r := Lp G i f W (it g a x)) (x := it g a x) (fun m => by rw [← it_add]; exact ⟨inW _, hg _ (inW _), ht _⟩) k
  rw [per] at this
  exact this
/- pigeons: among so many places two are alike -/
theorem pig (n : Nat) (F : Nat → Int) (h : ∀ m, 0 ≤ F m ∧ F m < (n : Int)) : ∃ a b, a < b ∧ F a = F b := by
  have key : ∀ (n : Nat) (L : List Int), L.Nodup → (∀ y ∈ L, 0 ≤ y ∧ y < (n : Int)) → L.length ≤ n := by
    intro n
    induction n with
    | zero =>
      intro L hL hb
      cases L with
      | nil => exact Nat.le_refl _
      | cons y ys => have := hb y (List.mem_cons_self ..); omega
    | succ n ih =>
      intro L hL hb
      by_cases hm : (n : Int) ∈ L
      · have hl := List.length_erase_of_mem hm
        have h0 := List.length_pos_of_mem hm
        have := ih (L.erase n) (hL.erase _) (fun y hy => by
          have hy' := hL.mem_erase_iff.mp hy
          have := hb y hy'.2
          have h1 := hy'.1
          omega)
        omega
      · have := ih L hL (fun y hy => by
          have := hb y hy
          have : y ≠ (n : Int) := fun e => hm (e ▸ hy)
          omega)
        omega
  apply Classical.byContradiction
  intro hno
  have inj : ∀ a b, F a = F b → a = b := fun a b e => by
    rcases Nat.lt_trichotomy a b with h | h | h
    · exact absurd ⟨a, b, h, e⟩ hno
    · exact h
    · exact absurd ⟨b, a, h, e.symm⟩ hno
  have nd : ((List.range (n + 1)).map F).Nodup := by
    rw [List.nodup_iff_pairwise_ne, List.pairwise_map]
    exact (List.nodup_iff_pairwise_ne.mp List.nodup_range).imp fun hne e => hne (inj _ _ e)
  have := key n _ nd (fun y hy => by
    obtain ⟨m, _, rfl⟩ := List.mem_map.mp hy
    exact h m)
  rw [List.length_map, List.length_range] at this
  omega
/- both can't win from one place -/
theorem Good.disj {G : Gm} {n : Nat} {W0 W1 : Int → Prop} {f0 f1 : Int → Int} (h0 : Good G 0 W0 f0) (h1 : Good G 1 W1 f1) (hn : ∀ p, W0 p → 0 ≤ p ∧ p < (n : Int)) (ho : ∀ p, W0 p → G.own p = 0 ∨ G.own p = 1) {x : Int} (hx0 : W0 x) (hx1 : W1 x) : False := by
  let g : Int → Int := fun p => if G.own p = 0 then f0 p else f1 p
  have e0 : ∀ p, W0 p ∧ W1 p → G.Ed 0 f0 p (g p) := fun p hp => ⟨fun o => if_pos o, fun o => by
    have : g p = f1 p := if_neg o
    rw [this]
    exact h1.step p hp.2 ((ho p hp.1).resolve_left o)⟩
  have e1 : ∀ p, W0 p ∧ W1 p → G.Ed 1 f1 p (g p) := fun p hp => ⟨fun o => if_neg (by rw [o]; decide), fun o => by
    have o0 := (ho p hp.1).resolve_right o
    have : g p = f0 p := if_pos o0
    rw [this]
    exact h0.step p hp.1 o0⟩
  have cl : ∀ p, W0 p ∧ W1 p → W0 (g p) ∧ W1 (g p) := fun p hp => ⟨h0.stay p _ hp.1 (e0 p hp), h1.stay p _ hp.2 (e1 p hp)⟩
  have inB := it_mem (f := g) (W := fun p => W0 p ∧ W1 p) cl ⟨hx0, hx1⟩
  obtain ⟨a, b, hab, e⟩ := pig n (fun m => it g m x) fun m => hn _ (inB m).1
  have hk : it g (b - a - 1 + 1) (it g a x) = it g a x := by
    rw [← it_add, show b - a - 1 + 1 + a = b by omega]
    exact e.symm
  obtain ⟨c, hc, hm⟩ := top_of (fun m => G.num (it g m (it g a x))) (b - a - 1 + 1) (Nat.succ_pos _)
  have top : ∀ m, G.num (it g m (it g a x)) ≤ G.num (it g c (it g a x)) := fun m => by
    rw [it_mod hk m]
    exact hm _ (Nat.mod_lt _ (Nat.succ_pos _))
  have inC := it_mem (f := g) (W := fun p => W0 p ∧ W1 p) cl (inB a)
  have per : it g (b - a - 1 + 1) (it g c (it g a x)) = it g c (it g a x) := by rw [← it_add, Nat.add_comm, it_add, hk]
  have tp : ∀ m, G.num (it g m (it g c (it g a x))) ≤ G.num (it g c (it g a x)) := fun m => by rw [← it_add]; exact top _
  have w0 := h0.ring _ (inC c).1 (by
    have := tg_it (f := g) (r := Lp G 0 f0 W0 (it g c (it g a x))) (x := it g c (it g a x)) (fun m => ⟨(it_mem cl (inC c) m).1, e0 _ (it_mem (W := fun p => W0 p ∧ W1 p) cl (inC c) m), tp m⟩) (b - a - 1)
    rw [per] at this
    exact this)
  have w1 := h1.ring _ (inC c).2 (by
    have := tg_it (f := g) (r := Lp G 1 f1 W1 (it g c (it g a x))) (x := it g c (it g a x)) (fun m => ⟨(it_mem (W := fun p => W0 p ∧ W1 p) cl (inC c) m).2, e1 _ (it_mem (W := fun p => W0 p ∧ W1 p) cl (inC c) m), tp m⟩) (b - a - 1)
    rw [per] at this
    exact this)
  omega
end PG

namespace PG
open Relation
/- each ring has a place of its greatest number, from which it comes to itself by lesser ones -/
theorem tg_top {r : Int → Int → Prop} (num : Int → Int) {v : Int} (t : TransGen r v v) : ∃ u, num v ≤ num u ∧ (TransGen r v u ∧ TransGen r u v) ∧ TransGen (fun p q => r p q ∧ num p ≤ num u) u u := by
  have chain : ∀ {a b : Int}, TransGen r a b → ∃ F : Nat → Int, ∃ k, F 0 = a ∧ F (k + 1) = b ∧ ∀ m, m ≤ k → r (F m) (F (m + 1)) := by
    intro a b t
    induction t with
    | @single b e => exact ⟨fun m => if m = 0 then a else b, 0, rfl, rfl, fun m hm => by have : m = 0 := by omega
                                                                                         rw [this]; exact e⟩
    | @tail b c _ e ih =>
      obtain ⟨F, k, h0, h1, h2⟩ := ih
      refine ⟨fun m => if m ≤ k + 1 then F m else c, k + 1, by show (if 0 ≤ k + 1 then F 0 else c) = a; rw [if_pos (Nat.zero_le _)]; exact h0, if_neg (by omega), fun m hm => ?_⟩
      show r (if m ≤ k + 1 then F m else c) (if m + 1 ≤ k + 1 then F (m + 1) else c)
      by_cases hk : m ≤ k
      · rw [if_pos (by omega), if_pos (by omega)]; exact h2 m hk
      · have : m = k + 1 := by omega
        subst this; rw [if_pos (Nat.le_refl _), if_neg (by omega), h1]; exact e
  obtain ⟨F, k, h0, h1, h2⟩ := chain t
  obtain ⟨a, ha, ht⟩ := top_of (fun m => num (F m)) (k + 1) (Nat.succ_pos _)
  have seg : ∀ (s : Int → Int → Prop) (d b : Nat), (∀ m, b ≤ m → m ≤ b + d → s (F m) (F (m + 1))) → TransGen s (F b) (F (b + d + 1)) := by
    intro s d
    induction d with
    | zero => exact fun b h => .single (h b (Nat.le_refl _) (Nat.le_refl _))
    | succ d ih => exact fun b h => .tail (ih b fun m h0 h1 => h m h0 (by omega)) (h (b + d + 1) (by omega) (by omega))
  have go : ∀ (s : Int → Int → Prop), (∀ m, m ≤ k → s (F m) (F (m + 1))) → TransGen s (F a) v ∧ (0 < a → TransGen s v (F a)) := fun s h => by
    refine ⟨?_, fun h0' => ?_⟩
    · have := seg s (k - a) a fun m _ h' => h m (by omega)
      rw [show a + (k - a) + 1 = k + 1 by omega, h1] at this
      exact this
    · have := seg s (a - 1) 0 fun m _ h' => h m (by omega)
      rw [show 0 + (a - 1) + 1 = a by omega, h0] at this
      exact this
  have tp : ∀ m, m ≤ k → num (F m) ≤ num (F a) := fun m hm => ht m (by omega)
  have g1 := go r h2
  have g2 := go (fun p q => r p q ∧ num p ≤ num (F a)) fun m hm => ⟨h2 m hm, tp m hm⟩
  refine ⟨F a, by rw [← h0]; exact tp 0 (Nat.zero_le _), ?_, ?_⟩
  · by_cases hz : a = 0
    · rw [hz, h0]; exact ⟨t, t⟩
    · exact ⟨g1.2 (by omega), g1.1⟩
  · by_cases hz : a = 0
    · have := g2.1
      rw [hz, h0] at this ⊢
      exact this
    · exact g2.1.trans (g2.2 (by omega))
/- other numbers, in an order that the first keep, each of the same kind -/
theorem Good.renum {G : Gm} {i : Int} {W : Int → Prop} {f : Int → Int} (num' : Int → Int) (h : Good G i W f) (hm : ∀ p q, W p → W q → G.num p ≤ G.num q → num' p ≤ num' q) (hp : ∀ p, W p → num' p % 2 = G.num p % 2) : Good ⟨G.own, num', G.way⟩ i W f := by
  refine ⟨h.step, h.stay, fun v hv t => ?_⟩
  obtain ⟨u, hu, ⟨tv, _⟩, tu⟩ := tg_top G.num t
  have cl : ∀ p q, W p → Lp ⟨G.own, num', G.way⟩ i f W v p q → W q := fun p q hp z => h.stay p q hp z.2.1
  have wu : W u := (tg_along cl hv tv).1
  have le : num' u ≤ num' v := by
    have : ∀ {a b : Int}, TransGen (Lp ⟨G.own, num', G.way⟩ i f W v) a b → num' a ≤ num' v := fun t => by
      induction t with
      | single e => exact e.2.2
      | tail _ _ ih => exact ih
    obtain ⟨_, _, ⟨_, t'⟩, _⟩ := tg_top G.num t
    cases tu with
    | single e => exact e.1.2.2
    | tail t1 e =>
      exact this (tg_mono (fun p q z => z.1) (TransGen.tail t1 e))
  have e := hm v u hv wu hu
  have : num' u = num' v := by omega
  have := h.ring u wu (tg_mono (fun p q z => ⟨z.1.1, z.1.2.1, z.2⟩) tu)
  have := hp u wu
  have := hp v hv
  show num' v % 2 = i
  omega
/- the players exchanged, each number one more -/
theorem Good.turn {G : Gm} {i : Int} {W : Int → Prop} {f : Int → Int} (h : Good G i W f) (hi : i = 0 ∨ i = 1) : Good ⟨fun p => 1 - G.own p, fun p => G.num p + 1, G.way⟩ (1 - i) W f := by
  have ed : ∀ p q, Gm.Ed ⟨fun p => 1 - G.own p, fun p => G.num p + 1, G.way⟩ (1 - i) f p q → G.Ed i f p q := fun p q e => ⟨fun o => e.1 (show 1 - G.own p = 1 - i by omega), fun o => e.2 (show ¬ (1 - G.own p = 1 - i) by omega)⟩
  refine ⟨fun p hp o => h.step p hp (by have : 1 - G.own p = 1 - i := o
                                        omega), fun p q hp e => h.stay p q hp (ed p q e), fun v hv t => ?_⟩
  have := h.ring v hv (tg_mono (fun p q z => ⟨z.1, ed p q z.2.1, by have := z.2.2; have : G.num p + 1 ≤ G.num v + 1 := this; omega⟩) t)
  show (G.num v + 1) % 2 = 1 - i
  omega
/- places under other names -/
theorem Good.move {G G' : Gm} {i : Int} {W : Int → Prop} {f : Int → Int} (s t : Int → Int) (h : Good G i W f) (ts : ∀ p, W p → t (s p) = p) (ho : ∀ p, W p → G'.own (s p) = G.own p) (hn : ∀ p, W p → G'.num (s p) = G.num p) (hw : ∀ p q', W p → (G'.way (s p) q' ↔ ∃ q, q' = s q ∧ G.way p q)) :
    Good G' i (fun p' => ∃ p, W p ∧ p' = s p) (fun p' => s (f (t p'))) := by
  have ed : ∀ p q', W p → G'.Ed i (fun p' => s (f (t p'))) (s p) q' → ∃ q, q' = s q ∧ G.Ed i f p q := fun p q' hp e => by
    by_cases o : G.own p = i
    · exact ⟨f p, by have := e.1 ((ho p hp).trans o); rw [this]; show s (f (t (s p))) = s (f p); rw [ts p hp], fun _ => rfl, fun z => absurd o z⟩
    · obtain ⟨q, e1, e2⟩ := (hw p q' hp).mp (e.2 (by rw [ho p hp]; exact o))
      exact ⟨q, e1, fun z => absurd z o, fun _ => e2⟩
  refine ⟨?_, ?_, ?_⟩
  · rintro _ ⟨p, hp, rfl⟩ o
    rw [ho p hp] at o
    exact (hw p _ hp).mpr ⟨f p, by show s (f (t (s p))) = s (f p); rw [ts p hp], h.step p hp o⟩
  · rintro _ q' ⟨p, hp, rfl⟩ e
    obtain ⟨q, rfl, e'⟩ := ed p q' hp e
    exact ⟨q, h.stay p q hp e', rfl⟩
  · rintro _ ⟨v, hv, rfl⟩ tt
    rw [hn v hv]
    have key : ∀ {a b : Int}, TransGen (Lp G' i (fun p' => s (f (t p'))) (fun p' => ∃ p, W p ∧ p' = s p) (s v)) a b → ∀ x, W x → a = s x → ∃ y, W y ∧ b = s y ∧ TransGen (Lp G i f W v) x y := by
      intro a b tt
      have one : ∀ a b, Lp G' i (fun p' => s (f (t p'))) (fun p' => ∃ p, W p ∧ p' = s p) (s v) a b → ∀ x, W x → a = s x → ∃ y, W y ∧ b = s y ∧ Lp G i f W v x y := by
        rintro _ b ⟨_, e, hle⟩ x hx rfl
        obtain ⟨y, rfl, e'⟩ := ed x b hx e
        rw [hn x hx, hn v hv] at hle
        exact ⟨y, h.stay x y hx e', rfl, hx, e', hle⟩
      induction tt with
      | single e => exact fun x hx ea => let ⟨y, hy, eb, z⟩ := one _ _ e x hx ea; ⟨y, hy, eb, .single z⟩
      | tail _ e ih =>
        intro x hx ea
        obtain ⟨y, hy, eb, z⟩ := ih x hx ea
        obtain ⟨y', hy', eb', z'⟩ := one _ _ e y hy eb
        exact ⟨y', hy', eb', .tail z z'⟩
    obtain ⟨y, hy, e, z⟩ := key tt v hv rfl
    have : y = v := by rw [← ts y hy, ← e, ts v hv]
    exact h.ring v hv (this ▸ z)
/- the winners are the same wherever each wins by steps without a flaw -/
theorem Good.same {G : Gm} {n : Nat} {W0 W1 V0 V1 : Int → Prop} {f0 f1 g0 g1 : Int → Int} (h0 : Good G 0 W0 f0) (h1 : Good G 1 W1 f1) (k0 : Good G 0 V0 g0) (k1 : Good G 1 V1 g1) (ho : ∀ p, 0 ≤ p → p < (n : Int) → G.own p = 0 ∨ G.own p = 1)
    (b0 : ∀ p, W0 p → 0 ≤ p ∧ p < (n : Int)) (c0 : ∀ p, V0 p → 0 ≤ p ∧ p < (n : Int)) (b1 : ∀ p, W1 p → 0 ≤ p ∧ p < (n : Int)) (c1 : ∀ p, V1 p → 0 ≤ p ∧ p < (n : Int)) (hW : ∀ p, 0 ≤ p → p < (n : Int) → W0 p ∨ W1 p) (hV : ∀ p, 0 ≤ p → p < (n : Int) → V0 p ∨ V1 p) :
    (∀ p, W0 p ↔ V0 p) ∧ ∀ p, W1 p ↔ V1 p := by
  have d1 : ∀ p, W0 p → V1 p → False := fun p a b => h0.disj k1 b0 (fun p hp => ho p (b0 p hp).1 (b0 p hp).2) a b
  have d2 : ∀ p, V0 p → W1 p → False := fun p a b => k0.disj h1 c0 (fun p hp => ho p (c0 p hp).1 (c0 p hp).2) a b
  exact ⟨fun p => ⟨fun a => (hV p (b0 p a).1 (b0 p a).2).resolve_right (d1 p a), fun a => (hW p (c0 p a).1 (c0 p a).2).resolve_right (d2 p a)⟩,
    fun p => ⟨fun a => (hV p (b1 p a).1 (b1 p a).2).resolve_left fun z => d2 p z a, fun a => (hW p (c1 p a).1 (c1 p a).2).resolve_left fun z => d1 p z a⟩⟩
end PG

namespace G
open PySem PySem.Spec PyProof.Rows L2 Relation
/-! ### steps, ways by steps; comprehensions that leave some out -/
def optV : Option Int → V
  | some x => .int x
  | none => .non
def ownAt (g : List Row) (p : Int) : Int := ((g[p.toNat]?).map Row.p).getD 0
def wsOf (g : List Row) (p : Int) : List Int := ((g[p.toNat]?).map Row.ws).getD []
def stepAt (ss : List (Option Int)) (p : Int) : Int := ((ss[p.toNat]?).getD none).getD 0
def edg (g : List Row) (i : Int) (ss : List (Option Int)) (p : Int) : List Int := if ownAt g p = i then [stepAt ss p] else wsOf g p
def gm (g : List Row) : PG.Gm := ⟨ownAt g, numAt g, fun p q => q ∈ wsOf g p⟩
theorem ed_edg {g : List Row} {i : Int} {ss : List (Option Int)} {p q : Int} : (gm g).Ed i (stepAt ss) p q ↔ q ∈ edg g i ss p := by
  unfold edg PG.Gm.Ed
  by_cases o : ownAt g p = i
  · rw [if_pos o, List.mem_singleton]
    exact ⟨fun h => h.1 o, fun h => ⟨fun _ => h, fun n => absurd o n⟩⟩
  · rw [if_neg o]
    exact ⟨fun h => h.2 o, fun h => ⟨fun z => absurd z o, fun _ => h⟩⟩
/-- the player's steps stand for some places -/
def StepsFor (g : List Row) (i : Int) (ss : List (Option Int)) (ps : List Int) : Prop := ss.length = g.length ∧ ∀ p ∈ ps, (0 ≤ p ∧ p < (g.length : Int)) ∧ (ownAt g p = i → ∃ s, ss[p.toNat]? = some (some s) ∧ s ∈ wsOf g p)
theorem StepsFor.sub {g : List Row} {i : Int} {ss : List (Option Int)} {ps qs : List Int} (h : StepsFor g i ss ps) (s : ∀ q ∈ qs, q ∈ ps) : StepsFor g i ss qs := ⟨h.1, fun q hq => h.2 q (s q hq)⟩
theorem row_at {g : List Row} {p : Int} (h : 0 ≤ p ∧ p < (g.length : Int)) : ∃ r, g[p.toNat]? = some r ∧ ownAt g p = r.p ∧ numAt g p = r.n ∧ wsOf g p = r.ws := by
  have hlt : p.toNat < g.length := by omega
  have e := List.getElem?_eq_getElem hlt
  refine ⟨_, e, ?_, ?_, ?_⟩
  · unfold ownAt; rw [e]; rfl
  · unfold numAt; rw [e]; rfl
  · unfold wsOf; rw [e]; rfl
/-- an if without else: what holds behind it, said once -/
theorem if_key {b : Bool} {tb : TS} {D : Ends} {σ : L2.St} {H : Hp} (Pm : L2.St → Hp → Prop) (h1 : b = true → (∀ σ' H', Pm σ' H' → D.nx σ' H') → tb D σ H) (h2 : b = false → Pm σ H) (key : ∀ σ' H', Pm σ' H' → D.nx σ' H') : if b = true then tb D σ H else D.nx σ H := by
  cases b with
  | true => exact h1 rfl key
  | false => exact key _ _ (h2 rfl)
theorem lc_keep {K : PySem.W.Frag} {a : Addr} {xs : List V} {g : TG} {tt : TT} {te : TE} {vs : List Nat} {σ : L2.St} {H1 : Hp} {D : Addr} {Qd : Hp → Prop} (f : V → Bool) (hS : SqL K H1 a xs) (nD : H1 D = none) (hz : xs.length ≤ 1000)
    (hs : ∀ (i : Nat) (x : V) (H : Hp) (Q : VK) (N : Hp → Prop), xs[i]? = some x → Same H1 H → (f x = true → ∀ H', Same H H' → Q x H') → (f x = false → ∀ H', Same H H' → N H') →
      g x (wipe σ vs) H fun σ2 H2 => wipe σ2 vs = wipe σ vs ∧ tt σ2 H2 fun b H3 => if b = true then te σ2 H3 Q else N H3)
    (hd : ∀ H, Same H1 H → H D = some (.lst (xs.filter f)) → Qd H) :
    ∃ W : Nat → Nat → Hp → Prop, (∃ m, W 0 m (upd H1 D (.lst []))) ∧ ∀ i m H, W i m H →
      ((Itl K a).stop i H ∧ Qd H) ∨ ((Itl K a).go i H ∧ ∃ Nx : Hp → Prop, (∀ H', Nx H' → ∃ m', m' < m ∧ W (i + 1) m' H') ∧ ∀ x H', (Itl K a).yld i H x H' → g x (wipe σ vs) H' fun σ2 H2 => wipe σ2 vs = wipe σ vs ∧ tt σ2 H2 fun b H3 =>
        if b = true then te σ2 H3 fun y H4 => ∃ acc, H4 D = some (.lst acc) ∧ acc.length < sizeLine ∧ Nx (upd H4 D (.lst (acc ++ [y]))) else Nx H3) := by
  refine lc_list (K := K) (a := a) (xs := xs) (fun i H => Same H1 H ∧ H D = some (.lst ((xs.take i).filter f))) ⟨same_upd nD, by rw [upd_same]; rfl⟩ (fun i H _ p => p.1.seq hS) (fun i x H hi p => ?_) (fun H p => hd H p.1 (by have q := p.2; rw [List.take_length] at q; exact q))
  have step : xs.take (i + 1) = xs.take i ++ [x] := by rw [List.take_add_one, hi]; rfl
  have le : ((xs.take i).filter f).length < sizeLine := small1000 (by
    have hlt := (List.getElem?_eq_some_iff.mp hi).1
    have := List.length_filter_le f (xs.take i)
    have := List.length_take_le i xs
    omega)
  refine hs i x H _ _ hi p.1 (fun hf H' s => ⟨_, s _ _ p.2, le, fun b o e => ?_, ?_⟩) (fun hf H' s => ⟨p.1.trans s, ?_⟩)
  · rw [upd_ne (ne_of_none e nD)]
    exact s _ _ (p.1 _ _ e)
  · rw [upd_same, step, List.filter_append, List.filter_cons_of_pos hf]
    rfl
  · rw [s _ _ p.2, step, List.filter_append, List.filter_cons_of_neg (by rw [hf]; decide), List.filter_nil, List.append_nil]
/-! ### rings whose greatest number is top -/
def LpT (g : List Row) (i : Int) (ss : List (Option Int)) (ps : List Int) (top : Int) (p q : Int) : Prop := p ∈ ps ∧ q ∈ edg g i ss p ∧ numAt g p ≤ top
def Loses (g : List Row) (i : Int) (ss : List (Option Int)) (ps : List Int) : Prop := ∃ v ∈ ps, numAt g v % 2 ≠ i ∧ TransGen (LpT g i ss ps (numAt g v)) v v
def intV (f : Int → Bool) : V → Bool
  | .int x => f x
  | _ => false
theorem filter_ints (f : Int → Bool) (ns : List Int) : (ns.map V.int).filter (intV f) = (ns.filter f).map V.int := by
  rw [List.filter_map]
  rfl
theorem eqv_ints : ∀ (xs ys : List Int), PyData.eqv (intsD xs) (intsD ys) = decide (xs = ys) := by
  intro xs ys
  by_cases e : xs = ys
  · rw [decide_eq_true e, e]
    exact SeqAt.eqv_refl _ (lay_ints ys)
  · rw [decide_eq_false e]
    have : ∀ (xs ys : List Int), xs ≠ ys → PyData.eqvAll (xs.map .int) (ys.map .int) = false := by
      intro xs
      induction xs with
      | nil => intro ys h; cases ys with
        | nil => exact absurd rfl h
        | cons y ys => rfl
      | cons x xs ih => intro ys h; cases ys with
        | nil => rfl
        | cons y ys =>
          show (x == y && PyData.eqvAll (xs.map .int) (ys.map .int)) = false
          by_cases z : x = y
          · rw [ih ys (fun w => h (by rw [z, w])), Bool.and_false]
          · rw [beq_false_of_ne z, Bool.false_and]
    exact this xs ys e
theorem tg_first {r : Int → Int → Prop} {a b : Int} (t : TransGen r a b) : ∃ y, r a y := by
  induction t with
  | single e => exact ⟨_, e⟩
  | tail _ _ ih => exact ih
end G

namespace PG
open Relation
/- whether a player leads from a place to some, within one step, and within so many -/
def ldB (own : Int → Int) (ws : Int → List Int) (A : List Int) (i : Int) (S : Int → Bool) (p : Int) : Bool :=
  if own p = i then (ws p).any S else ((ws p).filter fun q => decide (q ∈ A)).all S
def lay (own : Int → Int) (ws : Int → List Int) (A : List Int) (i : Int) (T : List Int) : Nat → Int → Bool
  | 0, p => decide (p ∈ T)
  | k + 1, p => lay own ws A i T k p || (decide (p ∈ A) && ldB own ws A i (lay own ws A i T k) p)
section
variable {own : Int → Int} {ws : Int → List Int} {A T : List Int} {i : Int}
theorem lay_succ {k : Nat} {p : Int} (h : lay own ws A i T k p = true) : lay own ws A i T (k + 1) p = true := by
  show (lay own ws A i T k p || _) = true
  rw [h, Bool.true_or]
theorem lay_le {k l : Nat} {p : Int} (hl : k ≤ l) (h : lay own ws A i T k p = true) : lay own ws A i T l p = true := by
  induction l with
  | zero => have : k = 0 := by omega
            rw [this] at h; exact h
  | succ l ih =>
    by_cases e : k ≤ l
    · exact lay_succ (ih e)
    · have : k = l + 1 := by omega
      rw [← this]; exact h
theorem lay_stable {k : Nat} (h : ∀ p, lay own ws A i T (k + 1) p = lay own ws A i T k p) : ∀ l, k ≤ l → lay own ws A i T l = lay own ws A i T k := by
  intro l
  induction l with
  | zero => intro hl; have : k = 0 := by omega
            rw [this]
  | succ l ih =>
    intro hl
    by_cases e : k ≤ l
    · have q := ih e
      funext p
      have z := h p
      show (lay own ws A i T l p || (decide (p ∈ A) && ldB own ws A i (lay own ws A i T l) p)) = _
      rw [q]
      exact z
    · have : k = l + 1 := by omega
      rw [this]
theorem least_of (P : Nat → Prop) : (∃ k, P k) → ∃ k, P k ∧ ∀ j, j < k → ¬ P j := by
  rintro ⟨k, hk⟩
  induction k using Nat.strongRecOn with
  | _ k ih =>
    by_cases e : ∃ j, j < k ∧ P j
    · obtain ⟨j, hj, hp⟩ := e
      exact ih j hj hp
    · exact ⟨k, hk, fun j hj hp => e ⟨j, hj, hp⟩⟩
/- the rounds of a place -/
theorem rank_ex (own : Int → Int) (ws : Int → List Int) (A : List Int) (i : Int) (T : List Int) : ∃ rk : Int → Nat, ∀ p, (∃ k, lay own ws A i T k p = true) → lay own ws A i T (rk p) p = true ∧ ∀ j, j < rk p → lay own ws A i T j p = false := by
  have : ∀ p, ∃ r, (∃ k, lay own ws A i T k p = true) → lay own ws A i T r p = true ∧ ∀ j, j < r → lay own ws A i T j p = false := fun p => by
    by_cases e : ∃ k, lay own ws A i T k p = true
    · obtain ⟨k, h1, h2⟩ := least_of _ e
      exact ⟨k, fun _ => ⟨h1, fun j hj => Bool.eq_false_iff.mpr (h2 j hj)⟩⟩
    · exact ⟨0, fun z => absurd z e⟩
  exact ⟨fun p => Classical.choose (this p), fun p => Classical.choose_spec (this p)⟩
def Rkd (own : Int → Int) (ws : Int → List Int) (A : List Int) (i : Int) (T : List Int) (rk : Int → Nat) : Prop :=
  ∀ p, (∃ k, lay own ws A i T k p = true) → lay own ws A i T (rk p) p = true ∧ ∀ j, j < rk p → lay own ws A i T j p = false
def Led (own : Int → Int) (ws : Int → List Int) (A : List Int) (i : Int) (T : List Int) (p : Int) : Prop := ∃ k, lay own ws A i T k p = true
theorem rk_le {rk : Int → Nat} (h : Rkd own ws A i T rk) {k : Nat} {p : Int} (e : lay own ws A i T k p = true) : rk p ≤ k := by
  by_cases z : rk p ≤ k
  · exact z
  · have := (h p ⟨k, e⟩).2 k (by omega)
    rw [e] at this
    cases this
theorem lay_in (hT : ∀ p ∈ T, p ∈ A) : ∀ {k : Nat} {p : Int}, lay own ws A i T k p = true → p ∈ A
  | 0, p, h => hT p (of_decide_eq_true h)
  | k + 1, p, h => by
    have h' : (lay own ws A i T k p || (decide (p ∈ A) && ldB own ws A i (lay own ws A i T k) p)) = true := h
    rw [Bool.or_eq_true, Bool.and_eq_true] at h'
    exact h'.elim (lay_in hT) fun z => of_decide_eq_true z.1
theorem rk_zero {rk : Int → Nat} (h : Rkd own ws A i T rk) {p : Int} (hp : Led own ws A i T p) : rk p = 0 ↔ p ∈ T := by
  constructor
  · intro e
    have := (h p hp).1
    rw [e] at this
    exact of_decide_eq_true this
  · intro e
    have : lay own ws A i T 0 p = true := decide_eq_true e
    have := rk_le h this
    omega
/- one round less -/
theorem rk_step {rk : Int → Nat} (h : Rkd own ws A i T rk) {p : Int} (hp : Led own ws A i T p) (hT : p ∉ T) : ∃ k, rk p = k + 1 ∧ p ∈ A ∧ ldB own ws A i (lay own ws A i T k) p = true := by
  obtain ⟨h1, h2⟩ := h p hp
  cases e : rk p with
  | zero => exact absurd ((rk_zero h hp).mp e) hT
  | succ k =>
    rw [e] at h1
    have h' : (lay own ws A i T k p || (decide (p ∈ A) && ldB own ws A i (lay own ws A i T k) p)) = true := h1
    rw [h2 k (by omega), Bool.false_or, Bool.and_eq_true] at h'
    exact ⟨k, rfl, of_decide_eq_true h'.1, h'.2⟩
theorem rk_own {rk : Int → Nat} (h : Rkd own ws A i T rk) {p : Int} (hp : Led own ws A i T p) (hT : p ∉ T) (o : own p = i) : ∃ q ∈ ws p, Led own ws A i T q ∧ rk q < rk p := by
  obtain ⟨k, e, _, hl⟩ := rk_step h hp hT
  unfold ldB at hl
  rw [if_pos o, List.any_eq_true] at hl
  obtain ⟨q, hq, hk⟩ := hl
  have := rk_le h hk
  exact ⟨q, hq, ⟨k, hk⟩, by omega⟩
theorem rk_oth {rk : Int → Nat} (h : Rkd own ws A i T rk) {p : Int} (hp : Led own ws A i T p) (hT : p ∉ T) (o : own p ≠ i) {q : Int} (hq : q ∈ ws p) (ha : q ∈ A) : Led own ws A i T q ∧ rk q < rk p := by
  obtain ⟨k, e, _, hl⟩ := rk_step h hp hT
  unfold ldB at hl
  rw [if_neg o, List.all_eq_true] at hl
  have hk := hl q (List.mem_filter.mpr ⟨hq, decide_eq_true ha⟩)
  have := rk_le h hk
  exact ⟨⟨k, hk⟩, by omega⟩
/- where the player doesn't lead -/
theorem led_own {p q : Int} (ha : p ∈ A) (hp : ¬ Led own ws A i T p) (o : own p = i) (hq : q ∈ ws p) : ¬ Led own ws A i T q := by
  rintro ⟨k, hk⟩
  refine hp ⟨k + 1, ?_⟩
  show (lay own ws A i T k p || (decide (p ∈ A) && ldB own ws A i (lay own ws A i T k) p)) = true
  have : ldB own ws A i (lay own ws A i T k) p = true := by
    unfold ldB
    rw [if_pos o, List.any_eq_true]
    exact ⟨q, hq, hk⟩
  rw [decide_eq_true ha, this, Bool.and_self, Bool.or_true]
theorem led_oth {p : Int} (ha : p ∈ A) (hp : ¬ Led own ws A i T p) (o : own p ≠ i) : ∃ q ∈ ws p, q ∈ A ∧ ¬ Led own ws A i T q := by
  apply Classical.byContradiction
  intro hn
  have key : ∀ l : List Int, (∀ q ∈ l, Led own ws A i T q) → ∃ k, ∀ q ∈ l, lay own ws A i T k q = true := by
    intro l
    induction l with
    | nil => exact fun _ => ⟨0, fun q hq => by cases hq⟩
    | cons x l ih =>
      intro h
      obtain ⟨k, hk⟩ := ih fun q hq => h q (List.mem_cons_of_mem _ hq)
      obtain ⟨j, hj⟩ := h x List.mem_cons_self
      refine ⟨k + j, fun q hq => ?_⟩
      rcases List.mem_cons.mp hq with e | e
      · rw [e]; exact lay_le (by omega) hj
      · exact lay_le (by omega) (hk q e)
  obtain ⟨k, hk⟩ := key ((ws p).filter fun q => decide (q ∈ A)) fun q hq => by
    obtain ⟨h1, h2⟩ := List.mem_filter.mp hq
    apply Classical.byContradiction
    intro z
    exact hn ⟨q, h1, of_decide_eq_true h2, z⟩
  refine hp ⟨k + 1, ?_⟩
  show (lay own ws A i T k p || (decide (p ∈ A) && ldB own ws A i (lay own ws A i T k) p)) = true
  have : ldB own ws A i (lay own ws A i T k) p = true := by
    unfold ldB
    rw [if_neg o, List.all_eq_true]
    exact hk
  rw [decide_eq_true ha, this, Bool.and_self, Bool.or_true]
end
/- the game of a part -/
def Tot (ws : Int → List Int) (A : List Int) : Prop := ∀ p ∈ A, ∃ q ∈ ws p, q ∈ A
def gmk (own num : Int → Int) (ws : Int → List Int) : Gm := ⟨own, num, fun p q => q ∈ ws p⟩
structure SolM (own num : Int → Int) (ws : Int → List Int) (A : List Int) (w : Int → Int) (s : Int → Option Int) : Prop where
  zo : ∀ p ∈ A, w p = 0 ∨ w p = 1
  has : ∀ p ∈ A, own p = w p → ∃ q, s p = some q
  oth : ∀ p ∈ A, own p ≠ w p → s p = none
  good : ∀ i, i = 0 ∨ i = 1 → Good ((gmk own num ws).sub fun p => p ∈ A) i (fun p => p ∈ A ∧ w p = i) (fun p => (s p).getD 0)
/- a step that leads on: to fewer rounds, or from rounds of 0 anywhere within -/
def LdStep (own : Int → Int) (ws : Int → List Int) (A : List Int) (i : Int) (T : List Int) (rk : Int → Nat) (p : Int) (o : Option Int) : Prop :=
  (own p ≠ i → o = none) ∧ (own p = i → ∃ q, o = some q ∧ q ∈ ws p ∧ (p ∈ T → q ∈ A) ∧ (p ∉ T → Led own ws A i T q ∧ rk q < rk p))
section
variable {own num : Int → Int} {ws : Int → List Int} {A B T : List Int} {i : Int} {rk : Int → Nat}
theorem tot_out (hA : Tot ws A) (hB : ∀ p, p ∈ B ↔ p ∈ A ∧ ¬ Led own ws A i T p) : Tot ws B := fun p hp => by
  obtain ⟨ha, hn⟩ := (hB p).mp hp
  by_cases o : own p = i
  · obtain ⟨q, hq, hqa⟩ := hA p ha
    exact ⟨q, hq, (hB q).mpr ⟨hqa, led_own ha hn o hq⟩⟩
  · obtain ⟨q, hq, hqa, hqn⟩ := led_oth ha hn o
    exact ⟨q, hq, (hB q).mpr ⟨hqa, hqn⟩⟩
theorem sub_sub {G : Gm} {V W : Int → Prop} (h : ∀ p, W p → V p) : (G.sub V).sub W = G.sub W := by
  unfold Gm.sub
  have : (fun p q => (G.way p q ∧ V p ∧ V q) ∧ W p ∧ W q) = fun p q => G.way p q ∧ W p ∧ W q := by
    funext p q
    exact propext ⟨fun z => ⟨z.1.1, z.2⟩, fun z => ⟨⟨z.1, h p z.2.1, h q z.2.2⟩, z.2⟩⟩
  show (⟨G.own, G.num, fun p q => (G.way p q ∧ V p ∧ V q) ∧ W p ∧ W q⟩ : Gm) = _
  rw [this]
theorem attr_of (hT : ∀ p ∈ T, p ∈ A) (hr : Rkd own ws A i T rk) {f : Int → Int} {s : Int → Option Int} (hs : ∀ p, Led own ws A i T p → p ∉ T → LdStep own ws A i T rk p (s p)) (hf : ∀ p, f p = (s p).getD 0) :
    Attr ((gmk own num ws).sub fun p => p ∈ A) i (fun p => p ∈ T) (fun p => Led own ws A i T p) f rk := by
  have inA : ∀ p, Led own ws A i T p → p ∈ A := fun p ⟨k, hk⟩ => lay_in hT hk
  refine ⟨fun p hp => ⟨0, decide_eq_true hp⟩, fun p hp hn o => ?_, fun p hp hn o q hq => ?_⟩
  · obtain ⟨q, e, hq, _, h2⟩ := (hs p hp hn).2 o
    have ef : f p = q := by rw [hf, e]; rfl
    rw [ef]
    obtain ⟨h3, h4⟩ := h2 hn
    exact ⟨⟨hq, inA p hp, inA q h3⟩, h3, h4⟩
  · exact rk_oth hr hp hn o hq.1 hq.2.2
/- nothing is left: all is won by the one who hears the greatest number -/
theorem SolM.all {d : Int} {w1 : Int → Int} {s1 s : Int → Option Int} (hd : d % 2 = i) (hi : i = 0 ∨ i = 1) (ho : ∀ p ∈ A, own p = 0 ∨ own p = 1) (hA : Tot ws A) (hT : ∀ p, p ∈ T ↔ p ∈ A ∧ num p = d) (hn : ∀ p ∈ A, num p ≤ d) (hr : Rkd own ws A i T rk)
    (hB : ∀ p, p ∈ B ↔ p ∈ A ∧ ¬ Led own ws A i T p) (h : SolM own num ws B w1 s1) (hw : ∀ p ∈ B, w1 p = i)
    (hs : ∀ p, Led own ws A i T p → LdStep own ws A i T rk p (s p)) (hb : ∀ p ∈ B, s p = s1 p) : SolM own num ws A (fun _ => i) s := by
  have hTA : ∀ p ∈ T, p ∈ A := fun p hp => ((hT p).mp hp).1
  refine ⟨fun p _ => hi, fun p hp o => ?_, fun p hp o => ?_, fun j hj => ?_⟩
  · by_cases l : Led own ws A i T p
    · obtain ⟨q, e, _⟩ := (hs p l).2 o
      exact ⟨q, e⟩
    · have pb := (hB p).mpr ⟨hp, l⟩
      rw [hb p pb]
      exact h.has p pb (by rw [hw p pb]; exact o)
  · by_cases l : Led own ws A i T p
    · exact (hs p l).1 o
    · have pb := (hB p).mpr ⟨hp, l⟩
      rw [hb p pb]
      exact h.oth p pb (by rw [hw p pb]; exact o)
  · by_cases e : j = i
    · subst e
      have ga := attr_of (num := num) (f := fun p => (s p).getD 0) hTA hr (fun p a _ => hs p a) fun _ => rfl
      have gb : Good (((gmk own num ws).sub fun p => p ∈ A).sub fun p => p ∈ A ∧ ¬ Led own ws A j T p) j (fun p => p ∈ A ∧ ¬ Led own ws A j T p) (fun p => (s p).getD 0) := by
        rw [sub_sub fun p z => z.1]
        have e1 : (fun p => p ∈ A ∧ ¬ Led own ws A j T p) = fun p => p ∈ B := funext fun p => propext (hB p).symm
        rw [e1]
        refine ((h.good j hj).iff (fun p => ⟨fun z => z.1, fun z => ⟨z, hw p z⟩⟩)).congr fun p hp _ => ?_
        show (s1 p).getD 0 = (s p).getD 0
        rw [hb p hp]
      refine (Good.top (G := (gmk own num ws).sub fun p => p ∈ A) (V := fun p => p ∈ A) (T := fun p => p ∈ T) (A := fun p => Led own ws A j T p) hd (fun p q hp z => z.2.2) hn (fun p ⟨k, hk⟩ => lay_in hTA hk) (fun p hp => ((hT p).mp hp).2) ga (fun p hp o => ?_) gb).iff fun p => ⟨fun z => ⟨z, rfl⟩, fun z => z.1⟩
      obtain ⟨q, e, hq, h1, _⟩ := (hs p ⟨0, decide_eq_true hp⟩).2 o
      show (gmk own num ws).way p ((s p).getD 0) ∧ _
      rw [e]
      exact ⟨hq, hTA p hp, h1 hp⟩
    · exact ⟨fun p hp => absurd hp.2.symm e, fun p q hp => absurd hp.2.symm e, fun p hp => absurd hp.2.symm e⟩
/- the other one wins somewhere: what it leads to there is its, the rest is settled anew -/
theorem SolM.two {w1 w2 w : Int → Int} {s1 s2 s : Int → Option Int} {L C N : List Int} {rn : Int → Nat} {j : Int} (hi : i = 0 ∨ i = 1) (hj : j = 1 - i) (ho : ∀ p ∈ A, own p = 0 ∨ own p = 1)
    (hB : ∀ p, p ∈ B ↔ p ∈ A ∧ ¬ Led own ws A i T p) (h1 : SolM own num ws B w1 s1) (hL : ∀ p, p ∈ L ↔ p ∈ B ∧ w1 p ≠ i) (hr : Rkd own ws A j L rk)
    (hC : ∀ p, p ∈ C ↔ p ∈ A ∧ ¬ Led own ws A j L p) (h2 : SolM own num ws C w2 s2)
    (hs : ∀ p, Led own ws A j L p → p ∉ L → LdStep own ws A j L rk p (s p)) (hl : ∀ p ∈ L, s p = s1 p) (hc : ∀ p ∈ C, s p = s2 p) (wl : ∀ p, Led own ws A j L p → w p = j) (wc : ∀ p ∈ C, w p = w2 p) : SolM own num ws A w s := by
  have hLA : ∀ p ∈ L, p ∈ A := fun p hp => ((hB p).mp ((hL p).mp hp).1).1
  have hw1 : ∀ p ∈ L, w1 p = j := fun p hp => by
    obtain ⟨a, b⟩ := (hL p).mp hp
    have := h1.zo p a
    omega
  have split : ∀ p ∈ A, Led own ws A j L p ∨ p ∈ C := fun p hp => by
    by_cases l : Led own ws A j L p
    · exact .inl l
    · exact .inr ((hC p).mpr ⟨hp, l⟩)
  have inA : ∀ p, Led own ws A j L p → p ∈ A := fun p ⟨k, hk⟩ => lay_in hLA hk
  have hj' : j = 0 ∨ j = 1 := by omega
  refine ⟨fun p hp => ?_, fun p hp o => ?_, fun p hp o => ?_, ?_⟩
  · rcases split p hp with l | c
    · rw [wl p l]; exact hj'
    · rw [wc p c]; exact h2.zo p c
  · rcases split p hp with l | c
    · rw [wl p l] at o
      by_cases z : p ∈ L
      · rw [hl p z]; exact h1.has p ((hL p).mp z).1 (by rw [hw1 p z]; exact o)
      · obtain ⟨q, e, _⟩ := (hs p l z).2 o
        exact ⟨q, e⟩
    · rw [wc p c] at o
      rw [hc p c]; exact h2.has p c o
  · rcases split p hp with l | c
    · rw [wl p l] at o
      by_cases z : p ∈ L
      · rw [hl p z]; exact h1.oth p ((hL p).mp z).1 (by rw [hw1 p z]; exact o)
      · exact (hs p l z).1 o
    · rw [wc p c] at o
      rw [hc p c]; exact h2.oth p c o
  · let G := (gmk own num ws).sub fun p => p ∈ A
    let f : Int → Int := fun p => (s p).getD 0
    -- those lost
    have gl : Good G j (fun p => p ∈ L) f := by
      have g1 := (h1.good j hj').iff (W' := fun p => p ∈ L) fun p => ⟨fun z => (hL p).mpr ⟨z.1, by rw [z.2]; omega⟩, fun z => ⟨((hL p).mp z).1, hw1 p z⟩⟩
      have e1 : (gmk own num ws).sub (fun p => p ∈ B) = G.sub fun p => p ∈ B := (sub_sub fun p z => ((hB p).mp z).1).symm
      rw [e1] at g1
      refine (g1.lift (fun p z => ((hL p).mp z).1) (fun p q hp o hq => ?_)).congr fun p hp _ => ?_
      · have oi : own p = i := by
          have := ho p (hLA p hp)
          have : own p ≠ j := o
          omega
        obtain ⟨pa, pn⟩ := (hB p).mp ((hL p).mp hp).1
        exact (hB q).mpr ⟨hq.2.2, led_own pa pn oi hq.1⟩
      · show (s1 p).getD 0 = (s p).getD 0
        rw [hl p hp]
    have ga : Good G j (fun p => Led own ws A j L p) f := (attr_of (num := num) hLA hr hs fun _ => rfl).good gl
    have e2 : (gmk own num ws).sub (fun p => p ∈ C) = G.sub fun p => p ∈ C := (sub_sub fun p z => ((hC p).mp z).1).symm
    have gc : ∀ t, t = 0 ∨ t = 1 → Good (G.sub fun p => p ∈ C) t (fun p => p ∈ C ∧ w2 p = t) f := fun t ht => by
      have := h2.good t ht
      rw [e2] at this
      refine this.congr fun p hp _ => ?_
      show (s2 p).getD 0 = (s p).getD 0
      rw [hc p hp.1]
    intro t ht
    by_cases e : t = j
    · subst e
      refine (Good.join (gc t ht) ga (fun p z => z.1) (fun p q hp o hq => ?_)).iff fun p => ⟨fun z => ?_, fun z => ?_⟩
      · exact (split q hq.2.2).symm
      · rcases z with ⟨a, b⟩ | a
        · exact ⟨((hC p).mp a).1, by rw [wc p a]; exact b⟩
        · exact ⟨inA p a, wl p a⟩
      · rcases split p z.1 with l | c
        · exact .inr l
        · exact .inl ⟨c, by rw [← wc p c]; exact z.2⟩
    · refine (Good.lift (gc t ht) (fun p z => z.1) (fun p q hp o hq => ?_)).iff fun p => ⟨fun z => ⟨((hC p).mp z.1).1, by rw [wc p z.1]; exact z.2⟩, fun z => ?_⟩
      · obtain ⟨pa, pn⟩ := (hC p).mp hp.1
        have oj : own p = j := by
          have := ho p pa
          have : own p ≠ t := o
          omega
        exact (hC q).mpr ⟨hq.2.2, led_own pa pn oj hq.1⟩
      · rcases split p z.1 with l | c
        · exact absurd ((wl p l).symm.trans z.2) (fun k => e k.symm)
        · exact ⟨c, by rw [← wc p c]; exact z.2⟩
theorem SolM.nil {w : Int → Int} {s : Int → Option Int} : SolM own num ws [] w s :=
  ⟨fun p hp => (nomatch hp), fun p hp => (nomatch hp), fun p hp => (nomatch hp), fun i hi => ⟨fun p hp => (nomatch hp.1), fun p q hp => (nomatch hp.1), fun p hp => (nomatch hp.1)⟩⟩
end
/- from lesser numbers in the same order back to the first ones -/
theorem Good.back {G : Gm} {i : Int} {W : Int → Prop} {f : Int → Int} {num' : Int → Int} (h : Good ⟨G.own, num', G.way⟩ i W f) (hm : ∀ p q, W p → W q → G.num p ≤ G.num q → num' p ≤ num' q) (hp : ∀ p, W p → num' p % 2 = G.num p % 2) : Good G i W f :=
  ⟨h.step, h.stay, fun v hv t => by
    rw [← hp v hv]
    exact h.ring v hv (tg_mono (fun p q z => ⟨z.1, z.2.1, hm p v z.1 hv z.2.2⟩) t)⟩
end PG

namespace PG
open Relation
/- in how many steps a part is settled at most -/
structure TopOf (num : Int → Int) (A : List Int) (d : Int) (T : List Int) : Prop where
  le : ∀ p ∈ A, num p ≤ d
  mem : ∀ p, p ∈ T ↔ p ∈ A ∧ num p = d
  ne : T ≠ []
inductive Few (own num : Int → Int) (ws : Int → List Int) : List Int → Nat → Prop
  | nil {N : Nat} : Few own num ws [] N
  | step {A : List Int} {N1 N2 : Nat} (h1 : ∀ d T f, TopOf num A d T → (∀ p ∈ A, f p = true ↔ ¬ Led own ws A (d % 2) T p) → Few own num ws (A.filter f) N1)
      (h2 : ∀ d T f w s L f2, TopOf num A d T → (∀ p ∈ A, f p = true ↔ ¬ Led own ws A (d % 2) T p) → SolM own num ws (A.filter f) w s → (∀ p, p ∈ L ↔ p ∈ A.filter f ∧ w p ≠ d % 2) → L ≠ [] →
        (∀ p ∈ A, f2 p = true ↔ ¬ Led own ws A (1 - d % 2) L p) → Few own num ws (A.filter f2) N2) : Few own num ws A (N1 + N2 + 1)
theorem Few.inv {own num : Int → Int} {ws : Int → List Int} {A : List Int} {N : Nat} (h : Few own num ws A N) (ne : A ≠ []) : ∃ N1 N2, N = N1 + N2 + 1 ∧ (∀ d T f, TopOf num A d T → (∀ p ∈ A, f p = true ↔ ¬ Led own ws A (d % 2) T p) → Few own num ws (A.filter f) N1) ∧
    (∀ d T f w s L f2, TopOf num A d T → (∀ p ∈ A, f p = true ↔ ¬ Led own ws A (d % 2) T p) → SolM own num ws (A.filter f) w s → (∀ p, p ∈ L ↔ p ∈ A.filter f ∧ w p ≠ d % 2) → L ≠ [] → (∀ p ∈ A, f2 p = true ↔ ¬ Led own ws A (1 - d % 2) L p) → Few own num ws (A.filter f2) N2) := by
  cases h with
  | nil => exact absurd rfl ne
  | step h1 h2 => exact ⟨_, _, rfl, h1, h2⟩
theorem Few.mono {own num : Int → Int} {ws : Int → List Int} {A : List Int} {N : Nat} (h : Few own num ws A N) : ∀ {M : Nat}, N ≤ M → Few own num ws A M := by
  induction h with
  | nil => exact fun _ => .nil
  | @step A N1 N2 h1 h2 ih1 ih2 =>
    intro M hM
    have e : M = N1 + (M - N1 - 1) + 1 := by omega
    rw [e]
    exact .step h1 fun d T f w s L f2 a b c d' e' g => ih2 d T f w s L f2 a b c d' e' g (by omega)
def rB : Nat → Nat × Nat
  | 0 => (0, 1)
  | n + 1 => ((rB n).2, (rB n).1 + (rB n).2 + 2)
def rb (n : Nat) : Nat := (rB n).1
theorem rb_two (n : Nat) : rb (n + 2) = rb (n + 1) + rb n + 2 := by
  show (rB n).1 + (rB n).2 + 2 = (rB n).2 + (rB n).1 + 2
  omega
theorem rB_le : ∀ n, (rB n).1 ≤ (rB n).2
  | 0 => by decide
  | n + 1 => by
    have := rB_le n
    show (rB n).2 ≤ (rB n).1 + (rB n).2 + 2
    omega
theorem rb_succ (n : Nat) : rb n ≤ rb (n + 1) := rB_le n
theorem rb_mono {m n : Nat} (h : m ≤ n) : rb m ≤ rb n := by
  induction n with
  | zero => have : m = 0 := by omega
            rw [this]; exact Nat.le_refl _
  | succ n ih =>
    by_cases e : m ≤ n
    · exact Nat.le_trans (ih e) (rb_succ n)
    · have : m = n + 1 := by omega
      rw [this]; exact Nat.le_refl _
section
variable {own num : Int → Int} {ws : Int → List Int} {A : List Int}
theorem len_lt {f : Int → Bool} {x : Int} (hx : x ∈ A) (h : f x = false) : (A.filter f).length < A.length := by
  apply Nat.lt_of_le_of_ne (List.length_filter_le _ _)
  intro e
  have := List.length_filter_eq_length_iff.mp e x hx
  rw [h] at this
  cases this
theorem len_lt2 {f : Int → Bool} : ∀ {A : List Int} {x y : Int}, x ∈ A → y ∈ A → x ≠ y → f x = false → f y = false → (A.filter f).length + 2 ≤ A.length
  | [], _, _, h, _, _, _, _ => by cases h
  | a :: A, x, y, hx, hy, ne, fx, fy => by
    have both : ∀ {z}, z ∈ A → f z = false → f a = false → ((a :: A).filter f).length + 2 ≤ (a :: A).length := fun {z} hz fz fa => by
      rw [List.filter_cons_of_neg (by rw [fa]; decide), List.length_cons]
      have := len_lt hz fz
      omega
    rcases List.mem_cons.mp hx with e1 | h1
    · rcases List.mem_cons.mp hy with e2 | h2
      · exact absurd (e1.trans e2.symm) ne
      · exact both h2 fy (e1 ▸ fx)
    · rcases List.mem_cons.mp hy with e2 | h2
      · exact both h1 fx (e2 ▸ fy)
      · have ih := len_lt2 h1 h2 ne fx fy
        cases fa : f a with
        | true =>
          rw [List.filter_cons_of_pos fa, List.length_cons, List.length_cons]
          omega
        | false =>
          rw [List.filter_cons_of_neg (by rw [fa]; decide), List.length_cons]
          omega
/- all is won by the one who leads to the greatest number, if what the other one leads to doesn't touch what this one leads to -/
theorem quiet {n : Nat} {d : Int} {T L : List Int} {f f2 f3 : Int → Bool} {w w3 : Int → Int} {s s3 : Int → Option Int} (hn : ∀ p ∈ A, 0 ≤ p ∧ p < (n : Int)) (ho : ∀ p ∈ A, own p = 0 ∨ own p = 1) (ht : TopOf num A d T) (hf : ∀ p ∈ A, f p = true ↔ ¬ Led own ws A (d % 2) T p) (h : SolM own num ws (A.filter f) w s)
    (hL : ∀ p, p ∈ L ↔ p ∈ A.filter f ∧ w p ≠ d % 2) (hf2 : ∀ p ∈ A, f2 p = true ↔ ¬ Led own ws A (1 - d % 2) L p) (dis : ∀ p ∈ A, Led own ws A (d % 2) T p → ¬ Led own ws A (1 - d % 2) L p)
    {T3 : List Int} (hT3 : TopOf num (A.filter f2) d T3) (hf3 : ∀ p ∈ A.filter f2, f3 p = true ↔ ¬ Led own ws (A.filter f2) (d % 2) T3 p) (h3 : SolM own num ws ((A.filter f2).filter f3) w3 s3) : ∀ p ∈ (A.filter f2).filter f3, w3 p = d % 2 := by
  have inB : ∀ p, p ∈ A.filter f ↔ p ∈ A ∧ ¬ Led own ws A (d % 2) T p := fun p => by
    rw [List.mem_filter]
    exact ⟨fun z => ⟨z.1, (hf p z.1).mp z.2⟩, fun z => ⟨z.1, (hf p z.1).mpr z.2⟩⟩
  have inC : ∀ p, p ∈ A.filter f2 ↔ p ∈ A ∧ ¬ Led own ws A (1 - d % 2) L p := fun p => by
    rw [List.mem_filter]
    exact ⟨fun z => ⟨z.1, (hf2 p z.1).mp z.2⟩, fun z => ⟨z.1, (hf2 p z.1).mpr z.2⟩⟩
  have inD : ∀ p, p ∈ (A.filter f2).filter f3 ↔ p ∈ A.filter f2 ∧ ¬ Led own ws (A.filter f2) (d % 2) T3 p := fun p => by
    rw [List.mem_filter]
    exact ⟨fun z => ⟨z.1, (hf3 p z.1).mp z.2⟩, fun z => ⟨z.1, (hf3 p z.1).mpr z.2⟩⟩
  have d01 : d % 2 = 0 ∨ d % 2 = 1 := by omega
  have hTA : ∀ p ∈ T, p ∈ A := fun p hp => ((ht.mem p).mp hp).1
  have hLA : ∀ p ∈ L, p ∈ A := fun p hp => ((inB p).mp ((hL p).mp hp).1).1
  -- what is led to by the other one is lost already
  have DL : ∀ k p, lay own ws A (1 - d % 2) L k p = true → p ∈ L := by
    intro k
    induction k with
    | zero => exact fun p hp => of_decide_eq_true hp
    | succ k ih =>
      intro p hp
      have led : Led own ws A (1 - d % 2) L p := ⟨k + 1, hp⟩
      have hp' : (lay own ws A (1 - d % 2) L k p || (decide (p ∈ A) && ldB own ws A (1 - d % 2) (lay own ws A (1 - d % 2) L k) p)) = true := hp
      rw [Bool.or_eq_true, Bool.and_eq_true, decide_eq_true_eq] at hp'
      rcases hp' with z | ⟨pa, z⟩
      · exact ih p z
      · have pb : p ∈ A.filter f := (inB p).mpr ⟨pa, fun l => dis p pa l led⟩
        apply Classical.byContradiction
        intro nl
        have wp : w p = d % 2 := Classical.byContradiction fun y => nl ((hL p).mpr ⟨pb, y⟩)
        have gd := h.good _ d01
        unfold ldB at z
        by_cases o : own p = 1 - d % 2
        · rw [if_pos o, List.any_eq_true] at z
          obtain ⟨q, hq, hk⟩ := z
          have ql := ih q hk
          have qb := ((hL q).mp ql).1
          have ne : own p ≠ d % 2 := by omega
          have := gd.stay p q ⟨pb, wp⟩ ⟨fun y => absurd y ne, fun _ => ⟨hq, pb, qb⟩⟩
          exact ((hL q).mp ql).2 this.2
        · rw [if_neg o, List.all_eq_true] at z
          have oi : own p = d % 2 := by have := ho p pa; omega
          have st := gd.step p ⟨pb, wp⟩ oi
          have sy := gd.stay p _ ⟨pb, wp⟩ ⟨fun _ => rfl, fun y => absurd oi y⟩
          have hq := ih _ (z _ (List.mem_filter.mpr ⟨st.1, decide_eq_true ((inB _).mp sy.1).1⟩))
          exact ((hL _).mp hq).2 sy.2
  have notD : ∀ p, p ∈ A → p ∉ L → p ∈ A.filter f2 := fun p pa nl => (inC p).mpr ⟨pa, fun ⟨k, hk⟩ => nl (DL k p hk)⟩
  -- who leads to the greatest number still does
  have near : ∀ k p, lay own ws A (d % 2) T k p = true → Led own ws (A.filter f2) (d % 2) T3 p := by
    intro k
    induction k with
    | zero =>
      intro p hp
      have pT : p ∈ T := of_decide_eq_true hp
      obtain ⟨pa, pn⟩ := (ht.mem p).mp pT
      refine ⟨0, decide_eq_true ((hT3.mem p).mpr ⟨(inC p).mpr ⟨pa, dis p pa ⟨0, hp⟩⟩, pn⟩)⟩
    | succ k ih =>
      intro p hp
      have led : Led own ws A (d % 2) T p := ⟨k + 1, hp⟩
      have hp' : (lay own ws A (d % 2) T k p || (decide (p ∈ A) && ldB own ws A (d % 2) (lay own ws A (d % 2) T k) p)) = true := hp
      rw [Bool.or_eq_true, Bool.and_eq_true, decide_eq_true_eq] at hp'
      rcases hp' with z | ⟨pa, z⟩
      · exact ih p z
      · have pc : p ∈ A.filter f2 := (inC p).mpr ⟨pa, dis p pa led⟩
        apply Classical.byContradiction
        intro nn
        unfold ldB at z
        by_cases o : own p = d % 2
        · rw [if_pos o, List.any_eq_true] at z
          obtain ⟨q, hq, hk⟩ := z
          exact led_own pc nn o hq (ih q hk)
        · rw [if_neg o, List.all_eq_true] at z
          obtain ⟨q, hq, qc, qn⟩ := led_oth pc nn o
          exact qn (ih q (z q (List.mem_filter.mpr ⟨hq, decide_eq_true ((inC q).mp qc).1⟩)))
  have sub : ∀ p, p ∈ (A.filter f2).filter f3 → p ∈ A.filter f ∧ w p = d % 2 := fun p hp => by
    obtain ⟨pc, pn⟩ := (inD p).mp hp
    obtain ⟨pa, pl⟩ := (inC p).mp pc
    have pb : p ∈ A.filter f := (inB p).mpr ⟨pa, fun ⟨k, hk⟩ => pn (near k p hk)⟩
    exact ⟨pb, Classical.byContradiction fun y => pl ⟨0, decide_eq_true ((hL p).mpr ⟨pb, y⟩)⟩⟩
  have gd := h.good _ d01
  have all : Good ((gmk own num ws).sub fun p => p ∈ (A.filter f2).filter f3) (d % 2) (fun p => p ∈ (A.filter f2).filter f3) (fun p => (s p).getD 0) := by
    have stp : ∀ p, p ∈ (A.filter f2).filter f3 → own p = d % 2 → (s p).getD 0 ∈ ws p ∧ (s p).getD 0 ∈ (A.filter f2).filter f3 := fun p hp o => by
      have sy := gd.stay p _ (sub p hp) ⟨fun _ => rfl, fun y => absurd o y⟩
      have st := gd.step p (sub p hp) o
      have qa := ((inB _).mp sy.1).1
      have qc := notD _ qa fun z => ((hL _).mp z).2 sy.2
      obtain ⟨pc, pn⟩ := (inD p).mp hp
      exact ⟨st.1, (inD _).mpr ⟨qc, led_own pc pn o st.1⟩⟩
    refine ⟨fun p hp o => ⟨(stp p hp o).1, hp, (stp p hp o).2⟩, fun p q hp e => ?_, fun v hv t => ?_⟩
    · by_cases o : own p = d % 2
      · rw [e.1 o]; exact (stp p hp o).2
      · exact (e.2 o).2.2
    · refine gd.ring v (sub v hv) (tg_mono (fun p q z => ⟨sub p z.1, ⟨z.2.1.1, fun o => ?_⟩, z.2.2⟩) t)
      obtain ⟨a, b, c⟩ := z.2.1.2 o
      exact ⟨a, (sub p b).1, (sub q c).1⟩
  intro p hp
  apply Classical.byContradiction
  intro ne
  have z01 := h3.zo p hp
  have bnd : ∀ q, q ∈ (A.filter f2).filter f3 → 0 ≤ q ∧ q < (n : Int) := fun q hq => hn q ((inC q).mp ((inD q).mp hq).1).1
  have ow : ∀ q, q ∈ (A.filter f2).filter f3 → own q = 0 ∨ own q = 1 := fun q hq => ho q ((inC q).mp ((inD q).mp hq).1).1
  rcases d01 with e | e
  · rw [e] at all
    exact all.disj (h3.good 1 (.inr rfl)) bnd ow hp ⟨hp, by omega⟩
  · rw [e] at all
    exact (h3.good 0 (.inl rfl)).disj all (fun q hq => bnd q hq.1) (fun q hq => ow q hq.1) ⟨hp, by omega⟩ hp
theorem few_rb {m : Nat} (ho : ∀ p, 0 ≤ p → p < (m : Int) → own p = 0 ∨ own p = 1) : ∀ (n : Nat) (A : List Int), A.length ≤ n → (∀ p ∈ A, 0 ≤ p ∧ p < (m : Int)) → Few own num ws A (rb n) := by
  intro n
  induction n using Nat.strongRecOn with
  | _ n ih =>
    intro A hl hA
    have ne0 : A = [] ∨ ∃ x, x ∈ A := by cases A with
      | nil => exact .inl rfl
      | cons x l => exact .inr ⟨x, List.mem_cons_self⟩
    rcases ne0 with e | ⟨x, hx⟩
    · rw [e]; exact .nil
    have pos : 0 < A.length := List.length_pos_of_mem hx
    have subB : ∀ f : Int → Bool, ∀ p ∈ A.filter f, 0 ≤ p ∧ p < (m : Int) := fun f p hp => hA p (List.mem_filter.mp hp).1
    have near1 : ∀ d T f, TopOf num A d T → (∀ p ∈ A, f p = true ↔ ¬ Led own ws A (d % 2) T p) → (A.filter f).length < A.length := fun d T f ht hf => by
      obtain ⟨t, l, e⟩ := List.exists_cons_of_ne_nil ht.ne
      have tT : t ∈ T := by rw [e]; exact List.mem_cons_self
      have ta := ((ht.mem t).mp tT).1
      refine len_lt ta (Bool.eq_false_iff.mpr fun z => (hf t ta).mp z ⟨0, decide_eq_true tT⟩)
    match n, hl with
    | 0, hl => omega
    | 1, hl =>
      refine .step (N1 := 0) (N2 := 0) (fun d T f ht hf => ?_) (fun d T f w s L f2 ht hf h hL hne hf2 => ?_)
      · have := near1 d T f ht hf
        rw [List.eq_nil_of_length_eq_zero (l := A.filter f) (by omega)]
        exact .nil
      · have := near1 d T f ht hf
        have e := List.eq_nil_of_length_eq_zero (l := A.filter f) (by omega)
        obtain ⟨y, l, ey⟩ := List.exists_cons_of_ne_nil hne
        have := ((hL y).mp (by rw [ey]; exact List.mem_cons_self)).1
        rw [e] at this
        cases this
    | n + 2, hl =>
      rw [rb_two, show rb (n + 1) + rb n + 2 = rb (n + 1) + (rb n + 1) + 1 by omega]
      refine .step (fun d T f ht hf => ih (n + 1) (by omega) _ (by have := near1 d T f ht hf; omega) (subB f)) (fun d T f w s L f2 ht hf h hL hne hf2 => ?_)
      obtain ⟨y, l, ey⟩ := List.exists_cons_of_ne_nil hne
      have yL : y ∈ L := by rw [ey]; exact List.mem_cons_self
      have yB := ((hL y).mp yL).1
      obtain ⟨ya, yf⟩ := List.mem_filter.mp yB
      have f2y : f2 y = false := Bool.eq_false_iff.mpr fun z => (hf2 y ya).mp z ⟨0, decide_eq_true yL⟩
      by_cases dis : ∀ p ∈ A, Led own ws A (d % 2) T p → ¬ Led own ws A (1 - d % 2) L p
      · -- the greatest number is still there, and all is won by its player
        have hC := len_lt ya f2y
        by_cases ce : A.filter f2 = []
        · rw [ce]; exact .nil
        refine .step (N1 := rb n) (N2 := 0) (fun d3 T3 f3 ht3 hf3 => ?_) (fun d3 T3 f3 w3 s3 L3 f4 ht3 hf3 h3 hL3 hne3 hf4 => ?_)
        · refine ih n (by omega) _ ?_ (fun p hp => subB f2 p (List.mem_filter.mp hp).1)
          obtain ⟨t, l, e⟩ := List.exists_cons_of_ne_nil ht3.ne
          have tT : t ∈ T3 := by rw [e]; exact List.mem_cons_self
          have ta := ((ht3.mem t).mp tT).1
          have := len_lt (f := f3) ta (Bool.eq_false_iff.mpr fun z => (hf3 t ta).mp z ⟨0, decide_eq_true tT⟩)
          omega
        · exfalso
          have ed : d3 = d := by
            obtain ⟨t, l, e⟩ := List.exists_cons_of_ne_nil ht.ne
            have tT : t ∈ T := by rw [e]; exact List.mem_cons_self
            obtain ⟨ta, tn⟩ := (ht.mem t).mp tT
            have tc : t ∈ A.filter f2 := List.mem_filter.mpr ⟨ta, (hf2 t ta).mpr (dis t ta ⟨0, decide_eq_true tT⟩)⟩
            have h1 := ht3.le t tc
            obtain ⟨u, l, e⟩ := List.exists_cons_of_ne_nil ht3.ne
            obtain ⟨ua, un⟩ := (ht3.mem u).mp (by rw [e]; exact List.mem_cons_self)
            have h2 := ht.le u (List.mem_filter.mp ua).1
            omega
          subst ed
          have all := quiet (n := m) hA (fun p hp => ho p (hA p hp).1 (hA p hp).2) ht hf h hL hf2 dis ht3 hf3 h3
          obtain ⟨z, l, ez⟩ := List.exists_cons_of_ne_nil hne3
          obtain ⟨z1, z2⟩ := (hL3 z).mp (by rw [ez]; exact List.mem_cons_self)
          exact z2 (all z z1)
      · -- both lead to some place: two places go
        obtain ⟨p, hp⟩ := Classical.not_forall.mp dis
        obtain ⟨pa, hp⟩ := Classical.not_imp.mp hp
        obtain ⟨h1, h2⟩ := Classical.not_imp.mp hp
        have h2 := Classical.not_not.mp h2
        have f2p : f2 p = false := Bool.eq_false_iff.mpr fun z => (hf2 p pa).mp z h2
        have ne : p ≠ y := fun e => (hf y ya).mp yf (e ▸ h1)
        have := len_lt2 pa ya ne f2p f2y
        exact (ih n (by omega) _ (by omega) (subB f2)).mono (by omega)
end
theorem rb_30 : rb 30 ≤ 4000000 := by decide +kernel
end PG

namespace G
open PySem PySem.Spec PyProof.Rows L2
/-! ### the least numbers -/
structure LeanP (l ks : List Int) (lf : Int → Int) (now : Int) : Prop where
  mem : ∀ x, x ∈ ks ↔ x ∈ l
  nd : ks.Nodup
  now0 : l = [] → now = 0
  now1 : ∀ x ∈ l, (∀ y ∈ l, y ≤ x) → now = lf x
  odd : ∀ x ∈ l, lf x % 2 = x % 2
  up : ∀ x ∈ l, ∀ y ∈ l, x ≤ y → lf x ≤ lf y
  first : ∀ x ∈ l, (∀ y ∈ l, x ≤ y) → lf x = x % 2
  next : ∀ x ∈ l, ∀ y ∈ l, x < y → (∀ z ∈ l, z ≤ x ∨ y ≤ z) → lf y = lf x + (x + y) % 2
def relean (lf : Int → Int) (r : Row) : Row := ⟨r.p, lf r.n, r.ws⟩
/-- lf gives the least numbers of a game -/
def LeanOf (g : List Row) (lf : Int → Int) : Prop := ∃ l ks now, LeanP l ks lf now ∧ ∀ x, x ∈ l ↔ x ∈ g.map Row.n
theorem get_relean {g : List Row} {lf : Int → Int} {p : Int} : (g.map (relean lf))[p.toNat]? = (g[p.toNat]?).map (relean lf) := List.getElem?_map ..
theorem own_relean {g : List Row} {lf : Int → Int} : ownAt (g.map (relean lf)) = ownAt g := by
  funext p
  unfold ownAt
  rw [get_relean]
  cases g[p.toNat]? <;> rfl
theorem ws_relean {g : List Row} {lf : Int → Int} : wsOf (g.map (relean lf)) = wsOf g := by
  funext p
  unfold wsOf
  rw [get_relean]
  cases g[p.toNat]? <;> rfl
theorem num_relean {g : List Row} {lf : Int → Int} {p : Int} (h : 0 ≤ p ∧ p < (g.length : Int)) : numAt (g.map (relean lf)) p = lf (numAt g p) := by
  obtain ⟨r, hr, _, e, _⟩ := row_at h
  rw [e]
  unfold numAt
  rw [get_relean, hr]
  rfl
theorem valid_relean {g : List Row} {lf : Int → Int} (h : ValidG g) (hl : ∀ r ∈ g, 0 ≤ lf r.n) : ValidG (g.map (relean lf)) := by
  refine ⟨by rw [List.length_map]; exact h.1, fun r hr => ?_⟩
  obtain ⟨r0, h0, rfl⟩ := List.mem_map.mp hr
  rw [List.length_map]
  obtain ⟨a, b, c, d, e⟩ := h.2 r0 h0
  exact ⟨a, hl r0 h0, c, d, e⟩
def uptoL (n : Nat) : List Int := (List.range n).map fun j : Nat => (j : Int)
/-- few enough parts -/
def FewOk (g : List Row) : Prop := ∀ lf, LeanOf g lf → PG.Few (ownAt g) (numAt (g.map (relean lf))) (wsOf g) (uptoL g.length) 16000000
theorem fewOk_small {g : List Row} (h : ValidG g) (hl : g.length ≤ 30) : FewOk g := fun lf _ => by
  refine (PG.few_rb (m := g.length) (fun p h0 h1 => ?_) 30 (uptoL g.length) (by unfold uptoL; rw [List.length_map, List.length_range]; exact hl) (fun p hp => ?_)).mono (Nat.le_trans PG.rb_30 (by omega))
  · obtain ⟨r, hr, e, _⟩ := row_at (g := g) ⟨h0, h1⟩
    rw [e]
    exact (h.2 r (List.mem_of_getElem? hr)).1
  · unfold uptoL at hp
    obtain ⟨j, hj, rfl⟩ := List.mem_map.mp hp
    have := List.mem_range.mp hj
    omega
end G

namespace G
open PySem PySem.Spec PyProof.Rows L2
/-! ### plain data: how deep, alike -/
theorem lay_rows : ∀ g : List Row, PyData.canLayAll0 (g.map rowD) = true
  | [] => rfl
  | r :: g => by
    show ((true && (true && (PyData.canLayAll0 (r.ws.map .int) && true))) && PyData.canLayAll0 (g.map rowD)) = true
    rw [lay_ints, lay_rows g]; rfl
theorem dep_rows : ∀ g : List Row, PyData.depthAll (g.map rowD) ≤ 2
  | [] => Nat.zero_le _
  | r :: g => by
    show max (max 0 (max 0 (max (PyData.depthAll (r.ws.map .int) + 1) 0)) + 1) (PyData.depthAll (g.map rowD)) ≤ 2
    rw [dep_ints]
    have := dep_rows g
    omega
theorem lay_game (g : List Row) : PyData.canLay0 (gameD g) = true := lay_rows g
theorem shaped_game (g : List Row) : SeqAt.shaped (gameD g) = true := by
  unfold SeqAt.shaped
  rw [lay_game, Bool.true_and, decide_eq_true_eq]
  show PyData.depthAll (g.map rowD) + 1 ≤ 64
  have := dep_rows g
  omega
theorem lay_handed (g : List Row) (ss : List Int) : PyData.canLay0 (.list [gameD g, intsD ss]) = true := by
  show (PyData.canLayAll0 (g.map rowD) && (PyData.canLayAll0 (ss.map .int) && true)) = true
  rw [lay_rows, lay_ints]; rfl
theorem shaped_handed (g : List Row) (ss : List Int) : SeqAt.shaped (.list [gameD g, intsD ss]) = true := by
  unfold SeqAt.shaped
  rw [lay_handed, Bool.true_and, decide_eq_true_eq]
  show max (PyData.depthAll (g.map rowD) + 1) (max (PyData.depthAll (ss.map .int) + 1) 0) + 1 ≤ 64
  rw [dep_ints]
  have := dep_rows g
  omega
theorem lay_two (xs ys : List Int) : PyData.canLay0 (.tuple [intsD xs, intsD ys]) = true := by
  show (PyData.canLayAll0 (xs.map .int) && (PyData.canLayAll0 (ys.map .int) && true)) = true
  rw [lay_ints, lay_ints]; rfl
theorem shaped_two (xs ys : List Int) : SeqAt.shaped (.tuple [intsD xs, intsD ys]) = true := by
  unfold SeqAt.shaped
  rw [lay_two, Bool.true_and, decide_eq_true_eq]
  show max (PyData.depthAll (xs.map .int) + 1) (max (PyData.depthAll (ys.map .int) + 1) 0) + 1 ≤ 64
  rw [dep_ints, dep_ints]
  omega
theorem range_snoc {f : Nat → V} (n : Nat) : (List.range (n + 1)).map f = (List.range n).map f ++ [f n] := by
  rw [List.range_succ, List.map_append]
  rfl
theorem ints_inj {xs ys : List Int} (h : xs.map PyData.int = ys.map PyData.int) : xs = ys := by
  have := congrArg (List.map toI) h
  rw [map_toI, map_toI] at this
  exact this
theorem rowD_inj {a b : Row} (h : rowD a = rowD b) : a = b := by
  obtain ⟨p, n, ws⟩ := a
  obtain ⟨p', n', ws'⟩ := b
  have h1 := PyData.tuple.inj h
  obtain ⟨e1, h2⟩ := List.cons.inj h1
  obtain ⟨e2, h3⟩ := List.cons.inj h2
  obtain ⟨e3, _⟩ := List.cons.inj h3
  cases PyData.int.inj e1
  cases PyData.int.inj e2
  cases ints_inj (PyData.list.inj e3)
  rfl
theorem gameD_inj {g g' : List Row} (h : gameD g = gameD g') : g = g' := by
  have h1 : g.map rowD = g'.map rowD := PyData.list.inj h
  exact List.map_inj_right (fun a b e => rowD_inj e) |>.mp h1
def spLaw (K : PySem.W.Frag) : Sp := fun vs H Q _ => ∃ (a : Addr) (ns : List Int), vs = [.ref a] ∧ SqL K H a (ns.map V.int) ∧ ns.length ≤ 63 ∧ ∀ H', Q (.bl true) H'
end G

namespace G
open PySem PySem.Spec PyProof.Rows L2 Relation
theorem ite_no {c : Bool} {A B : Prop} (h : c = false) (b : B) : if c = true then A else B := by rw [h]; exact b
theorem ite_yes {c : Bool} {A B : Prop} (h : c = true) (a : A) : if c = true then A else B := by rw [h]; exact a
theorem ne_of_same {a b : V} (h : a = b) : (!decide (a = b)) = false := by rw [decide_eq_true h]; rfl
/-! ### what is promised of winners and their steps; a comprehension over a range -/
def wAt (ws : List Int) (p : Int) : Int := (ws[p.toNat]?).getD 0
def InG (g : List Row) (p : Int) : Prop := 0 ≤ p ∧ p < (g.length : Int)
structure SolOk (g : List Row) (ws : List Int) (ss : List (Option Int)) : Prop where
  lenW : ws.length = g.length
  lenS : ss.length = g.length
  zo : ∀ p, InG g p → wAt ws p = 0 ∨ wAt ws p = 1
  own : ∀ p, InG g p → ownAt g p = wAt ws p → ∃ s, ss[p.toNat]? = some (some s)
  oth : ∀ p, InG g p → ownAt g p ≠ wAt ws p → ss[p.toNat]? = some none
  good : ∀ i, i = 0 ∨ i = 1 → PG.Good (gm g) i (fun p => InG g p ∧ wAt ws p = i) (stepAt ss)
def spWon (K : PySem.W.Frag) : Sp := fun vs H Q _ => ∃ (v : V) (g : List Row), vs = [v] ∧ Dp K H v (gameD g) ∧ ValidG g ∧ FewOk g ∧ ∀ H' a ws ss, Same H H' → H a = none → H' a = some (.lst (ws.map V.int)) → SolOk g ws ss → Q (.ref a) H'
def spSteps (K : PySem.W.Frag) : Sp := fun vs H Q _ => ∃ (v : V) (g : List Row), vs = [v] ∧ Dp K H v (gameD g) ∧ ValidG g ∧ FewOk g ∧ ∀ H' a ws ss, Same H H' → H a = none → H' a = some (.lst (ss.map optV)) → SolOk g ws ss → Q (.ref a) H'
/-- flaw, asked of steps without one -/
def spFlawN (K : PySem.W.Frag) : Sp := fun vs H Q _ => ∃ (vg : V) (al at_ : Addr) (g : List Row) (i : Int) (ps : List Int) (ss : List (Option Int)), vs = [vg, .int i, .ref al, .ref at_] ∧ Dp K H vg (gameD g) ∧ ValidG g ∧ (i = 0 ∨ i = 1) ∧ SqL K H al (ps.map V.int) ∧ SqL K H at_ (ss.map optV) ∧ StepsFor g i ss ps ∧ ps.Nodup ∧ (∀ p s, ss[p]? = some (some s) → s ∈ wsOf g (p : Nat)) ∧
  (∀ p ∈ ps, ∀ q ∈ edg g i ss p, q ∈ ps) ∧ ¬ Loses g i ss ps ∧ ∀ H', Same H H' → Q .non H'
section
variable {g : List Row} {ws ws' : List Int} {ss ss' : List (Option Int)}
theorem own01 (hv : ValidG g) {p : Int} (h : InG g p) : ownAt g p = 0 ∨ ownAt g p = 1 := by
  obtain ⟨r, hr, e, _⟩ := row_at h
  rw [e]
  exact (hv.2 r (List.mem_of_getElem? hr)).1
theorem SolOk.same (hv : ValidG g) (h : SolOk g ws ss) (h' : SolOk g ws' ss') : ws' = ws := by
  have k := PG.Good.same (n := g.length) (h.good 0 (.inl rfl)) (h.good 1 (.inr rfl)) (h'.good 0 (.inl rfl)) (h'.good 1 (.inr rfl)) (fun p a b => own01 hv ⟨a, b⟩) (fun p a => a.1) (fun p a => a.1) (fun p a => a.1) (fun p a => a.1)
    (fun p a b => (h.zo p ⟨a, b⟩).imp (fun z => ⟨⟨a, b⟩, z⟩) fun z => ⟨⟨a, b⟩, z⟩) (fun p a b => (h'.zo p ⟨a, b⟩).imp (fun z => ⟨⟨a, b⟩, z⟩) fun z => ⟨⟨a, b⟩, z⟩)
  have e : ∀ p, InG g p → wAt ws' p = wAt ws p := fun p hp => by
    rcases h.zo p hp with z | z
    · rw [z]; exact ((k.1 p).mp ⟨hp, z⟩).2
    · rw [z]; exact ((k.2 p).mp ⟨hp, z⟩).2
  apply List.ext_getElem
  · rw [h.lenW, h'.lenW]
  · intro j h1 h2
    have := e (j : Nat) ⟨by omega, by rw [← h'.lenW]; omega⟩
    unfold wAt at this
    rw [Int.toNat_natCast, List.getElem?_eq_getElem h1, List.getElem?_eq_getElem h2] at this
    exact this
theorem SolOk.way (h : SolOk g ws ss) {p s : Int} (hp : InG g p) (e : ss[p.toNat]? = some (some s)) : ownAt g p = wAt ws p ∧ s ∈ wsOf g p := by
  by_cases o : ownAt g p = wAt ws p
  · refine ⟨o, ?_⟩
    have := (h.good _ (h.zo p hp)).step p ⟨hp, rfl⟩ o
    have es : stepAt ss p = s := by unfold stepAt; rw [e]; rfl
    rw [es] at this
    exact this
  · rw [h.oth p hp o] at e
    cases e
theorem ws_at {g : List Row} {ws : List Int} {p : Int} (hl : ws.length = g.length) (h : InG g p) : (ws.map V.int)[p.toNat]? = some (.int (wAt ws p)) := by
  have hlt : p.toNat < ws.length := by unfold InG at h; omega
  unfold wAt
  rw [List.getElem?_map, List.getElem?_eq_getElem hlt]
  rfl
def upto (n : Nat) : List Int := (List.range n).map fun j : Nat => (j : Int)
theorem upto_succ (n : Nat) : upto (n + 1) = upto n ++ [(n : Int)] := by
  unfold upto
  rw [List.range_succ, List.map_append]
  rfl
theorem mem_upto {n : Nat} {p : Int} : p ∈ upto n ↔ 0 ≤ p ∧ p < (n : Int) := by
  unfold upto
  rw [List.mem_map]
  constructor
  · rintro ⟨j, hj, rfl⟩
    have := List.mem_range.mp hj
    omega
  · intro h
    exact ⟨p.toNat, List.mem_range.mpr (by omega), by omega⟩
theorem len_upto (n : Nat) : (upto n).length = n := by unfold upto; rw [List.length_map, List.length_range]
/-- those of the places from which one wins -/
def mineOf (g : List Row) (ws : List Int) (i : Int) : List Int := (upto g.length).filter fun p => decide (wAt ws p = i)
theorem mem_mine {i p : Int} : p ∈ mineOf g ws i ↔ InG g p ∧ wAt ws p = i := by
  unfold mineOf InG
  rw [List.mem_filter, mem_upto, decide_eq_true_eq]
theorem nodup_upto (n : Nat) : (upto n).Nodup := by
  unfold upto
  rw [List.nodup_iff_pairwise_ne, List.pairwise_map]
  exact (List.nodup_iff_pairwise_ne.mp List.nodup_range).imp fun h e => h (Int.ofNat.inj e)
theorem nodup_mine {i : Int} : (mineOf g ws i).Nodup := (nodup_upto _).filter _
theorem SolOk.steps (h : SolOk g ws ss) {i : Int} (hi : i = 0 ∨ i = 1) : StepsFor g i ss (mineOf g ws i) := ⟨h.lenS, fun p hp => by
  obtain ⟨hp, e⟩ := mem_mine.mp hp
  refine ⟨hp, fun o => ?_⟩
  obtain ⟨s, hs⟩ := h.own p hp (o.trans e.symm)
  exact ⟨s, hs, (h.way hp hs).2⟩⟩
theorem SolOk.shut (h : SolOk g ws ss) {i : Int} (hi : i = 0 ∨ i = 1) : ∀ p ∈ mineOf g ws i, ∀ q ∈ edg g i ss p, q ∈ mineOf g ws i := fun p hp q hq => mem_mine.mpr ((h.good i hi).stay p q (mem_mine.mp hp) (ed_edg.mpr hq))
theorem SolOk.wins (h : SolOk g ws ss) {i : Int} (hi : i = 0 ∨ i = 1) : ¬ Loses g i ss (mineOf g ws i) := fun ⟨v, hv, ho, t⟩ => ho ((h.good i hi).ring v (mem_mine.mp hv) (PG.tg_mono (fun p q z => ⟨mem_mine.mp z.1, ed_edg.mpr z.2.1, z.2.2⟩) t))
end
theorem lc_keepR {n : Nat} {g : TG} {tt : TT} {te : TE} {vs : List Nat} {σ : L2.St} {H1 : Hp} {D : Addr} {Qd : Hp → Prop} (f : Int → Bool) (nD : H1 D = none) (hz : n ≤ 1000)
    (hs : ∀ (i : Nat) (H : Hp) (Q : VK) (N : Hp → Prop), i < n → Same H1 H → (f (i : Nat) = true → ∀ H', Same H H' → Q (.int (i : Nat)) H') → (f (i : Nat) = false → ∀ H', Same H H' → N H') →
      g (.int (0 + (i : Nat))) (wipe σ vs) H fun σ2 H2 => wipe σ2 vs = wipe σ vs ∧ tt σ2 H2 fun b H3 => if b = true then te σ2 H3 Q else N H3)
    (hd : ∀ H, Same H1 H → H D = some (.lst (((upto n).filter f).map V.int)) → Qd H) :
    ∃ W : Nat → Nat → Hp → Prop, (∃ m, W 0 m (upd H1 D (.lst []))) ∧ ∀ i m H, W i m H →
      ((Itr 0 n).stop i H ∧ Qd H) ∨ ((Itr 0 n).go i H ∧ ∃ Nx : Hp → Prop, (∀ H', Nx H' → ∃ m', m' < m ∧ W (i + 1) m' H') ∧ ∀ x H', (Itr 0 n).yld i H x H' → g x (wipe σ vs) H' fun σ2 H2 => wipe σ2 vs = wipe σ vs ∧ tt σ2 H2 fun b H3 =>
        if b = true then te σ2 H3 fun y H4 => ∃ acc, H4 D = some (.lst acc) ∧ acc.length < sizeLine ∧ Nx (upd H4 D (.lst (acc ++ [y]))) else Nx H3) := by
  refine lc_range (lo := 0) (n := n) (fun i H => Same H1 H ∧ H D = some (.lst (((upto i).filter f).map V.int))) ⟨same_upd nD, by rw [upd_same]; rfl⟩ (fun i H hi p => ?_) (fun H p => hd H p.1 p.2)
  have step := upto_succ i
  have le : (((upto i).filter f).map V.int).length < sizeLine := small1000 (by
    rw [List.length_map]
    have := List.length_filter_le f (upto i)
    rw [len_upto] at this
    omega)
  refine hs i H _ _ hi p.1 (fun hf H' s => ⟨_, s _ _ p.2, le, fun b o e => ?_, ?_⟩) (fun hf H' s => ⟨p.1.trans s, ?_⟩)
  · rw [upd_ne (ne_of_none e nD)]
    exact s _ _ (p.1 _ _ e)
  · rw [upd_same, step, List.filter_append, List.filter_cons_of_pos hf, List.map_append]
    rfl
  · rw [s _ _ p.2, step, List.filter_append, List.filter_cons_of_neg (by rw [hf]; decide), List.filter_nil, List.append_nil]
end G

namespace G
open PySem PySem.Spec PyProof.Rows L2
/-! ### dicts of ints, walked and made -/
def dkOf (ks : List Int) (f : Int → V) : List (Key × V) := ks.map fun p => (Sum.inl p, f p)
theorem len_dkOf (ks : List Int) (f : Int → V) : (dkOf ks f).length = ks.length := List.length_map _
theorem val_dkOf (f : Int → V) (p : Int) : ∀ ks : List Int, valV (dkOf ks f) (Sum.inl p) = if p ∈ ks then some (f p) else none
  | [] => rfl
  | x :: ks => by
    by_cases e : x = p
    · rw [if_pos (by rw [e]; exact List.mem_cons_self)]
      show valV ((Sum.inl x, f x) :: dkOf ks f) (Sum.inl p) = _
      rw [valV_pos (by show (Sum.inl x : Key) = Sum.inl p; rw [e]), e]
    · show valV ((Sum.inl x, f x) :: dkOf ks f) (Sum.inl p) = _
      rw [valV_neg (fun z => e (Sum.inl.inj z)), val_dkOf f p ks]
      by_cases m : p ∈ ks
      · rw [if_pos m, if_pos (List.mem_cons_of_mem _ m)]
      · rw [if_neg m, if_neg (fun z => (List.mem_cons.mp z).elim (fun q => e q.symm) m)]
theorem put_dkOf {ks : List Int} {f g : Int → V} {p : Int} {v : V} (h : p ∉ ks) (hg : ∀ q ∈ ks, g q = f q) (hp : g p = v) : putK (dkOf ks f) (Sum.inl p) v = dkOf (ks ++ [p]) g := by
  rw [putK_new v (by rw [val_dkOf, if_neg h])]
  unfold dkOf
  rw [List.map_append]
  have e : ks.map (fun q => ((Sum.inl q : Key), f q)) = ks.map (fun q => ((Sum.inl q : Key), g q)) := List.map_congr_left fun q hq => by rw [hg q hq]
  rw [e, ← hp]
  rfl
theorem set_dkOf {ks : List Int} {f g : Int → V} {p : Int} {v : V} (h : p ∈ ks) (hg : ∀ q ∈ ks, q ≠ p → g q = f q) (hp : g p = v) : putK (dkOf ks f) (Sum.inl p) v = dkOf ks g := by
  unfold putK
  rw [valV_any, val_dkOf, if_pos h, Option.isSome_some, if_pos rfl]
  unfold dkOf
  rw [List.map_map]
  refine List.map_congr_left fun q hq => ?_
  show (if (Sum.inl q : Key) = Sum.inl p then ((Sum.inl q : Key), v) else (Sum.inl q, f q)) = (Sum.inl q, g q)
  by_cases e : q = p
  · rw [if_pos (by rw [e]), e, hp]
  · rw [if_neg (fun z => e (Sum.inl.inj z)), hg q hq e]
theorem keys_dkOf (ks : List Int) (f : Int → V) : (dkOf ks f).map (fun kv => kV kv.1) = ks.map V.int := by
  unfold dkOf
  rw [List.map_map]
  rfl
theorem get_dkOf {ks : List Int} {f : Int → V} {i : Nat} {k : Key} {v : V} (h : (dkOf ks f)[i]? = some (k, v)) : ∃ p, ks[i]? = some p ∧ k = Sum.inl p ∧ v = f p := by
  unfold dkOf at h
  rw [List.getElem?_map] at h
  obtain ⟨p, hp, e⟩ := Option.map_eq_some_iff.mp h
  cases e
  exact ⟨p, hp, rfl, rfl⟩
def But (d : Addr) (H H' : Hp) : Prop := ∀ b o, b ≠ d → H b = some o → H' b = some o
theorem But.trans {d : Addr} {H H1 H2 : Hp} (a : But d H H1) (b : But d H1 H2) : But d H H2 := fun c o n h => b c o n (a c o n h)
theorem But.of {d : Addr} {H H1 : Hp} (a : Same H H1) : But d H H1 := fun c o _ h => a c o h
theorem But.upd {d : Addr} {H : Hp} {o : HO} : But d H (upd H d o) := fun c u n h => by rw [upd_ne n]; exact h
/-- lists and tuples stay -/
def SqS (K : PySem.W.Frag) (H H' : Hp) : Prop := (∀ a xs, SqL K H a xs → SqL K H' a xs) ∧ ∀ a xs, SqT K H a xs → SqT K H' a xs
theorem SqS.of {K : PySem.W.Frag} {H H' : Hp} (s : Same H H') : SqS K H H' := ⟨fun _ _ h => s.seq h, fun _ _ h => same_sqt s h⟩
theorem SqS.trans {K : PySem.W.Frag} {H H1 H2 : Hp} (a : SqS K H H1) (b : SqS K H1 H2) : SqS K H H2 := ⟨fun c x h => b.1 c x (a.1 c x h), fun c x h => b.2 c x (a.2 c x h)⟩
/-- what stands at d is a dict, locked or not -/
def DictAt (H : Hp) (d : Addr) : Prop := (∃ kvs, Rd H d (.dK kvs)) ∨ ∃ kvs, Rd H d (.dT kvs)
theorem SqS.but {K : PySem.W.Frag} {d : Addr} {H H' : Hp} (hd : DictAt H d) (b : But d H H') : SqS K H H' := by
  have ne : ∀ {a : Addr} {o : HO}, H a = some o → (∀ kvs, o ≠ .dK kvs) → (∀ kvs, o ≠ .dT kvs) → (∀ u kvs, o ≠ .frz u (.dK kvs)) → (∀ u kvs, o ≠ .frz u (.dT kvs)) → a ≠ d := fun e h1 h2 h3 h4 z => by
    subst z
    rcases hd with ⟨k, q | ⟨u, q⟩⟩ | ⟨k, q | ⟨u, q⟩⟩ <;> rw [e] at q <;> have q' := Option.some.inj q
    · exact h1 _ q'
    · exact h3 _ _ q'
    · exact h2 _ q'
    · exact h4 _ _ q'
  constructor
  · intro a xs h
    rcases h with (h | ⟨o, h⟩) | h
    · exact .inl (.inl (b _ _ (ne h (fun _ z => nomatch z) (fun _ z => nomatch z) (fun _ _ z => nomatch z) (fun _ _ z => nomatch z)) h))
    · exact .inl (.inr ⟨o, b _ _ (ne h (fun _ z => nomatch z) (fun _ z => nomatch z) (fun _ _ z => nomatch z) (fun _ _ z => nomatch z)) h⟩)
    · exact .inr h
  · intro a xs h
    rcases h with (h | ⟨o, h⟩) | h
    · exact .inl (.inl (b _ _ (ne h (fun _ z => nomatch z) (fun _ z => nomatch z) (fun _ _ z => nomatch z) (fun _ _ z => nomatch z)) h))
    · exact .inl (.inr ⟨o, b _ _ (ne h (fun _ z => nomatch z) (fun _ z => nomatch z) (fun _ _ z => nomatch z) (fun _ _ z => nomatch z)) h⟩)
    · exact .inr h
mutual
theorem dp_sq {K : PySem.W.Frag} {H H' : Hp} (s : SqS K H H') : ∀ (d : PyData) (v : V), Dp K H v d → Dp K H' v d
  | .none, _, h => by cases h; exact .non
  | .bool b, _, h => by cases h; exact .bl b
  | .int i, _, h => by cases h; exact .int i
  | .str x, _, h => by cases h; exact .str x
  | .list ds, _, h => by
    cases h with
    | lst hs ha => exact .lst (s.1 _ _ hs) (dp_sqAll s ds _ ha)
  | .tuple ds, _, h => by
    cases h with
    | tup hs ha => exact .tup (s.2 _ _ hs) (dp_sqAll s ds _ ha)
  | .dict _, _, h => by cases h
theorem dp_sqAll {K : PySem.W.Frag} {H H' : Hp} (s : SqS K H H') : ∀ (ds : List PyData) (vs : List V), DpAll K H vs ds → DpAll K H' vs ds
  | [], _, h => by cases h; exact .nil
  | d :: ds, _, h => by
    cases h with
    | cons h1 h2 => exact .cons (dp_sq s d _ h1) (dp_sqAll s ds _ h2)
end
/-- locked and set free again: all stays -/
theorem same_free {d : Addr} {u : HO} {o : Obj} {H H' : Hp} (hd : H d = some u) (s : Same (upd H d (.frz o u)) H') : Same H (upd H' d u) := fun b x e => by
  by_cases z : b = d
  · subst z
    rw [upd_same, ← hd, e]
  · rw [upd_ne z]
    exact s _ _ (by rw [upd_ne z]; exact e)
theorem rd_mono {H H' : Hp} {a : Addr} {u : HO} (s : Same H H') (h : Rd H a u) : Rd H' a u := h.imp (s _ _) fun ⟨o, q⟩ => ⟨o, s _ _ q⟩
theorem rd_but {d : Addr} {H H' : Hp} {a : Addr} {u : HO} (s : But d H H') (n : a ≠ d) (h : Rd H a u) : Rd H' a u := h.imp (s _ _ n) fun ⟨o, q⟩ => ⟨o, s _ _ n q⟩
theorem rd_inj {H : Hp} {a : Addr} {k k2 : List (Key × V)} (h : Rd H a (.dK k)) (h2 : H a = some (.dK k2)) : k = k2 := by
  rcases h with h | ⟨o, h⟩
  · rw [h2] at h
    exact (HO.dK.inj (Option.some.inj h)).symm
  · rw [h2] at h
    cases h
/-! ### comprehensions over the keys of a dict -/
theorem lc_dkeys {i : Nat} {g : TG} {tt : TT} {te : TE} {vs : List Nat} {σ : L2.St} {H : Hp} {Q : VK} {d : Addr} {ks : List Int} {f0 : Int → V} (f : Int → Bool) (h : Int → V) (hi : σ[i]? = some (some (.ref d))) (hd : H d = some (.dK (dkOf ks f0))) (hz : ks.length ≤ 1000)
    (hs : ∀ (p : Int) (H' : Hp) (Qe : VK) (N : Hp → Prop), p ∈ ks → But d H H' → Rd H' d (.dK (dkOf ks f0)) → (f p = true → ∀ H'', Same H' H'' → Qe (h p) H'') → (f p = false → ∀ H'', Same H' H'' → N H'') →
      g (.int p) (wipe σ vs) H' fun σ2 H2 => wipe σ2 vs = wipe σ vs ∧ tt σ2 H2 fun b H3 => if b = true then te σ2 H3 Qe else N H3)
    (hq : ∀ H' D, Same H H' → H D = none → H' D = some (.lst ((ks.filter f).map h)) → Q (.ref D) H') : tLockE (tLc (iKeys (tVar i)) g tt te vs) σ H Q := by
  refine ⟨d, _, hd, True.intro, fun od => ⟨_, hi, d, od, rfl, .inl ⟨_, upd_same, fun D nD => ?_⟩⟩⟩
  have nD' : H D = none ∧ D ≠ d := by
    by_cases z : D = d
    · rw [z, upd_same] at nD
      cases nD
    · rw [upd_ne z] at nD
      exact ⟨nD, z⟩
  refine lc_it walk_keys (fun j H' => Same (upd H d (.frz od (.dK (dkOf ks f0)))) H' ∧ H' D = some (.lst (((ks.take j).filter f).map h))) ⟨same_upd nD, by rw [upd_same]; rfl⟩ (fun j H' _ p => p.1 _ _ upd_same) (fun j x H1 H2 hj p y => ?_) (fun H' p => ⟨p.1 _ _ upd_same, ?_⟩)
  · obtain ⟨rfl, k, v, hk, rfl⟩ := y
    obtain ⟨q, hq', rfl, rfl⟩ := get_dkOf hk
    have bt : But d H H2 := fun b o n e => p.1 _ _ (by rw [upd_ne n]; exact e)
    have step : ks.take (j + 1) = ks.take j ++ [q] := by rw [List.take_add_one, hq']; rfl
    refine hs q H2 _ _ (List.mem_of_getElem? hq') bt (.inr ⟨od, p.1 _ _ upd_same⟩) (fun hf H'' s => ⟨_, s _ _ p.2, ?_, fun b o e => ?_, ?_⟩) (fun hf H'' s => ⟨p.1.trans s, ?_⟩)
    · exact small1000 (by
        rw [List.length_map]
        have h1 := List.length_filter_le f (ks.take j)
        have h2 : (ks.take j).length ≤ j := by rw [List.length_take]; omega
        rw [len_dkOf] at hj
        omega)
    · rw [upd_ne (ne_of_none e nD)]
      exact s _ _ (p.1 _ _ e)
    · rw [upd_same, step, List.filter_append, List.filter_cons_of_pos hf, List.map_append]
      rfl
    · rw [s _ _ p.2, step, List.filter_append, List.filter_cons_of_neg (by rw [hf]; decide), List.filter_nil, List.append_nil]
  · have e : ks.take (dkOf ks f0).length = ks := by rw [len_dkOf]; exact List.take_length
    have q := p.2
    rw [e] at q
    refine hq _ D (same_free hd p.1) nD'.1 ?_
    rw [upd_ne nD'.2]
    exact q
/-- a dict comprehension over anything walked, keys told one by one; P holds of what is made, and stays -/
theorem dc_it {J : It} {n : Nat} {G0 : Hp → Prop} {Y : Nat → Hp → V → Hp → Prop} (w : Walk J n G0 Y) {g : TG} {tt : TT} {tk tv : TE} {vs : List Nat} {σ : L2.St} {H1 : Hp} {D : Addr} {Qd : Hp → Prop} (Pv : Nat → Hp → Prop) (h0 : Pv 0 (upd H1 D (.dK []))) (hG : ∀ i H, i ≤ n → Pv i H → G0 H)
    (hs : ∀ i x H H', i < n → Pv i H → Y i H x H' → g x (wipe σ vs) H' fun σ2 H2 => wipe σ2 vs = wipe σ vs ∧ tt σ2 H2 fun b H3 =>
      if b = true then tk σ2 H3 fun y H4 => tv σ2 H4 fun z H5 => ∃ kvs k, y = kV k ∧ H5 D = some (.dK kvs) ∧ kvs.length < sizeLine ∧ Pv (i + 1) (upd H5 D (.dK (putK kvs k z))) else Pv (i + 1) H3) (hd : ∀ H, Pv n H → Qd H) :
    ∃ W : Nat → Nat → Hp → Prop, (∃ m, W 0 m (upd H1 D (.dK []))) ∧ ∀ i m H, W i m H →
      (J.stop i H ∧ Qd H) ∨ (J.go i H ∧ ∃ Nx : Hp → Prop, (∀ H', Nx H' → ∃ m', m' < m ∧ W (i + 1) m' H') ∧ ∀ x H', J.yld i H x H' → g x (wipe σ vs) H' fun σ2 H2 => wipe σ2 vs = wipe σ vs ∧ tt σ2 H2 fun b H3 =>
        if b = true then tk σ2 H3 fun y H4 => tv σ2 H4 fun z H5 => ∃ kvs k, y = kV k ∧ H5 D = some (.dK kvs) ∧ kvs.length < sizeLine ∧ Nx (upd H5 D (.dK (putK kvs k z))) else Nx H3) := by
  refine ⟨fun i m H => m = n - i ∧ i ≤ n ∧ Pv i H, ⟨n, by simp, Nat.zero_le _, h0⟩, ?_⟩
  rintro i m H ⟨rfl, hi, p⟩
  have q := hG i H hi p
  by_cases hlt : i < n
  · exact .inr ⟨w.goes i H hlt q, Pv (i + 1), fun H' p' => ⟨n - (i + 1), by omega, rfl, hlt, p'⟩, fun x H' y => hs i x H H' hlt p (w.yields i H x H' hlt q y)⟩
  · have e : i = n := by omega
    subst e
    exact .inl ⟨w.stops H q, hd H p⟩
/-- tuples stay -/
def KeepT (H H' : Hp) : Prop := ∀ b xs, H b = some (.tup xs) → H' b = some (.tup xs)
theorem KeepT.of {H H' : Hp} (s : Same H H') : KeepT H H' := fun b xs e => s b _ e
theorem KeepT.upd {H : Hp} {d : Addr} {o u : HO} (h : H d = some u) (n : ∀ xs, u ≠ .tup xs) : KeepT H (upd H d o) := fun b xs e => by
  rw [upd_ne (fun z => by rw [z, h] at e; exact n xs (Option.some.inj e))]
  exact e
/-- what is made, told one by one over a row of ints; D the new dict -/
theorem dc_ints {J : It} {n : Nat} {G0 : Hp → Prop} {Y : Nat → Hp → V → Hp → Prop} (w : Walk J n G0 Y) {g : TG} {tt : TT} {tk tv : TE} {vs : List Nat} {σ : L2.St} {H1 : Hp} {D : Addr} {Qd : Hp → Prop} (ks : List Int) (f : Int → Bool) (R : Int → V → Hp → Prop) (hR : ∀ p v H' H'', KeepT H' H'' → R p v H' → R p v H'')
    (hn : ks.length = n) (hz : ks.length ≤ 1000) (hN : ks.Nodup) (nD : H1 D = none) (hG : ∀ H, Same H1 H → G0 H) (hY : ∀ i H x H', i < n → Same H1 H → Y i H x H' → H' = H ∧ ∃ p, ks[i]? = some p ∧ x = .int p)
    (hs : ∀ (p : Int) (H' : Hp) (Qe : V → V → Hp → Prop) (N : Hp → Prop), p ∈ ks → Same H1 H' → (f p = true → ∀ v H'', Same H' H'' → R p v H'' → Qe (.int p) v H'') → (f p = false → ∀ H'', Same H' H'' → N H'') →
      g (.int p) (wipe σ vs) H' fun σ2 H2 => wipe σ2 vs = wipe σ vs ∧ tt σ2 H2 fun b H3 => if b = true then tk σ2 H3 fun y H4 => tv σ2 H4 fun z H5 => Qe y z H5 else N H3)
    (hq : ∀ H' h, Same H1 H' → H' D = some (.dK (dkOf (ks.filter f) h)) → (∀ p ∈ ks.filter f, R p (h p) H') → Qd H') :
    ∃ W : Nat → Nat → Hp → Prop, (∃ m, W 0 m (upd H1 D (.dK []))) ∧ ∀ i m H, W i m H →
      (J.stop i H ∧ Qd H) ∨ (J.go i H ∧ ∃ Nx : Hp → Prop, (∀ H', Nx H' → ∃ m', m' < m ∧ W (i + 1) m' H') ∧ ∀ x H', J.yld i H x H' → g x (wipe σ vs) H' fun σ2 H2 => wipe σ2 vs = wipe σ vs ∧ tt σ2 H2 fun b H3 =>
        if b = true then tk σ2 H3 fun y H4 => tv σ2 H4 fun z H5 => ∃ kvs k, y = kV k ∧ H5 D = some (.dK kvs) ∧ kvs.length < sizeLine ∧ Nx (upd H5 D (.dK (putK kvs k z))) else Nx H3) := by
  refine dc_it w (fun j H' => ∃ h, Same H1 H' ∧ H' D = some (.dK (dkOf ((ks.take j).filter f) h)) ∧ ∀ p ∈ (ks.take j).filter f, R p (h p) H') ⟨fun _ => .non, same_upd nD, by rw [upd_same]; rfl, fun p hp => by cases hp⟩ (fun j H' _ ⟨_, p, _⟩ => hG _ p) (fun j x H0 H2 hj ⟨h, p, pD, pR⟩ y => ?_) (fun H' ⟨h, p, pD, pR⟩ => ?_)
  · obtain ⟨rfl, q, hq', rfl⟩ := hY j H0 x H2 hj p y
    have step : ks.take (j + 1) = ks.take j ++ [q] := by rw [List.take_add_one, hq']; rfl
    have new : q ∉ ks.take j := by
      have hN' := hN.sublist (List.take_sublist (j + 1) ks)
      rw [step, List.nodup_append] at hN'
      exact fun z => hN'.2.2 q z q (List.mem_singleton.mpr rfl) rfl
    refine hs q H2 _ _ (List.mem_of_getElem? hq') p (fun hf v H'' s hv => ⟨_, Sum.inl q, rfl, s _ _ pD, ?_, fun a => if a = q then v else h a, fun b o e => ?_, ?_, fun a ha => ?_⟩) (fun hf H'' s => ⟨h, p.trans s, ?_, fun a ha => ?_⟩)
    · refine small1000 ?_
      rw [len_dkOf]
      have h1 := List.length_filter_le f (ks.take j)
      have h2 : (ks.take j).length ≤ j := by rw [List.length_take]; omega
      omega
    · rw [upd_ne (ne_of_none e nD)]
      exact s _ _ (p _ _ e)
    · rw [upd_same, step, List.filter_append, List.filter_cons_of_pos hf, List.filter_nil, put_dkOf (g := fun a => if a = q then v else h a) (fun z => new (List.mem_filter.mp z).1) (fun a ha => if_neg (c := a = q) fun z => new (by rw [← z]; exact (List.mem_filter.mp ha).1)) (if_pos rfl)]
    · rw [step, List.filter_append, List.filter_cons_of_pos hf, List.filter_nil] at ha
      have kt : KeepT H'' (upd H'' D (.dK (putK (dkOf ((ks.take j).filter f) h) (Sum.inl q) v))) := KeepT.upd (s _ _ pD) fun _ z => nomatch z
      refine hR _ _ _ _ kt ?_
      show R a (if a = q then v else h a) H''
      rcases List.mem_append.mp ha with z | z
      · rw [if_neg (c := a = q) fun e => new (by rw [← e]; exact (List.mem_filter.mp z).1)]
        exact hR _ _ _ _ (KeepT.of s) (pR a z)
      · have e : a = q := by simpa using z
        rw [if_pos e, e]
        exact hv
    · rw [s _ _ pD, step, List.filter_append, List.filter_cons_of_neg (by rw [hf]; decide), List.filter_nil, List.append_nil]
    · rw [step, List.filter_append, List.filter_cons_of_neg (by rw [hf]; decide), List.filter_nil, List.append_nil] at ha
      exact hR _ _ _ _ (KeepT.of s) (pR a ha)
  · rw [← hn, List.take_length] at pD pR
    exact hq H' h p pD pR
/-- {p: .. for p in d if f p} -/
theorem dc_dkeys {i : Nat} {g : TG} {tt : TT} {tk tv : TE} {vs : List Nat} {σ : L2.St} {H : Hp} {Q : VK} {d : Addr} {ks : List Int} {f0 : Int → V} (f : Int → Bool) (R : Int → V → Hp → Prop) (hR : ∀ p v H' H'', KeepT H' H'' → R p v H' → R p v H'') (hi : σ[i]? = some (some (.ref d))) (hd : H d = some (.dK (dkOf ks f0))) (hz : ks.length ≤ 1000) (hN : ks.Nodup)
    (hs : ∀ (p : Int) (H' : Hp) (Qe : V → V → Hp → Prop) (N : Hp → Prop), p ∈ ks → But d H H' → Rd H' d (.dK (dkOf ks f0)) → (f p = true → ∀ v H'', Same H' H'' → R p v H'' → Qe (.int p) v H'') → (f p = false → ∀ H'', Same H' H'' → N H'') →
      g (.int p) (wipe σ vs) H' fun σ2 H2 => wipe σ2 vs = wipe σ vs ∧ tt σ2 H2 fun b H3 => if b = true then tk σ2 H3 fun y H4 => tv σ2 H4 fun z H5 => Qe y z H5 else N H3)
    (hq : ∀ H' D h, Same H H' → H D = none → H' D = some (.dK (dkOf (ks.filter f) h)) → (∀ p ∈ ks.filter f, R p (h p) H') → Q (.ref D) H') : tLockE (tDc (iKeys (tVar i)) g tt tk tv vs) σ H Q := by
  refine ⟨d, _, hd, True.intro, fun od => ⟨_, hi, d, od, rfl, .inl ⟨_, upd_same, fun D nD => ?_⟩⟩⟩
  have nD' : H D = none ∧ D ≠ d := by
    by_cases z : D = d
    · rw [z, upd_same] at nD
      cases nD
    · rw [upd_ne z] at nD
      exact ⟨nD, z⟩
  refine dc_ints walk_keys ks f R hR (len_dkOf ks f0).symm hz hN nD (fun H' s => s _ _ upd_same) (fun j H0 x H2 hj s y => ?_) (fun p H' Qe N hp s h1 h2 => hs p H' Qe N hp (fun b o n e => s _ _ (by rw [upd_ne n]; exact e)) (.inr ⟨od, s _ _ upd_same⟩) h1 h2) (fun H' h s e r => ⟨s _ _ upd_same, ?_⟩)
  · obtain ⟨rfl, k, v, hk, rfl⟩ := y
    obtain ⟨q, hq', rfl, rfl⟩ := get_dkOf hk
    exact ⟨rfl, q, hq', rfl⟩
  · refine hq _ D h (same_free hd s) nD'.1 (by rw [upd_ne nD'.2]; exact e) fun p hp => ?_
    exact hR _ _ _ _ (KeepT.upd (s _ _ upd_same) fun _ z => nomatch z) (r p hp)
/-! ### lists made over a row of ints -/
theorem lc_ints {J : It} {n : Nat} {G0 : Hp → Prop} {Y : Nat → Hp → V → Hp → Prop} (w : Walk J n G0 Y) {g : TG} {tt : TT} {te : TE} {vs : List Nat} {σ : L2.St} {H1 : Hp} {D : Addr} {Qd : Hp → Prop} (ks : List Int) (f : Int → Bool) (h : Int → V)
    (hn : ks.length = n) (hz : ks.length ≤ 1000) (nD : H1 D = none) (hG : ∀ H, Same H1 H → G0 H) (hY : ∀ i H x H', i < n → Same H1 H → Y i H x H' → H' = H ∧ ∃ p, ks[i]? = some p ∧ x = .int p)
    (hs : ∀ (p : Int) (H' : Hp) (Qe : VK) (N : Hp → Prop), p ∈ ks → Same H1 H' → (f p = true → ∀ H'', Same H' H'' → Qe (h p) H'') → (f p = false → ∀ H'', Same H' H'' → N H'') →
      g (.int p) (wipe σ vs) H' fun σ2 H2 => wipe σ2 vs = wipe σ vs ∧ tt σ2 H2 fun b H3 => if b = true then te σ2 H3 Qe else N H3)
    (hq : ∀ H', Same H1 H' → H' D = some (.lst ((ks.filter f).map h)) → Qd H') :
    ∃ W : Nat → Nat → Hp → Prop, (∃ m, W 0 m (upd H1 D (.lst []))) ∧ ∀ i m H, W i m H →
      (J.stop i H ∧ Qd H) ∨ (J.go i H ∧ ∃ Nx : Hp → Prop, (∀ H', Nx H' → ∃ m', m' < m ∧ W (i + 1) m' H') ∧ ∀ x H', J.yld i H x H' → g x (wipe σ vs) H' fun σ2 H2 => wipe σ2 vs = wipe σ vs ∧ tt σ2 H2 fun b H3 =>
        if b = true then te σ2 H3 fun y H4 => ∃ acc, H4 D = some (.lst acc) ∧ acc.length < sizeLine ∧ Nx (upd H4 D (.lst (acc ++ [y]))) else Nx H3) := by
  refine lc_it w (fun j H' => Same H1 H' ∧ H' D = some (.lst (((ks.take j).filter f).map h))) ⟨same_upd nD, by rw [upd_same]; rfl⟩ (fun j H' _ p => hG _ p.1) (fun j x H0 H2 hj p y => ?_) (fun H' p => ?_)
  · obtain ⟨rfl, q, hq', rfl⟩ := hY j H0 x H2 hj p.1 y
    have step : ks.take (j + 1) = ks.take j ++ [q] := by rw [List.take_add_one, hq']; rfl
    refine hs q H2 _ _ (List.mem_of_getElem? hq') p.1 (fun hf H'' s => ⟨_, s _ _ p.2, ?_, fun b o e => ?_, ?_⟩) (fun hf H'' s => ⟨p.1.trans s, ?_⟩)
    · refine small1000 ?_
      rw [List.length_map]
      have h1 := List.length_filter_le f (ks.take j)
      have h2 : (ks.take j).length ≤ j := by rw [List.length_take]; omega
      omega
    · rw [upd_ne (ne_of_none e nD)]
      exact s _ _ (p.1 _ _ e)
    · rw [upd_same, step, List.filter_append, List.filter_cons_of_pos hf, List.map_append]
      rfl
    · rw [s _ _ p.2, step, List.filter_append, List.filter_cons_of_neg (by rw [hf]; decide), List.filter_nil, List.append_nil]
  · have q := p.2
    rw [← hn, List.take_length] at q
    exact hq H' p.1 q
theorem y_list {ks : List Int} {i : Nat} {H H' : Hp} {x : V} (y : YAt (ks.map V.int) i H x H') : H' = H ∧ ∃ p, ks[i]? = some p ∧ x = .int p := by
  obtain ⟨e, h⟩ := y
  rw [List.getElem?_map] at h
  obtain ⟨p, hp, rfl⟩ := Option.map_eq_some_iff.mp h
  exact ⟨e, p, hp, rfl⟩
theorem y_range {n i : Nat} {H H' : Hp} {x : V} (hi : i < n) (y : YFn (fun i => .int (0 + (i : Nat))) i H x H') : H' = H ∧ ∃ p, (upto n)[i]? = some p ∧ x = .int p := by
  obtain ⟨e, rfl⟩ := y
  refine ⟨e, (i : Int), ?_, by show V.int (0 + (i : Int)) = _; rw [Int.zero_add]⟩
  unfold upto
  rw [List.getElem?_map, List.getElem?_range hi]
  rfl
theorem dget_rd {H : Hp} {a : Addr} {ks : List Int} {f : Int → V} {p : Int} (h : Rd H a (.dK (dkOf ks f))) : DGet H a (.int p) (if p ∈ ks then some (f p) else none) := .inl ⟨_, Sum.inl p, h, rfl, (val_dkOf f p ks).symm⟩
theorem some_if {c : Prop} [Decidable c] {α : Type} {v : α} : (if c then some v else none).isSome = decide c := by
  by_cases h : c
  · rw [if_pos h, decide_eq_true h]; rfl
  · rw [if_neg h, decide_eq_false h]; rfl
end G

namespace G
open PySem PySem.Spec PyProof.Rows L2
abbrev s_everywhere : Stmt := topS 20
theorem sc_everywhere : FnScope ["game", "place"] ["game"] (defScope s_everywhere) := ⟨rfl, rfl, rfl, by decide +kernel, rfl, by decide +kernel, by decide +kernel⟩
abbrev s_leads : Stmt := topS 22
theorem sc_leads : FnScope ["row", "inside", "player", "found", "owner", "_", "ways", "way"] ["row", "inside", "player", "found"] (defScope s_leads) := ⟨rfl, rfl, rfl, by decide +kernel, rfl, by decide +kernel, by decide +kernel⟩
abbrev s_drawn : Stmt := topS 21
theorem sc_drawn : FnScope ["game", "inside", "player", "places", "found", "now", "fresh", "left", "place"] ["game", "inside", "player", "places"] (defScope s_drawn) := ⟨rfl, rfl, rfl, by decide +kernel, rfl, by decide +kernel, by decide +kernel⟩
def tV : Int → V := fun _ => .bl true
section
variable {P : Program} {w : World} {K : PySem.W.Frag} {mg : Str → Option Value} {base : Heap}
def spEverywhere (K : PySem.W.Frag) : Sp := fun vs H Q _ => ∃ (v : V) (g : List Row), vs = [v] ∧ Dp K H v (gameD g) ∧ g.length ≤ 1000 ∧ ∀ H' D, Same H H' → H D = none → H' D = some (.dK (dkOf (upto g.length) tV)) → Q (.ref D) H'
theorem ok_everywhere {f : Addr} {fd : FuncData} (B : Bt mg) (F : Fun K "everywhere" "everywhere" s_everywhere f fd) : FnOk P w K mg base (L2.CX P w) 1 f fd ["game"] (spEverywhere K) := by
  refine F.okX sc_everywhere (fun vs H Q E h => ?_) (fun cdv Ar outer s H vs Q E hr h => ?_)
  · obtain ⟨v, g, rfl, _⟩ := h
    rfl
  · obtain ⟨v, g, rfl, hg, hz, q⟩ := h
    refine ⟨_, (pss_one (ps_ret (pe_dc (own := [("place", 1)]) (by rfl) sc_everywhere.nd (pi_range1 (by rfl) B.range_ (pa_cons (pe_callB call_len_seq (by rfl) B.len_ (by decide +kernel) (pa_cons (pv 0) pa_nil)) pa_nil)) (blkOk_by (own := [("place", 1)]) (N := ["game", "place"]) (sc := defScope s_everywhere) (by decide +kernel)) (fun _ _ _ _ _ => (pg_name (i := 1) sc_everywhere.nd rfl (Or.inl rfl))) (fun _ _ _ _ _ => pts_nil) (fun _ _ _ _ _ => (pv 1)) (fun _ _ _ _ _ => pe_bl)))), ?_⟩
    obtain ⟨ag, xg, rfl, hG, hGl, hGr⟩ := dp_game hg
    refine ⟨_, rfl, _, _, rfl, .inl hG, _, rfl, by omega, by omega, fun D nD => ?_⟩
    rw [hGl, Int.toNat_natCast]
    refine dc_ints walk_range (upto g.length) (fun _ => true) (fun _ v _ => v = .bl true) (fun _ _ _ _ _ e => e) (len_upto _) (by rw [len_upto]; exact hz) (nodup_upto _) nD (fun _ _ => True.intro) (fun j H0 x H2 hj _ y => y_range hj y) (fun p H' Qe N hp sm h1 h2 => ⟨rfl, _, rfl, h1 rfl _ _ (Same.refl _) rfl⟩) (fun H' h sm e r => q H' D sm nD ?_)
    rw [e, List.filter_eq_self.mpr fun _ _ => rfl]
    rw [List.filter_eq_self.mpr fun _ _ => rfl] at r
    exact congrArg (fun z => some (HO.dK z)) (List.map_congr_left fun p hp => by rw [r p hp]; rfl)
def spWithout (K : PySem.W.Frag) : Sp := fun vs H Q _ => ∃ (a b : Addr) (A N : List Int) (fN : Int → V), vs = [.ref a, .ref b] ∧ H a = some (.dK (dkOf A tV)) ∧ H b = some (.dK (dkOf N fN)) ∧ b ≠ a ∧ A.Nodup ∧ A.length ≤ 1000 ∧
  ∀ H' D, Same H H' → H D = none → H' D = some (.dK (dkOf (A.filter fun p => decide (p ∉ N)) tV)) → Q (.ref D) H'
def leadsM (r : Row) (A F : List Int) (i : Int) : Bool := if r.p = i then r.ws.any (fun q => decide (q ∈ F)) else (r.ws.filter fun q => decide (q ∈ A)).all fun q => decide (q ∈ F)
def spLeads (K : PySem.W.Frag) : Sp := fun vs H Q _ => ∃ (vr : V) (r : Row) (ai af : Addr) (i : Int) (A F : List Int) (fF : Int → V), vs = [vr, .ref ai, .int i, .ref af] ∧ Dp K H vr (rowD r) ∧ Rd H ai (.dK (dkOf A tV)) ∧ Rd H af (.dK (dkOf F fF)) ∧ r.ws.length ≤ 1000 ∧
  ∀ H', Same H H' → Q (.bl (leadsM r A F i)) H'
theorem ok_leads {f : Addr} {fd : FuncData} (B : Bt mg) (F : Fun K "leads" "leads" s_leads f fd) : FnOk P w K mg base (L2.CX P w) 1 f fd ["row", "inside", "player", "found"] (spLeads K) := by
  refine F.okX sc_leads (fun vs H Q E h => ?_) (fun cdv Ar outer s H vs Q E hr h => ?_)
  · obtain ⟨vr, r, ai, af, i, A, F', fF, rfl, _⟩ := h
    rfl
  · obtain ⟨vr, r, ai, af, i, A, F', fF, rfl, hrw, hA, hF, hz, q⟩ := h
    refine ⟨_, (pss_cons (ps_asg (pv 0) (pg_tup (by rfl) (pgs_cons (pg_name (i := 4) sc_leads.nd rfl (Or.inl rfl)) (pgs_cons (pg_name (i := 5) sc_leads.nd rfl (Or.inl rfl)) (pgs_cons (pg_name (i := 6) sc_leads.nd rfl (Or.inl rfl)) pgs_nil)))))
      (pss_cons (ps_if (pt_cmpR op_eq (pv 4) (pv 2) (nomark _)) (pss_one (ps_ret (pe_callB (cr_any rfl) (by rfl) B.any_ (by decide +kernel) (pa_cons (pe_lc (own := [("way", 7)]) (by rfl) sc_leads.nd (pi_list (pv 6)) (blkOk_by (own := [("way", 7)]) (N := ["row", "inside", "player", "found", "owner", "_", "ways", "way"]) (sc := defScope s_leads) (by decide +kernel)) (fun _ _ _ _ _ => (pg_name (i := 7) sc_leads.nd rfl (Or.inl rfl))) (fun _ _ _ _ _ => pts_nil) (fun _ _ _ _ _ => (pe_cmp (pc_din (hu_of hr) (pv 7) (pv 3))))) pa_nil)))) pss_nil)
      (pss_one (ps_ret (pe_callB (cr_all rfl) (by rfl) B.all_ (by decide +kernel) (pa_cons (pe_lc (own := [("way", 7)]) (by rfl) sc_leads.nd (pi_list (pv 6)) (blkOk_by (own := [("way", 7)]) (N := ["row", "inside", "player", "found", "owner", "_", "ways", "way"]) (sc := defScope s_leads) (by decide +kernel)) (fun _ _ _ _ _ => (pg_name (i := 7) sc_leads.nd rfl (Or.inl rfl))) (fun _ _ _ _ _ => (pts_one (pt_cmp (pc_din (hu_of hr) (pv 7) (pv 1))))) (fun _ _ _ _ _ => (pe_cmp (pc_din (hu_of hr) (pv 7) (pv 3))))) pa_nil)))))), ?_⟩
    obtain ⟨t, wy, rfl, hT, hW⟩ := dp_row hrw
    refine ⟨_, rfl, t, _, rfl, hT, rfl, _, _, rfl, _, _, rfl, _, _, rfl, rfl, ?_⟩
    refine ⟨_, rfl, _, rfl, rfl, _, rfl, ite2 (fun e => ?_) (fun e => ?_)⟩
    · have ep : r.p = i := V.int.inj (of_decide_eq_true e)
      have em : leadsM r A F' i = r.ws.any fun q => decide (q ∈ F') := if_pos ep
      rw [em] at q
      refine ⟨_, rfl, wy, rfl, ⟨_, hW⟩, fun D nD => lc_ints walk_list r.ws (fun _ => true) (fun p => .bl (decide (p ∈ F'))) (List.length_map _).symm hz nD (fun H' sm => sm.seq hW) (fun j H0 x H2 _ _ y => y_list y) (fun p H' Qe N hp sm h1 h2 => ?_) (fun H' sm hD => ?_)⟩
      · refine ⟨rfl, _, rfl, _, rfl, _, _, rfl, dget_rd (rd_mono sm hF), ?_⟩
        rw [some_if]
        exact h1 rfl _ (Same.refl _)
      · rw [List.filter_eq_self.mpr fun _ _ => rfl] at hD
        refine ⟨D, r.ws.map (fun p => decide (p ∈ F')), rfl, .inl (.inl (by rw [hD, List.map_map]; rfl)), ?_⟩
        rw [List.any_map]
        exact q _ sm
    · have ep : ¬ r.p = i := fun z => e (decide_eq_true (congrArg V.int z))
      have em : leadsM r A F' i = (r.ws.filter fun q => decide (q ∈ A)).all fun q => decide (q ∈ F') := if_neg ep
      rw [em] at q
      refine ⟨_, rfl, wy, rfl, ⟨_, hW⟩, fun D nD => lc_ints walk_list r.ws (fun p => decide (p ∈ A)) (fun p => .bl (decide (p ∈ F'))) (List.length_map _).symm hz nD (fun H' sm => sm.seq hW) (fun j H0 x H2 _ _ y => y_list y) (fun p H' Qe N hp sm h1 h2 => ?_) (fun H' sm hD => ?_)⟩
      · refine ⟨rfl, _, rfl, _, rfl, _, _, rfl, dget_rd (rd_mono sm hA), _, rfl, ?_⟩
        rw [some_if]
        cases hc : decide (p ∈ A) with
        | false => exact iteF (h2 hc _ (Same.refl _))
        | true =>
          refine iteT ⟨_, rfl, _, rfl, _, _, rfl, dget_rd (rd_mono sm hF), ?_⟩
          rw [some_if]
          exact h1 hc _ (Same.refl _)
      · refine ⟨D, (r.ws.filter fun q => decide (q ∈ A)).map (fun p => decide (p ∈ F')), rfl, .inl (.inl (by rw [hD, List.map_map]; rfl)), ?_⟩
        rw [List.all_map]
        exact q _ sm
end
end G

namespace G
open PySem PySem.Spec PyProof.Rows L2
section
variable {P : Program} {w : World} {K : PySem.W.Frag} {mg : Str → Option Value} {base : Heap}
abbrev layG (g : List Row) (A : List Int) (i : Int) (T : List Int) : Nat → Int → Bool := PG.lay (ownAt g) (wsOf g) A i T
abbrev LedG (g : List Row) (A : List Int) (i : Int) (T : List Int) (p : Int) : Prop := PG.Led (ownAt g) (wsOf g) A i T p
abbrev RkdG (g : List Row) (A : List Int) (i : Int) (T : List Int) (rk : Int → Nat) : Prop := PG.Rkd (ownAt g) (wsOf g) A i T rk
def rkV (rk : Int → Nat) : Int → V := fun p => .int (rk p : Nat)
theorem leads_lay {g : List Row} {A F : List Int} {i p : Int} {S : Int → Bool} {r : Row} (h : g[p.toNat]? = some r) (hp : InG g p) (hF : ∀ q, q ∈ F ↔ S q = true) : leadsM r A F i = PG.ldB (ownAt g) (wsOf g) A i S p := by
  obtain ⟨r2, h2, e1, e2, e3⟩ := row_at hp
  rw [h] at h2
  cases h2
  have eS : (fun q => decide (q ∈ F)) = S := by
    funext q
    by_cases z : q ∈ F
    · rw [decide_eq_true z, (hF q).mp z]
    · rw [decide_eq_false z]
      cases hS : S q with
      | false => rfl
      | true => exact absurd ((hF q).mpr hS) z
  unfold leadsM PG.ldB
  rw [e1, e3, eS]
/-- what is asked of a part of a game -/
structure PartOk (g : List Row) (A : List Int) : Prop where
  inG : ∀ p ∈ A, InG g p
  nd : A.Nodup
  few : A.length ≤ 1000
  tot : PG.Tot (wsOf g) A
  sz : ∀ r ∈ g, r.ws.length ≤ 1000
def spDrawn (K : PySem.W.Frag) : Sp := fun vs H Q _ => ∃ (vg : V) (g : List Row) (ai al : Addr) (i : Int) (A T : List Int), vs = [vg, .ref ai, .int i, .ref al] ∧ Dp K H vg (gameD g) ∧ H ai = some (.dK (dkOf A tV)) ∧ SqL K H al (T.map V.int) ∧ PartOk g A ∧ T.Nodup ∧ (∀ p ∈ T, p ∈ A) ∧
  ∀ H' D ks rk, Same H H' → H D = none → H' D = some (.dK (dkOf ks (rkV rk))) → ks.Nodup → (∀ p, p ∈ ks ↔ LedG g A i T p) → RkdG g A i T rk → Q (.ref D) H'
theorem part_all {g : List Row} (hv : ValidG g) : PartOk g (upto g.length) := by
  refine ⟨fun p hp => mem_upto.mp hp, nodup_upto _, by rw [len_upto]; have := hv.1; omega, fun p hp => ?_, fun r hr => Nat.le_trans (hv.2 r hr).len (by have := hv.1; omega)⟩
  obtain ⟨r, hr, _, _, e⟩ := row_at (mem_upto.mp hp)
  obtain ⟨_, _, h3, h4, _⟩ := hv.2 r (List.mem_of_getElem? hr)
  obtain ⟨x, l, ex⟩ := List.exists_cons_of_ne_nil h3
  have hx : x ∈ r.ws := by rw [ex]; exact List.mem_cons_self
  exact ⟨x, by rw [e]; exact hx, mem_upto.mpr (h4 x hx)⟩
theorem few_of {A T : List Int} (hT : T.Nodup) (s : ∀ p ∈ T, p ∈ A) : T.length ≤ A.length := by
  induction T generalizing A with
  | nil => exact Nat.zero_le _
  | cons x T ih =>
    obtain ⟨h1, h2⟩ := List.nodup_cons.mp hT
    have hx := s x List.mem_cons_self
    have := ih (A := A.erase x) h2 fun p hp => (List.mem_erase_of_ne (fun e => h1 (by rw [← e]; exact hp))).mpr (s p (List.mem_cons_of_mem _ hp))
    rw [List.length_erase_of_mem hx] at this
    have := List.length_pos_of_mem hx
    rw [List.length_cons]
    omega
theorem lock_set {t : TE} {i : Nat} {D : Ends} {σ : L2.St} {H : Hp} (h : tLockE t σ H fun v H' => D.nx (σ.set i (some v)) H') : tLock (tAsg t (gName i)) D σ H := h
theorem ok_drawn {f : Addr} {fd : FuncData} (B : Bt mg) (F : Fun K "drawn" "drawn" s_drawn f fd) (C_leads : Cal P w K mg base 1 "leads" (spLeads K)) : FnOk P w K mg base (L2.CX P w) 2 f fd ["game", "inside", "player", "places"] (spDrawn K) := by
  refine F.okX sc_drawn (fun vs H Q E h => ?_) (fun cdv Ar outer s H vs Q E hr h => ?_)
  · obtain ⟨vg, g, ai, al, i, A, T, rfl, _⟩ := h
    rfl
  · obtain ⟨vg, g, ai, al, i, A, T, rfl, hg, hA, hL, ok, hTn, hTA, q⟩ := h
    refine ⟨_, (pss_cons (ps_set (i := 4) sc_drawn.nd rfl (Or.inr rfl) (pe_dc (own := [("place", 8)]) (by rfl) sc_drawn.nd (pi_list (pv 3)) (blkOk_by (own := [("place", 8)]) (N := ["game", "inside", "player", "places", "found", "now", "fresh", "left", "place"]) (sc := defScope s_drawn) (by decide +kernel)) (fun _ _ _ _ _ => (pg_name (i := 8) sc_drawn.nd rfl (Or.inl rfl))) (fun _ _ _ _ _ => pts_nil) (fun _ _ _ _ _ => (pv 8)) (fun _ _ _ _ _ => pe_int)))
      (pss_cons (ps_set (i := 5) sc_drawn.nd rfl (Or.inl rfl) pe_int)
      (pss_cons (ps_set (i := 6) sc_drawn.nd rfl (Or.inl rfl) (pv 3))
      (pss_cons (ps_while (passes_of rfl) (pt_cmpR op_gt (pe_callB call_len_seq (by rfl) B.len_ (by decide +kernel) (pa_cons (pv 6) pa_nil)) pe_int (nomark _)) (pss_cons (ps_aug (i := 5) sc_drawn.nd rfl (Or.inl rfl) pe_int ip_add)
      (pss_cons (ps_lock (ps_setLc (i := 7) (own := [("place", 8)]) (by rfl) sc_drawn.nd rfl rfl (sw_true rfl rfl rfl (by decide +kernel)) (pi_keys (pv 1)) (blkOk_by (own := [("place", 8)]) (N := ["game", "inside", "player", "places", "found", "now", "fresh", "left", "place"]) (sc := defScope s_drawn) (by decide +kernel)) (fun _ _ _ _ _ => (pg_name (i := 8) sc_drawn.nd rfl (Or.inl rfl))) (fun _ _ _ _ _ => (pts_one (pt_cmp (pc_dnotin (hu_of hr) (pv 8) (pv 4))))) (fun _ _ _ _ _ => (pv 8))))
      (pss_cons (ps_setLc (i := 6) (own := [("place", 8)]) (by rfl) sc_drawn.nd rfl rfl (sw_true rfl rfl rfl (by decide +kernel)) (pi_list (pv 7)) (blkOk_by (own := [("place", 8)]) (N := ["game", "inside", "player", "places", "found", "now", "fresh", "left", "place"]) (sc := defScope s_drawn) (by decide +kernel)) (fun _ _ _ _ _ => (pg_name (i := 8) sc_drawn.nd rfl (Or.inl rfl))) (fun _ _ _ _ _ => (pts_one (pt_val (pe_cal C_leads hr (by decide) (by rfl) (pa_cons (pe_ix (kr_ix_list (K := K) rfl) (pv 0) (pv 8) (fun _ _ => rfl)) (pa_cons (pv 1) (pa_cons (pv 2) (pa_cons (pv 4) pa_nil)))))))) (fun _ _ _ _ _ => (pv 8)))
      (pss_one (ps_for (passes_of rfl) rfl (pi_list (pv 6)) (pg_name (i := 8) sc_drawn.nd rfl (Or.inl rfl)) (pss_one (ps_dput (hu_of hr) (pv 4) (pv 8) (pv 5) rfl))))))))
      (pss_one (ps_ret (pv 4))))))), ?_⟩
    obtain ⟨ag, xg, rfl, hG, hGl, hGr⟩ := dp_game hg
    obtain ⟨rk, hrk⟩ := PG.rank_ex (ownAt g) (wsOf g) A i T
    have hTl : T.length ≤ 1000 := Nat.le_trans (few_of hTn hTA) ok.few
    -- found = {place: 0 for place in places}
    refine ⟨_, rfl, al, rfl, ⟨_, hL⟩, fun D nD => dc_ints walk_list T (fun _ => true) (fun _ v _ => v = .int 0) (fun _ _ _ _ _ e => e) (List.length_map _).symm hTl hTn nD (fun H' sm => sm.seq hL) (fun j H0 x H2 _ _ y => y_list y) (fun p H' Qe N hp sm h1 h2 => ⟨rfl, _, rfl, h1 rfl _ _ (Same.refl _) rfl⟩) (fun H1 h0 sm1 e r => ?_)⟩
    rw [List.filter_eq_self.mpr fun _ _ => rfl] at e r
    have hD1 : H1 D = some (.dK (dkOf T (rkV rk))) := by
      rw [e]
      refine congrArg (fun z => some (HO.dK z)) (List.map_congr_left fun p hp => ?_)
      rw [r p hp]
      have l0 : PG.lay (ownAt g) (wsOf g) A i T 0 p = true := decide_eq_true hp
      have := PG.rk_le hrk l0
      have e0 : rk p = 0 := by omega
      show (_, V.int 0) = (_, V.int ((rk p : Nat) : Int))
      rw [e0]
      rfl
    -- now = 0; fresh = places
    refine ⟨_, rfl, ?_⟩
    have base0 : ∀ p, PG.lay (ownAt g) (wsOf g) A i [] 1 p = PG.lay (ownAt g) (wsOf g) A i [] 0 p := fun p => by
      have z : ∀ q, PG.lay (ownAt g) (wsOf g) A i [] 0 q = false := fun q => rfl
      show (PG.lay (ownAt g) (wsOf g) A i [] 0 p || (decide (p ∈ A) && PG.ldB (ownAt g) (wsOf g) A i (PG.lay (ownAt g) (wsOf g) A i [] 0) p)) = _
      rw [z p, Bool.false_or]
      by_cases ha : p ∈ A
      · rw [decide_eq_true ha, Bool.true_and]
        unfold PG.ldB
        by_cases o : ownAt g p = i
        · rw [if_pos o]
          exact List.any_eq_false.mpr fun x _ => by rw [z x]; decide
        · rw [if_neg o]
          obtain ⟨y, hy, hya⟩ := ok.tot p ha
          exact List.all_eq_false.mpr ⟨y, List.mem_filter.mpr ⟨hy, decide_eq_true hya⟩, by rw [z y]; decide⟩
      · rw [decide_eq_false ha, Bool.false_and]
    refine ⟨fun m σ H' => ∃ (n : Nat) (ks fr : List Int) (af : Addr) (y7 y8 : Option V), σ = [some (.ref ag), some (.ref ai), some (.int i), some (.ref al), some (.ref D), some (.int (n : Nat)), some (.ref af), y7, y8] ∧ Same H H' ∧ H' D = some (.dK (dkOf ks (rkV rk))) ∧ ks.Nodup ∧ (∀ p, p ∈ ks ↔ PG.lay (ownAt g) (wsOf g) A i T n p = true) ∧
      SqL K H' af (fr.map V.int) ∧ (fr = [] → ∀ p, PG.lay (ownAt g) (wsOf g) A i T (n + 1) p = PG.lay (ownAt g) (wsOf g) A i T n p) ∧ m = 2 * (A.filter fun p => decide (p ∉ ks)).length + (if fr = [] then 0 else 1), ⟨_, 0, T, T, al, none, none, rfl, sm1, hD1, hTn, fun p => ?_, sm1.seq hL, fun e => ?_, rfl⟩, fun m σ H' hW => ?_⟩
    · show p ∈ T ↔ decide (p ∈ T) = true
      rw [decide_eq_true_eq]
    · subst e
      exact base0
    obtain ⟨n, ks, fr, af, y7, y8, rfl, sm, hD, hN, hK, hF, hE, rfl⟩ := hW
    have inA : ∀ p ∈ ks, p ∈ A := fun p hp => PG.lay_in hTA ((hK p).mp hp)
    have neD : D ≠ ai := (ne_of_none hA nD).symm
    refine ⟨_, rfl, af, _, rfl, .inl hF, _, _, rfl, rfl, _, rfl, ite2 (fun e => ?_) (fun e => ?_)⟩
    · have hfr : fr ≠ [] := fun z => by
        have : (((fr.map V.int).length : Nat) : Int) > 0 := of_decide_eq_true e
        rw [z] at this
        exact absurd this (by decide)
      -- now += 1; left; fresh
      refine ⟨fun σ' H'' => ∃ (ks2 fr2 : List Int) (af2 : Addr) (z7 z8 : Option V), σ' = [some (.ref ag), some (.ref ai), some (.int i), some (.ref al), some (.ref D), some (.int ((n + 1 : Nat) : Int)), some (.ref af2), z7, z8] ∧ Same H H'' ∧ H'' D = some (.dK (dkOf ks2 (rkV rk))) ∧ ks2.Nodup ∧ (∀ p, p ∈ ks2 ↔ PG.lay (ownAt g) (wsOf g) A i T (n + 1) p = true) ∧
        SqL K H'' af2 (fr2.map V.int) ∧ (fr2 = [] → ∀ p, PG.lay (ownAt g) (wsOf g) A i T (n + 1 + 1) p = PG.lay (ownAt g) (wsOf g) A i T (n + 1) p) ∧ 2 * (A.filter fun p => decide (p ∉ ks2)).length + (if fr2 = [] then 0 else 1) < 2 * (A.filter fun p => decide (p ∉ ks)).length + (if fr = [] then 0 else 1), fun σ' H'' ⟨ks2, fr2, af2, z7, z8, h1, h2, h3, h4, h5, h6, h7, h8⟩ => ⟨_, h8, n + 1, ks2, fr2, af2, z7, z8, h1, h2, h3, h4, h5, h6, h7, rfl⟩, ?_⟩
      refine ⟨_, rfl, _, _, rfl, rfl, ?_⟩
      refine lock_set (lc_dkeys (d := ai) (ks := A) (f0 := tV) (fun p => decide (p ∉ ks)) V.int rfl (sm _ _ hA) ok.few (fun p Hc Qe Nx hp bt rd h1 h2 => ?_) (fun H2 L sm2 nL hL2 => ?_))
      · refine ⟨rfl, _, rfl, _, rfl, _, _, rfl, dget_rd (.inl (bt _ _ neD hD)), _, rfl, ?_⟩
        rw [some_if, ← decide_not]
        cases hc : decide (p ∉ ks) with
        | true => exact iteT ⟨_, rfl, h1 hc _ (Same.refl _)⟩
        | false => exact iteF (h2 hc _ (Same.refl _))
      have hD2 := sm2 _ _ hD
      have s2 : Same H H2 := sm.trans sm2
      have hlf : (A.filter fun p => decide (p ∉ ks)).length ≤ 1000 := Nat.le_trans (List.length_filter_le _ _) ok.few
      refine ⟨_, rfl, L, rfl, ⟨_, .inl (.inl hL2)⟩, fun R nR => lc_ints walk_list (A.filter fun p => decide (p ∉ ks)) (fun p => PG.ldB (ownAt g) (wsOf g) A i (PG.lay (ownAt g) (wsOf g) A i T n) p) V.int (List.length_map _).symm hlf nR (fun Hc sm => sm.seq (.inl (.inl hL2))) (fun j H0 x H2 _ _ y => y_list y) (fun p Hc Qe Nx hp smc h1 h2 => ?_) (fun H3 sm3 hR3 => ?_)⟩
      · have hpA : p ∈ A := (List.mem_filter.mp hp).1
        have hpG := ok.inG p hpA
        obtain ⟨r, hr0, _⟩ := row_at hpG
        obtain ⟨t, wy, ht, hTu, hW⟩ := hGr _ r hr0
        have sc : Same H Hc := s2.trans smc
        refine ⟨rfl, _, rfl, _, rfl, ag, _, p, _, rfl, rfl, sc.seq hG, atI_int hpG.1 ht, _, rfl, _, rfl, _, rfl, _, r, ai, D, i, A, ks, rkV rk, rfl, ?_, .inl (sc _ _ hA), .inl (smc _ _ hD2), ok.sz r (List.mem_of_getElem? hr0), fun Hd smd => ⟨_, rfl, ?_⟩⟩
        · exact .tup (same_sqt sc hTu) (.cons (.int _) (.cons (.int _) (.cons (.lst (sc.seq hW) (dpa_ints' _)) .nil)))
        rw [leads_lay hr0 hpG hK]
        cases hc : PG.ldB (ownAt g) (wsOf g) A i (PG.lay (ownAt g) (wsOf g) A i T n) p with
        | true => exact iteT ⟨_, rfl, h1 hc _ smd⟩
        | false => exact iteF (h2 hc _ smd)
      -- for place in fresh: found[place] = now
      generalize hfr2 : ((A.filter fun p => decide (p ∉ ks)).filter fun p => PG.ldB (ownAt g) (wsOf g) A i (PG.lay (ownAt g) (wsOf g) A i T n) p) = fr2 at hR3
      have mem2 : ∀ p, p ∈ fr2 ↔ p ∈ A ∧ p ∉ ks ∧ PG.ldB (ownAt g) (wsOf g) A i (PG.lay (ownAt g) (wsOf g) A i T n) p = true := fun p => by
        rw [← hfr2, List.mem_filter, List.mem_filter, decide_eq_true_eq, and_assoc]
      have nd2 : fr2.Nodup := by rw [← hfr2]; exact (ok.nd.filter _).filter _
      have s3 : Same H H3 := s2.trans sm3
      have hD3 := sm3 _ _ hD2
      have step : ∀ p, PG.lay (ownAt g) (wsOf g) A i T (n + 1) p = true ↔ p ∈ ks ∨ p ∈ fr2 := fun p => by
        show (PG.lay (ownAt g) (wsOf g) A i T n p || (decide (p ∈ A) && PG.ldB (ownAt g) (wsOf g) A i (PG.lay (ownAt g) (wsOf g) A i T n) p)) = true ↔ _
        rw [Bool.or_eq_true, Bool.and_eq_true, decide_eq_true_eq, ← hK p, mem2 p]
        by_cases z : p ∈ ks
        · exact ⟨fun _ => .inl z, fun _ => .inl z⟩
        · exact ⟨fun h => h.imp_right fun ⟨a, b⟩ => ⟨a, z, b⟩, fun h => h.imp_right fun ⟨a, _, b⟩ => ⟨a, b⟩⟩
      have hrk2 : ∀ p ∈ fr2, rk p = n + 1 := fun p hp => by
        have h1 := (step p).mpr (.inr hp)
        have h2 := PG.rk_le hrk h1
        have h3 : ¬ rk p ≤ n := fun z => by
          have := PG.lay_le z (hrk p ⟨_, h1⟩).1
          exact ((mem2 p).mp hp).2.1 ((hK p).mpr this)
        omega
      have neR : R ≠ D := (ne_of_none hD2 nR).symm
      refine ⟨_, rfl, R, rfl, ⟨_, .inl (.inl hR3)⟩, for_list (K := K) (a := R) (xs := fr2.map V.int) (fun j σ H4 => ∃ z8 : Option V, σ = [some (.ref ag), some (.ref ai), some (.int i), some (.ref al), some (.ref D), some (.int ((n : Int) + 1)), some (.ref R), some (.ref L), z8] ∧ Same H H4 ∧ H4 R = some (.lst (fr2.map V.int)) ∧ H4 D = some (.dK (dkOf (ks ++ fr2.take j) (rkV rk))))
        ⟨y8, rfl, s3, hR3, by rw [List.take_zero, List.append_nil]; exact hD3⟩ (fun j σ H4 _ ⟨_, _, _, h, _⟩ => .inl (.inl h)) (fun j x σ H4 hj ⟨z8, es, s4, hR4, hD4⟩ => ?_) (fun σ H4 ⟨z8, es, s4, hR4, hD4⟩ => ?_)⟩
      · subst es
        rw [List.getElem?_map] at hj
        obtain ⟨p, hp, rfl⟩ := Option.map_eq_some_iff.mp hj
        have st : fr2.take (j + 1) = fr2.take j ++ [p] := by rw [List.take_add_one, hp]; rfl
        have new : p ∉ ks ++ fr2.take j := fun z => by
          rcases List.mem_append.mp z with z | z
          · exact ((mem2 p).mp (List.mem_of_getElem? hp)).2.1 z
          · have hN' := nd2.sublist (List.take_sublist (j + 1) fr2)
            rw [st, List.nodup_append] at hN'
            exact hN'.2.2 p z p (List.mem_singleton.mpr rfl) rfl
        refine ⟨_, rfl, _, rfl, _, rfl, D, _, rfl, DPut.k (k := Sum.inl p) hD4 ?_, ?_⟩
        · refine small1000 ?_
          rw [len_dkOf]
          have := few_of (T := ks ++ fr2.take (j + 1)) (A := A) (by
            rw [st, ← List.append_assoc]
            refine nodup_snoc ?_ new
            rw [List.nodup_append]
            refine ⟨hN, nd2.sublist (List.take_sublist _ _), fun a ha b hb e => ?_⟩
            exact ((mem2 b).mp (List.mem_of_mem_take hb)).2.1 (e ▸ ha)) (fun a ha => by
              rcases List.mem_append.mp ha with z | z
              · exact inA a z
              · exact ((mem2 a).mp (List.mem_of_mem_take z)).1)
          rw [st, List.length_append, List.length_append, List.length_singleton] at this
          rw [List.length_append]
          have := ok.few
          omega
        · refine ⟨_, rfl, fun b o eo => ?_, ?_, ?_⟩
          · rw [upd_ne (ne_of_none eo nD)]
            exact s4 _ _ eo
          · rw [upd_ne neR]
            exact hR4
          · rw [upd_same, st, ← List.append_assoc, put_dkOf (g := rkV rk) new (fun _ _ => rfl)]
            show V.int ((rk p : Nat) : Int) = V.int ((n : Int) + 1)
            rw [hrk2 p (List.mem_of_getElem? hp)]
            rfl
      · subst es
        rw [List.length_map, List.take_length] at hD4
        have nd3 : (ks ++ fr2).Nodup := List.nodup_append.mpr ⟨hN, nd2, fun a ha b hb e => ((mem2 b).mp hb).2.1 (e ▸ ha)⟩
        refine ⟨ks ++ fr2, fr2, R, _, _, rfl, s4, hD4, nd3, fun p => ?_, .inl (.inl hR4), fun e => ?_, ?_⟩
        · rw [step p, List.mem_append]
        · have st : ∀ p, PG.lay (ownAt g) (wsOf g) A i T (n + 1) p = PG.lay (ownAt g) (wsOf g) A i T n p := fun p => by
            rw [Bool.eq_iff_iff, step p, e, ← hK p]
            simp
          have e1 := PG.lay_stable st (n + 1) (by omega)
          have e2 := PG.lay_stable st (n + 1 + 1) (by omega)
          intro p
          rw [e1, e2]
        · rw [if_neg hfr]
          by_cases z : fr2 = []
          · rw [if_pos z, z, List.append_nil]
            omega
          · rw [if_neg z]
            have hlt : (A.filter fun p => decide (p ∉ ks ++ fr2)).length < (A.filter fun p => decide (p ∉ ks)).length := by
              obtain ⟨x, l, hx⟩ := List.exists_cons_of_ne_nil z
              have hxm := (mem2 x).mp (by rw [hx]; exact List.mem_cons_self)
              have h1 : x ∈ A.filter fun p => decide (p ∉ ks) := List.mem_filter.mpr ⟨hxm.1, decide_eq_true hxm.2.1⟩
              have h2 := few_of (T := A.filter fun p => decide (p ∉ ks ++ fr2)) (A := (A.filter fun p => decide (p ∉ ks)).erase x) (ok.nd.filter _) (fun p hp => by
                obtain ⟨h3, h4⟩ := List.mem_filter.mp hp
                have h5 := of_decide_eq_true h4
                rw [List.mem_append, not_or] at h5
                refine (List.mem_erase_of_ne (fun e => h5.2 (by rw [e, hx]; exact List.mem_cons_self))).mpr (List.mem_filter.mpr ⟨h3, decide_eq_true h5.1⟩))
              rw [List.length_erase_of_mem h1] at h2
              have := List.length_pos_of_mem h1
              omega
            omega
    · have hfr : fr = [] := by
        cases fr with
        | nil => rfl
        | cons x l =>
          exact absurd (decide_eq_true (by show (0 : Int) < (((x :: l).map V.int).length : Int); rw [List.length_map, List.length_cons]; omega)) e
      have st := PG.lay_stable (hE hfr)
      refine ⟨_, rfl, q H' D ks rk sm nD hD hN (fun p => ⟨fun hp => ⟨n, (hK p).mp hp⟩, fun ⟨k, hk⟩ => (hK p).mpr ?_⟩) hrk⟩
      by_cases z : n ≤ k
      · rw [st k z] at hk
        exact hk
      · exact PG.lay_le (by omega) hk
end
end G

namespace G
open PySem PySem.Spec PyProof.Rows L2
theorem player_int {d : PyData} (h : isPlayer d = true) : ∃ i, d = .int i ∧ (i = 0 ∨ i = 1) := by
  cases d with
  | int i =>
    have h' : (decide (i = 0) || decide (i = 1)) = true := h
    rw [Bool.or_eq_true, decide_eq_true_eq, decide_eq_true_eq] at h'
    exact ⟨i, rfl, h'⟩
  | _ => cases h
theorem places_ints {d : PyData} {n : Int} (h : isPlaces d n = true) : ∃ ps, d = intsD ps ∧ ps.Nodup ∧ ∀ p ∈ ps, 0 ≤ p ∧ p < n := by
  match d, h with
  | .list ds, h =>
    have h' : (ds.all (fun e => isPlace e n) && decide ((ds.map toI).Nodup)) = true := h
    rw [Bool.and_eq_true, decide_eq_true_eq] at h'
    have e := ints_of_places h'.1
    refine ⟨ds.map toI, by rw [intsD, ← e], h'.2, ?_⟩
    rw [e] at h'
    have := (all_ints (ds.map toI)).mp h'.1
    exact this
end G

namespace G
open PySem PySem.Spec PyProof.Rows L2
abbrev s_check_player : Stmt := topS 16
theorem sc_check_player : FnScope ["player"] ["player"] (defScope s_check_player) := ⟨rfl, rfl, rfl, by decide +kernel, rfl, by decide +kernel, by decide +kernel⟩
abbrev s_check_places : Stmt := topS 17
theorem sc_check_places : FnScope ["game", "places"] ["game", "places"] (defScope s_check_places) := ⟨rfl, rfl, rfl, by decide +kernel, rfl, by decide +kernel, by decide +kernel⟩
section
variable {P : Program} {w : World} {K : PySem.W.Frag} {mg : Str → Option Value} {base : Heap}
def spCheckPlayer (K : PySem.W.Frag) (BY : Addr) : Sp := fun vs H Q E => ∃ (v : V) (d : PyData), vs = [v] ∧ Dx K H v d ∧ (isPlayer d = true → ∀ H', Same H H' → Q .non H') ∧ (isPlayer d = false → ∀ H', Same H H' → E (.ref BY) none H')
theorem ok_check_player {f BY : Addr} {fd : FuncData} (T : PlainX K mg "BadPlayer" BY) (F : Fun K "check_player" "check_player" s_check_player f fd) (C_is_player : Cal P w K mg base 2 "is_player" (spIsPlayer K)) : FnOk P w K mg base (L2.CX P w) 3 f fd ["player"] (spCheckPlayer K BY) := by
  refine F.okX sc_check_player (fun vs H Q E h => ?_) (fun cdv A outer s H vs Q E hr h => ?_)
  · obtain ⟨v, d, rfl, _⟩ := h
    rfl
  · obtain ⟨v, d, rfl, hd, q, qe⟩ := h
    refine ⟨_, (pss_one (ps_if (pt_not (pt_val (pe_cal C_is_player hr (by decide) (by rfl) (pa_cons (pv 0) pa_nil)))) (pss_one (ps_raise rfl (takes_of rfl rfl rfl rfl) (pmk_own PySem.F.excBase_ValueError T.xC T.gC T.kC (raises_own T.exC T.tyC) rfl))) pss_nil)), ?_⟩
    refine ⟨_, rfl, v, d, rfl, hd, fun H' sm => ⟨_, rfl, ?_⟩⟩
    cases e : isPlayer d with
    | true => exact iteF (q e _ sm)
    | false => exact iteT (qe e _ sm)
def spCheckPlaces (K : PySem.W.Frag) (BP : Addr) : Sp := fun vs H Q E => ∃ (vg v : V) (g : List Row) (d : PyData), vs = [vg, v] ∧ Dp K H vg (gameD g) ∧ Dx K H v d ∧ (∀ ds, d = .list ds → ds.length ≤ 1000) ∧ (isPlaces d (g.length : Int) = true → ∀ H', Same H H' → Q .non H') ∧ (isPlaces d (g.length : Int) = false → ∀ H', Same H H' → E (.ref BP) none H')
theorem ok_check_places {f BP : Addr} {fd : FuncData} (B : Bt mg) (T : PlainX K mg "BadPlace" BP) (F : Fun K "check_places" "check_places" s_check_places f fd) (C_is_places : Cal P w K mg base 3 "is_places" (spIsPlaces K)) : FnOk P w K mg base (L2.CX P w) 4 f fd ["game", "places"] (spCheckPlaces K BP) := by
  refine F.okX sc_check_places (fun vs H Q E h => ?_) (fun cdv A outer s H vs Q E hr h => ?_)
  · obtain ⟨vg, v, g, d, rfl, _⟩ := h
    rfl
  · obtain ⟨vg, v, g, d, rfl, hg, hd, hz, q, qe⟩ := h
    refine ⟨_, (pss_one (ps_if (pt_not (pt_val (pe_cal C_is_places hr (by decide) (by rfl) (pa_cons (pv 1) (pa_cons (pe_callB call_len_seq (by rfl) B.len_ (by decide +kernel) (pa_cons (pv 0) pa_nil)) pa_nil))))) (pss_one (ps_raise rfl (takes_of rfl rfl rfl rfl) (pmk_own PySem.F.excBase_ValueError T.xC T.gC T.kC (raises_own T.exC T.tyC) rfl))) pss_nil)), ?_⟩
    obtain ⟨ag, xg, rfl, hG, hGl, hGr⟩ := dp_game hg
    refine ⟨_, rfl, _, rfl, _, _, rfl, .inl hG, v, d, _, rfl, hd, hz, fun H' sm => ⟨_, rfl, ?_⟩⟩
    rw [hGl]
    cases e : isPlaces d (g.length : Int) with
    | true => exact iteF (q e _ sm)
    | false => exact iteT (qe e _ sm)
end
end G

namespace G
open PySem PySem.Spec PyProof.Rows L2
abbrev s_rounds : Stmt := topS 19
theorem sc_rounds : FnScope ["game", "player", "places", "found", "place"] ["game", "player", "places"] (defScope s_rounds) := ⟨rfl, rfl, rfl, by decide +kernel, rfl, by decide +kernel, by decide +kernel⟩
theorem rk_at {g : List Row} {A T : List Int} {i : Int} {rk : Int → Nat} (hA : PG.Tot (wsOf g) A) (hT : ∀ p ∈ T, p ∈ A) (h : RkdG g A i T rk) {p : Int} (hp : LedG g A i T p) : ∀ j, j ≤ rk p → ∃ q, LedG g A i T q ∧ rk q = j := by
  intro j hj
  by_cases e : j = rk p
  · exact ⟨p, hp, e.symm⟩
  · by_cases z : ∃ q, LedG g A i T q ∧ rk q = j
    · exact z
    · exfalso
      have hlt : j < rk p := by omega
      have st : ∃ k, k ≤ j ∧ ∀ q, layG g A i T (k + 1) q = layG g A i T k q := by
        match j, z with
        | 0, z =>
          have h0 : ∀ q, layG g A i T 0 q = false := fun q => by
            cases e0 : layG g A i T 0 q with
            | false => rfl
            | true =>
              have := PG.rk_le h e0
              exact absurd ⟨q, ⟨0, e0⟩, by omega⟩ z
          refine ⟨0, Nat.le_refl _, fun q => ?_⟩
          show (layG g A i T 0 q || (decide (q ∈ A) && PG.ldB (ownAt g) (wsOf g) A i (layG g A i T 0) q)) = layG g A i T 0 q
          rw [h0, Bool.false_or]
          by_cases ha : q ∈ A
          · obtain ⟨x, hx, hxa⟩ := hA q ha
            rw [decide_eq_true ha, Bool.true_and]
            unfold PG.ldB
            split
            · refine Bool.eq_false_iff.mpr fun y => ?_
              obtain ⟨u, _, hu⟩ := List.any_eq_true.mp y
              rw [h0] at hu
              cases hu
            · refine Bool.eq_false_iff.mpr fun y => ?_
              have := List.all_eq_true.mp y x (List.mem_filter.mpr ⟨hx, decide_eq_true hxa⟩)
              rw [h0] at this
              cases this
          · rw [decide_eq_false ha, Bool.false_and]
        | j + 1, z =>
          refine ⟨j, Nat.le_succ _, fun q => ?_⟩
          cases e1 : layG g A i T j q with
          | true => exact PG.lay_succ e1
          | false =>
            cases e2 : layG g A i T (j + 1) q with
            | false => rfl
            | true =>
              have h1 := PG.rk_le h e2
              have h2 := (h q ⟨_, e2⟩).1
              by_cases h3 : rk q ≤ j
              · have := PG.lay_le h3 h2
                have e1' : PG.lay (ownAt g) (wsOf g) A i T j q = false := e1
                rw [e1'] at this
                cases this
              · exact absurd ⟨q, ⟨_, e2⟩, by omega⟩ z
      obtain ⟨k, hk, st⟩ := st
      have h1 := (h p hp).1
      have h2 := (h p hp).2 k (by omega)
      have h3 := PG.lay_stable (own := ownAt g) (ws := wsOf g) (A := A) (T := T) (i := i) st (rk p) (by omega)
      rw [h3, h2] at h1
      cases h1
theorem rk_lt {g : List Row} {A T : List Int} {i : Int} {rk : Int → Nat} (hA : PG.Tot (wsOf g) A) (hT : ∀ p ∈ T, p ∈ A) (h : RkdG g A i T rk) {p : Int} (hp : LedG g A i T p) : rk p < A.length := by
  have hx := rk_at hA hT h hp
  let c : Nat → Int := fun j => if z : j ≤ rk p then Classical.choose (hx j z) else 0
  have hc : ∀ j, j ≤ rk p → LedG g A i T (c j) ∧ rk (c j) = j := fun j z => by
    have : c j = Classical.choose (hx j z) := dif_pos z
    rw [this]
    exact Classical.choose_spec (hx j z)
  have nd : ((List.range (rk p + 1)).map c).Nodup := by
    refine List.pairwise_map.mpr (List.Pairwise.imp_of_mem (fun {a b} ha hb ne e => ne ?_) (List.nodup_range (n := rk p + 1)))
    have h1 := (hc a (by have := List.mem_range.mp ha; omega)).2
    have h2 := (hc b (by have := List.mem_range.mp hb; omega)).2
    rw [e] at h1
    omega
  have := few_of nd fun q hq => by
    obtain ⟨j, hj, rfl⟩ := List.mem_map.mp hq
    obtain ⟨k, hk⟩ := (hc j (by have := List.mem_range.mp hj; omega)).1
    exact PG.lay_in hT hk
  rw [List.length_map, List.length_range] at this
  omega
/-- within how many steps, if within m -/
def rdT (g : List Row) (i : Int) (T : List Int) (m : Nat) (p : Int) : Option Int := ((List.range (m + 1)).find? fun k => layG g (upto g.length) i T k p).map fun k => ((k : Nat) : Int)
theorem rdT_succ {g : List Row} {i : Int} {T : List Int} {m : Nat} {p : Int} : rdT g i T (m + 1) p = match rdT g i T m p with
    | some k => some k
    | none => if layG g (upto g.length) i T (m + 1) p then some ((m + 1 : Nat) : Int) else none := by
  unfold rdT
  rw [List.range_succ, List.find?_append]
  cases e : (List.range (m + 1)).find? fun k => layG g (upto g.length) i T k p with
  | some k => rfl
  | none =>
    rw [Option.none_or]
    show Option.map _ (List.find? _ [m + 1]) = _
    cases z : layG g (upto g.length) i T (m + 1) p with
    | true => rw [List.find?_cons_of_pos (p := fun k => layG g (upto g.length) i T k p) z]; rfl
    | false => rw [List.find?_cons_of_neg (p := fun k => layG g (upto g.length) i T k p) (by rw [z]; exact Bool.false_ne_true)]; rfl
theorem rdT_zero {g : List Row} {i : Int} {T : List Int} {p : Int} : rdT g i T 0 p = if p ∈ T then some 0 else none := by
  show Option.map _ (List.find? _ [0]) = _
  by_cases h : p ∈ T
  · have e : layG g (upto g.length) i T 0 p = true := decide_eq_true h
    rw [if_pos h]
    simp [List.find?_cons, e]
  · have e : layG g (upto g.length) i T 0 p = false := decide_eq_false h
    rw [if_neg h]
    simp [List.find?_cons, e]
theorem rdT_some {g : List Row} {i : Int} {T : List Int} {m : Nat} {p : Int} : (rdT g i T m p).isSome = layG g (upto g.length) i T m p := by
  cases e : layG g (upto g.length) i T m p with
  | true =>
    unfold rdT
    rw [Option.isSome_map, List.find?_isSome]
    exact ⟨m, List.mem_range.mpr (Nat.lt_succ_self _), e⟩
  | false =>
    unfold rdT
    rw [Option.isSome_map, Bool.eq_false_iff, Ne, List.find?_isSome]
    rintro ⟨k, hk, h⟩
    have := PG.lay_le (l := m) (by have := List.mem_range.mp hk; omega) h
    have e' : PG.lay (ownAt g) (wsOf g) (upto g.length) i T m p = false := e
    rw [e'] at this
    cases this
theorem rdT_led {g : List Row} {i : Int} {T : List Int} {p : Int} {rk : Int → Nat} (hA : PG.Tot (wsOf g) (upto g.length)) (hT : ∀ p ∈ T, InG g p) (h : RkdG g (upto g.length) i T rk) (hp : LedG g (upto g.length) i T p) : rdT g i T g.length p = some ((rk p : Nat) : Int) := by
  have hlt := rk_lt hA (fun p hp => mem_upto.mpr (hT p hp)) h hp
  rw [len_upto] at hlt
  unfold rdT
  have : (List.range (g.length + 1)).find? (fun k => layG g (upto g.length) i T k p) = some (rk p) := by
    rw [List.find?_range_eq_some]
    exact ⟨(h p hp).1, List.mem_range.mpr (by omega), fun j hj => by rw [show layG g (upto g.length) i T j p = false from (h p hp).2 j hj]; rfl⟩
  rw [this]
  rfl
theorem rdT_not {g : List Row} {i : Int} {T : List Int} {p : Int} {m : Nat} (hp : ¬ LedG g (upto g.length) i T p) : rdT g i T m p = none := by
  cases e : rdT g i T m p with
  | none => rfl
  | some k =>
    have h := rdT_some (g := g) (i := i) (T := T) (m := m) (p := p)
    rw [e] at h
    exact absurd ⟨m, h.symm⟩ hp
section
variable {P : Program} {w : World} {K : PySem.W.Frag} {mg : Str → Option Value} {base : Heap}
def spRounds (K : PySem.W.Frag) (A : Ads) : Sp := fun vs H Q E => ∃ (vg vp vl : V) (dg dp dl : PyData), vs = [vg, vp, vl] ∧ Dx K H vg dg ∧ szGame dg ∧ Dx K H vp dp ∧ Dx K H vl dl ∧ (∀ ds, dl = .list ds → ds.length ≤ 1000) ∧ (∀ e, gameErr dg = some e → EBad H A.BadGame e E) ∧
  ∀ g, dg = gameD g → ValidG g → (isPlayer dp = false → ∀ H', Same H H' → E (.ref A.BadPlayer) none H') ∧ ∀ i, dp = .int i → (i = 0 ∨ i = 1) → (isPlaces dl (g.length : Int) = false → ∀ H', Same H H' → E (.ref A.BadPlace) none H') ∧
  ∀ T, dl = intsD T → T.Nodup → (∀ p ∈ T, InG g p) → ∀ H' a, Same H H' → H a = none → H' a = some (.lst ((upto g.length).map fun p => optV (rdT g i T g.length p))) → Q (.ref a) H'
theorem ok_rounds {f : Addr} {fd : FuncData} {A : Ads} (B : Bt mg) (F : Fun K "rounds" "rounds" s_rounds f fd) (C_check_game : Cal P w K mg base 6 "check_game" (spCheckGame K A.BadGame)) (C_check_player : Cal P w K mg base 3 "check_player" (spCheckPlayer K A.BadPlayer)) (C_check_places : Cal P w K mg base 4 "check_places" (spCheckPlaces K A.BadPlace))
    (C_everywhere : Cal P w K mg base 1 "everywhere" (spEverywhere K)) (C_drawn : Cal P w K mg base 2 "drawn" (spDrawn K)) : FnOk P w K mg base (L2.CX P w) 7 f fd ["game", "player", "places"] (spRounds K A) := by
  refine F.okX sc_rounds (fun vs H Q E h => ?_) (fun cdv Ar outer s0 H vs Q E hr h => ?_)
  · obtain ⟨vg, vp, vl, dg, dp, dl, rfl, _⟩ := h
    rfl
  · obtain ⟨vg, vp, vl, dg, dp, dl, rfl, hdg, hzg, hdp, hdl, hzl, h1, h2⟩ := h
    refine ⟨_, (pss_cons (ps_expr (pe_calX C_check_game hr (by decide) (takes_of rfl rfl rfl rfl) (by rfl) (pa_cons (pv 0) pa_nil)))
      (pss_cons (ps_expr (pe_calX C_check_player hr (by decide) (takes_of rfl rfl rfl rfl) (by rfl) (pa_cons (pv 1) pa_nil)))
      (pss_cons (ps_expr (pe_calX C_check_places hr (by decide) (takes_of rfl rfl rfl rfl) (by rfl) (pa_cons (pv 0) (pa_cons (pv 2) pa_nil))))
      (pss_cons (ps_set (i := 3) sc_rounds.nd rfl (Or.inr rfl) (pe_cal C_drawn hr (by decide) (by rfl) (pa_cons (pv 0) (pa_cons (pe_cal C_everywhere hr (by decide) (by rfl) (pa_cons (pv 0) pa_nil)) (pa_cons (pv 1) (pa_cons (pv 2) pa_nil))))))
      (pss_one (ps_ret (pe_lc (own := [("place", 4)]) (by rfl) sc_rounds.nd (pi_range1 (by rfl) B.range_ (pa_cons (pe_callB call_len_seq (by rfl) B.len_ (by decide +kernel) (pa_cons (pv 0) pa_nil)) pa_nil)) (blkOk_by (own := [("place", 4)]) (N := ["game", "player", "places", "found", "place"]) (sc := defScope s_rounds) (by decide +kernel)) (fun _ _ _ _ _ => (pg_name (i := 4) sc_rounds.nd rfl (Or.inl rfl))) (fun _ _ _ _ _ => pts_nil) (fun _ _ _ _ _ => (pe_dget1 (hu_of hr) (pv 3) (pv 4) (by constructor <;> rfl)))))))))), ?_⟩
    refine ⟨_, rfl, vg, dg, rfl, hdg, hzg, fun e0 H1 sm1 => ?_, h1⟩
    obtain ⟨g, rfl, hv⟩ := game_of e0
    obtain ⟨h3, h4⟩ := h2 g rfl hv
    have hG0 : Dp K H vg (gameD g) := by cases hdg with | of h => exact h
    refine ⟨_, rfl, vp, dp, rfl, hdp.mono sm1, fun e1 H2 sm2 => ?_, fun e1 H2 sm2 => h3 e1 _ (sm1.trans sm2)⟩
    obtain ⟨i, rfl, hi⟩ := player_int e1
    obtain rfl : vp = .int i := by
      cases hdp with
      | of h => cases h; rfl
    obtain ⟨h5, h6⟩ := h4 i rfl hi
    have s2 := sm1.trans sm2
    refine ⟨_, rfl, _, rfl, vg, vl, g, dl, rfl, dp_mono s2 _ _ hG0, hdl.mono s2, hzl, fun e2 H3 sm3 => ?_, fun e2 H3 sm3 => h5 e2 _ (s2.trans sm3)⟩
    obtain ⟨T, rfl, hn, hps⟩ := places_ints e2
    have h7 := h6 T rfl hn hps
    have s3 := s2.trans sm3
    have hgl : g.length ≤ 1000 := by have := hv.1; omega
    obtain ⟨al, rfl, hL⟩ : ∃ a, vl = .ref a ∧ SqL K H a (T.map V.int) := by
      cases hdl with
      | of h => exact dp_intsD h
    have pa := part_all hv
    refine ⟨_, rfl, _, rfl, vg, g, rfl, dp_mono s3 _ _ hG0, hgl, fun H4 I sm4 nI hI => ?_⟩
    have s4 := s3.trans sm4
    refine ⟨_, rfl, _, rfl, vg, g, I, al, i, upto g.length, T, rfl, dp_mono s4 _ _ hG0, hI, s4.seq hL, pa, hn, fun p hp => mem_upto.mpr (hps p hp), fun H5 D ks rk sm5 nD hD hk hks hrk => ?_⟩
    have s5 := s4.trans sm5
    obtain ⟨ag, xg, rfl, hG, hGl, hGr⟩ := dp_game hG0
    refine ⟨_, rfl, _, _, rfl, .inl (s5.seq hG), _, rfl, by omega, by omega, fun L nL => ?_⟩
    rw [hGl, Int.toNat_natCast]
    refine lc_ints walk_range (upto g.length) (fun _ => true) (fun p => optV (rdT g i T g.length p)) (len_upto _) (by rw [len_upto]; exact hgl) nL (fun _ _ => True.intro) (fun j H0 x H2 hj _ y => y_range hj y) (fun p H' Qe N hp sm q1 q2 => ⟨rfl, ?_⟩) (fun H' sm e => ?_)
    · refine ⟨_, rfl, D, rfl, .inl ⟨_, .inl (sm _ _ hD)⟩, _, rfl, _, dget_rd (.inl (sm _ _ hD)), ?_⟩
      have q := q1 rfl
      by_cases z : p ∈ ks
      · rw [if_pos z]
        have e := rdT_led pa.tot hps hrk ((hks p).mp z)
        rw [e] at q
        exact q _ (Same.refl _)
      · rw [if_neg z]
        have e := rdT_not (m := g.length) fun y => z ((hks p).mpr y)
        rw [e] at q
        exact q _ (Same.refl _)
    · rw [List.filter_eq_self.mpr fun _ _ => rfl] at e
      exact h7 H' L (s5.trans sm) (Same.free s5 nL) e
end
end G

namespace G
open PySem PySem.Spec PyProof.Rows L2
abbrev s__law_rounds : Stmt := topS 28
theorem sc__law_rounds : FnScope ["_law_game_here", "_law_player", "_law_places", "_law_found", "_law_place", "_law_turn", "_law_before", "_law_near", "_law_way"] ["_law_game_here", "_law_player", "_law_places"] (defScope s__law_rounds) := ⟨rfl, rfl, rfl, by decide +kernel, rfl, by decide +kernel, by decide +kernel⟩
theorem ixN_at {n : Nat} {i : Int} (h0 : 0 ≤ i) (h1 : i < (n : Int)) : ixN n i = some i.toNat := by
  unfold ixN
  rw [if_pos h0, if_pos h1]
def fl (n : Nat) (f : Int → Option Int) : List V := (upto n).map fun p => optV (f p)
theorem fl_len (n : Nat) (f : Int → Option Int) : (fl n f).length = n := by unfold fl; rw [List.length_map, len_upto]
theorem fl_at {n : Nat} {f : Int → Option Int} {p : Int} (h0 : 0 ≤ p) (h1 : p < (n : Int)) : (fl n f)[p.toNat]? = some (optV (f p)) := by
  unfold fl upto
  rw [List.getElem?_map, List.getElem?_map, List.getElem?_range (by omega)]
  show some (optV (f ((p.toNat : Nat) : Int))) = _
  rw [show ((p.toNat : Nat) : Int) = p by omega]
theorem fl_congr {n : Nat} {f f' : Int → Option Int} (h : ∀ q, 0 ≤ q → q < (n : Int) → f' q = f q) : fl n f' = fl n f := by
  unfold fl
  refine List.map_congr_left fun q hq => ?_
  obtain ⟨a, b⟩ := mem_upto.mp hq
  rw [h q a b]
theorem fl_set {n : Nat} {f f' : Int → Option Int} {p : Int} {v : V} (h0 : 0 ≤ p) (h1 : p < (n : Int)) (h : ∀ q, 0 ≤ q → q < (n : Int) → q ≠ p → f' q = f q) (hp : optV (f' p) = v) : (fl n f).set p.toNat v = fl n f' := by
  refine List.ext_getElem? fun j => ?_
  by_cases hj : j < n
  · have e : ∀ f : Int → Option Int, (fl n f)[j]? = some (optV (f (j : Int))) := fun f => by
      have := fl_at (f := f) (p := (j : Int)) (by omega) (by omega : (j : Int) < n)
      rwa [Int.toNat_natCast] at this
    by_cases z : p.toNat = j
    · have ez : (j : Int) = p := by omega
      rw [z, List.getElem?_set_self (by rw [fl_len]; exact hj), e, ez, hp]
    · rw [List.getElem?_set_ne z, e, e, h _ (by omega) (by omega) (by omega)]
  · rw [List.getElem?_eq_none (by rw [List.length_set, fl_len]; omega), List.getElem?_eq_none (by rw [fl_len]; omega)]
theorem fl_none (n : Nat) : (List.replicate n [V.non]).flatten = fl n fun _ => none := by
  induction n with
  | zero => rfl
  | succ n ih =>
    rw [List.replicate_succ', List.flatten_append, ih]
    unfold fl
    rw [upto_succ, List.map_append]
    rfl
theorem rdT_none {g : List Row} {i : Int} {T : List Int} {m : Nat} {p : Int} (h : rdT g i T m p = none) (hp : InG g p) : layG g (upto g.length) i T (m + 1) p = PG.ldB (ownAt g) (wsOf g) (upto g.length) i (layG g (upto g.length) i T m) p := by
  have e := rdT_some (g := g) (i := i) (T := T) (m := m) (p := p)
  rw [h] at e
  show (layG g (upto g.length) i T m p || (decide (p ∈ upto g.length) && _)) = _
  rw [← e, decide_eq_true (mem_upto.mpr hp), Bool.true_and]
  rfl
/-- those found before, and the ways into them -/
def befOf (g : List Row) (i : Int) (T : List Int) (m : Nat) : List Int := (upto g.length).filter fun p => (rdT g i T m p).isSome
def nearOf (g : List Row) (i : Int) (T : List Int) (m : Nat) (ws : List Int) : List Int := ws.filter fun q => decide (q ∈ befOf g i T m)
theorem mem_bef {g : List Row} {i : Int} {T : List Int} {m : Nat} {q : Int} (hq : InG g q) : decide (q ∈ befOf g i T m) = layG g (upto g.length) i T m q := by
  rw [← rdT_some]
  cases e : (rdT g i T m q).isSome with
  | true => exact decide_eq_true (List.mem_filter.mpr ⟨mem_upto.mpr hq, e⟩)
  | false =>
    refine decide_eq_false fun z => ?_
    have := (List.mem_filter.mp z).2
    rw [e] at this
    cases this
theorem near_own {g : List Row} {i : Int} {T : List Int} {m : Nat} {p : Int} {r : Row} (hv : ValidG g) (hp : InG g p) (hr : g[p.toNat]? = some r) (ho : r.p = i) (h : rdT g i T m p = none) : layG g (upto g.length) i T (m + 1) p = !(nearOf g i T m r.ws).isEmpty := by
  obtain ⟨r2, h2, e1, e2, e3⟩ := row_at hp
  rw [hr] at h2
  cases h2
  rw [rdT_none h hp]
  unfold PG.ldB
  rw [if_pos (e1.trans ho), e3]
  have hw := (hv.2 r (List.mem_of_getElem? hr)).2.2.2.1
  rw [Bool.eq_iff_iff, List.any_eq_true]
  constructor
  · rintro ⟨q, hq, hs⟩
    rw [← mem_bef (hw q hq)] at hs
    have : q ∈ nearOf g i T m r.ws := List.mem_filter.mpr ⟨hq, hs⟩
    cases e : nearOf g i T m r.ws with
    | nil => rw [e] at this; cases this
    | cons x l => rfl
  · intro e
    cases z : nearOf g i T m r.ws with
    | nil => rw [z] at e; cases e
    | cons x l =>
      have hx : x ∈ nearOf g i T m r.ws := by rw [z]; exact List.mem_cons_self
      obtain ⟨h3, h4⟩ := List.mem_filter.mp hx
      exact ⟨x, h3, by rw [← mem_bef (hw x h3)]; exact h4⟩
theorem near_oth {g : List Row} {i : Int} {T : List Int} {m : Nat} {p : Int} {r : Row} (hv : ValidG g) (hp : InG g p) (hr : g[p.toNat]? = some r) (ho : r.p ≠ i) (h : rdT g i T m p = none) : layG g (upto g.length) i T (m + 1) p = decide ((nearOf g i T m r.ws).length = r.ws.length) := by
  obtain ⟨r2, h2, e1, e2, e3⟩ := row_at hp
  rw [hr] at h2
  cases h2
  rw [rdT_none h hp]
  unfold PG.ldB
  rw [if_neg (fun z => ho (e1.symm.trans z)), e3]
  have hw := (hv.2 r (List.mem_of_getElem? hr)).2.2.2.1
  have ef : r.ws.filter (fun q => decide (q ∈ upto g.length)) = r.ws := List.filter_eq_self.mpr fun q hq => decide_eq_true (mem_upto.mpr (hw q hq))
  rw [ef, Bool.eq_iff_iff, List.all_eq_true, decide_eq_true_eq]
  unfold nearOf
  rw [List.length_filter_eq_length_iff]
  exact forall₂_congr fun q hq => by rw [mem_bef (hw q hq)]
section
variable {P : Program} {w : World} {K : PySem.W.Frag} {mg : Str → Option Value} {base : Heap}
def spLawRounds (K : PySem.W.Frag) : Sp := fun vs H Q _ => ∃ (vg : V) (al : Addr) (g : List Row) (i : Int) (T : List Int), vs = [vg, .int i, .ref al] ∧ Dp K H vg (gameD g) ∧ ValidG g ∧ SqL K H al (T.map V.int) ∧ (∀ p ∈ T, InG g p) ∧ T.length ≤ 1000 ∧
  ∀ H' a, Same H H' → H a = none → H' a = some (.lst (fl g.length (rdT g i T g.length))) → Q (.ref a) H'
theorem ok_law_rounds {f : Addr} {fd : FuncData} (B : Bt mg) (F : Fun K "_law_rounds" "_law_rounds" s__law_rounds f fd) : FnOk P w K mg base (L2.CX P w) 1 f fd ["_law_game_here", "_law_player", "_law_places"] (spLawRounds K) := by
  refine F.okX sc__law_rounds (fun vs H Q E h => ?_) (fun cdv Ar outer s0 H vs Q E hr h => ?_)
  · obtain ⟨vg, al, g, i, T, rfl, _⟩ := h
    rfl
  · obtain ⟨vg, al, g, i, T, rfl, hg, hv, hL, hT, hTl, q⟩ := h
    refine ⟨_, (pss_cons (ps_set (i := 3) sc__law_rounds.nd rfl (Or.inr rfl) (pe_op op_rep (pe_lst (pa_cons pe_non pa_nil)) (pe_callB call_len_seq (by rfl) B.len_ (by decide +kernel) (pa_cons (pv 0) pa_nil))))
      (pss_cons (ps_for (passes_of rfl) rfl (pi_list (pv 2)) (pg_name (i := 4) sc__law_rounds.nd rfl (Or.inl rfl)) (pss_one (ps_asg pe_int (pg_sub (pv 3) (pv 4) set_list))))
      (pss_cons (ps_for (passes_of rfl) rfl (pi_range2 (by rfl) B.range_ (pa_cons pe_int (pa_cons (pe_op op_add (pe_callB call_len_seq (by rfl) B.len_ (by decide +kernel) (pa_cons (pv 0) pa_nil)) pe_int) pa_nil))) (pg_name (i := 5) sc__law_rounds.nd rfl (Or.inl rfl)) (pss_cons (ps_set (i := 6) sc__law_rounds.nd rfl (Or.inr rfl) (pe_lc (own := [("_law_place", 4)]) (by rfl) sc__law_rounds.nd (pi_range1 (by rfl) B.range_ (pa_cons (pe_callB call_len_seq (by rfl) B.len_ (by decide +kernel) (pa_cons (pv 0) pa_nil)) pa_nil)) (blkOk_by (own := [("_law_place", 4)]) (N := ["_law_game_here", "_law_player", "_law_places", "_law_found", "_law_place", "_law_turn", "_law_before", "_law_near", "_law_way"]) (sc := defScope s__law_rounds) (by decide +kernel)) (fun _ _ _ _ _ => (pg_name (i := 4) sc__law_rounds.nd rfl (Or.inl rfl))) (fun _ _ _ _ _ => (pts_one (pt_cmpR op_notN (pe_ix (kr_ix_list (K := K) rfl) (pv 3) (pv 4) (fun _ _ => rfl)) pe_non (nomark _)))) (fun _ _ _ _ _ => (pv 4))))
      (pss_one (ps_for (passes_of rfl) rfl (pi_range1 (by rfl) B.range_ (pa_cons (pe_callB call_len_seq (by rfl) B.len_ (by decide +kernel) (pa_cons (pv 0) pa_nil)) pa_nil)) (pg_name (i := 4) sc__law_rounds.nd rfl (Or.inl rfl)) (pss_cons (ps_setLc (i := 7) (own := [("_law_way", 8)]) (by rfl) sc__law_rounds.nd rfl rfl (sw_true rfl rfl rfl (by decide +kernel)) (pi_list (pe_ix ix_tup (pe_ix ix_list (pv 0) (pv 4) (fun _ _ => rfl)) pe_int (fun _ _ => rfl))) (blkOk_by (own := [("_law_way", 8)]) (N := ["_law_game_here", "_law_player", "_law_places", "_law_found", "_law_place", "_law_turn", "_law_before", "_law_near", "_law_way"]) (sc := defScope s__law_rounds) (by decide +kernel)) (fun _ _ _ _ _ => (pg_name (i := 8) sc__law_rounds.nd rfl (Or.inl rfl))) (fun _ _ _ _ _ => (pts_one (pt_cmpR (kr_op_in_seq (K := K) rfl) (pv 8) (pv 6) (by rfl)))) (fun _ _ _ _ _ => (pv 8)))
      (pss_cons (ps_if (PW.pt (pw_and (pt_cmpR op_isN (pe_ix ix_list (pv 3) (pv 4) (fun _ _ => rfl)) pe_non (nomark _)) (pw_and (pt_cmpR op_eq (pe_ix ix_tup (pe_ix ix_list (pv 0) (pv 4) (fun _ _ => rfl)) pe_int (fun _ _ => rfl)) (pv 1) (nomark _)) (pw_and1 (pt_cmpR (op_neD hr.units) (pv 7) (pe_lst pa_nil) (nomark _)))))) (pss_one (ps_asg (pv 5) (pg_sub (pv 3) (pv 4) set_list))) pss_nil)
      (pss_one (ps_if (PW.pt (pw_and (pt_cmpR op_isN (pe_ix ix_list (pv 3) (pv 4) (fun _ _ => rfl)) pe_non (nomark _)) (pw_and (pt_cmpR op_ne (pe_ix ix_tup (pe_ix ix_list (pv 0) (pv 4) (fun _ _ => rfl)) pe_int (fun _ _ => rfl)) (pv 1) (nomark _)) (pw_and1 (pt_cmpR op_eq (pe_callB call_len_seq (by rfl) B.len_ (by decide +kernel) (pa_cons (pv 7) pa_nil)) (pe_callB call_len_seq (by rfl) B.len_ (by decide +kernel) (pa_cons (pe_ix ix_tup (pe_ix ix_list (pv 0) (pv 4) (fun _ _ => rfl)) pe_int (fun _ _ => rfl)) pa_nil)) (nomark _)))))) (pss_one (ps_asg (pv 5) (pg_sub (pv 3) (pv 4) set_list))) pss_nil))))))))
      (pss_one (ps_ret (pv 3)))))), ?_⟩
    obtain ⟨ag, xg, rfl, hG, hGl, hGr⟩ := dp_game hg
    have h40 := hv.1
    -- found = [None] * len(game)
    refine ⟨(by show 1 ≤ sizeLine; decide), fun l0 n0 => ⟨_, rfl, _, _, rfl, .inl ((same_upd n0).seq hG), l0, _, [.non], rfl, rfl, upd_same, by omega, by omega, (by rw [hGl]; have : (1 : Nat) * ((g.length : Int)).toNat < sizeLine := small1000 (by omega); exact Nat.le_of_lt this), fun F nF => ?_⟩⟩
    have nHF : H F = none := by
      by_cases z : F = l0
      · rw [z]; exact n0
      · rw [upd_ne z] at nF; exact nF
    have s1 : Same H (upd (upd H l0 (.lst [.non])) F (.lst (List.replicate ((xg.length : Int)).toNat [V.non]).flatten)) := (same_upd n0).trans (same_upd nF)
    have hF1 : (upd (upd H l0 (.lst [.non])) F (.lst (List.replicate ((xg.length : Int)).toNat [V.non]).flatten)) F = some (.lst (fl g.length fun _ => none)) := by
      rw [upd_same, fl_none, Int.toNat_natCast, hGl]
    generalize upd (upd H l0 (.lst [.non])) F (.lst (List.replicate ((xg.length : Int)).toNat [V.non]).flatten) = H1 at s1 hF1 ⊢
    have keep : ∀ {H2 : Hp} {u : HO}, Same H H2 → Same H (upd H2 F u) := fun {H2 u} s b o e => by
      rw [upd_ne (ne_of_none e nHF)]
      exact s _ _ e
    -- found[place] = 0
    refine ⟨_, rfl, al, rfl, ⟨_, s1.seq hL⟩, for_list (K := K) (a := al) (xs := T.map V.int) (fun j σ H2 => ∃ y4 : Option V, σ = [some (.ref ag), some (.int i), some (.ref al), some (.ref F), y4, none, none, none, none] ∧ Same H H2 ∧ H2 F = some (.lst (fl g.length fun p => if p ∈ T.take j then some 0 else none))) ⟨none, rfl, s1, by rw [hF1]; congr 2⟩ (fun j σ H2 _ ⟨_, _, sm, _⟩ => sm.seq hL) (fun j x σ H2 hj hP => ?_) (fun σ H2 hP => ?_)⟩
    · obtain ⟨y4, rfl, s2, hF2⟩ := hP
      rw [List.getElem?_map] at hj
      obtain ⟨p, hp, rfl⟩ := Option.map_eq_some_iff.mp hj
      have hin := hT p (List.mem_of_getElem? hp)
      refine ⟨_, rfl, _, rfl, F, _, p, _, rfl, rfl, hF2, ixN_at hin.1 (by rw [fl_len]; exact hin.2), ?_⟩
      refine ⟨_, rfl, keep s2, ?_⟩
      rw [upd_same, fl_set (f' := fun p => if p ∈ T.take (j + 1) then some 0 else none) hin.1 hin.2 (fun q _ _ hne => ?h2) ?h1]
      case h1 =>
        have e : T.take (j + 1) = T.take j ++ [p] := by rw [List.take_add_one, hp]; rfl
        rw [if_pos (by rw [e]; exact List.mem_append_right _ List.mem_cons_self)]
        rfl
      case h2 =>
        have e : T.take (j + 1) = T.take j ++ [p] := by rw [List.take_add_one, hp]; rfl
        rw [e]
        by_cases z : q ∈ T.take j
        · rw [if_pos z, if_pos (List.mem_append_left _ z)]
        · rw [if_neg z, if_neg fun y => (List.mem_append.mp y).elim z fun y => hne (List.mem_singleton.mp y)]
    · obtain ⟨y4, rfl, s2, hF2⟩ := hP
      have hF2 : H2 F = some (.lst (fl g.length (rdT g i T 0))) := by
        rw [hF2, List.length_map, List.take_length]
        congr 2
        exact fl_congr fun q _ _ => by rw [rdT_zero]
      -- for turn in range(1, len(game) + 1)
      refine ⟨_, rfl, _, _, rfl, .inl (s2.seq hG), _, _, rfl, rfl, _, _, rfl, ⟨by omega, by omega, by omega, by omega⟩, for_range (lo := 1) (n := ((xg.length : Int) + 1 - 1).toNat) (fun t σ H3 => ∃ y4 y5 y6 y7 y8 : Option V, σ = [some (.ref ag), some (.int i), some (.ref al), some (.ref F), y4, y5, y6, y7, y8] ∧ Same H H3 ∧ H3 F = some (.lst (fl g.length (rdT g i T t)))) ⟨y4, none, none, none, none, rfl, s2, hF2⟩ (fun t σ H3 ht hP => ?_) (fun σ H3 hP => ?_)⟩
      · obtain ⟨y4, y5, y6, y7, y8, rfl, s3, hF3⟩ := hP
        -- before
        refine ⟨_, rfl, _, _, rfl, .inl (s3.seq hG), (xg.length : Int), rfl, by omega, by omega, fun D nD => lc_keepR (fun p => (rdT g i T t p).isSome) nD (by omega) (fun k H4 Q' N hk sm4 hQ hN => ?_) (fun H4 sm4 hD => ?_)⟩
        · have hp : InG g (k : Int) := ⟨by omega, by omega⟩
          rw [show (0 : Int) + (k : Nat) = (k : Int) by omega]
          refine ⟨rfl, _, rfl, _, rfl, F, _, (k : Int), _, rfl, rfl, .inl (.inl (sm4 _ _ hF3)), atI_int hp.1 (fl_at hp.1 hp.2), ?_⟩
          cases e : rdT g i T t (k : Int) with
          | none => exact ⟨rfl, _, rfl, ite_no rfl (hN (by rw [e]; rfl) _ (Same.refl _))⟩
          | some x => exact ⟨rfl, _, rfl, ite_yes rfl ⟨_, rfl, hQ (by rw [e]; rfl) _ (Same.refl _)⟩⟩
        · have s4 := s3.trans sm4
          have hD4 : H4 D = some (.lst ((befOf g i T t).map V.int)) := by
            rw [hD, Int.toNat_natCast, hGl]
            rfl
          have hF4 := sm4 _ _ hF3
          have nDF : D ≠ F := fun z => by rw [z, hF3] at nD; cases nD
          -- each place
          refine ⟨_, rfl, _, _, rfl, .inl (s4.seq hG), (xg.length : Int), rfl, by omega, by omega, for_range (lo := 0) (n := ((xg.length : Int)).toNat) (fun j σ H5 => ∃ y4 y7 y8 : Option V, σ = [some (.ref ag), some (.int i), some (.ref al), some (.ref F), y4, some (.int (1 + (t : Nat))), some (.ref D), y7, y8] ∧ Same H H5 ∧ H5 D = some (.lst ((befOf g i T t).map V.int)) ∧ H5 F = some (.lst (fl g.length fun p => if p < (j : Int) then rdT g i T (t + 1) p else rdT g i T t p))) ⟨y4, y7, y8, rfl, s4, hD4, by rw [hF4]; congr 2; exact fl_congr fun q h0 _ => by rw [if_neg (by omega)]⟩ (fun j σ H5 hj hP => ?_) (fun σ H5 hP => ?_)⟩
          · obtain ⟨y4, y7, y8, rfl, s5, hD5, hF5⟩ := hP
            have hp : InG g (j : Int) := ⟨by omega, by omega⟩
            rw [show (0 : Int) + (j : Nat) = (j : Int) by omega]
            obtain ⟨r, hr0, e1, e2, e3⟩ := row_at hp
            obtain ⟨tt, wy, htt, hTu, hW⟩ := hGr _ r hr0
            have hwl : r.ws.length ≤ 40 := Nat.le_trans (hv.2 r (List.mem_of_getElem? hr0)).len h40
            -- near
            refine ⟨_, rfl, _, rfl, ag, _, (j : Int), _, rfl, rfl, s5.seq hG, atI_int hp.1 htt, tt, _, 2, _, rfl, rfl, same_sqt s5 hTu, atI_nat (j := 2) rfl, wy, rfl, ⟨_, s5.seq hW⟩, fun E1 nE => lc_keep (intV fun q => decide (q ∈ befOf g i T t)) (s5.seq hW) nE (by rw [List.length_map]; omega) (fun k x H6 Q' N hk sm6 hQ hN => ?_) (fun H6 sm6 hE => ?_)⟩
            · rw [List.getElem?_map] at hk
              obtain ⟨qq, hqq, rfl⟩ := Option.map_eq_some_iff.mp hk
              refine ⟨rfl, _, rfl, _, rfl, D, _, rfl, .inl (.inl (.inl (sm6 _ _ hD5))), rfl, flat_ints _, _, rfl, ?_⟩
              rw [inV_int]
              cases e : decide (qq ∈ befOf g i T t) with
              | false => exact ite_no rfl (hN e _ (Same.refl _))
              | true => exact ite_yes rfl ⟨_, rfl, hQ e _ (Same.refl _)⟩
            · have s6 := s5.trans sm6
              rw [filter_ints] at hE
              have hE : H6 E1 = some (.lst ((nearOf g i T t r.ws).map V.int)) := hE
              have hD6 := sm6 _ _ hD5
              have hF6 := sm6 _ _ hF5
              have nEF : E1 ≠ F := fun z => by rw [z, hF5] at nE; cases nE
              have hat : ∀ {H7 : Hp}, H7 F = H6 F → atI (fl g.length fun p => if p < (j : Int) then rdT g i T (t + 1) p else rdT g i T t p) (j : Int) = some (optV (rdT g i T t (j : Int))) := fun _ => atI_int hp.1 (by rw [fl_at hp.1 hp.2, if_neg (by omega)])
              have hat := hat (H7 := H6) rfl
              have same_of : rdT g i T (t + 1) (j : Int) = rdT g i T t (j : Int) → fl g.length (fun p => if p < ((j + 1 : Nat) : Int) then rdT g i T (t + 1) p else rdT g i T t p) = fl g.length (fun p => if p < (j : Int) then rdT g i T (t + 1) p else rdT g i T t p) := fun e => fl_congr fun q _ _ => by
                by_cases z : q < (j : Int)
                · rw [if_pos z, if_pos (by omega)]
                · by_cases y : q = (j : Int)
                  · rw [if_neg z, if_pos (by omega), y, e]
                  · rw [if_neg z, if_neg (by omega)]
              have set_of : rdT g i T (t + 1) (j : Int) = some ((t + 1 : Nat) : Int) → (fl g.length (fun p => if p < (j : Int) then rdT g i T (t + 1) p else rdT g i T t p)).set (j : Int).toNat (V.int (1 + (t : Nat))) = fl g.length (fun p => if p < ((j + 1 : Nat) : Int) then rdT g i T (t + 1) p else rdT g i T t p) := fun e => by
                refine fl_set hp.1 hp.2 (fun q _ _ hne => ?h2) ?h1
                case h1 =>
                  show optV (if _ then _ else _) = _
                  rw [if_pos (by omega), e]
                  show V.int _ = _
                  congr 1
                  omega
                case h2 =>
                  by_cases z : q < (j : Int)
                  · rw [if_pos z, if_pos (by omega)]
                  · rw [if_neg z, if_neg (by omega)]
              have gown : atI [V.int r.p, V.int r.n, V.ref wy] 0 = some (.int r.p) := atI_nat (j := 0) rfl
              have gway : atI [V.int r.p, V.int r.n, V.ref wy] 2 = some (.ref wy) := atI_nat (j := 2) rfl
              have hn1 := rdT_succ (g := g) (i := i) (T := T) (m := t) (p := (j : Int))
              cases hcase : rdT g i T t (j : Int) with
              | some k =>
                rw [hcase] at hat hn1
                have e := same_of (by rw [hn1, hcase])
                exact ⟨_, rfl, _, rfl, F, _, (j : Int), _, rfl, rfl, .inl (.inl hF6), hat, rfl, _, rfl, ite_no rfl ⟨_, rfl, _, rfl, F, _, (j : Int), _, rfl, rfl, .inl (.inl hF6), hat, rfl, _, rfl, ite_no rfl ⟨_, _, _, rfl, s6, hD6, by rw [hF6, e]⟩⟩⟩
              | none =>
                rw [hcase] at hat hn1
                by_cases ho : r.p = i
                · have hl := near_own hv hp hr0 ho hcase
                  rw [hl] at hn1
                  refine ⟨_, rfl, _, rfl, F, _, (j : Int), _, rfl, rfl, .inl (.inl hF6), hat, rfl, _, rfl, ite_yes rfl ⟨_, rfl, _, rfl, ag, _, (j : Int), _, rfl, rfl, s6.seq hG, atI_int hp.1 htt, tt, _, 0, _, rfl, rfl, same_sqt s6 hTu, gown, _, rfl, rfl, _, rfl, ite_yes (decide_eq_true (congrArg V.int ho)) ⟨_, rfl, (by show 0 ≤ sizeLine; decide), fun Z nZ => ⟨intsD (nearOf g i T t r.ws), intsD [], .lst (.inl (.inl (same_upd nZ _ _ hE))) (dpa_ints' _), .lst (.inl (.inl upd_same)) .nil, shaped_ints _, shaped_ints _, ?_⟩⟩⟩⟩
                  have s7 := s6.trans (same_upd (o := .lst []) nZ)
                  have hD7 := same_upd (o := .lst []) nZ _ _ hD6
                  have hF7 := same_upd (o := .lst []) nZ _ _ hF6
                  have hE7 := same_upd (o := .lst []) nZ _ _ hE
                  generalize upd H6 Z (.lst []) = H7 at s7 hD7 hF7 hE7 ⊢
                  rw [eqv_ints]
                  cases hne : nearOf g i T t r.ws with
                  | nil =>
                    rw [hne] at hn1
                    have e := same_of (by rw [hn1, hcase]; rfl)
                    exact ⟨_, rfl, ite_no rfl ⟨_, rfl, _, rfl, F, _, (j : Int), _, rfl, rfl, .inl (.inl hF7), hat, rfl, _, rfl, ite_yes rfl ⟨_, rfl, _, rfl, ag, _, (j : Int), _, rfl, rfl, s7.seq hG, atI_int hp.1 htt, tt, _, 0, _, rfl, rfl, same_sqt s7 hTu, gown, _, rfl, rfl, _, rfl, ite_no (ne_of_same (congrArg V.int ho)) ⟨_, _, _, rfl, s7, hD7, by rw [hF7, e]⟩⟩⟩⟩
                  | cons x l =>
                    rw [hne] at hn1
                    have e := set_of (by rw [hn1]; rfl)
                    have hF8 : (upd H7 F (.lst (fl g.length fun p => if p < ((j + 1 : Nat) : Int) then rdT g i T (t + 1) p else rdT g i T t p))) F = some _ := upd_same
                    have s8 := keep (u := .lst (fl g.length fun p => if p < ((j + 1 : Nat) : Int) then rdT g i T (t + 1) p else rdT g i T t p)) s7
                    have hD8 : (upd H7 F (.lst (fl g.length fun p => if p < ((j + 1 : Nat) : Int) then rdT g i T (t + 1) p else rdT g i T t p))) D = _ := (upd_ne nDF).trans hD7
                    have hat8 : atI (fl g.length fun p => if p < ((j + 1 : Nat) : Int) then rdT g i T (t + 1) p else rdT g i T t p) (j : Int) = some (.int ((t + 1 : Nat) : Int)) := atI_int hp.1 (by rw [fl_at hp.1 hp.2, if_pos (by omega), hn1]; rfl)
                    refine ⟨_, rfl, ite_yes (by simp) ⟨_, rfl, _, rfl, _, rfl, F, _, (j : Int), _, rfl, rfl, hF7, ixN_at hp.1 (by rw [fl_len]; exact hp.2), ?_⟩⟩
                    rw [e]
                    exact ⟨_, rfl, _, rfl, F, _, (j : Int), _, rfl, rfl, .inl (.inl hF8), hat8, rfl, _, rfl, ite_no rfl ⟨_, _, _, rfl, s8, hD8, hF8⟩⟩
                · have hl := near_oth hv hp hr0 ho hcase
                  rw [hl] at hn1
                  refine ⟨_, rfl, _, rfl, F, _, (j : Int), _, rfl, rfl, .inl (.inl hF6), hat, rfl, _, rfl, ite_yes rfl ⟨_, rfl, _, rfl, ag, _, (j : Int), _, rfl, rfl, s6.seq hG, atI_int hp.1 htt, tt, _, 0, _, rfl, rfl, same_sqt s6 hTu, gown, _, rfl, rfl, _, rfl, ite_no (decide_eq_false fun z => ho (V.int.inj z)) ?_⟩⟩
                  refine ⟨_, rfl, _, rfl, F, _, (j : Int), _, rfl, rfl, .inl (.inl hF6), hat, rfl, _, rfl, ite_yes rfl ⟨_, rfl, _, rfl, ag, _, (j : Int), _, rfl, rfl, s6.seq hG, atI_int hp.1 htt, tt, _, 0, _, rfl, rfl, same_sqt s6 hTu, gown, _, rfl, rfl, _, rfl, ite_yes (by rw [decide_eq_false fun z => ho (V.int.inj z)]; rfl) ?_⟩⟩
                  refine ⟨_, rfl, E1, _, rfl, .inl (.inl (.inl hE)), _, rfl, _, rfl, ag, _, (j : Int), _, rfl, rfl, s6.seq hG, atI_int hp.1 htt, tt, _, 2, _, rfl, rfl, same_sqt s6 hTu, gway, wy, _, rfl, .inl (s6.seq hW), rfl, _, rfl, ?_⟩
                  rw [List.length_map, List.length_map]
                  by_cases hne : (nearOf g i T t r.ws).length = r.ws.length
                  · rw [decide_eq_true hne] at hn1
                    have e := set_of (by rw [hn1]; rfl)
                    have hF8 : (upd H6 F (.lst (fl g.length fun p => if p < ((j + 1 : Nat) : Int) then rdT g i T (t + 1) p else rdT g i T t p))) F = some _ := upd_same
                    have s8 := keep (u := .lst (fl g.length fun p => if p < ((j + 1 : Nat) : Int) then rdT g i T (t + 1) p else rdT g i T t p)) s6
                    have hD8 : (upd H6 F (.lst (fl g.length fun p => if p < ((j + 1 : Nat) : Int) then rdT g i T (t + 1) p else rdT g i T t p))) D = _ := (upd_ne nDF).trans hD6
                    refine ite_yes (decide_eq_true (by rw [hne])) ⟨_, rfl, _, rfl, _, rfl, F, _, (j : Int), _, rfl, rfl, hF6, ixN_at hp.1 (by rw [fl_len]; exact hp.2), ?_⟩
                    rw [e]
                    exact ⟨_, _, _, rfl, s8, hD8, hF8⟩
                  · rw [decide_eq_false hne] at hn1
                    have e := same_of (by rw [hn1, hcase]; rfl)
                    exact ite_no (decide_eq_false fun z => hne (by have := V.int.inj z; omega)) ⟨_, _, _, rfl, s6, hD6, by rw [hF6, e]⟩
          · obtain ⟨y4, y7, y8, rfl, s5, hD5, hF5⟩ := hP
            refine ⟨_, _, _, _, _, rfl, s5, ?_⟩
            rw [hF5]
            congr 2
            exact fl_congr fun q _ h1 => by rw [if_pos (by omega)]
      · obtain ⟨y4, y5, y6, y7, y8, rfl, s3, hF3⟩ := hP
        refine ⟨_, rfl, q _ F s3 nHF ?_⟩
        rw [hF3, show ((xg.length : Int) + 1 - 1).toNat = g.length by omega]
end
end G

namespace G
open PySem PySem.Spec PyProof.Rows L2
/-- a call whose exception a clause around it catches -/
theorem pe_calS {X : Cx} {k j : Nat} {x : Str} {sp : Sp} {W : WX} {p pos : Pos} {e : Expr} {es : List Expr} {t : TA} (c : Cal X.prog X.w X.K X.mg X.base k x sp) (hr : Room j X.A) (hk : k ≤ j) (tk : Takes X W) (hg : Gl X x) (ha : PA X (e :: es) t)
    (hdb : (x == ("__debug__" : Str)) = false := by decide) (he : starEach (e :: es) X.env = (false, eval e X.env) :: starEach es X.env := by rfl) (hpl : (backTo pos (starEach es X.env)).any (·.1) = false := by rfl) :
    PE X (.Call (.Name x p) (e :: es) [] pos) (tCallS sp (WE W) t) := by
  obtain ⟨f, fd, ps, F, hm, kp, b⟩ := c.ex
  exact pe_callS F (hr.mono hk) hg hm kp b (fun σ => passAt tk σ) ha hdb he hpl
/-- what a class must bear for its errors to be caught, told apart and read -/
structure Caught (K : PySem.W.Frag) (A : Ads) (D : Addr) (k : Nat) : Prop where
  kind : ErrKind K A D k
  exm : PySem.W.exmOne K (.ref D) (.ref A.GongError) = some true
structure Read (K : PySem.W.Frag) (D : Addr) : Prop where
  xf : XfC K D
  no : PySem.W.findIn K (.ref D) "at" = some none
def atD : Option Nat → PyData
  | none => .none
  | some i => .int (i : Int)
theorem dp_at {K : PySem.W.Frag} {H : Hp} (e : Option Nat) : Dp K H (atV e) (atD e) := by
  cases e with
  | none => exact .non
  | some i => exact .int _
end G

namespace G
open PySem PySem.Spec PyProof.Rows L2
abbrev s__law_refused : Stmt := topS 29
theorem sc__law_refused : FnScope ["_law_game_here", "_law_player", "_law_places", "_law_refused_here", "_law_e"] ["_law_game_here", "_law_player", "_law_places"] (defScope s__law_refused) := ⟨rfl, rfl, rfl, by decide +kernel, rfl, by decide +kernel, by decide +kernel⟩
section
variable {P : Program} {w : World} {K : PySem.W.Frag} {mg : Str → Option Value} {base : Heap}
def spRefused3 (K : PySem.W.Frag) : Sp := fun vs H Q _ => ∃ (vg vp vl : V) (g : List Row) (dp dl : PyData), vs = [vg, vp, vl] ∧ Dp K H vg (gameD g) ∧ ValidG g ∧ Dx K H vp dp ∧ Dx K H vl dl ∧ (∀ ds, dl = .list ds → ds.length ≤ 1000) ∧
  (isPlayer dp = false → ∀ H', Same H H' → Q (.str "player") H') ∧
  (∀ i, dp = .int i → (i = 0 ∨ i = 1) → isPlaces dl (g.length : Int) = false ∧ ∀ H', Same H H' → Q (.str "place") H')
theorem ok_law_refused3 {f : Addr} {fd : FuncData} {A : Ads} (T : Tx K mg A) (cY : Caught K A A.BadPlayer 1) (cP : Caught K A A.BadPlace 2) (F : Fun K "_law_refused" "_law_refused" s__law_refused f fd) (C__law_word : Cal P w K mg base 1 "_law_word" (spWord K A))
    (C_rounds : Cal P w K mg base 7 "rounds" (spRounds K A)) : FnOk P w K mg base (L2.CX P w) 8 f fd ["_law_game_here", "_law_player", "_law_places"] (spRefused3 K) := by
  refine F.okX sc__law_refused (fun vs H Q E h => ?_) (fun cdv Ar outer s H vs Q E hr h => ?_)
  · obtain ⟨vg, vp, vl, g, dp, dl, rfl, _⟩ := h
    rfl
  · obtain ⟨vg, vp, vl, g, dp, dl, rfl, hg, hv, hdp, hdl, hz, h1, h2⟩ := h
    refine ⟨_, (pss_cons (ps_set (i := 3) sc__law_refused.nd rfl (Or.inl rfl) pe_non)
      (pss_cons (ps_try_asT (i := 4) (Wout := fun _ _ _ _ => False) rfl rfl rfl sc__law_refused.nd rfl rfl ⟨rfl, by decide, Or.inl T.g_GongError⟩ takes0 (fun W pn xe tk _ => (pss_one (ps_expr (pe_calS C_rounds hr (by decide) tk (by rfl) (pa_cons (pv 0) (pa_cons (pv 1) (pa_cons (pv 2) pa_nil))))))) (fun a oe cls d pn hz hf => (pss_one (ps_set (i := 3) sc__law_refused.nd rfl (Or.inl rfl) (pv 4)))))
      (pss_one (ps_ret (pe_cal C__law_word hr (by decide) (by rfl) (pa_cons (pv 3) pa_nil)))))), ?_⟩
    refine ⟨_, rfl, _, rfl, _, rfl, vg, vp, vl, gameD g, dp, dl, rfl, .of hg, hv.sz, hdp, hdl, hz, (fun e he => by rw [gameErr_valid hv] at he; cases he), fun g' eg hv' => ⟨fun e1 H' sm => ?_, fun i ei hi => ⟨fun e2 H' sm => ?_, fun T0 eT hn hp => ?_⟩⟩⟩
    · exact ⟨true, cY.exm, ⟨fun _ a na => ⟨_, rfl, _, rfl, .ref a, rfl, .inr ⟨a, A.BadPlayer, none, 1, rfl, upd_same, trivial, cY.kind, by decide, fun H5 s5 => h1 e1 _ (sm.trans ((same_upd na).trans s5))⟩⟩, fun e => by cases e⟩⟩
    · cases gameD_inj eg
      exact ⟨true, cP.exm, ⟨fun _ a na => ⟨_, rfl, _, rfl, .ref a, rfl, .inr ⟨a, A.BadPlace, none, 2, rfl, upd_same, trivial, cP.kind, by decide, fun H5 s5 => (h2 i ei hi).2 _ (sm.trans ((same_upd na).trans s5))⟩⟩, fun e => by cases e⟩⟩
    · cases gameD_inj eg
      have e := (h2 i ei hi).1
      rw [eT] at e
      have : isPlaces (intsD T0) (g.length : Int) = true := by
        show ((T0.map PyData.int).all (fun e => isPlace e (g.length : Int)) && decide (((T0.map PyData.int).map toI).Nodup)) = true
        rw [(all_ints T0).mpr hp, Bool.true_and, decide_eq_true_eq, List.map_map]
        rw [show (toI ∘ PyData.int) = id from rfl, List.map_id]
        exact hn
      rw [this] at e
      cases e
end
end G

namespace G
open PySem PySem.Spec PyProof PyProof.Rows L2
/-- xs[::e], e one or minus one -/
def tStepL (K : PySem.W.Frag) (te ts : TE) : TE := fun σ H Q => te σ H fun x H1 => tPart ts σ H1 fun o H2 => ∃ a xs b, x = .ref a ∧ SqL K H2 a xs ∧ o = some (if b = true then -1 else 1) ∧ ∀ p, H2 p = none → Q (.ref p) (upd H2 p (.lst (if b = true then xs.reverse else xs)))
theorem pe_stepL {X : Cx} {e e2 : Expr} {te ts : TE} {p3 pos : Pos} (he : PE X e te) (hs : PE X e2 ts) : PE X (.Subscript e (.Slice none none (some e2) p3) pos) (tStepL X.K te ts) := by
  refine ⟨fun pins s σ H Q I h => ?_⟩
  refine Subscript_ (thn (he.run pins s σ H _ I h) fun v s1 ⟨x, H1, I1, r1, q1⟩ => ?_)
  have hst : PO X (some e2) (tPart ts) := po_some hs
  refine wpAny_Slice (thn (po_none.run pins s1 σ H1 (fun o H2 => o = none ∧ H2 = H1) I1 ⟨rfl, rfl⟩) fun vl s2 ⟨l, H2, I2, pl, el, e2⟩ => ?_)
  subst el e2
  refine thn (po_none.run pins s2 σ H2 (fun o H3 => o = none ∧ H3 = H2) I2 ⟨rfl, rfl⟩) fun vu s3 ⟨u, H3, I3, pu, eu, e3⟩ => ?_
  subst eu e3
  refine thn (hst.run pins s3 σ H3 (fun o H4 => ∃ a xs b, x = .ref a ∧ SqL X.K H4 a xs ∧ o = some (if b = true then -1 else 1) ∧ ∀ p, H4 p = none → Q (.ref p) (upd H4 p (.lst (if b = true then xs.reverse else xs)))) I3 q1) fun vs s4 ⟨o, H4, I4, ps, a, xs, b, ex, hx, eo, q⟩ => ?_
  subst ex eo
  cases r1
  have I5 : Inv X pins σ H4 { s4 with heap := s4.heap.push { cls := .type "slice", data := .fields #[vl, vu, vs] } } := I4.kept (t' := s4.toks) fun b ob q => Heap.get?_push_of_some _ q
  obtain ⟨its, r, ht, hz⟩ := I5.list hx
  have hlen := r.length
  show wpAny (model X.prog X.w) X.A (subscriptTail e (.Slice none none (some e2) p3) (.ref a) (.ref s4.heap.objs.size)) (EP X pins σ Q) X.xe { s4 with heap := s4.heap.push { cls := .type "slice", data := .fields #[vl, vu, vs] } }
  refine tail_any (ops := [.ref a, .ref s4.heap.objs.size]) ht.isList.typeIs (PySem.slot_list_getitem.lookup) ?_ (by with_unfolding_all rfl)
  refine wpAny_getItem_list_slice ht.isList (Heap.IsSliceOf.new _ vl vu vs) pl pu ps (by cases b <;> decide) ?_ (by rw [List.size_toArray]; omega)
  cases b with
  | true =>
    rw [if_pos rfl] at q ⊢
    rw [PySem.W.krv_pick]
    refine ⟨.ref _, _, I5.laid (t' := s4.toks) (o := .lst xs.reverse) (fun b ob q => Heap.get?_push_of_some _ q) (Nat.le_refl _) ?_, rfl, q _ (I5.hok.fresh (Nat.le_refl _))⟩
    exact ⟨by rw [List.length_reverse]; exact hz, _, 0, r.reverse, Heap.get?_push_size _ rfl⟩
  | false =>
    rw [if_neg Bool.false_ne_true] at q ⊢
    rw [show PySem.slicePick its.toArray none none (some 1) = its.toArray from (show PySem.slicePick its.toArray none none (some 1) = PySem.slicePick its.toArray none none none from rfl).trans (PySem.slicePick_all _)]
    refine ⟨.ref _, _, I5.laid (t' := s4.toks) (o := .lst xs) (fun b ob q => Heap.get?_push_of_some _ q) (Nat.le_refl _) ?_, rfl, q _ (I5.hok.fresh (Nat.le_refl _))⟩
    exact ⟨hz, _, 0, r, Heap.get?_push_size _ rfl⟩
end G

namespace G
open PySem PySem.Spec PyProof.Rows L2
abbrev s_law : Stmt := topS 30
theorem sc_law : FnScope ["_law_script", "_law_game_here", "_law_many", "_law_number", "_law_share", "_law_places", "_law_handed", "_law_player", "_law_due", "_law_found", "_law_none", "_law_bad", "_law_cell", "_law_place"] ["_law_script"] (defScope s_law) := ⟨rfl, rfl, rfl, by decide +kernel, rfl, by decide +kernel, by decide +kernel⟩
def optDR : Option Int → PyData
  | none => .none
  | some x => .int x
theorem dpa_optR {K : PySem.W.Frag} {H : Hp} : ∀ ss : List (Option Int), DpAll K H (ss.map optV) (ss.map optDR)
  | [] => .nil
  | some x :: ss => .cons (.int x) (dpa_optR ss)
  | none :: ss => .cons .non (dpa_optR ss)
theorem lay_optR : ∀ ss : List (Option Int), PyData.canLayAll0 (ss.map optDR) = true
  | [] => rfl
  | some x :: ss => by show (true && PyData.canLayAll0 (ss.map optDR)) = true; rw [lay_optR ss]; rfl
  | none :: ss => by show (true && PyData.canLayAll0 (ss.map optDR)) = true; rw [lay_optR ss]; rfl
theorem dep_optR : ∀ ss : List (Option Int), PyData.depthAll (ss.map optDR) = 0
  | [] => rfl
  | some x :: ss => by show max 0 (PyData.depthAll (ss.map optDR)) = 0; rw [dep_optR ss]; rfl
  | none :: ss => by show max 0 (PyData.depthAll (ss.map optDR)) = 0; rw [dep_optR ss]; rfl
theorem shaped_optR (ss : List (Option Int)) : SeqAt.shaped (.list (ss.map optDR)) = true := by
  unfold SeqAt.shaped
  rw [show PyData.canLay0 (.list (ss.map optDR)) = true from lay_optR ss, Bool.true_and, decide_eq_true_eq]
  show PyData.depthAll (ss.map optDR) + 1 ≤ 64
  rw [dep_optR]
  omega
theorem fl_opts (n : Nat) (f : Int → Option Int) : fl n f = ((upto n).map f).map optV := by
  unfold fl
  rw [List.map_map]
  rfl
theorem none_at {K : PySem.W.Frag} {H : Hp} {z : Addr} (hz : H z = some (.lst [.int 0])) {k : Int} (h0 : 0 ≤ k) (h1 : k < 7) : ∃ v d, atI [V.int (-1), .int 2, .non, .bl true, .str "0", .ref z, .int (10 ^ (20 : Int).toNat)] k = some v ∧ Dp K H v d ∧ isPlayer d = false := by
  have hk : k = 0 ∨ k = 1 ∨ k = 2 ∨ k = 3 ∨ k = 4 ∨ k = 5 ∨ k = 6 := by omega
  rcases hk with rfl | rfl | rfl | rfl | rfl | rfl | rfl
  · exact ⟨_, _, atI_nat (j := 0) rfl, .int _, by decide⟩
  · exact ⟨_, _, atI_nat (j := 1) rfl, .int _, by decide⟩
  · exact ⟨_, _, atI_nat (j := 2) rfl, .non, rfl⟩
  · exact ⟨_, _, atI_nat (j := 3) rfl, .bl _, rfl⟩
  · exact ⟨_, _, atI_nat (j := 4) rfl, .str _, rfl⟩
  · exact ⟨_, _, atI_nat (j := 5) rfl, .lst (.inl (.inl hz)) (.cons (.int 0) .nil), rfl⟩
  · exact ⟨_, _, atI_nat (j := 6) rfl, .int _, by decide⟩
/-- no places: what stands at ten places of a list -/
structure BadH (H : Hp) (n : Int) (a b c t d e f u h x : Addr) : Prop where
  ha : H a = some (.lst [.int n])
  hb : H b = some (.lst [.int (-1)])
  hc : H c = some (.lst [.bl true])
  ht : H t = some (.tup [.int 0])
  hd : H d = some (.lst [.int 0, .int 0])
  he : H e = some (.lst [.str "0"])
  hf : H f = some (.lst [.int 0])
  hu : H u = some (.lst [.ref f])
  hh : H h = some (.lst [.non])
  hx : H x = some (.dK [])
theorem bad_at {K : PySem.W.Frag} {H : Hp} {n : Int} {a b c t d e f u h x : Addr} (hn : 0 < n) (B : BadH H n a b c t d e f u h x) {k : Int} (h0 : 0 ≤ k) (h1 : k < 10) :
    ∃ v y, atI [.non, .ref a, .ref b, .ref c, .ref t, .ref d, .ref e, .ref u, .ref h, .ref x] k = some v ∧ Dx K H v y ∧ isPlaces y n = false ∧ ∀ ds, y = .list ds → ds.length ≤ 1000 := by
  have hk : k = 0 ∨ k = 1 ∨ k = 2 ∨ k = 3 ∨ k = 4 ∨ k = 5 ∨ k = 6 ∨ k = 7 ∨ k = 8 ∨ k = 9 := by omega
  have small : ∀ {xs : List PyData}, xs.length ≤ 2 → ∀ ds, PyData.list xs = .list ds → ds.length ≤ 1000 := fun h ds e => by cases e; omega
  have bad : ∀ {x : PyData} {xs : List PyData}, isPlace x n = false → isPlaces (.list (x :: xs)) n = false := fun {x xs} e => by
    show ((isPlace x n && xs.all (fun e => isPlace e n)) && _) = false
    rw [e]; rfl
  rcases hk with rfl | rfl | rfl | rfl | rfl | rfl | rfl | rfl | rfl | rfl
  · exact ⟨_, _, atI_nat (j := 0) rfl, .of .non, rfl, fun ds e => by cases e⟩
  · exact ⟨_, _, atI_nat (j := 1) rfl, .of (.lst (.inl (.inl B.ha)) (.cons (.int n) .nil)), bad (by show (decide (0 ≤ n) && decide (n < n)) = false; rw [decide_eq_false (Int.lt_irrefl n), Bool.and_false]), small (by simp)⟩
  · exact ⟨_, _, atI_nat (j := 2) rfl, .of (.lst (.inl (.inl B.hb)) (.cons (.int (-1)) .nil)), bad (by show (decide ((0 : Int) ≤ -1) && decide ((-1 : Int) < n)) = false; rfl), small (by simp)⟩
  · exact ⟨_, _, atI_nat (j := 3) rfl, .of (.lst (.inl (.inl B.hc)) (.cons (.bl true) .nil)), bad rfl, small (by simp)⟩
  · exact ⟨_, _, atI_nat (j := 4) rfl, .of (.tup (.inl (.inl B.ht)) (.cons (.int 0) .nil)), rfl, fun ds e => by cases e⟩
  · refine ⟨_, _, atI_nat (j := 5) rfl, .of (.lst (.inl (.inl B.hd)) (.cons (.int 0) (.cons (.int 0) .nil))), ?_, small (by simp)⟩
    show (_ && decide (([PyData.int 0, .int 0].map toI).Nodup)) = false
    rw [decide_eq_false (by decide), Bool.and_false]
  · exact ⟨_, _, atI_nat (j := 6) rfl, .of (.lst (.inl (.inl B.he)) (.cons (.str "0") .nil)), bad rfl, small (by simp)⟩
  · exact ⟨_, _, atI_nat (j := 7) rfl, .of (.lst (.inl (.inl B.hu)) (.cons (.lst (.inl (.inl B.hf)) (.cons (.int 0) .nil)) .nil)), bad rfl, small (by simp)⟩
  · exact ⟨_, _, atI_nat (j := 8) rfl, .of (.lst (.inl (.inl B.hh)) (.cons .non .nil)), bad rfl, small (by simp)⟩
  · exact ⟨_, _, atI_nat (j := 9) rfl, .dict0 B.hx, rfl, fun ds e => by cases e⟩
theorem share_at {k : Int} (h0 : 0 ≤ k) (h1 : k < 5) : ∃ s : Int, 0 < s ∧ atI [V.int 2, .int 3, .int 9, .int 1, .int 100] k = some (.int s) := by
  have : k = 0 ∨ k = 1 ∨ k = 2 ∨ k = 3 ∨ k = 4 := by omega
  rcases this with rfl | rfl | rfl | rfl | rfl
  · exact ⟨_, by decide, atI_nat (j := 0) rfl⟩
  · exact ⟨_, by decide, atI_nat (j := 1) rfl⟩
  · exact ⟨_, by decide, atI_nat (j := 2) rfl⟩
  · exact ⟨_, by decide, atI_nat (j := 3) rfl⟩
  · exact ⟨_, by decide, atI_nat (j := 4) rfl⟩
section
variable {P : Program} {w : World} {K : PySem.W.Frag} {mg : Str → Option Value} {base : Heap}
theorem rounds_use {A : Ads} {vg : V} {al : Addr} {g : List Row} {i : Int} {T : List Int} {H : Hp} {Q : VK} {E : XK} (hg : Dp K H vg (gameD g)) (hv : ValidG g) (hi : i = 0 ∨ i = 1) (hL : SqL K H al (T.map V.int)) (hn : T.Nodup) (hT : ∀ p ∈ T, InG g p)
    (q : ∀ H' a, Same H H' → H a = none → H' a = some (.lst (fl g.length (rdT g i T g.length))) → Q (.ref a) H') : spRounds K A ([vg, .int i, .ref al] ++ []) H Q E := by
  refine ⟨vg, _, _, gameD g, .int i, intsD T, rfl, .of hg, hv.sz, .of (.int i), .of (.lst hL (dpa_ints' T)), fun ds e => ?_, (fun e he => by rw [gameErr_valid hv] at he; cases he), fun g' eg hv' => ⟨fun e => ?_, fun i' ei hi' => ⟨fun e => ?_, fun T' eT hn' hT' H' a sm na ha => ?_⟩⟩⟩
  · cases e
    rw [List.length_map]
    have := pigeon g.length T hn hT
    have := hv.1
    omega
  · have : isPlayer (.int i) = true := by
      show (decide (i = 0) || decide (i = 1)) = true
      rcases hi with h | h
      · rw [decide_eq_true h]; rfl
      · rw [decide_eq_true h, Bool.or_true]
    rw [this] at e
    cases e
  · cases gameD_inj eg
    have : isPlaces (intsD T) (g.length : Int) = true := by
      show ((T.map PyData.int).all (fun e => isPlace e (g.length : Int)) && decide (((T.map PyData.int).map toI).Nodup)) = true
      rw [(all_ints T).mpr hT, Bool.true_and, decide_eq_true_eq, List.map_map]
      rw [show (toI ∘ PyData.int) = id from rfl, List.map_id]
      exact hn
    rw [this] at e
    cases e
  · cases gameD_inj eg
    cases ei
    cases ints_inj (PyData.list.inj eT)
    exact q H' a sm na ha
theorem ok_law {f : Addr} {fd : FuncData} {A : Ads} (B : Bt mg) (F : Fun K "law" "law" s_law f fd) (C__law_game : Cal P w K mg base 2 "_law_game" (spLawGame K)) (C__law_mixed : Cal P w K mg base 1 "_law_mixed" spMixed) (C__law_copied : Cal P w K mg base 1 "_law_copied" (spCopied K)) (C__law_rounds : Cal P w K mg base 1 "_law_rounds" (spLawRounds K))
    (C_rounds : Cal P w K mg base 7 "rounds" (spRounds K A)) (C__law_refused : Cal P w K mg base 8 "_law_refused" (spRefused3 K)) : FnOk P w K mg base (L2.CX P w) 9 f fd ["_law_script"] (spLaw K) := by
  refine F.okX sc_law (fun vs H Q E h => ?_) (fun cdv Ar outer s H vs Q E hr h => ?_)
  · obtain ⟨a, ns, rfl, _⟩ := h
    rfl
  · obtain ⟨a, ns, rfl, hS, h63, q⟩ := h
    refine ⟨_, (pss_cons (ps_set (i := 1) sc_law.nd rfl (Or.inl rfl) (pe_cal C__law_game hr (by decide) (by rfl) (pa_cons (pv 0) (pa_cons pe_int pa_nil))))
      (pss_cons (ps_set (i := 2) sc_law.nd rfl (Or.inl rfl) (pe_callB call_len_seq (by rfl) B.len_ (by decide +kernel) (pa_cons (pv 1) pa_nil)))
      (pss_cons (ps_set (i := 3) sc_law.nd rfl (Or.inr rfl) (pe_cal C__law_mixed hr (by decide) (by rfl) (pa_cons (pe_op op_add (pe_callB call_len_seq (by rfl) B.len_ (by decide +kernel) (pa_cons (pv 0) pa_nil)) (pe_callB (cr_sum rfl) (by rfl) B.sum_ (by decide +kernel) (pa_cons (pe_lc (own := [("_law_cell", 12)]) (by rfl) sc_law.nd (pi_list (pv 0)) (blkOk_by (own := [("_law_cell", 12)]) (N := ["_law_script", "_law_game_here", "_law_many", "_law_number", "_law_share", "_law_places", "_law_handed", "_law_player", "_law_due", "_law_found", "_law_none", "_law_bad", "_law_cell", "_law_place"]) (sc := defScope s_law) (by decide +kernel)) (fun _ _ _ _ _ => (pg_name (i := 12) sc_law.nd rfl (Or.inl rfl))) (fun _ _ _ _ _ => pts_nil) (fun _ _ _ _ _ => (pe_op op_mod (pv 12) pe_int))) pa_nil))) (pa_cons pe_int pa_nil))))
      (pss_cons (ps_set (i := 4) sc_law.nd rfl (Or.inr rfl) (pe_ix ix_list (pe_lst (pa_cons pe_int (pa_cons pe_int (pa_cons pe_int (pa_cons pe_int (pa_cons pe_int pa_nil)))))) (pe_op op_mod (pv 3) pe_int) (fun _ _ => rfl)))
      (pss_cons (ps_setLc (i := 5) (own := [("_law_place", 13)]) (by rfl) sc_law.nd rfl rfl (sw_true rfl rfl rfl (by decide +kernel)) (pi_range1 (by rfl) B.range_ (pa_cons (pv 2) pa_nil)) (blkOk_by (own := [("_law_place", 13)]) (N := ["_law_script", "_law_game_here", "_law_many", "_law_number", "_law_share", "_law_places", "_law_handed", "_law_player", "_law_due", "_law_found", "_law_none", "_law_bad", "_law_cell", "_law_place"]) (sc := defScope s_law) (by decide +kernel)) (fun _ _ _ _ _ => (pg_name (i := 13) sc_law.nd rfl (Or.inl rfl))) (fun _ _ _ _ _ => (pts_one (pt_cmpR op_eq (pe_op op_mod (pe_cal C__law_mixed hr (by decide) (by rfl) (pa_cons (pv 3) (pa_cons (pe_op op_add pe_int (pv 13)) pa_nil))) (pv 4)) pe_int (nomark _)))) (fun _ _ _ _ _ => (pv 13)))
      (pss_cons (ps_if (pt_cmpR op_eq (pe_op op_mod (pe_op op_fdiv (pv 3) pe_int) pe_int) pe_int (nomark _)) (pss_one (ps_set (i := 5) sc_law.nd rfl (Or.inl rfl) (pe_lst (pa_cons (pe_op op_mod (pe_cal C__law_mixed hr (by decide) (by rfl) (pa_cons (pv 3) (pa_cons pe_int pa_nil))) (pv 2)) pa_nil)))) pss_nil)
      (pss_cons (ps_set (i := 5) sc_law.nd rfl (Or.inl rfl) (pe_stepL (pv 5) (pe_ix ix_list (pe_lst (pa_cons pe_int (pa_cons (pe_un un_neg pe_int) pa_nil))) (pe_op op_mod (pe_op op_fdiv (pv 3) pe_int) pe_int) (fun _ _ => rfl))))
      (pss_cons (ps_set (i := 6) sc_law.nd rfl (Or.inl rfl) (pe_lst (pa_cons (pe_cal C__law_copied hr (by decide) (by rfl) (pa_cons (pv 1) pa_nil)) (pa_cons (pe_callTy call_list_of (by rfl) B.list_ (by decide +kernel) (pa_cons (pv 5) pa_nil)) pa_nil))))
      (pss_cons (ps_for (passes_of rfl) rfl (pi_tup (pe_tup (pa_cons pe_int (pa_cons pe_int pa_nil)))) (pg_name (i := 7) sc_law.nd rfl (Or.inl rfl)) (pss_cons (ps_set (i := 8) sc_law.nd rfl (Or.inl rfl) (pe_cal C__law_rounds hr (by decide) (by rfl) (pa_cons (pv 1) (pa_cons (pv 7) (pa_cons (pv 5) pa_nil)))))
      (pss_cons (ps_set (i := 9) sc_law.nd rfl (Or.inl rfl) (pe_calX C_rounds hr (by decide) (takes_of rfl rfl rfl rfl) (by rfl) (pa_cons (pe_ix ix_list (pv 6) pe_int (fun _ _ => rfl)) (pa_cons (pv 7) (pa_cons (pe_ix ix_list (pv 6) pe_int (fun _ _ => rfl)) pa_nil)))))
      (pss_cons (ps_if (PW.pt (pw_or (pt_not (pt_val (pe_callB call_isi (by rfl) B.isinstance_ (by decide +kernel) (pa_cons (pv 9) (pa_cons (pe_bltn (v := .ty "list") (u := .type "list") (by rfl) B.list_ (by decide +kernel) rfl) pa_nil))))) (pw_or (pt_cmpR (op_neD hr.units) (pv 9) (pv 8) (nomark _)) (pw_or1 (pt_cmpR (op_neD hr.units) (pv 6) (pe_lst (pa_cons (pv 1) (pa_cons (pv 5) pa_nil))) (nomark _)))))) (pss_one (ps_ret pe_bl)) pss_nil)
      (pss_cons (ps_expr (pe_bm PySem.F.plainAttrs_list PySem.F.slot_list_append PySem.F.type_list_append mt_append (pv 9) (pa_cons pe_int pa_nil)))
      (pss_one (ps_if (pt_cmpR (op_neD hr.units) (pe_calX C_rounds hr (by decide) (takes_of rfl rfl rfl rfl) (by rfl) (pa_cons (pv 1) (pa_cons (pv 7) (pa_cons (pv 5) pa_nil)))) (pv 8) (nomark _)) (pss_one (ps_ret pe_bl)) pss_nil)))))))
      (pss_cons (ps_set (i := 10) sc_law.nd rfl (Or.inl rfl) (pe_ix ix_list (pe_lst (pa_cons (pe_un un_neg pe_int) (pa_cons pe_int (pa_cons pe_non (pa_cons pe_bl (pa_cons pe_str (pa_cons (pe_lst (pa_cons pe_int pa_nil)) (pa_cons (pe_op op_pow pe_int pe_int) pa_nil)))))))) (pe_op op_mod (pe_op op_fdiv (pv 3) pe_int) pe_int) (fun _ _ => rfl)))
      (pss_cons (ps_set (i := 11) sc_law.nd rfl (Or.inl rfl) (pe_ix ix_list (pe_lst (pa_cons pe_non (pa_cons (pe_lst (pa_cons (pv 2) pa_nil)) (pa_cons (pe_lst (pa_cons (pe_un un_neg pe_int) pa_nil)) (pa_cons (pe_lst (pa_cons pe_bl pa_nil)) (pa_cons (pe_tup (pa_cons pe_int pa_nil)) (pa_cons (pe_lst (pa_cons pe_int (pa_cons pe_int pa_nil))) (pa_cons (pe_lst (pa_cons pe_str pa_nil)) (pa_cons (pe_lst (pa_cons (pe_lst (pa_cons pe_int pa_nil)) pa_nil)) (pa_cons (pe_lst (pa_cons pe_non pa_nil)) (pa_cons pe_dnewK pa_nil))))))))))) (pe_op op_mod (pe_op op_fdiv (pv 3) pe_int) pe_int) (fun _ _ => rfl)))
      (pss_cons (ps_if (PW.pt (pw_or (pt_cmpR op_ne (pe_cal C__law_refused hr (by decide) (by rfl) (pa_cons (pv 1) (pa_cons (pv 10) (pa_cons (pv 11) pa_nil)))) pe_str (nomark _)) (pw_or1 (pt_cmpR op_ne (pe_cal C__law_refused hr (by decide) (by rfl) (pa_cons (pv 1) (pa_cons (pv 10) (pa_cons (pv 5) pa_nil)))) pe_str (nomark _))))) (pss_one (ps_ret pe_bl)) pss_nil)
      (pss_one (ps_ret (pe_cmpR op_eq (pe_cal C__law_refused hr (by decide) (by rfl) (pa_cons (pv 1) (pa_cons (pe_op op_mod (pv 3) pe_int) (pa_cons (pv 11) pa_nil)))) pe_str (nomark _)))))))))))))))), ?_⟩
    obtain ⟨hv, hgl, hgne⟩ := lawGame_ok (ns := ns) (most := 30) (by decide) (by decide)
    refine ⟨_, rfl, a, ns, 30, rfl, hS, by decide, by decide, fun H1 vg s1 hg => ?_⟩
    have h30 := (many_rg (ns := ns) (most := 30) (by decide)).2
    generalize lawGame ns 30 = g at hv hgl hgne hg
    have h40 := hv.1
    have hn0 : 0 < g.length := List.length_pos_iff.mpr hgne
    obtain ⟨ag, xg, rfl, hG, hGl, hGr⟩ := dp_game hg
    -- many
    refine ⟨_, rfl, _, _, rfl, .inl hG, ?_⟩
    -- _law_number
    refine ⟨_, rfl, _, _, rfl, .inl (s1.seq hS), _, rfl, a, rfl, ⟨_, s1.seq hS⟩, fun D nD => lc_pure ((ns.map fun c => c % 1000).map V.int) (by rw [List.length_map, List.length_map, List.length_map]) (s1.seq hS) nD (by rw [List.length_map]; omega) (fun i x y H2 Q' hx hy sm hQ => ?_) (fun H4 s4 hD => ?_)⟩
    · rw [List.getElem?_map] at hx
      obtain ⟨c, hc, rfl⟩ := Option.map_eq_some_iff.mp hx
      rw [List.getElem?_map, List.getElem?_map, hc] at hy
      cases hy
      exact ⟨rfl, _, rfl, _, _, rfl, rfl, (by show (0:Int) < 1000; decide), hQ _ (Same.refl _)⟩
    refine ⟨D, _, rfl, .inl (.inl hD), _, _, rfl, rfl, _, _, rfl, by decide, by decide, ?_⟩
    generalize hnum : mixed (((ns.map V.int).length : Int) + (ns.map fun c => c % 1000).sum) 7 = num
    clear hnum
    have hg4 := dp_mono s4 _ _ hg
    have hG4 := s4.seq hG
    -- share
    obtain ⟨sh, sh0, hsh⟩ := share_at (k := num % 5) (Int.emod_nonneg _ (by decide)) (Int.emod_lt_of_pos _ (by decide))
    refine ⟨(by show 5 ≤ sizeLine; decide), fun Ls nLs => ⟨_, rfl, _, _, rfl, rfl, (by show (0:Int) < 5; decide), Ls, _, _, _, rfl, rfl, .inl (.inl upd_same), hsh, ?_⟩⟩
    have hg5 := dp_mono (same_upd (o := .lst [V.int 2, .int 3, .int 9, .int 1, .int 100]) nLs) _ _ hg4
    have hG5 := (same_upd (o := .lst [V.int 2, .int 3, .int 9, .int 1, .int 100]) nLs).seq hG4
    generalize upd H4 Ls (.lst [V.int 2, .int 3, .int 9, .int 1, .int 100]) = H5 at hg5 hG5 ⊢
    -- places
    refine ⟨_, rfl, _, rfl, by omega, by omega, fun D5 n5 => lc_keepR (fun p => decide (mixed num (20 + p) % sh = 0)) n5 (by omega) (fun k H6 Q' N hk sm6 hQ hN => ?_) (fun H6 sm6 hD6 => ?_)⟩
    · rw [show (0 : Int) + (k : Nat) = (k : Int) by omega]
      refine ⟨rfl, _, rfl, _, rfl, _, _, rfl, rfl, _, _, rfl, by omega, by omega, _, rfl, _, _, rfl, rfl, sh0, rfl, _, rfl, ite2 (fun e => ?_) (fun e => ?_)⟩
      · exact ⟨_, rfl, hQ (decide_eq_true (V.int.inj (of_decide_eq_true e))) _ (Same.refl _)⟩
      · exact hN (decide_eq_false fun z => e (decide_eq_true (congrArg V.int z))) _ (Same.refl _)
    -- if: another list
    have hT0 : ∀ p ∈ (upto xg.length).filter (fun p => decide (mixed num (20 + p) % sh = 0)), InG g p := fun p hp => by
      have := mem_upto.mp (List.mem_filter.mp hp).1
      exact ⟨this.1, by have := this.2; omega⟩
    have hN0 : ((upto xg.length).filter (fun p => decide (mixed num (20 + p) % sh = 0))).Nodup := (nodup_upto _).filter _
    rw [Int.toNat_natCast] at hD6
    generalize (upto xg.length).filter (fun p => decide (mixed num (20 + p) % sh = 0)) = T0 at hT0 hN0 hD6
    refine ⟨_, rfl, _, _, rfl, rfl, ⟨by decide, by decide⟩, _, _, rfl, rfl, (by show (0:Int) < 3; decide), rfl, _, rfl, if_key (fun σ H7 => ∃ (Pl : Addr) (T1 : List Int), σ = [some (.ref a), some (.ref ag), some (.int (xg.length : Nat)), some (.int num), some (.int sh), some (.ref Pl), none, none, none, none, none, none, none, none] ∧ Same H5 H7 ∧ H7 Pl = some (.lst (T1.map V.int)) ∧ T1.Nodup ∧ ∀ p ∈ T1, InG g p) (fun _ hk => ?_) (fun _ => ⟨D5, T0, rfl, sm6, hD6, hN0, hT0⟩) (fun σ H7 hP => ?_)⟩
    · obtain ⟨m0, m1⟩ := mod_rg (a := mixed num 8) (m := (xg.length : Int)) (by omega)
      refine ⟨_, rfl, _, _, rfl, by decide, by decide, _, rfl, _, _, rfl, rfl, (by omega : (0:Int) < (xg.length : Int)), (by show 1 ≤ sizeLine; decide), fun L1 n1 => hk _ _ ⟨L1, [mixed num 8 % (xg.length : Int)], rfl, sm6.trans (same_upd n1), upd_same, by simp, fun p hp => ?_⟩⟩
      rw [List.mem_singleton.mp hp]
      exact ⟨m0, by omega⟩
    obtain ⟨Pl0, T1, rfl, s7, hPl, hN1, hT1⟩ := hP
    -- places[::..]
    obtain ⟨bb, hbb⟩ : ∃ bb : Bool, atI [V.int 1, .int (-1)] (num / 15 % 2) = some (.int (if bb = true then -1 else 1)) := by
      rcases mod2 (num / 15) with e | e
      · exact ⟨false, by rw [e]; exact atI_nat (j := 0) rfl⟩
      · exact ⟨true, by rw [e]; exact atI_nat (j := 1) rfl⟩
    refine ⟨_, rfl, _, rfl, (by show 2 ≤ sizeLine; decide), fun L2 n2 => ⟨_, rfl, _, _, rfl, rfl, ⟨by decide, by decide⟩, _, _, rfl, rfl, (by show (0:Int) < 2; decide), L2, _, _, _, rfl, rfl, .inl (.inl upd_same), hbb, _, rfl, Pl0, _, bb, rfl, .inl (.inl (same_upd n2 _ _ hPl)), rfl, fun Pl nPl => ?_⟩⟩
    obtain ⟨T, hTe⟩ : ∃ T, T = if bb = true then T1.reverse else T1 := ⟨_, rfl⟩
    have hNT : T.Nodup := by
      rw [hTe]
      cases bb with
      | true => exact List.pairwise_reverse.mpr (hN1.imp Ne.symm)
      | false => exact hN1
    have hTT : ∀ p ∈ T, InG g p := by
      rw [hTe]
      cases bb with
      | true => exact fun p hp => hT1 p (List.mem_reverse.mp hp)
      | false => exact hT1
    have eT : (if bb = true then (T1.map V.int).reverse else T1.map V.int) = T.map V.int := by
      rw [hTe]
      cases bb with
      | true => exact List.map_reverse.symm
      | false => rfl
    rw [eT]
    have hTl : T.length ≤ 40 := Nat.le_trans (pigeon g.length T hNT hTT) h40
    have s8 : Same H5 (upd (upd H7 L2 (.lst [V.int 1, .int (-1)])) Pl (.lst (T.map V.int))) := s7.trans ((same_upd n2).trans (same_upd nPl))
    have hPl8 : (upd (upd H7 L2 (.lst [V.int 1, .int (-1)])) Pl (.lst (T.map V.int))) Pl = some (.lst (T.map V.int)) := upd_same
    generalize upd (upd H7 L2 (.lst [V.int 1, .int (-1)])) Pl (.lst (T.map V.int)) = H8 at s8 hPl8 ⊢
    clear hTe eT nPl n2 hPl
    -- handed
    have hg8 := dp_mono s8 _ _ hg5
    refine ⟨_, rfl, .ref ag, g, rfl, hg8, h40, fun H9 ah s9 hh => ⟨_, rfl, Pl, _, rfl, .inl (.inl (.inl (s9 _ _ hPl8))), fun l nl => ⟨(by show 2 ≤ sizeLine; decide), fun Hd nHd => ?_⟩⟩⟩
    have hg9 := dp_mono s9 _ _ hg8
    have sA : Same H9 (upd (upd H9 l (.lst (T.map V.int))) Hd (.lst [.ref ah, .ref l])) := (same_upd nl).trans (same_upd nHd)
    have hgA := dp_mono sA _ _ hg9
    have hhA := dp_mono sA _ _ hh
    have hPA := sA _ _ (s9 _ _ hPl8)
    have hHd : (upd (upd H9 l (.lst (T.map V.int))) Hd (.lst [.ref ah, .ref l])) Hd = some (.lst [.ref ah, .ref l]) := upd_same
    have hlA : (upd (upd H9 l (.lst (T.map V.int))) Hd (.lst [.ref ah, .ref l])) l = some (.lst (T.map V.int)) := same_upd nHd _ _ upd_same
    generalize upd (upd H9 l (.lst (T.map V.int))) Hd (.lst [.ref ah, .ref l]) = HA at hgA hhA hPA hHd hlA ⊢
    -- for player in (0, 1)
    refine ⟨(by show 2 ≤ sizeLine; decide), fun TT nTT => ⟨TT, rfl, ⟨_, .inl (.inl upd_same)⟩, for_tup (K := K) (a := TT) (xs := [.int 0, .int 1]) (fun j σ H2 => ∃ y7 y8 y9 : Option V, σ = [some (.ref a), some (.ref ag), some (.int (xg.length : Nat)), some (.int num), some (.int sh), some (.ref Pl), some (.ref Hd), y7, y8, y9, none, none, none, none] ∧ Same (upd HA TT (.tup [.int 0, .int 1])) H2) ⟨none, none, none, rfl, Same.refl _⟩ (fun j σ H2 _ ⟨_, _, _, _, sm⟩ => .inl (.inl (sm _ _ upd_same))) (fun j x σ H2 hj hP => ?_) (fun σ H2 hP => ?_)⟩⟩
    · obtain ⟨z7, z8, z9, rfl, sB⟩ := hP
      have sm : Same HA H2 := (same_upd nTT).trans sB
      obtain ⟨i, rfl, hi⟩ : ∃ i : Int, x = .int i ∧ (i = 0 ∨ i = 1) := by
        match j, hj with
        | 0, hj => cases hj; exact ⟨0, rfl, .inl rfl⟩
        | 1, hj => cases hj; exact ⟨1, rfl, .inr rfl⟩
      refine ⟨_, rfl, _, rfl, _, rfl, .ref ag, Pl, g, i, T, rfl, dp_mono sm _ _ hgA, hv, .inl (.inl (sm _ _ hPA)), hTT, by omega, fun H3 du s3 ndu hdu => ?_⟩
      have sm3 := sm.trans s3
      refine ⟨_, rfl, Hd, _, 0, _, rfl, rfl, .inl (.inl (sm3 _ _ hHd)), atI_nat (j := 0) rfl, _, rfl, _, rfl, Hd, _, 1, _, rfl, rfl, .inl (.inl (sm3 _ _ hHd)), atI_nat (j := 1) rfl, ?_⟩
      dsimp only [tNil]
      refine rounds_use (A := A) (dp_mono sm3 _ _ hhA) hv hi (.inl (.inl (sm3 _ _ hlA))) hNT hTT fun H4 fo s4 nfo hfo => ?_
      have sm4 := sm3.trans s4
      have hdu4 := s4 _ _ hdu
      have fd : fo ≠ du := fun e => by rw [e, hdu] at nfo; cases nfo
      have dpf : ∀ {H : Hp} {b : Addr}, H b = some (.lst (fl g.length (rdT g i T g.length))) → Dp K H (.ref b) (.list (((upto g.length).map (rdT g i T g.length)).map optDR)) := fun {H b} e => by
        rw [fl_opts] at e
        exact .lst (.inl (.inl e)) (dpa_optR _)
      have shf := shaped_optR ((upto g.length).map (rdT g i T g.length))
      have eqf : PyData.eqv (.list (((upto g.length).map (rdT g i T g.length)).map optDR)) (.list (((upto g.length).map (rdT g i T g.length)).map optDR)) = true := SeqAt.eqv_refl _ (lay_optR _)
      refine ⟨_, rfl, _, _, _, _, _, rfl, .ty _, (Dx.of (dpf hfo)).ty, kit_ty (kit_list (.list (((upto g.length).map (rdT g i T g.length)).map optDR))), _, rfl, ite_no (by rw [isTy_list]; rfl) ?_⟩
      refine ⟨_, rfl, _, rfl, _, _, dpf hfo, dpf hdu4, shf, shf, _, rfl, ite_no (by rw [eqf]; rfl) ?_⟩
      refine ⟨_, rfl, _, rfl, _, rfl, (by show 2 ≤ sizeLine; decide), fun Z nZ => ⟨.list [gameD g, intsD T], .list [gameD g, intsD T], .lst (.inl (.inl (same_upd nZ _ _ (sm4 _ _ hHd)))) (.cons (dp_mono (sm4.trans (same_upd nZ)) _ _ hhA) (.cons (.lst (.inl (.inl (same_upd nZ _ _ (sm4 _ _ hlA)))) (dpa_ints' T)) .nil)), .lst (.inl (.inl upd_same)) (.cons (dp_mono (sm4.trans (same_upd nZ)) _ _ hgA) (.cons (.lst (.inl (.inl (same_upd nZ _ _ (sm4 _ _ hPA)))) (dpa_ints' T)) .nil)), shaped_handed g T, shaped_handed g T, _, rfl, ite_no (by rw [SeqAt.eqv_refl _ (lay_handed g T)]; rfl) ?_⟩⟩
      have smZ := sm4.trans (same_upd (o := .lst [V.ref ag, .ref Pl]) nZ)
      have hfZ := same_upd (o := .lst [V.ref ag, .ref Pl]) nZ _ _ hfo
      have hdZ := same_upd (o := .lst [V.ref ag, .ref Pl]) nZ _ _ hdu4
      have smZB := sB.trans (s3.trans (s4.trans (same_upd (o := .lst [V.ref ag, .ref Pl]) nZ)))
      have nfA : HA fo = none := Same.free sm3 nfo
      generalize upd H4 Z (.lst [V.ref ag, .ref Pl]) = HZ at smZ smZB hfZ hdZ ⊢
      refine ⟨.ref fo, rfl, .inl ⟨rfl, _, .inl (.inl hfZ)⟩, fo, _, _, rfl, rfl, hfZ, by rw [fl_len]; exact small1000 (by omega), ?_⟩
      have smY : Same HA (upd HZ fo (.lst (fl g.length (rdT g i T g.length) ++ [.int 0]))) := fun b o e => by
        rw [upd_ne (ne_of_none e nfA)]
        exact smZ _ _ e
      have hdY : (upd HZ fo (.lst (fl g.length (rdT g i T g.length) ++ [.int 0]))) du = _ := (upd_ne fd.symm).trans hdZ
      have nBfo : (upd HA TT (.tup [.int 0, .int 1])) fo = none := Same.free (sB.trans s3) nfo
      have smB : Same (upd HA TT (.tup [.int 0, .int 1])) (upd HZ fo (.lst (fl g.length (rdT g i T g.length) ++ [.int 0]))) := fun b o e => by
        rw [upd_ne (ne_of_none e nBfo)]
        exact smZB _ _ e
      generalize upd HZ fo (.lst (fl g.length (rdT g i T g.length) ++ [.int 0])) = HY at smY hdY smB ⊢
      refine ⟨_, rfl, _, rfl, _, rfl, ?_⟩
      dsimp only [tNil]
      refine rounds_use (A := A) (dp_mono smY _ _ hgA) hv hi (.inl (.inl (smY _ _ hPA))) hNT hTT fun H6 f2 s6 nf2 hf2 => ⟨_, rfl, _, _, dpf hf2, dpf (s6 _ _ hdY), shf, shf, _, rfl, ite_no (by rw [eqf]; rfl) ?_⟩
      exact ⟨_, _, _, rfl, smB.trans s6⟩
    · obtain ⟨z7, z8, z9, rfl, sB⟩ := hP
      have sm : Same HA H2 := (same_upd nTT).trans sB
      have hnx : (0 : Int) < (xg.length : Int) := by omega
      -- none
      refine ⟨_, rfl, (by show 1 ≤ sizeLine; decide), fun z nz => ⟨_, _, rfl, rfl, ⟨by decide, by decide, by decide⟩, (by show 7 ≤ sizeLine; decide), fun L7 n7 => ?_⟩⟩
      have sC : Same HA (upd (upd H2 z (.lst [.int 0])) L7 (.lst [V.int (-1), .int 2, .non, .bl true, .str "0", .ref z, .int (10 ^ (20 : Int).toNat)])) := sm.trans ((same_upd nz).trans (same_upd n7))
      have hzC : (upd (upd H2 z (.lst [.int 0])) L7 (.lst [V.int (-1), .int 2, .non, .bl true, .str "0", .ref z, .int (10 ^ (20 : Int).toNat)])) z = some (.lst [.int 0]) := same_upd n7 _ _ upd_same
      have hLC : (upd (upd H2 z (.lst [.int 0])) L7 (.lst [V.int (-1), .int 2, .non, .bl true, .str "0", .ref z, .int (10 ^ (20 : Int).toNat)])) L7 = some (.lst [V.int (-1), .int 2, .non, .bl true, .str "0", .ref z, .int (10 ^ (20 : Int).toNat)]) := upd_same
      generalize upd (upd H2 z (.lst [.int 0])) L7 (.lst [V.int (-1), .int 2, .non, .bl true, .str "0", .ref z, .int (10 ^ (20 : Int).toNat)]) = HC at sC hzC hLC ⊢
      obtain ⟨vn, dn, hvn, hdn, hnp⟩ := none_at (K := K) hzC (k := num / 30 % 7) (Int.emod_nonneg _ (by decide)) (Int.emod_lt_of_pos _ (by decide))
      refine ⟨_, rfl, _, _, rfl, rfl, ⟨by decide, by decide⟩, _, _, rfl, rfl, (by show (0:Int) < 7; decide), L7, _, _, vn, rfl, rfl, .inl (.inl hLC), hvn, ?_⟩
      -- bad
      have hdnR : ∀ {HZ : Hp}, Same HC HZ → Dp K HZ vn dn := fun sm => dp_mono sm _ _ hdn
      have sR : Same HC HC := Same.refl _
      clear hzC hLC
      refine ⟨_, rfl, (by show 1 ≤ sizeLine; decide), fun b1 m1 => ?_⟩
      have t0 : Same HC (upd HC b1 (.lst [.int (xg.length : Nat)])) := same_upd m1
      have w0 : (upd HC b1 (.lst [.int (xg.length : Nat)])) b1 = some (.lst [.int (xg.length : Nat)]) := upd_same
      generalize upd HC b1 (.lst [.int (xg.length : Nat)]) = Hb0 at t0 w0 ⊢
      refine ⟨_, rfl, (by show 1 ≤ sizeLine; decide), fun b2 m2 => ?_⟩
      have t1 : Same Hb0 (upd Hb0 b2 (.lst [.int (-1)])) := same_upd m2
      have w1 : (upd Hb0 b2 (.lst [.int (-1)])) b2 = some (.lst [.int (-1)]) := upd_same
      generalize upd Hb0 b2 (.lst [.int (-1)]) = Hb1 at t1 w1 ⊢
      refine ⟨(by show 1 ≤ sizeLine; decide), fun b3 m3 => ?_⟩
      have t2 : Same Hb1 (upd Hb1 b3 (.lst [.bl true])) := same_upd m3
      have w2 : (upd Hb1 b3 (.lst [.bl true])) b3 = some (.lst [.bl true]) := upd_same
      generalize upd Hb1 b3 (.lst [.bl true]) = Hb2 at t2 w2 ⊢
      refine ⟨(by show 1 ≤ sizeLine; decide), fun b4 m4 => ?_⟩
      have t3 : Same Hb2 (upd Hb2 b4 (.tup [.int 0])) := same_upd m4
      have w3 : (upd Hb2 b4 (.tup [.int 0])) b4 = some (.tup [.int 0]) := upd_same
      generalize upd Hb2 b4 (.tup [.int 0]) = Hb3 at t3 w3 ⊢
      refine ⟨(by show 2 ≤ sizeLine; decide), fun b5 m5 => ?_⟩
      have t4 : Same Hb3 (upd Hb3 b5 (.lst [.int 0, .int 0])) := same_upd m5
      have w4 : (upd Hb3 b5 (.lst [.int 0, .int 0])) b5 = some (.lst [.int 0, .int 0]) := upd_same
      generalize upd Hb3 b5 (.lst [.int 0, .int 0]) = Hb4 at t4 w4 ⊢
      refine ⟨(by show 1 ≤ sizeLine; decide), fun b6 m6 => ?_⟩
      have t5 : Same Hb4 (upd Hb4 b6 (.lst [.str "0"])) := same_upd m6
      have w5 : (upd Hb4 b6 (.lst [.str "0"])) b6 = some (.lst [.str "0"]) := upd_same
      generalize upd Hb4 b6 (.lst [.str "0"]) = Hb5 at t5 w5 ⊢
      refine ⟨(by show 1 ≤ sizeLine; decide), fun b7 m7 => ?_⟩
      have t6 : Same Hb5 (upd Hb5 b7 (.lst [.int 0])) := same_upd m7
      have w6 : (upd Hb5 b7 (.lst [.int 0])) b7 = some (.lst [.int 0]) := upd_same
      generalize upd Hb5 b7 (.lst [.int 0]) = Hb6 at t6 w6 ⊢
      refine ⟨(by show 1 ≤ sizeLine; decide), fun b8 m8 => ?_⟩
      have t7 : Same Hb6 (upd Hb6 b8 (.lst [.ref b7])) := same_upd m8
      have w7 : (upd Hb6 b8 (.lst [.ref b7])) b8 = some (.lst [.ref b7]) := upd_same
      generalize upd Hb6 b8 (.lst [.ref b7]) = Hb7 at t7 w7 ⊢
      refine ⟨(by show 1 ≤ sizeLine; decide), fun b9 m9 => ?_⟩
      have t8 : Same Hb7 (upd Hb7 b9 (.lst [.non])) := same_upd m9
      have w8 : (upd Hb7 b9 (.lst [.non])) b9 = some (.lst [.non]) := upd_same
      generalize upd Hb7 b9 (.lst [.non]) = Hb8 at t8 w8 ⊢
      refine fun b0 m0 => ?_
      have t9 : Same Hb8 (upd Hb8 b0 (.dK [])) := same_upd m0
      have w9 : (upd Hb8 b0 (.dK [])) b0 = some (.dK []) := upd_same
      generalize upd Hb8 b0 (.dK []) = Hb9 at t9 w9 ⊢
      refine ⟨(by show 10 ≤ sizeLine; decide), fun LL mL => ?_⟩
      have t10 : Same Hb9 (upd Hb9 LL (.lst [.non, .ref b1, .ref b2, .ref b3, .ref b4, .ref b5, .ref b6, .ref b8, .ref b9, .ref b0])) := same_upd mL
      have w10 : (upd Hb9 LL (.lst [.non, .ref b1, .ref b2, .ref b3, .ref b4, .ref b5, .ref b6, .ref b8, .ref b9, .ref b0])) LL = some (.lst [.non, .ref b1, .ref b2, .ref b3, .ref b4, .ref b5, .ref b6, .ref b8, .ref b9, .ref b0]) := upd_same
      generalize upd Hb9 LL (.lst [.non, .ref b1, .ref b2, .ref b3, .ref b4, .ref b5, .ref b6, .ref b8, .ref b9, .ref b0]) = Hb10 at t10 w10 ⊢
      have r10 : Same Hb10 Hb10 := Same.refl _
      have r9 := t10.trans r10
      have r8 := t9.trans r9
      have r7 := t8.trans r8
      have r6 := t7.trans r7
      have r5 := t6.trans r6
      have r4 := t5.trans r5
      have r3 := t4.trans r4
      have r2 := t3.trans r3
      have r1 := t2.trans r2
      have r0 := t1.trans r1
      have rC := t0.trans r0
      have BH : BadH Hb10 (xg.length : Int) b1 b2 b3 b4 b5 b6 b7 b8 b9 b0 := ⟨r0 _ _ w0, r1 _ _ w1, r2 _ _ w2, r3 _ _ w3, r4 _ _ w4, r5 _ _ w5, r6 _ _ w6, r7 _ _ w7, r8 _ _ w8, r9 _ _ w9⟩
      obtain ⟨vb, db, hvb, hdb, hnb, hzb⟩ := bad_at (K := K) hnx BH (k := num / 210 % 10) (Int.emod_nonneg _ (by decide)) (Int.emod_lt_of_pos _ (by decide))
      refine ⟨_, rfl, _, _, rfl, rfl, ⟨by decide, by decide⟩, _, _, rfl, rfl, (by show (0:Int) < 10; decide), LL, _, _, vb, rfl, rfl, .inl (.inl w10), hvb, ?_⟩
      have sD := sC.trans rC
      rw [hGl] at hnb
      have hplay : ∀ {d : PyData} {i : Int}, d = .int i → (i = 0 ∨ i = 1) → isPlayer d = true := fun {d i} e h => by
        rw [e]
        show (decide (i = 0) || decide (i = 1)) = true
        rcases h with h | h
        · rw [decide_eq_true h]; rfl
        · rw [decide_eq_true h, Bool.or_true]
      have dpT : ∀ {HZ : Hp}, Same HA HZ → Dx K HZ (.ref Pl) (intsD T) := fun sm => .of (.lst (.inl (.inl (sm _ _ hPA))) (dpa_ints' T))
      refine ⟨_, rfl, _, rfl, _, rfl, .ref ag, vn, vb, g, dn, db, rfl, dp_mono sD _ _ hgA, hv, .of (hdnR rC), hdb, hzb, (fun _ H3 s3 => ?_), fun i ei hi => by rw [hplay ei hi] at hnp; cases hnp⟩
      refine ⟨rfl, _, rfl, ite_no rfl ⟨_, rfl, _, rfl, _, rfl, .ref ag, vn, .ref Pl, g, dn, intsD T, rfl, dp_mono (sD.trans s3) _ _ hgA, hv, .of (hdnR (rC.trans s3)), dpT (sD.trans s3), (fun ds e => by cases e; rw [List.length_map]; omega), (fun _ H4' s4' => ?_), fun i ei hi => by rw [hplay ei hi] at hnp; cases hnp⟩⟩
      refine ⟨rfl, _, rfl, ite_no rfl ?_⟩
      have hi2 : num % 2 = 0 ∨ num % 2 = 1 := mod2 num
      refine ⟨_, rfl, _, rfl, _, _, rfl, rfl, (by show (0:Int) < 2; decide), _, rfl, .ref ag, .int (num % 2), vb, g, .int (num % 2), db, rfl, dp_mono (sD.trans (s3.trans s4')) _ _ hgA, hv, .of (.int _), hdb.mono (s3.trans s4'), hzb, (fun e => by rw [hplay rfl hi2] at e; cases e), fun i ei hi => ⟨hnb, fun H5' s5' => ⟨rfl, q _⟩⟩⟩
end
end G

namespace G
open PySem PySem.Spec PyProof.Rows L2
abbrev P0 : Program := PySem.Challenge.pw_gongpath_k03_rounds
theorem along_of {K : PySem.W.Frag} {C : Addr} {bm : List Value} {v : Value} {nm q : Str} {N : Addr} {bs : List Value} {sn : List Str} {sub : List Value} {ab : Bool} {col : Option Bool} {dd : Option Addr} {k0 k1 k2 k3 k5 : Option Value} {nw : String} (h : K.lookup C = some (excClassObj nm q C N bs bm true sn sub ab col dd k0 k1 k2 k3 k5 nw)) (e : PySem.W.findIn K (.ref C) "__init__" = some (some v)) : PySem.W.alongIn K "__init__" (.ref C :: bm) = some (some v) := by
  unfold PySem.W.findIn at e
  dsimp only at e
  rw [h] at e
  exact e
set_option maxHeartbeats 8000000 in
theorem all_mk {w : World} {K : PySem.W.Frag} {h : Heap} {mg : Str → Option Value} {fa aBadGame aBadSteps aBadPlace aBadPlayer aTooMany aGongError : Addr} (X : K.In h) (Gn : h.Ns mainGlobals mg) (hfa : mg "law" = some (.ref fa))
    {f0 : Addr} {od0 an0 : Option Addr} {sl0 : Array (Option Value)} {oc0 kV0 dc0 pm0 cd0 ct0 : Value}
    {f1 : Addr} {od1 an1 : Option Addr} {sl1 : Array (Option Value)} {oc1 kV1 dc1 pm1 cd1 ct1 : Value}
    {f2 : Addr} {od2 an2 : Option Addr} {sl2 : Array (Option Value)} {oc2 kV2 dc2 pm2 cd2 ct2 : Value}
    {f3 : Addr} {od3 an3 : Option Addr} {sl3 : Array (Option Value)} {oc3 kV3 dc3 pm3 cd3 ct3 : Value}
    {f4 : Addr} {od4 an4 : Option Addr} {sl4 : Array (Option Value)} {oc4 kV4 dc4 pm4 cd4 ct4 : Value}
    {f5 : Addr} {od5 an5 : Option Addr} {sl5 : Array (Option Value)} {oc5 kV5 dc5 pm5 cd5 ct5 : Value}
    {f6 : Addr} {od6 an6 : Option Addr} {sl6 : Array (Option Value)} {oc6 kV6 dc6 pm6 cd6 ct6 : Value}
    {f7 : Addr} {od7 an7 : Option Addr} {sl7 : Array (Option Value)} {oc7 kV7 dc7 pm7 cd7 ct7 : Value}
    {f8 : Addr} {od8 an8 : Option Addr} {sl8 : Array (Option Value)} {oc8 kV8 dc8 pm8 cd8 ct8 : Value}
    {f9 : Addr} {od9 an9 : Option Addr} {sl9 : Array (Option Value)} {oc9 kV9 dc9 pm9 cd9 ct9 : Value}
    {f10 : Addr} {od10 an10 : Option Addr} {sl10 : Array (Option Value)} {oc10 kV10 dc10 pm10 cd10 ct10 : Value}
    {f11 : Addr} {od11 an11 : Option Addr} {sl11 : Array (Option Value)} {oc11 kV11 dc11 pm11 cd11 ct11 : Value}
    {f12 : Addr} {od12 an12 : Option Addr} {sl12 : Array (Option Value)} {oc12 kV12 dc12 pm12 cd12 ct12 : Value}
    {f13 : Addr} {od13 an13 : Option Addr} {sl13 : Array (Option Value)} {oc13 kV13 dc13 pm13 cd13 ct13 : Value}
    {f14 : Addr} {od14 an14 : Option Addr} {sl14 : Array (Option Value)} {oc14 kV14 dc14 pm14 cd14 ct14 : Value}
    {f15 : Addr} {od15 an15 : Option Addr} {sl15 : Array (Option Value)} {oc15 kV15 dc15 pm15 cd15 ct15 : Value}
    {f16 : Addr} {od16 an16 : Option Addr} {sl16 : Array (Option Value)} {oc16 kV16 dc16 pm16 cd16 ct16 : Value}
    {f17 : Addr} {od17 an17 : Option Addr} {sl17 : Array (Option Value)} {oc17 kV17 dc17 pm17 cd17 ct17 : Value}
    {f18 : Addr} {od18 an18 : Option Addr} {sl18 : Array (Option Value)} {oc18 kV18 dc18 pm18 cd18 ct18 : Value}
    {f19 : Addr} {od19 an19 : Option Addr} {sl19 : Array (Option Value)} {oc19 kV19 dc19 pm19 cd19 ct19 : Value}
    {tk0 : Tok}
    {nmG qG : Str} {NG : Addr} {bsG : List Value} {snG : List Str} {subG : List Value} {abG : Bool} {colG : Option Bool} {ddG : Option Addr} {mG0 mG1 mG2 mG3 mG5 : Option Value} {newG : String}
    {nmBG qBG : Str} {NBG : Addr} {bsBG : List Value} {snBG : List Str} {subBG : List Value} {abBG : Bool} {colBG : Option Bool} {ddBG : Option Addr} {mBG0 mBG1 mBG2 mBG3 mBG5 : Option Value}
    {fBG cdaBG ccBG : Addr} {ocBG dcBG pmBG ctBG cclBG clBG : Value} {odBG anBG cddBG cldBG : Option Addr} {slBG ccsBG cslBG : Array (Option Value)} {vsBG : Array Value} {fileBG : Str} {tfBG : Tok}
    {nmBS qBS : Str} {NBS : Addr} {bsBS : List Value} {snBS : List Str} {subBS : List Value} {abBS : Bool} {colBS : Option Bool} {ddBS : Option Addr} {mBS0 mBS1 mBS2 mBS3 mBS5 : Option Value}
    {fBS cdaBS ccBS : Addr} {ocBS dcBS pmBS ctBS cclBS clBS : Value} {odBS anBS cddBS cldBS : Option Addr} {slBS ccsBS cslBS : Array (Option Value)} {vsBS : Array Value} {fileBS : Str} {tfBS : Tok}
    (a0 : PySem.W.nsIn K mainGlobals "is_number" = some (some (.ref f0)))
    (l0 : K.lookup f0 = some ⟨oc0, od0, .func (PySem.W.fnOf "is_number" "is_number" (defArgs s_is_number) (defBody s_is_number) (defScope s_is_number) .none kV0 dc0 pm0 an0 cd0 ct0), sl0⟩)
    (c0 : PySem.W.codeIn K cd0 "is_number" = true)
    (k0 : PySem.W.keepIn K (.ref f0) = true)
    (a1 : PySem.W.nsIn K mainGlobals "is_player" = some (some (.ref f1)))
    (l1 : K.lookup f1 = some ⟨oc1, od1, .func (PySem.W.fnOf "is_player" "is_player" (defArgs s_is_player) (defBody s_is_player) (defScope s_is_player) .none kV1 dc1 pm1 an1 cd1 ct1), sl1⟩)
    (c1 : PySem.W.codeIn K cd1 "is_player" = true)
    (k1 : PySem.W.keepIn K (.ref f1) = true)
    (a2 : PySem.W.nsIn K mainGlobals "is_place" = some (some (.ref f2)))
    (l2 : K.lookup f2 = some ⟨oc2, od2, .func (PySem.W.fnOf "is_place" "is_place" (defArgs s_is_place) (defBody s_is_place) (defScope s_is_place) .none kV2 dc2 pm2 an2 cd2 ct2), sl2⟩)
    (c2 : PySem.W.codeIn K cd2 "is_place" = true)
    (k2 : PySem.W.keepIn K (.ref f2) = true)
    (a3 : PySem.W.nsIn K mainGlobals "is_places" = some (some (.ref f3)))
    (l3 : K.lookup f3 = some ⟨oc3, od3, .func (PySem.W.fnOf "is_places" "is_places" (defArgs s_is_places) (defBody s_is_places) (defScope s_is_places) .none kV3 dc3 pm3 an3 cd3 ct3), sl3⟩)
    (c3 : PySem.W.codeIn K cd3 "is_places" = true)
    (k3 : PySem.W.keepIn K (.ref f3) = true)
    (a4 : PySem.W.nsIn K mainGlobals "is_ways" = some (some (.ref f4)))
    (l4 : K.lookup f4 = some ⟨oc4, od4, .func (PySem.W.fnOf "is_ways" "is_ways" (defArgs s_is_ways) (defBody s_is_ways) (defScope s_is_ways) .none kV4 dc4 pm4 an4 cd4 ct4), sl4⟩)
    (c4 : PySem.W.codeIn K cd4 "is_ways" = true)
    (k4 : PySem.W.keepIn K (.ref f4) = true)
    (a5 : PySem.W.nsIn K mainGlobals "is_row" = some (some (.ref f5)))
    (l5 : K.lookup f5 = some ⟨oc5, od5, .func (PySem.W.fnOf "is_row" "is_row" (defArgs s_is_row) (defBody s_is_row) (defScope s_is_row) .none kV5 dc5 pm5 an5 cd5 ct5), sl5⟩)
    (c5 : PySem.W.codeIn K cd5 "is_row" = true)
    (k5 : PySem.W.keepIn K (.ref f5) = true)
    (a6 : PySem.W.nsIn K mainGlobals "check_game" = some (some (.ref f6)))
    (l6 : K.lookup f6 = some ⟨oc6, od6, .func (PySem.W.fnOf "check_game" "check_game" (defArgs s_check_game) (defBody s_check_game) (defScope s_check_game) .none kV6 dc6 pm6 an6 cd6 ct6), sl6⟩)
    (c6 : PySem.W.codeIn K cd6 "check_game" = true)
    (k6 : PySem.W.keepIn K (.ref f6) = true)
    (a7 : PySem.W.nsIn K mainGlobals "check_player" = some (some (.ref f7)))
    (l7 : K.lookup f7 = some ⟨oc7, od7, .func (PySem.W.fnOf "check_player" "check_player" (defArgs s_check_player) (defBody s_check_player) (defScope s_check_player) .none kV7 dc7 pm7 an7 cd7 ct7), sl7⟩)
    (c7 : PySem.W.codeIn K cd7 "check_player" = true)
    (k7 : PySem.W.keepIn K (.ref f7) = true)
    (a8 : PySem.W.nsIn K mainGlobals "check_places" = some (some (.ref f8)))
    (l8 : K.lookup f8 = some ⟨oc8, od8, .func (PySem.W.fnOf "check_places" "check_places" (defArgs s_check_places) (defBody s_check_places) (defScope s_check_places) .none kV8 dc8 pm8 an8 cd8 ct8), sl8⟩)
    (c8 : PySem.W.codeIn K cd8 "check_places" = true)
    (k8 : PySem.W.keepIn K (.ref f8) = true)
    (a9 : PySem.W.nsIn K mainGlobals "rounds" = some (some (.ref f9)))
    (l9 : K.lookup f9 = some ⟨oc9, od9, .func (PySem.W.fnOf "rounds" "rounds" (defArgs s_rounds) (defBody s_rounds) (defScope s_rounds) .none kV9 dc9 pm9 an9 cd9 ct9), sl9⟩)
    (c9 : PySem.W.codeIn K cd9 "rounds" = true)
    (k9 : PySem.W.keepIn K (.ref f9) = true)
    (a10 : PySem.W.nsIn K mainGlobals "everywhere" = some (some (.ref f10)))
    (l10 : K.lookup f10 = some ⟨oc10, od10, .func (PySem.W.fnOf "everywhere" "everywhere" (defArgs s_everywhere) (defBody s_everywhere) (defScope s_everywhere) .none kV10 dc10 pm10 an10 cd10 ct10), sl10⟩)
    (c10 : PySem.W.codeIn K cd10 "everywhere" = true)
    (k10 : PySem.W.keepIn K (.ref f10) = true)
    (a11 : PySem.W.nsIn K mainGlobals "drawn" = some (some (.ref f11)))
    (l11 : K.lookup f11 = some ⟨oc11, od11, .func (PySem.W.fnOf "drawn" "drawn" (defArgs s_drawn) (defBody s_drawn) (defScope s_drawn) .none kV11 dc11 pm11 an11 cd11 ct11), sl11⟩)
    (c11 : PySem.W.codeIn K cd11 "drawn" = true)
    (k11 : PySem.W.keepIn K (.ref f11) = true)
    (a12 : PySem.W.nsIn K mainGlobals "leads" = some (some (.ref f12)))
    (l12 : K.lookup f12 = some ⟨oc12, od12, .func (PySem.W.fnOf "leads" "leads" (defArgs s_leads) (defBody s_leads) (defScope s_leads) .none kV12 dc12 pm12 an12 cd12 ct12), sl12⟩)
    (c12 : PySem.W.codeIn K cd12 "leads" = true)
    (k12 : PySem.W.keepIn K (.ref f12) = true)
    (a13 : PySem.W.nsIn K mainGlobals "_law_mixed" = some (some (.ref f13)))
    (l13 : K.lookup f13 = some ⟨oc13, od13, .func (PySem.W.fnOf "_law_mixed" "_law_mixed" (defArgs s__law_mixed) (defBody s__law_mixed) (defScope s__law_mixed) .none kV13 dc13 pm13 an13 cd13 ct13), sl13⟩)
    (c13 : PySem.W.codeIn K cd13 "_law_mixed" = true)
    (k13 : PySem.W.keepIn K (.ref f13) = true)
    (a14 : PySem.W.nsIn K mainGlobals "_law_game" = some (some (.ref f14)))
    (l14 : K.lookup f14 = some ⟨oc14, od14, .func (PySem.W.fnOf "_law_game" "_law_game" (defArgs s__law_game) (defBody s__law_game) (defScope s__law_game) .none kV14 dc14 pm14 an14 cd14 ct14), sl14⟩)
    (c14 : PySem.W.codeIn K cd14 "_law_game" = true)
    (k14 : PySem.W.keepIn K (.ref f14) = true)
    (a15 : PySem.W.nsIn K mainGlobals "_law_copied" = some (some (.ref f15)))
    (l15 : K.lookup f15 = some ⟨oc15, od15, .func (PySem.W.fnOf "_law_copied" "_law_copied" (defArgs s__law_copied) (defBody s__law_copied) (defScope s__law_copied) .none kV15 dc15 pm15 an15 cd15 ct15), sl15⟩)
    (c15 : PySem.W.codeIn K cd15 "_law_copied" = true)
    (k15 : PySem.W.keepIn K (.ref f15) = true)
    (a16 : PySem.W.nsIn K mainGlobals "_law_word" = some (some (.ref f16)))
    (l16 : K.lookup f16 = some ⟨oc16, od16, .func (PySem.W.fnOf "_law_word" "_law_word" (defArgs s__law_word) (defBody s__law_word) (defScope s__law_word) .none kV16 dc16 pm16 an16 cd16 ct16), sl16⟩)
    (c16 : PySem.W.codeIn K cd16 "_law_word" = true)
    (k16 : PySem.W.keepIn K (.ref f16) = true)
    (a17 : PySem.W.nsIn K mainGlobals "_law_rounds" = some (some (.ref f17)))
    (l17 : K.lookup f17 = some ⟨oc17, od17, .func (PySem.W.fnOf "_law_rounds" "_law_rounds" (defArgs s__law_rounds) (defBody s__law_rounds) (defScope s__law_rounds) .none kV17 dc17 pm17 an17 cd17 ct17), sl17⟩)
    (c17 : PySem.W.codeIn K cd17 "_law_rounds" = true)
    (k17 : PySem.W.keepIn K (.ref f17) = true)
    (a18 : PySem.W.nsIn K mainGlobals "_law_refused" = some (some (.ref f18)))
    (l18 : K.lookup f18 = some ⟨oc18, od18, .func (PySem.W.fnOf "_law_refused" "_law_refused" (defArgs s__law_refused) (defBody s__law_refused) (defScope s__law_refused) .none kV18 dc18 pm18 an18 cd18 ct18), sl18⟩)
    (c18 : PySem.W.codeIn K cd18 "_law_refused" = true)
    (k18 : PySem.W.keepIn K (.ref f18) = true)
    (a19 : PySem.W.nsIn K mainGlobals "law" = some (some (.ref f19)))
    (l19 : K.lookup f19 = some ⟨oc19, od19, .func (PySem.W.fnOf "law" "law" (defArgs s_law) (defBody s_law) (defScope s_law) .none kV19 dc19 pm19 an19 cd19 ct19), sl19⟩)
    (c19 : PySem.W.codeIn K cd19 "law" = true)
    (k19 : PySem.W.keepIn K (.ref f19) = true)
    (z_len : PySem.W.nsIn K mainGlobals "len" = some none)
    (z_isinstance : PySem.W.nsIn K mainGlobals "isinstance" = some none)
    (z_int : PySem.W.nsIn K mainGlobals "int" = some none)
    (z_bool : PySem.W.nsIn K mainGlobals "bool" = some none)
    (z_list : PySem.W.nsIn K mainGlobals "list" = some none)
    (z_tuple : PySem.W.nsIn K mainGlobals "tuple" = some none)
    (z_set : PySem.W.nsIn K mainGlobals "set" = some none)
    (z_all : PySem.W.nsIn K mainGlobals "all" = some none)
    (z_max : PySem.W.nsIn K mainGlobals "max" = some none)
    (z_min : PySem.W.nsIn K mainGlobals "min" = some none)
    (z_sum : PySem.W.nsIn K mainGlobals "sum" = some none)
    (z_range : PySem.W.nsIn K mainGlobals "range" = some none)
    (z_enumerate : PySem.W.nsIn K mainGlobals "enumerate" = some none)
    (z_ValueError : PySem.W.nsIn K mainGlobals "ValueError" = some none)
    (z_super : PySem.W.nsIn K mainGlobals "super" = some none)
    (z_sorted : PySem.W.nsIn K mainGlobals "sorted" = some none)
    (z_any : PySem.W.nsIn K mainGlobals "any" = some none)
    (z_reversed : PySem.W.nsIn K mainGlobals "reversed" = some none)
    (most0 : PySem.W.nsIn K mainGlobals "MOST_PLACES" = some (some (.int 40 tk0)))
    (g_BadGame : PySem.W.nsIn K mainGlobals "BadGame" = some (some (.ref aBadGame)))
    (g_BadSteps : PySem.W.nsIn K mainGlobals "BadSteps" = some (some (.ref aBadSteps)))
    (g_BadPlace : PySem.W.nsIn K mainGlobals "BadPlace" = some (some (.ref aBadPlace)))
    (g_BadPlayer : PySem.W.nsIn K mainGlobals "BadPlayer" = some (some (.ref aBadPlayer)))
    (g_TooMany : PySem.W.nsIn K mainGlobals "TooMany" = some (some (.ref aTooMany)))
    (g_GongError : PySem.W.nsIn K mainGlobals "GongError" = some (some (.ref aGongError)))
    (xG : K.lookup aGongError = some (excClassObj nmG qG aGongError NG bsG [.type "ValueError", .type "Exception", .type "BaseException", .type "object"] true snG subG abG colG ddG mG0 mG1 mG2 mG3 mG5 newG))
    (iG : PySem.W.findIn K (.ref aGongError) "__init__" = some (some (.builtin "ValueError.__init__")))
    (opq : PySem.W.nsIn K cStatics "thirdparty.any" = some none)
    (xBG : K.lookup aBadGame = some (excClassObj nmBG qBG aBadGame NBG bsBG (.ref aGongError :: [.type "ValueError", .type "Exception", .type "BaseException", .type "object"]) true snBG subBG abBG colBG ddBG mBG0 mBG1 mBG2 mBG3 mBG5 "ValueError.__new__"))
    (saBG : PySem.W.findIn K (.ref aBadGame) "__setattr__" = some (some (.builtin "object.__setattr__")))
    (noBG : PySem.W.findIn K (.ref aBadGame) "at" = some none)
    (iiBG : PySem.W.findIn K (.ref aBadGame) "__init__" = some (some (.ref fBG)))
    (tiBG : PySem.W.typeIn K (.ref fBG) = some (.type "function"))
    (liBG : K.lookup fBG = some ⟨ocBG, odBG, .func (PySem.W.ksFn "__init__" "BadGame.__init__" (PySem.BadX.iA ⟨6, 17, 6, 21⟩ ⟨6, 23, 6, 25⟩) (PySem.BadX.iB "no game (at: " ")" ⟨⟨7, 8, 7, 13⟩, ⟨7, 8, 7, 15⟩, ⟨7, 8, 7, 24⟩, ⟨7, 27, 7, 40⟩, ⟨7, 41, 7, 43⟩, ⟨7, 40, 7, 44⟩, ⟨7, 44, 7, 45⟩, ⟨7, 25, 7, 46⟩, ⟨7, 8, 7, 47⟩, ⟨7, 8, 7, 47⟩, ⟨8, 8, 8, 12⟩, ⟨8, 8, 8, 15⟩, ⟨8, 18, 8, 20⟩, ⟨8, 8, 8, 20⟩⟩) PySem.BadX.iS .none .none dcBG pmBG anBG (.ref cdaBG) ctBG ccBG), slBG⟩)
    (ciBG : PySem.W.codeIn K (.ref cdaBG) "BadGame.__init__" = true)
    (diBG : K.lookup cdaBG = some ⟨cclBG, cddBG, .fields vsBG, ccsBG⟩)
    (viBG : vsBG[2]? = some (.str fileBG tfBG))
    (fiBG : ((P0.main.file : Str) == fileBG) = true)
    (ceBG : K.lookup ccBG = some ⟨clBG, cldBG, .cell (some (.ref aBadGame)), cslBG⟩)
    (veBG : PySem.W.subIn K (.ref aBadGame) (.type "ValueError") = some true)
    (moBG : PySem.W.mroIn K aBadGame (.ref aBadGame) = some true)
    (xBS : K.lookup aBadSteps = some (excClassObj nmBS qBS aBadSteps NBS bsBS (.ref aGongError :: [.type "ValueError", .type "Exception", .type "BaseException", .type "object"]) true snBS subBS abBS colBS ddBS mBS0 mBS1 mBS2 mBS3 mBS5 "ValueError.__new__"))
    (saBS : PySem.W.findIn K (.ref aBadSteps) "__setattr__" = some (some (.builtin "object.__setattr__")))
    (noBS : PySem.W.findIn K (.ref aBadSteps) "at" = some none)
    (iiBS : PySem.W.findIn K (.ref aBadSteps) "__init__" = some (some (.ref fBS)))
    (tiBS : PySem.W.typeIn K (.ref fBS) = some (.type "function"))
    (liBS : K.lookup fBS = some ⟨ocBS, odBS, .func (PySem.W.ksFn "__init__" "BadSteps.__init__" (PySem.BadX.iA ⟨11, 17, 11, 21⟩ ⟨11, 23, 11, 25⟩) (PySem.BadX.iB "no steps for this game (at: " ")" ⟨⟨12, 8, 12, 13⟩, ⟨12, 8, 12, 15⟩, ⟨12, 8, 12, 24⟩, ⟨12, 27, 12, 55⟩, ⟨12, 56, 12, 58⟩, ⟨12, 55, 12, 59⟩, ⟨12, 59, 12, 60⟩, ⟨12, 25, 12, 61⟩, ⟨12, 8, 12, 62⟩, ⟨12, 8, 12, 62⟩, ⟨13, 8, 13, 12⟩, ⟨13, 8, 13, 15⟩, ⟨13, 18, 13, 20⟩, ⟨13, 8, 13, 20⟩⟩) PySem.BadX.iS .none .none dcBS pmBS anBS (.ref cdaBS) ctBS ccBS), slBS⟩)
    (ciBS : PySem.W.codeIn K (.ref cdaBS) "BadSteps.__init__" = true)
    (diBS : K.lookup cdaBS = some ⟨cclBS, cddBS, .fields vsBS, ccsBS⟩)
    (viBS : vsBS[2]? = some (.str fileBS tfBS))
    (fiBS : ((P0.main.file : Str) == fileBS) = true)
    (ceBS : K.lookup ccBS = some ⟨clBS, cldBS, .cell (some (.ref aBadSteps)), cslBS⟩)
    (veBS : PySem.W.subIn K (.ref aBadSteps) (.type "ValueError") = some true)
    (moBS : PySem.W.mroIn K aBadSteps (.ref aBadSteps) = some true)
    (kcBG : PySem.W.keepIn K (.ref aBadGame) = true)
    (exBG : PySem.W.subIn K (.ref aBadGame) (.type "BaseException") = some true)
    (tyBG : PySem.W.typeIn K (.ref aBadGame) = some (.type "type"))
    (kcBS : PySem.W.keepIn K (.ref aBadSteps) = true)
    (exBS : PySem.W.subIn K (.ref aBadSteps) (.type "BaseException") = some true)
    (tyBS : PySem.W.typeIn K (.ref aBadSteps) = some (.type "type"))
    (kcBP : PySem.W.keepIn K (.ref aBadPlace) = true)
    (exBP : PySem.W.subIn K (.ref aBadPlace) (.type "BaseException") = some true)
    (tyBP : PySem.W.typeIn K (.ref aBadPlace) = some (.type "type"))
    (kcBY : PySem.W.keepIn K (.ref aBadPlayer) = true)
    (exBY : PySem.W.subIn K (.ref aBadPlayer) (.type "BaseException") = some true)
    (tyBY : PySem.W.typeIn K (.ref aBadPlayer) = some (.type "type"))
    (kcTM : PySem.W.keepIn K (.ref aTooMany) = true)
    (exTM : PySem.W.subIn K (.ref aTooMany) (.type "BaseException") = some true)
    (tyTM : PySem.W.typeIn K (.ref aTooMany) = some (.type "type"))
    (xcBP : PySem.W.excIn K aBadPlace [.type "ValueError", .type "Exception", .type "BaseException", .type "object"] "ValueError.__new__" = true)
    (xcBY : PySem.W.excIn K aBadPlayer [.type "ValueError", .type "Exception", .type "BaseException", .type "object"] "ValueError.__new__" = true)
    (xcTM : PySem.W.excIn K aTooMany [.type "ValueError", .type "Exception", .type "BaseException", .type "object"] "ValueError.__new__" = true)
    (gaBG : PySem.W.findIn K (.ref aBadGame) "__getattribute__" = some (some (.builtin "BaseException.__getattribute__")))
    (ggBG : PySem.W.findIn K (.ref aBadGame) "__getattr__" = some none)
    (hdBG : PySem.W.hasDictIn K aBadGame = true)
    (haBG : PySem.W.findIn K (.ref aBadGame) "__class__" = some (some (.builtin "object.__class__")))
    (obBG : PySem.W.mroIn K aBadGame (.type "object") = some true)
    (koBG0 : PySem.W.kitOne K (.ref aBadGame) (.ref aBadGame) = some true)
    (koBG1 : PySem.W.kitOne K (.ref aBadGame) (.ref aBadPlayer) = some false)
    (koBG2 : PySem.W.kitOne K (.ref aBadGame) (.ref aBadPlace) = some false)
    (koBG3 : PySem.W.kitOne K (.ref aBadGame) (.ref aBadSteps) = some false)
    (koBG4 : PySem.W.kitOne K (.ref aBadGame) (.ref aTooMany) = some false)
    (kvBG : PySem.W.kitOne K (.ref aBadGame) (.type "ValueError") = some true)
    (sgBG : PySem.W.subIn K (.ref aBadGame) (.ref aGongError) = some true)
    (gaBS : PySem.W.findIn K (.ref aBadSteps) "__getattribute__" = some (some (.builtin "BaseException.__getattribute__")))
    (ggBS : PySem.W.findIn K (.ref aBadSteps) "__getattr__" = some none)
    (hdBS : PySem.W.hasDictIn K aBadSteps = true)
    (haBS : PySem.W.findIn K (.ref aBadSteps) "__class__" = some (some (.builtin "object.__class__")))
    (obBS : PySem.W.mroIn K aBadSteps (.type "object") = some true)
    (koBS0 : PySem.W.kitOne K (.ref aBadSteps) (.ref aBadGame) = some false)
    (koBS1 : PySem.W.kitOne K (.ref aBadSteps) (.ref aBadPlayer) = some false)
    (koBS2 : PySem.W.kitOne K (.ref aBadSteps) (.ref aBadPlace) = some false)
    (koBS3 : PySem.W.kitOne K (.ref aBadSteps) (.ref aBadSteps) = some true)
    (koBS4 : PySem.W.kitOne K (.ref aBadSteps) (.ref aTooMany) = some false)
    (kvBS : PySem.W.kitOne K (.ref aBadSteps) (.type "ValueError") = some true)
    (sgBS : PySem.W.subIn K (.ref aBadSteps) (.ref aGongError) = some true)
    (gaBP : PySem.W.findIn K (.ref aBadPlace) "__getattribute__" = some (some (.builtin "BaseException.__getattribute__")))
    (ggBP : PySem.W.findIn K (.ref aBadPlace) "__getattr__" = some none)
    (hdBP : PySem.W.hasDictIn K aBadPlace = true)
    (haBP : PySem.W.findIn K (.ref aBadPlace) "__class__" = some (some (.builtin "object.__class__")))
    (obBP : PySem.W.mroIn K aBadPlace (.type "object") = some true)
    (koBP0 : PySem.W.kitOne K (.ref aBadPlace) (.ref aBadGame) = some false)
    (koBP1 : PySem.W.kitOne K (.ref aBadPlace) (.ref aBadPlayer) = some false)
    (koBP2 : PySem.W.kitOne K (.ref aBadPlace) (.ref aBadPlace) = some true)
    (koBP3 : PySem.W.kitOne K (.ref aBadPlace) (.ref aBadSteps) = some false)
    (koBP4 : PySem.W.kitOne K (.ref aBadPlace) (.ref aTooMany) = some false)
    (kvBP : PySem.W.kitOne K (.ref aBadPlace) (.type "ValueError") = some true)
    (sgBP : PySem.W.subIn K (.ref aBadPlace) (.ref aGongError) = some true)
    (gaBY : PySem.W.findIn K (.ref aBadPlayer) "__getattribute__" = some (some (.builtin "BaseException.__getattribute__")))
    (ggBY : PySem.W.findIn K (.ref aBadPlayer) "__getattr__" = some none)
    (hdBY : PySem.W.hasDictIn K aBadPlayer = true)
    (haBY : PySem.W.findIn K (.ref aBadPlayer) "__class__" = some (some (.builtin "object.__class__")))
    (obBY : PySem.W.mroIn K aBadPlayer (.type "object") = some true)
    (koBY0 : PySem.W.kitOne K (.ref aBadPlayer) (.ref aBadGame) = some false)
    (koBY1 : PySem.W.kitOne K (.ref aBadPlayer) (.ref aBadPlayer) = some true)
    (koBY2 : PySem.W.kitOne K (.ref aBadPlayer) (.ref aBadPlace) = some false)
    (koBY3 : PySem.W.kitOne K (.ref aBadPlayer) (.ref aBadSteps) = some false)
    (koBY4 : PySem.W.kitOne K (.ref aBadPlayer) (.ref aTooMany) = some false)
    (kvBY : PySem.W.kitOne K (.ref aBadPlayer) (.type "ValueError") = some true)
    (sgBY : PySem.W.subIn K (.ref aBadPlayer) (.ref aGongError) = some true)
    (gaTM : PySem.W.findIn K (.ref aTooMany) "__getattribute__" = some (some (.builtin "BaseException.__getattribute__")))
    (ggTM : PySem.W.findIn K (.ref aTooMany) "__getattr__" = some none)
    (hdTM : PySem.W.hasDictIn K aTooMany = true)
    (haTM : PySem.W.findIn K (.ref aTooMany) "__class__" = some (some (.builtin "object.__class__")))
    (obTM : PySem.W.mroIn K aTooMany (.type "object") = some true)
    (koTM0 : PySem.W.kitOne K (.ref aTooMany) (.ref aBadGame) = some false)
    (koTM1 : PySem.W.kitOne K (.ref aTooMany) (.ref aBadPlayer) = some false)
    (koTM2 : PySem.W.kitOne K (.ref aTooMany) (.ref aBadPlace) = some false)
    (koTM3 : PySem.W.kitOne K (.ref aTooMany) (.ref aBadSteps) = some false)
    (koTM4 : PySem.W.kitOne K (.ref aTooMany) (.ref aTooMany) = some true)
    (kvTM : PySem.W.kitOne K (.ref aTooMany) (.type "ValueError") = some true)
    (sgTM : PySem.W.subIn K (.ref aTooMany) (.ref aGongError) = some true)
    (hn : PySem.W.specialIn K (.builtin "object.__class__") "__get__" = some (some (.builtin "getset_descriptor.__get__")))
    (ht : PySem.W.takesIn K (.builtin "object.__class__") = some true)
    (exG : PySem.W.subIn K (.ref aGongError) (.type "BaseException") = some true)
    (hdG : PySem.W.hasDictIn K aGongError = true)
    (tyG : PySem.W.typeIn K (.ref aGongError) = some (.type "type"))
    (init_done : True)
    : ∃ fd : FuncData, (∀ (s : Shared) (v : Value), BindsTo s fd ⟨[v], []⟩ [("_law_script", v)]) ∧ ∀ base : Heap, K.In base → base.Ns mainGlobals mg → FnOk P0 w K mg base (L2.CX P0 w) 9 fa fd ["_law_script"] (spLaw K) := by
  have e := hfa.symm.trans (PySem.W.mg_of X Gn a19)
  cases e
  let A : Ads := ⟨aBadGame, aBadSteps, aBadPlace, aBadPlayer, aTooMany, aGongError⟩
  have B : Bt mg := ⟨PySem.W.mg_none_of X Gn z_len, PySem.W.mg_none_of X Gn z_isinstance, PySem.W.mg_none_of X Gn z_int, PySem.W.mg_none_of X Gn z_bool, PySem.W.mg_none_of X Gn z_list, PySem.W.mg_none_of X Gn z_tuple, PySem.W.mg_none_of X Gn z_set, PySem.W.mg_none_of X Gn z_all, PySem.W.mg_none_of X Gn z_max, PySem.W.mg_none_of X Gn z_min, PySem.W.mg_none_of X Gn z_sum, PySem.W.mg_none_of X Gn z_range, PySem.W.mg_none_of X Gn z_enumerate, PySem.W.mg_none_of X Gn z_ValueError, PySem.W.mg_none_of X Gn z_super, PySem.W.mg_none_of X Gn z_sorted, PySem.W.mg_none_of X Gn z_any, PySem.W.mg_none_of X Gn z_reversed⟩
  have T_BadGame := PySem.W.mg_of X Gn g_BadGame
  have T_BadSteps := PySem.W.mg_of X Gn g_BadSteps
  have T_BadPlace := PySem.W.mg_of X Gn g_BadPlace
  have T_BadPlayer := PySem.W.mg_of X Gn g_BadPlayer
  have T_TooMany := PySem.W.mg_of X Gn g_TooMany
  have T_GongError := PySem.W.mg_of X Gn g_GongError
  have T : Tx K mg A := ⟨T_BadGame, T_BadSteps, T_BadPlace, T_BadPlayer, T_TooMany, T_GongError⟩
  have M_MOST_PLACES := PySem.W.mg_of X Gn most0
  have tBG : PySem.BadX.BadTxt P0 K mg "BadGame" "BadGame.__init__" "no game (at: " ")" A.BadGame fBG := ⟨T_BadGame, ⟨nmBG, qBG, NBG, bsBG, _, snBG, subBG, abBG, colBG, ddBG, mBG0, mBG1, mBG2, mBG3, mBG5, xBG, rfl, along_of xG iG⟩, saBG, noBG, iiBG, tiBG, kcBG, exBG, veBG, tyBG, moBG, opq, B.super_, (by decide +kernel), ⟨_, _, _, _, _, _, _, _, _, _, _, _, _, _, _, _, _, _, _, _, _, liBG, ciBG, diBG, viBG, fiBG, ceBG, fun L => ⟨_, rfl⟩⟩, by decide, by decide⟩
  have tBS : PySem.BadX.BadTxt P0 K mg "BadSteps" "BadSteps.__init__" "no steps for this game (at: " ")" A.BadSteps fBS := ⟨T_BadSteps, ⟨nmBS, qBS, NBS, bsBS, _, snBS, subBS, abBS, colBS, ddBS, mBS0, mBS1, mBS2, mBS3, mBS5, xBS, rfl, along_of xG iG⟩, saBS, noBS, iiBS, tiBS, kcBS, exBS, veBS, tyBS, moBS, opq, B.super_, (by decide +kernel), ⟨_, _, _, _, _, _, _, _, _, _, _, _, _, _, _, _, _, _, _, _, _, liBS, ciBS, diBS, viBS, fiBS, ceBS, fun L => ⟨_, rfl⟩⟩, by decide, by decide⟩
  have xBP : PlainX K mg "BadPlace" A.BadPlace := ⟨T_BadPlace, xcBP, kcBP, exBP, tyBP⟩
  have xBY : PlainX K mg "BadPlayer" A.BadPlayer := ⟨T_BadPlayer, xcBY, kcBY, exBY, tyBY⟩
  have xTM : PlainX K mg "TooMany" A.TooMany := ⟨T_TooMany, xcTM, kcTM, exTM, tyTM⟩
  have cBG : Caught K A A.BadGame 0 := ⟨⟨⟨gaBG, ggBG, exBG, hdBG, haBG, hn, ht, obBG⟩, koBG0, koBG1, koBG2, koBG3, koBG4, kvBG⟩, PySem.W.exm_ref exG hdG tyG sgBG⟩
  have rBG : Read K A.BadGame := ⟨⟨gaBG, ggBG, exBG, hdBG⟩, noBG⟩
  have cBS : Caught K A A.BadSteps 3 := ⟨⟨⟨gaBS, ggBS, exBS, hdBS, haBS, hn, ht, obBS⟩, koBS0, koBS1, koBS2, koBS3, koBS4, kvBS⟩, PySem.W.exm_ref exG hdG tyG sgBS⟩
  have rBS : Read K A.BadSteps := ⟨⟨gaBS, ggBS, exBS, hdBS⟩, noBS⟩
  have cBP : Caught K A A.BadPlace 2 := ⟨⟨⟨gaBP, ggBP, exBP, hdBP, haBP, hn, ht, obBP⟩, koBP0, koBP1, koBP2, koBP3, koBP4, kvBP⟩, PySem.W.exm_ref exG hdG tyG sgBP⟩
  have cBY : Caught K A A.BadPlayer 1 := ⟨⟨⟨gaBY, ggBY, exBY, hdBY, haBY, hn, ht, obBY⟩, koBY0, koBY1, koBY2, koBY3, koBY4, kvBY⟩, PySem.W.exm_ref exG hdG tyG sgBY⟩
  have cTM : Caught K A A.TooMany 4 := ⟨⟨⟨gaTM, ggTM, exTM, hdTM, haTM, hn, ht, obTM⟩, koTM0, koTM1, koTM2, koTM3, koTM4, kvTM⟩, PySem.W.exm_ref exG hdG tyG sgTM⟩
  have F_is_number := fun_mk (st := s_is_number) l0 c0 k0
  have b_is_number := F_is_number.binds (ps := ["value"]) fun _ _ _ _ _ _ us hl => match us, hl with | [_], _ => rfl
  have F_is_player := fun_mk (st := s_is_player) l1 c1 k1
  have b_is_player := F_is_player.binds (ps := ["value"]) fun _ _ _ _ _ _ us hl => match us, hl with | [_], _ => rfl
  have F_is_place := fun_mk (st := s_is_place) l2 c2 k2
  have b_is_place := F_is_place.binds (ps := ["value", "many"]) fun _ _ _ _ _ _ us hl => match us, hl with | [_, _], _ => rfl
  have F_is_places := fun_mk (st := s_is_places) l3 c3 k3
  have b_is_places := F_is_places.binds (ps := ["value", "many"]) fun _ _ _ _ _ _ us hl => match us, hl with | [_, _], _ => rfl
  have F_is_ways := fun_mk (st := s_is_ways) l4 c4 k4
  have b_is_ways := F_is_ways.binds (ps := ["value", "many"]) fun _ _ _ _ _ _ us hl => match us, hl with | [_, _], _ => rfl
  have F_is_row := fun_mk (st := s_is_row) l5 c5 k5
  have b_is_row := F_is_row.binds (ps := ["value", "many"]) fun _ _ _ _ _ _ us hl => match us, hl with | [_, _], _ => rfl
  have F_check_game := fun_mk (st := s_check_game) l6 c6 k6
  have b_check_game := F_check_game.binds (ps := ["game"]) fun _ _ _ _ _ _ us hl => match us, hl with | [_], _ => rfl
  have F_check_player := fun_mk (st := s_check_player) l7 c7 k7
  have b_check_player := F_check_player.binds (ps := ["player"]) fun _ _ _ _ _ _ us hl => match us, hl with | [_], _ => rfl
  have F_check_places := fun_mk (st := s_check_places) l8 c8 k8
  have b_check_places := F_check_places.binds (ps := ["game", "places"]) fun _ _ _ _ _ _ us hl => match us, hl with | [_, _], _ => rfl
  have F_rounds := fun_mk (st := s_rounds) l9 c9 k9
  have b_rounds := F_rounds.binds (ps := ["game", "player", "places"]) fun _ _ _ _ _ _ us hl => match us, hl with | [_, _, _], _ => rfl
  have F_everywhere := fun_mk (st := s_everywhere) l10 c10 k10
  have b_everywhere := F_everywhere.binds (ps := ["game"]) fun _ _ _ _ _ _ us hl => match us, hl with | [_], _ => rfl
  have F_drawn := fun_mk (st := s_drawn) l11 c11 k11
  have b_drawn := F_drawn.binds (ps := ["game", "inside", "player", "places"]) fun _ _ _ _ _ _ us hl => match us, hl with | [_, _, _, _], _ => rfl
  have F_leads := fun_mk (st := s_leads) l12 c12 k12
  have b_leads := F_leads.binds (ps := ["row", "inside", "player", "found"]) fun _ _ _ _ _ _ us hl => match us, hl with | [_, _, _, _], _ => rfl
  have F__law_mixed := fun_mk (st := s__law_mixed) l13 c13 k13
  have b__law_mixed := F__law_mixed.binds (ps := ["_law_number", "_law_k"]) fun _ _ _ _ _ _ us hl => match us, hl with | [_, _], _ => rfl
  have F__law_game := fun_mk (st := s__law_game) l14 c14 k14
  have b__law_game := F__law_game.binds (ps := ["_law_script", "_law_most"]) fun _ _ _ _ _ _ us hl => match us, hl with | [_, _], _ => rfl
  have F__law_copied := fun_mk (st := s__law_copied) l15 c15 k15
  have b__law_copied := F__law_copied.binds (ps := ["_law_game_here"]) fun _ _ _ _ _ _ us hl => match us, hl with | [_], _ => rfl
  have F__law_word := fun_mk (st := s__law_word) l16 c16 k16
  have b__law_word := F__law_word.binds (ps := ["_law_e"]) fun _ _ _ _ _ _ us hl => match us, hl with | [_], _ => rfl
  have F__law_rounds := fun_mk (st := s__law_rounds) l17 c17 k17
  have b__law_rounds := F__law_rounds.binds (ps := ["_law_game_here", "_law_player", "_law_places"]) fun _ _ _ _ _ _ us hl => match us, hl with | [_, _, _], _ => rfl
  have F__law_refused := fun_mk (st := s__law_refused) l18 c18 k18
  have b__law_refused := F__law_refused.binds (ps := ["_law_game_here", "_law_player", "_law_places"]) fun _ _ _ _ _ _ us hl => match us, hl with | [_, _, _], _ => rfl
  have F_law := fun_mk (st := s_law) l19 c19 k19
  refine ⟨PySem.W.fnOf "law" "law" (defArgs s_law) (defBody s_law) (defScope s_law) .none kV19 dc19 pm19 an19 cd19 ct19, fun s v => .of_eq rfl, fun base _ _ => ?_⟩
  have C_is_number : Cal P0 w K mg base 1 "is_number" (spIsNumber K) := ⟨_, _, _, ok_is_number B F_is_number, PySem.W.mg_of X Gn a0, k0, b_is_number⟩
  have C_is_player : Cal P0 w K mg base 2 "is_player" (spIsPlayer K) := ⟨_, _, _, ok_is_player F_is_player C_is_number, PySem.W.mg_of X Gn a1, k1, b_is_player⟩
  have C_is_place : Cal P0 w K mg base 2 "is_place" (spIsPlace K) := ⟨_, _, _, ok_is_place F_is_place C_is_number, PySem.W.mg_of X Gn a2, k2, b_is_place⟩
  have C_is_places : Cal P0 w K mg base 3 "is_places" (spIsPlaces K) := ⟨_, _, _, ok_is_places B F_is_places C_is_place, PySem.W.mg_of X Gn a3, k3, b_is_places⟩
  have C_is_ways : Cal P0 w K mg base 4 "is_ways" (spIsWays K) := ⟨_, _, _, ok_is_ways B F_is_ways C_is_places, PySem.W.mg_of X Gn a4, k4, b_is_ways⟩
  have C_is_row : Cal P0 w K mg base 5 "is_row" (spIsRow K) := ⟨_, _, _, ok_is_row B F_is_row C_is_number C_is_player C_is_ways, PySem.W.mg_of X Gn a5, k5, b_is_row⟩
  have C_check_game : Cal P0 w K mg base 6 "check_game" (spCheckGame K A.BadGame) := ⟨_, _, _, ok_check_game B tBG M_MOST_PLACES F_check_game C_is_row, PySem.W.mg_of X Gn a6, k6, b_check_game⟩
  have C_everywhere : Cal P0 w K mg base 1 "everywhere" (spEverywhere K) := ⟨_, _, _, ok_everywhere B F_everywhere, PySem.W.mg_of X Gn a10, k10, b_everywhere⟩
  have C_leads : Cal P0 w K mg base 1 "leads" (spLeads K) := ⟨_, _, _, ok_leads B F_leads, PySem.W.mg_of X Gn a12, k12, b_leads⟩
  have C_drawn : Cal P0 w K mg base 2 "drawn" (spDrawn K) := ⟨_, _, _, ok_drawn B F_drawn C_leads, PySem.W.mg_of X Gn a11, k11, b_drawn⟩
  have C__law_mixed : Cal P0 w K mg base 1 "_law_mixed" (spMixed) := ⟨_, _, _, ok_mixed F__law_mixed, PySem.W.mg_of X Gn a13, k13, b__law_mixed⟩
  have C__law_game : Cal P0 w K mg base 2 "_law_game" (spLawGame K) := ⟨_, _, _, ok_law_game B F__law_game C__law_mixed, PySem.W.mg_of X Gn a14, k14, b__law_game⟩
  have C__law_copied : Cal P0 w K mg base 1 "_law_copied" (spCopied K) := ⟨_, _, _, ok_law_copied B F__law_copied, PySem.W.mg_of X Gn a15, k15, b__law_copied⟩
  have C_check_player : Cal P0 w K mg base 3 "check_player" (spCheckPlayer K A.BadPlayer) := ⟨_, _, _, ok_check_player xBY F_check_player C_is_player, PySem.W.mg_of X Gn a7, k7, b_check_player⟩
  have C_check_places : Cal P0 w K mg base 4 "check_places" (spCheckPlaces K A.BadPlace) := ⟨_, _, _, ok_check_places B xBP F_check_places C_is_places, PySem.W.mg_of X Gn a8, k8, b_check_places⟩
  have C__law_word : Cal P0 w K mg base 1 "_law_word" (spWord K A) := ⟨_, _, _, ok_law_word (A := A) B T F__law_word, PySem.W.mg_of X Gn a16, k16, b__law_word⟩
  have C_rounds : Cal P0 w K mg base 7 "rounds" (spRounds K A) := ⟨_, _, _, ok_rounds (A := A) B F_rounds C_check_game C_check_player C_check_places C_everywhere C_drawn, PySem.W.mg_of X Gn a9, k9, b_rounds⟩
  have C__law_rounds : Cal P0 w K mg base 1 "_law_rounds" (spLawRounds K) := ⟨_, _, _, ok_law_rounds B F__law_rounds, PySem.W.mg_of X Gn a17, k17, b__law_rounds⟩
  have C__law_refused : Cal P0 w K mg base 8 "_law_refused" (spRefused3 K) := ⟨_, _, _, ok_law_refused3 (A := A) T cBY cBP F__law_refused C__law_word C_rounds, PySem.W.mg_of X Gn a18, k18, b__law_refused⟩
  exact ok_law (A := A) B F_law C__law_game C__law_mixed C__law_copied C__law_rounds C_rounds C__law_refused
end G
open PySem PySem.W PyProof.Rows
set_option maxRecDepth 100000 in
set_option maxHeartbeats 0 in
theorem PySem.Challenge.cw_gongpath_k03_rounds_holds : PySem.Challenge.rw_gongpath_k03_rounds.Holds := by
  w_on; o_law; k_head; (case hw => w_witness2)
  k_fill
  refine L2.walk_of (l := PySem.Challenge.rw_gongpath_k03_rounds) (n := 63) (k := 9) (x := "_law_script") (CX := fun w => L2.CX PySem.Challenge.pw_gongpath_k03_rounds w) (sp := fun w => G.spLaw _) rfl (by decide) rfl ⟨rfl, by decide, by decide⟩ (fun w h Y => PySem.W.kIn_of Y) ?F (fun _ _ a ns hl _ hS => ⟨a, ns, rfl, hS, hl, fun _ => rfl⟩) (fun _ _ _ _ _ z => by obtain ⟨_, _, _, _, _, _, _, _, _, _, _, _, z⟩ := z; exact z)
  case F =>
    intro w mg fa h KX Gn hmg
    refine' G.all_mk KX Gn hmg ?a0 ?l0 ?c0 ?k0 ?a1 ?l1 ?c1 ?k1 ?a2 ?l2 ?c2 ?k2 ?a3 ?l3 ?c3 ?k3 ?a4 ?l4 ?c4 ?k4 ?a5 ?l5 ?c5 ?k5 ?a6 ?l6 ?c6 ?k6 ?a7 ?l7 ?c7 ?k7 ?a8 ?l8 ?c8 ?k8 ?a9 ?l9 ?c9 ?k9 ?a10 ?l10 ?c10 ?k10 ?a11 ?l11 ?c11 ?k11 ?a12 ?l12 ?c12 ?k12 ?a13 ?l13 ?c13 ?k13 ?a14 ?l14 ?c14 ?k14 ?a15 ?l15 ?c15 ?k15 ?a16 ?l16 ?c16 ?k16 ?a17 ?l17 ?c17 ?k17 ?a18 ?l18 ?c18 ?k18 ?a19 ?l19 ?c19 ?k19 ?z_len ?z_isinstance ?z_int ?z_bool ?z_list ?z_tuple ?z_set ?z_all ?z_max ?z_min ?z_sum ?z_range ?z_enumerate ?z_ValueError ?z_super ?z_sorted ?z_any ?z_reversed ?most0 ?g_BadGame ?g_BadSteps ?g_BadPlace ?g_BadPlayer ?g_TooMany ?g_GongError ?xG ?iG ?opq ?xBG ?saBG ?noBG ?iiBG ?tiBG ?liBG ?ciBG ?diBG ?viBG ?fiBG ?ceBG ?veBG ?moBG ?xBS ?saBS ?noBS ?iiBS ?tiBS ?liBS ?ciBS ?diBS ?viBS ?fiBS ?ceBS ?veBS ?moBS ?kcBG ?exBG ?tyBG ?kcBS ?exBS ?tyBS ?kcBP ?exBP ?tyBP ?kcBY ?exBY ?tyBY ?kcTM ?exTM ?tyTM ?xcBP ?xcBY ?xcTM ?gaBG ?ggBG ?hdBG ?haBG ?obBG ?koBG0 ?koBG1 ?koBG2 ?koBG3 ?koBG4 ?kvBG ?sgBG ?gaBS ?ggBS ?hdBS ?haBS ?obBS ?koBS0 ?koBS1 ?koBS2 ?koBS3 ?koBS4 ?kvBS ?sgBS ?gaBP ?ggBP ?hdBP ?haBP ?obBP ?koBP0 ?koBP1 ?koBP2 ?koBP3 ?koBP4 ?kvBP ?sgBP ?gaBY ?ggBY ?hdBY ?haBY ?obBY ?koBY0 ?koBY1 ?koBY2 ?koBY3 ?koBY4 ?kvBY ?sgBY ?gaTM ?ggTM ?hdTM ?haTM ?obTM ?koTM0 ?koTM1 ?koTM2 ?koTM3 ?koTM4 ?kvTM ?sgTM ?hn ?ht ?exG ?hdG ?tyG ?init_done
    (case a0 => k_is)
    (case l0 => k_is)
    (case c0 => k_is)
    (case k0 => k_is)
    (case a1 => k_is)
    (case l1 => k_is)
    (case c1 => k_is)
    (case k1 => k_is)
    (case a2 => k_is)
    (case l2 => k_is)
    (case c2 => k_is)
    (case k2 => k_is)
    (case a3 => k_is)
    (case l3 => k_is)
    (case c3 => k_is)
    (case k3 => k_is)
    (case a4 => k_is)
    (case l4 => k_is)
    (case c4 => k_is)
    (case k4 => k_is)
    (case a5 => k_is)
    (case l5 => k_is)
    (case c5 => k_is)
    (case k5 => k_is)
    (case a6 => k_is)
    (case l6 => k_is)
    (case c6 => k_is)
    (case k6 => k_is)
    (case a7 => k_is)
    (case l7 => k_is)
    (case c7 => k_is)
    (case k7 => k_is)
    (case a8 => k_is)
    (case l8 => k_is)
    (case c8 => k_is)
    (case k8 => k_is)
    (case a9 => k_is)
    (case l9 => k_is)
    (case c9 => k_is)
    (case k9 => k_is)
    (case a10 => k_is)
    (case l10 => k_is)
    (case c10 => k_is)
    (case k10 => k_is)
    (case a11 => k_is)
    (case l11 => k_is)
    (case c11 => k_is)
    (case k11 => k_is)
    (case a12 => k_is)
    (case l12 => k_is)
    (case c12 => k_is)
    (case k12 => k_is)
    (case a13 => k_is)
    (case l13 => k_is)
    (case c13 => k_is)
    (case k13 => k_is)
    (case a14 => k_is)
    (case l14 => k_is)
    (case c14 => k_is)
    (case k14 => k_is)
    (case a15 => k_is)
    (case l15 => k_is)
    (case c15 => k_is)
    (case k15 => k_is)
    (case a16 => k_is)
    (case l16 => k_is)
    (case c16 => k_is)
    (case k16 => k_is)
    (case a17 => k_is)
    (case l17 => k_is)
    (case c17 => k_is)
    (case k17 => k_is)
    (case a18 => k_is)
    (case l18 => k_is)
    (case c18 => k_is)
    (case k18 => k_is)
    (case a19 => k_is)
    (case l19 => k_is)
    (case c19 => k_is)
    (case k19 => k_is)
    (case z_len => k_is)
    (case z_isinstance => k_is)
    (case z_int => k_is)
    (case z_bool => k_is)
    (case z_list => k_is)
    (case z_tuple => k_is)
    (case z_set => k_is)
    (case z_all => k_is)
    (case z_max => k_is)
    (case z_min => k_is)
    (case z_sum => k_is)
    (case z_range => k_is)
    (case z_enumerate => k_is)
    (case z_ValueError => k_is)
    (case z_super => k_is)
    (case z_sorted => k_is)
    (case z_any => k_is)
    (case z_reversed => k_is)
    (case most0 => k_is)
    (case g_BadGame => k_is)
    (case g_BadSteps => k_is)
    (case g_BadPlace => k_is)
    (case g_BadPlayer => k_is)
    (case g_TooMany => k_is)
    (case g_GongError => k_is)
    (case xG => k_is)
    (case iG => k_is)
    (case opq => k_is)
    (case xBG => k_is)
    (case saBG => k_is)
    (case noBG => k_is)
    (case iiBG => k_is)
    (case tiBG => k_is)
    (case liBG => k_is)
    (case ciBG => k_is)
    (case diBG => k_is)
    (case viBG => rfl)
    (case fiBG => decide +kernel)
    (case ceBG => k_is)
    (case veBG => k_is)
    (case moBG => k_is)
    (case xBS => k_is)
    (case saBS => k_is)
    (case noBS => k_is)
    (case iiBS => k_is)
    (case tiBS => k_is)
    (case liBS => k_is)
    (case ciBS => k_is)
    (case diBS => k_is)
    (case viBS => rfl)
    (case fiBS => decide +kernel)
    (case ceBS => k_is)
    (case veBS => k_is)
    (case moBS => k_is)
    (case kcBG => k_is)
    (case exBG => k_is)
    (case tyBG => k_is)
    (case kcBS => k_is)
    (case exBS => k_is)
    (case tyBS => k_is)
    (case kcBP => k_is)
    (case exBP => k_is)
    (case tyBP => k_is)
    (case kcBY => k_is)
    (case exBY => k_is)
    (case tyBY => k_is)
    (case kcTM => k_is)
    (case exTM => k_is)
    (case tyTM => k_is)
    (case xcBP => k_exc)
    (case xcBY => k_exc)
    (case xcTM => k_exc)
    (case gaBG => k_is)
    (case ggBG => k_is)
    (case hdBG => k_is)
    (case haBG => k_is)
    (case obBG => k_is)
    (case koBG0 => kit_is)
    (case koBG1 => kit_is)
    (case koBG2 => kit_is)
    (case koBG3 => kit_is)
    (case koBG4 => kit_is)
    (case kvBG => kit_is)
    (case sgBG => k_is)
    (case gaBS => k_is)
    (case ggBS => k_is)
    (case hdBS => k_is)
    (case haBS => k_is)
    (case obBS => k_is)
    (case koBS0 => kit_is)
    (case koBS1 => kit_is)
    (case koBS2 => kit_is)
    (case koBS3 => kit_is)
    (case koBS4 => kit_is)
    (case kvBS => kit_is)
    (case sgBS => k_is)
    (case gaBP => k_is)
    (case ggBP => k_is)
    (case hdBP => k_is)
    (case haBP => k_is)
    (case obBP => k_is)
    (case koBP0 => kit_is)
    (case koBP1 => kit_is)
    (case koBP2 => kit_is)
    (case koBP3 => kit_is)
    (case koBP4 => kit_is)
    (case kvBP => kit_is)
    (case sgBP => k_is)
    (case gaBY => k_is)
    (case ggBY => k_is)
    (case hdBY => k_is)
    (case haBY => k_is)
    (case obBY => k_is)
    (case koBY0 => kit_is)
    (case koBY1 => kit_is)
    (case koBY2 => kit_is)
    (case koBY3 => kit_is)
    (case koBY4 => kit_is)
    (case kvBY => kit_is)
    (case sgBY => k_is)
    (case gaTM => k_is)
    (case ggTM => k_is)
    (case hdTM => k_is)
    (case haTM => k_is)
    (case obTM => k_is)
    (case koTM0 => kit_is)
    (case koTM1 => kit_is)
    (case koTM2 => kit_is)
    (case koTM3 => kit_is)
    (case koTM4 => kit_is)
    (case kvTM => kit_is)
    (case sgTM => k_is)
    (case hn => k_is)
    (case ht => k_is)
    (case exG => k_is)
    (case hdG => k_is)
    (case tyG => k_is)
    (case init_done => trivial)
