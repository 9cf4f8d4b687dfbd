import PyProof.Rows.All
import Wide.All
import OpenK.AllK
import Wide.FinOn
import HandS.ForMost
import HandS.Exc
import HandS.TryOnly
import HandS.ExcOwn
import HandS.WordsExc
import HandS.IsInst
import HandS.Zip
import HandS.Sort
import HandS.Conv
import HandS.DictComp
import HandS.Walk
import HandS.Star
import HandS.SortInts
import KE.KExcSuper
import HandS.ExcIs
import HandS.ExcField
import HandS.SetFor
import KE.RegKIsAll
import PySem.Challenge.RW_gongpath_k02_walks_and_rings
set_option Elab.async false
set_option linter.all false
set_option maxRecDepth 100000
set_option maxHeartbeats 4000000
namespace G
open PySem PySem.Spec PyProof.Rows L2
def topS (i : Nat) : Stmt := PySem.Challenge.pw_gongpath_k02_walks_and_rings.main.body.getD i (.Pass ⟨0, 0, 0, 0⟩)
abbrev s__law_mixed : Stmt := topS 25
theorem sc__law_mixed : FnScope ["_law_number", "_law_k"] ["_law_number", "_law_k"] (defScope s__law_mixed) := ⟨rfl, rfl, rfl, by decide +kernel, rfl, by decide +kernel, by decide +kernel⟩
abbrev s_is_number : Stmt := topS 9
theorem sc_is_number : FnScope ["value"] ["value"] (defScope s_is_number) := ⟨rfl, rfl, rfl, by decide +kernel, rfl, by decide +kernel, by decide +kernel⟩
abbrev s_is_player : Stmt := topS 10
theorem sc_is_player : FnScope ["value"] ["value"] (defScope s_is_player) := ⟨rfl, rfl, rfl, by decide +kernel, rfl, by decide +kernel, by decide +kernel⟩
abbrev s_is_place : Stmt := topS 11
theorem sc_is_place : FnScope ["value", "many"] ["value", "many"] (defScope s_is_place) := ⟨rfl, rfl, rfl, by decide +kernel, rfl, by decide +kernel, by decide +kernel⟩
/-- what of the built-ins stands free at the module's top -/
structure Bt (mg : Str → Option Value) : Prop where
  len_ : mg "len" = none
  isinstance_ : mg "isinstance" = none
  int_ : mg "int" = none
  bool_ : mg "bool" = none
  list_ : mg "list" = none
  tuple_ : mg "tuple" = none
  set_ : mg "set" = none
  all_ : mg "all" = none
  max_ : mg "max" = none
  min_ : mg "min" = none
  sum_ : mg "sum" = none
  range_ : mg "range" = none
  enumerate_ : mg "enumerate" = none
  ValueError_ : mg "ValueError" = none
  super_ : mg "super" = none
  sorted_ : mg "sorted" = none
  any_ : mg "any" = none
  reversed_ : mg "reversed" = none
/-- a def that may be called by its name -/
structure Cal (P : Program) (w : World) (K : PySem.W.Frag) (mg : Str → Option Value) (base : Heap) (k : Nat) (x : Str) (sp : Sp) : Prop where
  ex : ∃ (f : Addr) (fd : FuncData) (ps : List Str), FnOk P w K mg base (L2.CX P w) k f fd ps sp ∧ mg x = some (.ref f) ∧ PySem.W.keepIn K (.ref f) = true ∧ Binds K fd ps []
theorem pe_cal {X : Cx} {k j : Nat} {x : Str} {sp : Sp} {p pos : Pos} {e : Expr} {es : List Expr} {t : TA} (c : Cal X.prog X.w X.K X.mg X.base k x sp) (hr : Room j X.A) (hk : k ≤ j) (hg : Gl X x) (ha : PA X (e :: es) t)
    (hdb : (x == ("__debug__" : Str)) = false := by decide) (he : starEach (e :: es) X.env = (false, eval e X.env) :: starEach es X.env := by rfl) (hpl : (backTo pos (starEach es X.env)).any (·.1) = false := by rfl) :
    PE X (.Call (.Name x p) (e :: es) [] pos) (tCall sp [] E0 t) := by
  obtain ⟨f, fd, ps, F, hm, kp, b⟩ := c.ex
  exact pe_call F (hr.mono hk) hg hm kp b .nil passL ha hdb he hpl
section
variable {P : Program} {w : World} {K : PySem.W.Frag} {mg : Str → Option Value} {base : Heap}
def mixed (n k : Int) : Int :=
  ((n % 2147483647 + 7919 * k * k + 31 * k) * 48271 % 2147483647) * (69621 + 2 * k) % 2147483629
def spMixed : Sp := fun vs H Q _ => ∃ n k : Int, vs = [.int n, .int k] ∧ 0 ≤ k ∧ k ≤ 1000000 ∧ Q (.int (mixed n k)) H
theorem ok_mixed {f : Addr} {fd : FuncData} (F : Fun K "_law_mixed" "_law_mixed" s__law_mixed f fd) : FnOk P w K mg base (L2.CX P w) 1 f fd ["_law_number", "_law_k"] spMixed := by
  refine F.okX sc__law_mixed (fun vs H Q E h => ?_) (fun cdv A outer s H vs Q E hr h => ?_)
  · obtain ⟨n, k, rfl, _⟩ := h
    rfl
  · obtain ⟨n, k, rfl, h0, h1, q⟩ := h
    refine ⟨_, (pss_cons (ps_set (i := 0) sc__law_mixed.nd rfl (Or.inl rfl) (pe_op op_mod (pe_op op_mul (pe_op op_add (pe_op op_add (pe_op op_mod (pv 0) pe_int) (pe_op op_mul (pe_op op_mul pe_int (pv 1)) (pv 1))) (pe_op op_mul pe_int (pv 1))) pe_int) pe_int))
      (pss_one (ps_ret (pe_op op_mod (pe_op op_mul (pv 0) (pe_op op_add pe_int (pe_op op_mul pe_int (pv 1)))) pe_int)))), ?_⟩
    have hm : 0 ≤ n % 2147483647 := Int.emod_nonneg _ (by decide)
    have hm2 : n % 2147483647 < 2147483647 := Int.emod_lt_of_pos _ (by decide)
    refine ⟨_, rfl, _, _, rfl, rfl, (by show (0:Int) < 2147483647; decide), _, rfl, _, _, rfl, rfl, .inl ⟨by decide, by decide⟩, _, rfl, _, _, rfl, rfl, .inr ⟨by omega, by omega⟩, _, _, rfl, rfl, _, rfl, _, _, rfl, rfl, .inl ⟨by decide, by decide⟩, _, _, rfl, rfl, _, _, rfl, rfl, .inr ⟨by decide, by decide⟩, _, _, rfl, rfl, (by show (0:Int) < 2147483647; decide), ?_⟩
    refine ⟨_, rfl, _, rfl, _, _, rfl, rfl, .inl ⟨by decide, by decide⟩, _, _, rfl, rfl, _, _, rfl, rfl, .inr ⟨by omega, by omega⟩, _, _, rfl, rfl, (by show (0:Int) < 2147483629; decide), ?_⟩
    exact q
end
end G

namespace G
open PySem PySem.Spec PyProof.Rows L2
/-! ### data at a value -/
inductive Dx (K : PySem.W.Frag) (H : Hp) : V → PyData → Prop
  | of {v : V} {d : PyData} (h : Dp K H v d) : Dx K H v d
  | dict0 {a : Addr} (h : H a = some (.dK [])) : Dx K H (.ref a) (.dict [])
def tyName : PyData → String
  | .none => "NoneType" | .bool _ => "bool" | .int _ => "int" | .str _ => "str" | .list _ => "list" | .tuple _ => "tuple" | .dict _ => "dict"
theorem sql_ty {K : PySem.W.Frag} {H : Hp} {a : Addr} {xs : List V} (h : SqL K H a xs) : TyX K H (.ref a) (.type "list") := by
  rcases h with (h | ⟨o, h⟩) | ⟨o, _, _, h, c, _⟩
  · exact .base (.lst h)
  · exact .base (.frz h)
  · exact .kList h c
theorem sqt_ty {K : PySem.W.Frag} {H : Hp} {a : Addr} {xs : List V} (h : SqT K H a xs) : TyX K H (.ref a) (.type "tuple") := by
  rcases h with (h | ⟨o, h⟩) | ⟨o, _, _, h, c, _⟩
  · exact .base (.tup h)
  · exact .fTuple h
  · exact .kTuple h c
theorem Dx.ty {K : PySem.W.Frag} {H : Hp} {v : V} {d : PyData} (h : Dx K H v d) : TyX K H v (.type (tyName d)) := by
  cases h with
  | of h =>
    cases h with
    | non => exact .base .non
    | bl b => exact .base (.bl b)
    | int i => exact .base (.int i)
    | str x => exact .base (.str x)
    | lst h _ => exact sql_ty h
    | tup h _ => exact sqt_ty h
  | dict0 h => exact .base (.dK h)
/-- what was tracked stays: data stays -/
theorem same_sqt {K : PySem.W.Frag} {H H' : Hp} {a : Addr} {xs : List V} (e : Same H H') (h : SqT K H a xs) : SqT K H' a xs := by
  rcases h with (h | ⟨o, h⟩) | h
  · exact .inl (.inl (e _ _ h))
  · exact .inl (.inr ⟨o, e _ _ h⟩)
  · exact .inr h
mutual
theorem dp_mono {K : PySem.W.Frag} {H H' : Hp} (s : Same H H') : ∀ (d : PyData) (v : V), Dp K H v d → Dp K H' v d
  | .none, _, h => by cases h; exact .non
  | .bool b, _, h => by cases h; exact .bl b
  | .int i, _, h => by cases h; exact .int i
  | .str x, _, h => by cases h; exact .str x
  | .list ds, _, h => by
    cases h with
    | lst hs ha => exact .lst (s.seq hs) (dp_monoAll s ds _ ha)
  | .tuple ds, _, h => by
    cases h with
    | tup hs ha => exact .tup (same_sqt s hs) (dp_monoAll s ds _ ha)
  | .dict _, _, h => by cases h
theorem dp_monoAll {K : PySem.W.Frag} {H H' : Hp} (s : Same H H') : ∀ (ds : List PyData) (vs : List V), DpAll K H vs ds → DpAll K H' vs ds
  | [], _, h => by cases h; exact .nil
  | d :: ds, _, h => by
    cases h with
    | cons h1 h2 => exact .cons (dp_mono s d _ h1) (dp_monoAll s ds _ h2)
end
theorem Dx.mono {K : PySem.W.Frag} {H H' : Hp} {v : V} {d : PyData} (s : Same H H') (h : Dx K H v d) : Dx K H' v d := by
  cases h with
  | of h => exact .of (dp_mono s _ _ h)
  | dict0 h => exact .dict0 (s _ _ h)
theorem DpAll.len {K : PySem.W.Frag} {H : Hp} : ∀ {vs : List V} {ds : List PyData}, DpAll K H vs ds → vs.length = ds.length
  | [], [], _ => rfl
  | _ :: _, _ :: _, .cons _ h => congrArg (· + 1) (DpAll.len h)
theorem DpAll.get {K : PySem.W.Frag} {H : Hp} : ∀ {vs : List V} {ds : List PyData} {i : Nat} {v : V}, DpAll K H vs ds → vs[i]? = some v → ∃ d, ds[i]? = some d ∧ Dp K H v d
  | _ :: _, _ :: _, 0, _, .cons h _, e => by
    cases e
    exact ⟨_, rfl, h⟩
  | _ :: _, _ :: _, i + 1, _, .cons _ h, e => DpAll.get (i := i) h e
  | [], [], _, _, .nil, e => by cases e
/-- isinstance of built-in kinds -/
def isTy (d : PyData) (T : String) : Bool := (kitB (tyName d) T).getD false
theorem kit_int (d : PyData) : kitB (tyName d) "int" = some (isTy d "int") := by unfold isTy; cases d <;> (dsimp only [tyName]; decide +kernel)
theorem kit_bool (d : PyData) : kitB (tyName d) "bool" = some (isTy d "bool") := by unfold isTy; cases d <;> (dsimp only [tyName]; decide +kernel)
theorem kit_list (d : PyData) : kitB (tyName d) "list" = some (isTy d "list") := by unfold isTy; cases d <;> (dsimp only [tyName]; decide +kernel)
theorem kit_tuple (d : PyData) : kitB (tyName d) "tuple" = some (isTy d "tuple") := by unfold isTy; cases d <;> (dsimp only [tyName]; decide +kernel)
theorem rd_isi {K : PySem.W.Frag} {H : Hp} {x : V} {d : PyData} {T : String} {b : Bool} {Q : VK} (h : Dx K H x d) (e : kitB (tyName d) T = some b) (q : Q (.bl b) H) : rIsi K [x, .ty T] H Q :=
  ⟨x, .ty T, _, _, b, rfl, .ty T, h.ty, kit_ty e, q⟩
/-! ### the checks, over data -/
def isNum : PyData → Bool | .int _ => true | _ => false
theorem isNum_ty (d : PyData) : (isTy d "int" && !isTy d "bool") = isNum d := by unfold isTy; cases d <;> (dsimp only [tyName, isNum]; decide +kernel)
def isPlayer : PyData → Bool | .int i => decide (i = 0) || decide (i = 1) | _ => false
def isPlace (d : PyData) (many : Int) : Bool := match d with | .int i => decide (0 ≤ i) && decide (i < many) | _ => false
section
variable {P : Program} {w : World} {K : PySem.W.Frag} {mg : Str → Option Value} {base : Heap}
def spIsNumber (K : PySem.W.Frag) : Sp := fun vs H Q _ => ∃ v d, vs = [v] ∧ Dx K H v d ∧ Q (.bl (isNum d)) H
theorem ok_is_number {f : Addr} {fd : FuncData} (B : Bt mg) (F : Fun K "is_number" "is_number" s_is_number f fd) : FnOk P w K mg base (L2.CX P w) 1 f fd ["value"] (spIsNumber K) := by
  refine F.okX sc_is_number (fun vs H Q E h => ?_) (fun cdv A outer s H vs Q E hr h => ?_)
  · obtain ⟨n, k, rfl, _⟩ := h
    rfl
  · obtain ⟨v, d, rfl, hd, q⟩ := h
    refine ⟨_, (pss_one (ps_ret (pe_and (pe_callB call_isi (by rfl) B.isinstance_ (by decide +kernel) (pa_cons (pv 0) (pa_cons (pe_bltn (v := .ty "int") (u := .type "int") (by rfl) B.int_ (by decide +kernel) rfl) pa_nil))) (pe_one (pe_not (pe_callB call_isi (by rfl) B.isinstance_ (by decide +kernel) (pa_cons (pv 0) (pa_cons (pe_bltn (v := .ty "bool") (u := .type "bool") (by rfl) B.bool_ (by decide +kernel) rfl) pa_nil)))))))), ?_⟩
    refine ⟨_, rfl, _, _, _, _, _, rfl, .ty _, hd.ty, kit_ty (kit_int d), _, rfl, ?_⟩
    rw [← isNum_ty d] at q
    cases e : isTy d "int" with
    | false =>
      rw [e] at q
      exact iteF q
    | true =>
      rw [e] at q
      refine iteT ⟨_, rfl, _, _, _, _, _, rfl, .ty _, hd.ty, kit_ty (kit_bool d), _, rfl, ?_⟩
      exact q
def spIsPlayer (K : PySem.W.Frag) : Sp := fun vs H Q _ => ∃ v d, vs = [v] ∧ Dx K H v d ∧ ∀ H', Same H H' → Q (.bl (isPlayer d)) H'
theorem same_upd {H : Hp} {p : Addr} {o : HO} (h : H p = none) : Same H (upd H p o) := fun b x e => by
  rw [upd_ne (ne_of_none e h)]
  exact e
theorem num_int {K : PySem.W.Frag} {H : Hp} {v : V} {d : PyData} (h : Dx K H v d) (e : isNum d = true) : ∃ i, d = .int i ∧ v = .int i := by
  cases h with
  | of h =>
    cases h with
    | int i => exact ⟨i, rfl, rfl⟩
    | _ => cases e
  | dict0 h => cases e
theorem ok_is_player {f : Addr} {fd : FuncData} (F : Fun K "is_player" "is_player" s_is_player f fd) (C_is_number : Cal P w K mg base 1 "is_number" (spIsNumber K)) : FnOk P w K mg base (L2.CX P w) 2 f fd ["value"] (spIsPlayer K) := by
  refine F.okX sc_is_player (fun vs H Q E h => ?_) (fun cdv A outer s H vs Q E hr h => ?_)
  · obtain ⟨n, k, rfl, _⟩ := h
    rfl
  · obtain ⟨v, d, rfl, hd, q⟩ := h
    refine ⟨_, (pss_one (ps_ret (pe_and (pe_cal C_is_number hr (by decide) (by rfl) (pa_cons (pv 0) pa_nil)) (pe_one (pe_cmpR op_in_seq (pv 0) (pe_tup (pa_cons pe_int (pa_cons pe_int pa_nil))) (by rfl)))))), ?_⟩
    refine ⟨_, rfl, _, _, rfl, hd, _, rfl, ?_⟩
    cases e : isNum d with
    | false =>
      refine iteF ?_
      have e2 : isPlayer d = false := by cases d <;> first | rfl | cases e
      rw [e2] at q
      exact q _ (Same.refl _)
    | true =>
      obtain ⟨i, rfl, rfl⟩ := num_int hd e
      refine iteT ⟨_, rfl, (by show 2 ≤ sizeLine; decide), fun p hp => ⟨p, _, rfl, .inr (SqT.of upd_same), rfl, rfl, ?_⟩⟩
      have e2 : inV (.int i) [.int 0, .int 1] = isPlayer (.int i) := by
        show ((0 : Int) == i || ((1 : Int) == i || false)) = (decide (i = 0) || decide (i = 1))
        rw [Bool.or_false]
        by_cases h0 : i = 0
        · subst h0; rfl
        · by_cases h1 : i = 1
          · subst h1; rfl
          · rw [decide_eq_false h0, decide_eq_false h1, beq_eq_false_iff_ne.mpr (Ne.symm h0), beq_eq_false_iff_ne.mpr (Ne.symm h1)]
      show Q (.bl (inV (.int i) [.int 0, .int 1])) _
      rw [e2]
      exact q _ (same_upd hp)
def spIsPlace (K : PySem.W.Frag) : Sp := fun vs H Q _ => ∃ (v : V) (d : PyData) (m : Int), vs = [v, .int m] ∧ Dx K H v d ∧ Q (.bl (isPlace d m)) H
theorem ok_is_place {f : Addr} {fd : FuncData} (F : Fun K "is_place" "is_place" s_is_place f fd) (C_is_number : Cal P w K mg base 1 "is_number" (spIsNumber K)) : FnOk P w K mg base (L2.CX P w) 2 f fd ["value", "many"] (spIsPlace K) := by
  refine F.okX sc_is_place (fun vs H Q E h => ?_) (fun cdv A outer s H vs Q E hr h => ?_)
  · obtain ⟨v, d, m, rfl, _⟩ := h
    rfl
  · obtain ⟨v, d, m, rfl, hd, q⟩ := h
    refine ⟨_, (pss_one (ps_ret (pe_and (pe_cal C_is_number hr (by decide) (by rfl) (pa_cons (pv 0) pa_nil)) (pe_one (pe_chain op_le op_lt pe_int (pv 0) (pv 1)))))), ?_⟩
    refine ⟨_, rfl, _, _, rfl, hd, _, rfl, ?_⟩
    cases e : isNum d with
    | false =>
      refine iteF ?_
      have e2 : isPlace d m = false := by cases d <;> first | rfl | cases e
      rw [e2] at q
      exact q
    | true =>
      obtain ⟨i, rfl, rfl⟩ := num_int hd e
      refine iteT ⟨_, rfl, 0, i, rfl, rfl, _, rfl, ?_⟩
      by_cases h0 : (0 : Int) ≤ i
      · rw [decide_eq_true h0]
        refine iteT ⟨_, rfl, i, m, rfl, rfl, ?_⟩
        have e2 : isPlace (.int i) m = decide (i < m) := by
          show (decide (0 ≤ i) && decide (i < m)) = _
          rw [decide_eq_true h0, Bool.true_and]
        rw [e2] at q
        exact q
      · rw [decide_eq_false h0]
        refine iteF ?_
        have e2 : isPlace (.int i) m = false := by
          show (decide (0 ≤ i) && decide (i < m)) = _
          rw [decide_eq_false h0, Bool.false_and]
        rw [e2] at q
        exact q
end
end G

namespace PySem
namespace BadX
open PySem.W PySem.Calls PyProof.Rows PySem.HandSPX
/-! ### the text of __init__: super().__init__(f't1{at}t2'); self.at = at -/
def iA (p1 p2 : Pos) : Arguments := { posonlyargs := [], args := [{ arg := "self", annotation := none, pos := p1 }, { arg := "at", annotation := none, pos := p2 }], vararg := none, kwonlyargs := [], kw_defaults := [], kwarg := none, defaults := [] }
structure Ps where
  a : Pos
  b : Pos
  c : Pos
  d : Pos
  e : Pos
  f : Pos
  g : Pos
  h : Pos
  i : Pos
  j : Pos
  k : Pos
  l : Pos
  m : Pos
  n : Pos
def iB (t1 t2 : Str) (p : Ps) : List Stmt := [
  .Expr (.Call (.Attribute (.Call (.Name "super" p.a) [] [] p.b) "__init__" p.c) [.JoinedStr [.Constant (.str t1) 0 p.d, .FormattedValue (.Name "at" p.e) (-1) none p.f, .Constant (.str t2) 0 p.g] p.h] [] p.i) p.j,
  .Assign [.Attribute (.Name "self" p.k) "at" p.l] (.Name "at" p.m) p.n]
def callE (t1 t2 : Str) (p : Ps) : Expr := .Call (.Attribute (.Call (.Name "super" p.a) [] [] p.b) "__init__" p.c) [.JoinedStr [.Constant (.str t1) 0 p.d, .FormattedValue (.Name "at" p.e) (-1) none p.f, .Constant (.str t2) 0 p.g] p.h] [] p.i
def iS : Scope := { kind := .function, names := [(PySem.Str.ofString "self", .local), (PySem.Str.ofString "at", .local), (PySem.Str.ofString "__class__", .free), (PySem.Str.ofString "super", .globalImplicit)], isGenerator := false, isCoroutine := false, more := [] }
/-- what the written part says of the class at C, and of its __init__, at fI -/
structure BadTxt (prog : Program) (K : Frag) (mg : Str → Option Value) (x qual t1 t2 : Str) (C fI : Addr) : Prop where
  gC : mg x = some (.ref C)
  cls : ∃ nm q N bs bm sn sub ab col dd k0 k1 k2 k3 k5, K.lookup C = some (excClassObj nm q C N bs bm true sn sub ab col dd k0 k1 k2 k3 k5 "ValueError.__new__") ∧ refsVE bm = true ∧ alongIn K "__init__" bm = some (some (.builtin "ValueError.__init__"))
  sa : findIn K (.ref C) "__setattr__" = some (some (.builtin "object.__setattr__"))
  noN : findIn K (.ref C) "at" = some none
  iC : findIn K (.ref C) "__init__" = some (some (.ref fI))
  tC : typeIn K (.ref fI) = some (.type "function")
  kC : keepIn K (.ref C) = true
  exC : subIn K (.ref C) (.type "BaseException") = some true
  veC : subIn K (.ref C) (.type "ValueError") = some true
  tyC : typeIn K (.ref C) = some (.type "type")
  moC : mroIn K C (.ref C) = some true
  opq : nsIn K cStatics "thirdparty.any" = some none
  msu : mg "super" = none
  htop : (prog.main.scope.names.lookup ("super" : Str)).isSome = false
  fn : ∃ (oc : Value) (od : Option Addr) (doc pm : Value) (an : Option Addr) (ct : Value) (osl : Array (Option Value)) (p1 p2 : Pos) (p : Ps) (cc cda : Addr) (ccl cl : Value) (cdd cld : Option Addr) (ccs csl : Array (Option Value)) (vs : Array Value) (file : Str) (tf : Tok),
    K.lookup fI = some ⟨oc, od, .func (ksFn "__init__" qual (iA p1 p2) (iB t1 t2 p) iS .none .none doc pm an (.ref cda) ct cc), osl⟩ ∧ codeIn K (.ref cda) qual = true ∧
    K.lookup cda = some ⟨ccl, cdd, .fields vs, ccs⟩ ∧ vs[2]? = some (.str file tf) ∧ ((prog.main.file : Str) == file) = true ∧ K.lookup cc = some ⟨cl, cld, .cell (some (.ref C)), csl⟩ ∧
    (∀ L : Addr, ∃ pl : Sem Bool, eval (callE t1 t2 p) (ksEnv qual iS L fI (.ref cda) cc) = (do
      let ov ← attributeBase (.Call (.Name "super" p.a) [] [] p.b) "__init__" (ksEnv qual iS L fI (.ref cda) cc) (eval (.Call (.Name "super" p.a) [] [] p.b) (ksEnv qual iS L fI (.ref cda) cc))
      standAt p.c.atName
      let (f, first) ← holding [ov] (getMethod ov "__init__" pl)
      callWith p.i f first (backTo p.i (starEach [.JoinedStr [.Constant (.str t1) 0 p.d, .FormattedValue (.Name "at" p.e) (-1) none p.f, .Constant (.str t2) 0 p.g] p.h] (ksEnv qual iS L fI (.ref cda) cc))) []))
  z1 : t1.length ≤ 1000
  z2 : t2.length ≤ 1000
theorem one_size (v : Value) : [v].length ≤ sizeLine := by
  rw [sizeLine_eq]
  exact (by decide : 1 ≤ 16777216)
/-- what __init__ leaves of a fresh exception at x -/
structure InitEnd (h h' : Heap) (x C dx t1 : Addr) (v : Value) : Prop where
  keep : ∀ b o, b ≠ x → h.get? b = some o → h'.get? b = some o
  obj : h'.get? x = some { cls := .ref C, dict := some dx, data := .fields #[.ref t1, .none, .none, .none, .bool false, .none] }
  dbig : h.objs.size ≤ dx
  dne : dx ≠ x
  ns : h'.Ns1 dx (fun y => if y = "at" then some v else none)
/-- what may be told: None, or a small number -/
def Small (v : Value) : Prop := v = .none ∨ ∃ (i : Nat) (t : Tok), v = .int (i : Int) t ∧ i < 64
section
variable {prog : Program} {w : World} {A : Around} {E : Value → Shared → Prop} {R : Result → Shared → Prop} {s : Shared} {K : Frag} {mg : Str → Option Value} {x qual t1 t2 : Str} {C fI : Addr} {base : Heap}
theorem len_app (a b : Str) : (a ++ b).length = a.length + b.length := Str.length_append a b
theorem int_small : ∀ i : Nat, i < 64 → (Str.ofString (toString (i : Int))).length ≤ 1000 ∧ ((i : Int)).natAbs.log2 < 1920 := by decide +kernel
theorem int_text_len {i : Nat} (h : i < 64) : (Str.ofString (toString (i : Int))).length ≤ 100000 := Nat.le_trans (int_small i h).1 (by decide)
theorem int_log {i : Nat} (h : i < 64) : ((i : Int)).natAbs.log2 < 1920 := (int_small i h).2
/-- {at} in the middle -/
theorem joined_at {env : Env} {pd pe pf pg ph : Pos} {v : Value} {Q : Value → Shared → Prop} (hv : Small v) (z1 : t1.length ≤ 1000) (z2 : t2.length ≤ 1000)
    (hat : ∀ {Q : Value → Shared → Prop} {s' : Shared}, s'.heap = s.heap → Q v s' → wpAny (model prog w) A (eval (.Name "at" pe) env) Q E s')
    (h : ∀ y k, Q (.str y k) { s with toks := k + 1 }) :
    wpAny (model prog w) A (eval (.JoinedStr [.Constant (.str t1) 0 pd, .FormattedValue (.Name "at" pe) (-1) none pf, .Constant (.str t2) 0 pg] ph) env) Q E s := by
  have e0 : evalEach [.Constant (.str t1) 0 pd, .FormattedValue (.Name "at" pe) (-1) none pf, .Constant (.str t2) 0 pg] env = [eval (.Constant (.str t1) 0 pd) env, eval (.FormattedValue (.Name "at" pe) (-1) none pf) env, eval (.Constant (.str t2) 0 pg) env] := by
    first | rfl | simp [evalEach]
  refine wpAny_JoinedStr ?_
  rw [e0]
  have a0 : (Str.empty ++ t1).length ≤ 1000 := by
    rw [len_app]
    show 0 + t1.length ≤ 1000
    omega
  refine Calls.Constant_str ⟨t1, _, rfl, Nat.le_trans a0 (by decide), ?_⟩
  refine wpAny_FormattedValue_plain (hat rfl ?_)
  have fin : ∀ (y : Str) (s' : Shared), s' = { s with toks := s'.toks } → y.length ≤ 100000 → Joins (model prog w) A E [eval (.Constant (.str t2) 0 pg) env] (Str.empty ++ t1 ++ y) (fun out s₁ => out.length ≤ sizeLine ∧ Q (.str out s₁.toks) { s₁ with toks := s₁.toks + 1 }) s' := fun y s' es hy => by
    have a2 : (Str.empty ++ t1 ++ y ++ t2).length ≤ sizeLine := by
      rw [len_app, len_app]
      exact Nat.le_trans (by omega : _ ≤ 200000) (by decide)
    refine Calls.Constant_str ⟨t2, _, rfl, a2, ?_⟩
    refine ⟨a2, ?_⟩
    rw [es]
    exact h _ _
  have a1 : ∀ y : Str, y.length ≤ 100000 → (Str.empty ++ t1 ++ y).length ≤ sizeLine := fun y hy => by
    rw [len_app]
    exact Nat.le_trans (by omega : _ ≤ 200000) (by decide)
  rcases hv with rfl | ⟨i, t, rfl, hi⟩
  · exact wpAny_formatField_none ⟨_, _, rfl, a1 _ (by decide), fin _ _ rfl (by decide)⟩
  · exact wpAny_formatField_int (int_log hi) ⟨_, _, rfl, a1 _ (int_text_len hi), fin _ _ rfl (int_text_len hi)⟩
theorem mw_with {M : Model} {i : String} {u y : Addr} {pos : Pos} {env : Env} {e : Expr} {rest : List Expr} {Q : Value → Shared → Prop}
    (h : wpAny M A (spliced (backTo pos (starEach (e :: rest) env))) (fun vs s₁ => KxsAt i u y s₁.heap ∧ wpAny M A (call (.ref u) vs) Q E s₁) E s)
    (he : starEach (e :: rest) env = (false, eval e env) :: starEach rest env := by rfl) (hplain : (backTo pos (starEach rest env)).any (·.1) = false := by rfl) :
    wpAny M A (callWith pos (.ref u) [] (backTo pos (starEach (e :: rest) env)) []) Q E s := by
  rw [he] at h ⊢
  refine kxs_callWith (i := i) (x := y) (by show (false || (backTo pos (starEach rest env)).any (·.1)) = false; rw [hplain]; rfl) ?_
  exact evalArgs_plain h
/-- the call of the bound ValueError.__init__ -/
theorem call_mw {u e t0 : Addr} {rest : List Value} {nm q : Str} {N : Addr} {bs bm : List Value} {hdct : Bool} {sn : List Str} {sub : List Value} {ab : Bool} {col : Option Bool} {dd : Option Addr} {k0 k1 k2 k3 k5 : Option Value} {Q : Value → Shared → Prop}
    (hC : s.heap.get? C = some (excClassObj nm q C N bs bm hdct sn sub ab col dd k0 k1 k2 k3 k5 "ValueError.__new__")) (he : s.heap.get? e = some (excO C t0)) (hu : s.heap.get? u = some (kxs_mw "ValueError.__init__" e)) (hrest : rest.length ≤ sizeLine)
    (hq : ∀ h' t1, (∀ b o, b ≠ e → s.heap.get? b = some o → h'.get? b = some o) → h'.get? e = some (excO C t1) → Q .none { s with heap := h' }) :
    wpAny (model prog w) A (call (.ref u) rest) Q E s := by
  obtain ⟨hh, g, d, tk, os⟩ := s
  refine wpAny_call (codeAny_of_tree ?_)
  show wpAny _ A.in1 (callAny (.ref u) ⟨rest, []⟩) _ _ _
  simp only [callAny]
  refine wpAny_bind (wpAny_load hu ?_)
  simp only [kxs_mw, show (Value.type "method-wrapper" == Value.type "method" || Value.type "method-wrapper" == Value.type "builtin_function_or_method" || Value.type "method-wrapper" == Value.type "method-wrapper") = true by decide, if_true]
  refine KFB.if_so (by decide) ?_
  refine wpAny_bind (check_bound_init F.excBase_ValueError.toExcCallFacts hC he rfl ?_)
  refine wpAny_bind (wpAny_pure (wpAny_pure ?_))
  refine ⟨plainId_quiet F.excBase_ValueError.init.plain _, codeAny_builtin F.excBase_ValueError.initEntry ?_⟩
  rw [Around.under_plainId F.excBase_ValueError.init.plain _]
  refine exc_init_tree (cls := .ref C) (t0 := t0) (dv := none) (c2 := .none) (c3 := .none) (b4 := .bool false) he hrest fun h' k e' _ => ?_
  exact hq h' _ k e'
theorem bad_init (T : BadTxt prog K mg x qual t1 t2 C fI) {x0 t0 : Addr} {v : Value} (M : L2.Mod K mg base) (kb : ∀ b o, base.get? b = some o → s.heap.get? b = some o) (hlim : s.heap.NoLimit) (hx : s.heap.get? x0 = some (excO C t0)) (hnx : K.lookup x0 = none) (hroom : A.depth < recursionLimit) (hv : Small v)
    (hq : ∀ h' tk dx t1, InitEnd s.heap h' x0 C dx t1 v → R (.ok (.ret .none)) { s with heap := h', toks := tk }) :
    codeAny (model prog w) A (.call (.ref fI) ⟨[.ref x0, v], []⟩) R s := by
  obtain ⟨oc, od, doc, pm, an, ct, osl, p1, p2, p, cc, cda, ccl, cl, cdd, cld, ccs, csl, vs, file, tf, ho, hcd, hcode, hvs, hfile, hcell, hev⟩ := T.fn
  obtain ⟨pl, hev⟩ := hev s.heap.objs.size
  obtain ⟨nm, q, N, bs, bm, sn, sub, ab, col, dd, k0, k1, k2, k3, k5, hC, hbm, hal⟩ := T.cls
  have X : K.In s.heap := M.kin.keeps kb
  have hcl : clsIn K C = some { name := nm, bases := bs, mro := .ref C :: bm, ns := N, qualname := q, hasDict := true, slotNames := sn, subclasses := sub, abstract := ab, collection := col, hasDel := false } := by unfold clsIn; rw [hC] <;> rfl
  refine ks_codeAny_call_defAt (fd := ksFn "__init__" qual (iA p1 p2) (iB t1 t2 p) iS .none .none doc pm an (.ref cda) ct cc) (body := iB t1 t2 p) (binds := [("self", .ref x0), ("at", v)]) hroom (X _ _ ho) rfl hlim (codeRec_of X hcd) rfl (BindsTo.of_eq (by first | rfl | with_unfolding_all rfl)) (by show ∀ y ∈ iS.names, y.2 ≠ .cell; decide) (by intro y hy; rcases List.mem_cons.mp hy with rfl | hy; rfl; rcases List.mem_cons.mp hy with rfl | hy; rfl; cases hy) (fun h₀ hns hk₁ => ?_)
  have hns' : h₀.Ns s.heap.objs.size (fun y => ([("self", Value.ref x0), ("at", v)] : List (Str × Value)).reverse.lookup y) := hns
  have X₀ : K.In h₀ := X.keeps hk₁
  have hx₀ := hk₁ _ _ hx
  have hxL : x0 ≠ s.heap.objs.size := Nat.ne_of_lt (Heap.lt_size hx)
  obtain ⟨mb, hb1, hb2⟩ := M.blt
  have hxC : x0 ≠ C := fun z => by
    rw [z, hC] at hnx
    cases hnx
  show _root_.PySem.wpAt (model prog w) (A.deeper (ksEnv qual iS s.heap.objs.size fI (.ref cda) cc)) (.func (iB t1 t2 p) (ksEnv qual iS s.heap.objs.size fI (.ref cda) cc)) (execs (iB t1 t2 p) (ksEnv qual iS s.heap.objs.size fI (.ref cda) cc)) _ _ _
  refine ks_wpAt_execs_cons (ks_wpAt_Expr_any (ks_wpAt_MethodCall (pl := pl) ?_ hev))
  refine ks_wpAt_super_base (env := ksEnv qual iS s.heap.objs.size fI (.ref cda) cc) rfl rfl (by decide) rfl (X₀ _ _ ho) rfl rfl rfl (X₀ _ _ hcode) rfl hvs hfile T.htop ?_
  refine ks_loadName_global rfl rfl (loadGlobal_builtin (env := ksEnv qual iS s.heap.objs.size fI (.ref cda) cc) (M.glob.keeps fun b o e => hk₁ b o (kb b o e)) T.msu (hb1.keeps fun b o e => hk₁ b o (kb b o e)) ((hb2 _ (by decide)).trans PyProof.Rows.Boot.«super») ⟨rfl, ?_⟩)
  refine wpAny_loadName_free rfl rfl rfl ⟨_, X₀ _ _ hcell, rfl⟩ ?_
  refine wpAny_loadName_local rfl rfl hns' (v := .ref x0) (by first | rfl | kernel_rfl) ?_
  have hD1 : h₀.get? C = some (excClassObj nm q C N bs bm true sn sub ab col dd k0 k1 k2 k3 k5 "ValueError.__new__") := X₀ _ _ hC
  refine ks_wpAny_isType_cls hD1 rfl ⟨rfl, ?_⟩
  refine ks_wpAny_call_super hD1 rfl hx₀ rfl (fun c e => by cases e) (looks_mroIn X₀ T.moC) (fun h₁ e₁ k₁ => ?_)
  have X₁ : K.In h₁ := X₀.keeps k₁
  have hx₁ := k₁ _ _ hx₀
  have I₁ : InstAt h₁ x0 (excO C t0) C none := ⟨hx₁, rfl, rfl, trivial⟩
  refine kxs_getMethod kxs_ValueError e₁ (looks_opaque X₁ T.opq) (l₀ := .ref C :: bm) ((looks_clsIn X₁ hcl).andThen .now) (l := bm) (by simp [List.dropWhile_cons]) X₁ hal (I₁.type.andThen (looks_subIn X₁ T.veC)) hxC (by decide) ?_
  have k₂ : ∀ b o, h₁.get? b = some o → (h₁.push (kxs_mw "ValueError.__init__" x0)).get? b = some o := fun b o e => Heap.get?_push_of_some _ e
  have eu : (h₁.push (kxs_mw "ValueError.__init__" x0)).get? h₁.objs.size = some (kxs_mw "ValueError.__init__" x0) := Heap.get?_push_at rfl rfl
  have hns₂ := hns'.keeps fun b o e => k₂ b o (k₁ b o e)
  show wpAny _ _ (callWith p.i (.ref h₁.objs.size) [] (backTo p.i (starEach [.JoinedStr [.Constant (.str t1) 0 p.d, .FormattedValue (.Name "at" p.e) (-1) none p.f, .Constant (.str t2) 0 p.g] p.h] (ksEnv qual iS s.heap.objs.size fI (.ref cda) cc))) []) _ _ _
  refine mw_with (i := "ValueError.__init__") (y := x0) (PyProof.Rows.args_cons ?_ rfl)
  refine joined_at hv T.z1 T.z2 (fun {Q' s'} es hq' => ?_) (fun y k => PyProof.Rows.args_nil ⟨eu, ?_⟩)
  · refine wpAny_Name (wpAny_loadName_local (m := fun y => ([("self", Value.ref x0), ("at", v)] : List (Str × Value)).reverse.lookup y) rfl rfl ?_ (by first | rfl | kernel_rfl) hq') (by decide)
    rw [es]
    exact hns₂
  refine call_mw (C := C) (e := x0) (t0 := t0) (k₂ _ _ (X₁ _ _ hC)) (k₂ _ _ hx₁) eu (one_size _) fun h₃ t3 k₃ hx₃ => ?_
  have kk : ∀ b o, b ≠ x0 → s.heap.get? b = some o → h₃.get? b = some o := fun b o hb e => k₃ b o hb (k₂ b o (k₁ b o (hk₁ b o e)))
  have X₃ : K.In h₃ := fun b o e => kk b o (fun z => by rw [z, hnx] at e; cases e) (X b o e)
  have hns₃ : h₃.Ns s.heap.objs.size (fun y => ([("self", Value.ref x0), ("at", v)] : List (Str × Value)).reverse.lookup y) := by
    obtain ⟨oL, es, ep, hL, r⟩ := hns₂
    exact ⟨oL, es, ep, k₃ _ _ hxL.symm hL, r⟩
  refine ks_wpAt_execs_cons (ks_wpAt_Assign_Attr (wpAt_of_wpAny ?_))
  refine wpAny_Name (wpAny_loadName_local rfl rfl hns₃ (v := v) (by first | rfl | kernel_rfl) ?_) (by decide)
  refine wpAny_Name (wpAny_loadName_local rfl rfl hns₃ (v := .ref x0) (by first | rfl | kernel_rfl) ?_) (by decide)
  refine set_plain X₃ (ox := excO C t3) (od := none) ⟨hx₃, rfl, rfl, trivial⟩ T.sa ?_
  refine exc_osa X₃ hx₃ hcl (show refsVE (.ref C :: bm) = true from hbm) rfl T.noN (fun h₄ tk₄ dx k₄ dn dne hx₄ hn₄ => ?_)
  refine wpAt_of_wpAny (wpAny_execs_nil ?_)
  have z3 : s.heap.objs.size ≤ h₃.objs.size := by
    obtain ⟨oL, es, ep, hL, r⟩ := hns₃
    exact Nat.le_of_lt (Heap.lt_size hL)
  exact hq h₄ tk₄ dx t3 ⟨fun b o hb e => k₄ b o hb (kk b o hb e), hx₄, Nat.le_trans z3 dn, dne, hn₄⟩
/-- a made one -/
structure OwnMade (h h' : Heap) (e C d : Addr) (v : Value) : Prop where
  keep : ∀ b o, h.get? b = some o → h'.get? b = some o
  new : h.objs.size ≤ e
  obj : ∃ oe vs, h'.get? e = some oe ∧ oe.cls = .ref C ∧ oe.dict = some d ∧ oe.data = .fields vs ∧ vs[1]? = some .none
  dbig : h.objs.size ≤ d
  dne : d ≠ e
  ns : h'.Ns1 d (fun y => if y = "at" then some v else none)
theorem bad_made (T : BadTxt prog K mg x qual t1 t2 C fI) {v : Value} (M : L2.Mod K mg base) (kb : ∀ b o, base.get? b = some o → s.heap.get? b = some o) (hlim : s.heap.NoLimit) (hroom : A.depth + 1 < recursionLimit) (hv : Small v)
    (hq : ∀ h' tk e d, OwnMade s.heap h' e C d v → R (.ok (.ret (.ref e))) { s with heap := h', toks := tk }) :
    codeAny (model prog w) A (.call (.ref C) ⟨[v], []⟩) R s := by
  obtain ⟨nm, q, N, bs, bm, sn, sub, ab, col, dd, k0, k1, k2, k3, k5, hC, hbm, hal⟩ := T.cls
  have X : K.In s.heap := M.kin.keeps kb
  obtain ⟨hp, g, dr, tk, os⟩ := s
  have k : ∀ b o, hp.get? b = some o → ((hp.push (kdv_tup [v])).push (excO C hp.objs.size)).get? b = some o := fun b o e => Heap.get?_push_of_some _ (Heap.get?_push_of_some _ e)
  have hget : ((hp.push (kdv_tup [v])).push (excO C hp.objs.size)).get? (hp.objs.size + 1) = some (excO C hp.objs.size) := by heap_get
  have hnx : K.lookup (hp.objs.size + 1) = none := by
    cases e : K.lookup (hp.objs.size + 1) with
    | none => rfl
    | some o =>
      have z : hp.get? (hp.objs.size + 1) = some o := X _ _ e
      exact absurd (Nat.lt_of_succ_lt (Heap.lt_size z)) (Nat.lt_irrefl _)
  refine call_own F.excBase_ValueError (fun X => refsVE_contains X bm hbm) (X _ _ hC) (looks_findIn X T.iC) (fun self => bind_fn X self T.tC) (one_size v) ?_
  refine bad_init (s := ⟨(hp.push (kdv_tup [v])).push (excO C hp.objs.size), g, dr, tk, os⟩) T M (fun b o e => k b o (kb b o e)) (hlim.keeps k) hget hnx ?_ hv fun h' tk' dx t3 ⟨k', hx, dn, dne, hns⟩ => ?_
  · show A.depth + 1 < recursionLimit
    exact hroom
  · have old : ∀ b o, hp.get? b = some o → h'.get? b = some o := fun b o e => k' b o (Nat.ne_of_lt (Nat.lt_succ_of_lt (Heap.lt_size e))) (k b o e)
    have z : hp.objs.size + 1 + 1 ≤ dx := by
      first
        | (simpa only [Heap.size_push] using dn)
        | exact dn
        | (have q := dn; rw [Heap.size_push, Heap.size_push] at q; exact q)
    exact ⟨rfl, hq h' tk' (hp.objs.size + 1) dx ⟨old, Nat.le_succ _, ⟨_, _, hx, rfl, rfl, rfl, rfl⟩, Nat.le_trans (Nat.le_trans (Nat.le_succ _) (Nat.le_succ _)) z, dne, hns⟩⟩
end
end BadX
end PySem
namespace L2
open PySem PySem.Spec PyProof.Rows
theorem relO_bad {v : V} {v' : Value} (r : RelV v v') (f : Str) : RelO (List.lookup f [(("at" : Str), v)]) (if f = "at" then some v' else none) := by
  by_cases hw : f = "at"
  · subst hw
    rw [if_pos rfl]
    have q : List.lookup ("at" : Str) [(("at" : Str), v)] = some v := by simp [List.lookup]
    rw [q]
    exact r
  · rw [if_neg hw]
    have qw : (f == ("at" : Str)) = false := by simpa using hw
    have q2 : List.lookup f [(("at" : Str), v)] = none := by simp [List.lookup, qw]
    rw [q2]
    trivial
def SmallV (v : V) : Prop := v = .non ∨ ∃ i : Nat, v = .int (i : Int) ∧ i < 64
theorem SmallV.rel {v : V} {u : Value} (h : SmallV v) (r : RelV v u) : PySem.BadX.Small u := by
  rcases h with rfl | ⟨i, rfl, hi⟩
  · exact .inl r
  · obtain ⟨t, rfl⟩ := r
    exact .inr ⟨i, t, rfl, hi⟩
section
variable {X : Cx} {C fI : Addr} {cx qual t1 t2 : Str}
/-- C(e) -/
def tMkBad (C : Addr) (ta : TA) : St → Hp → XK → Prop := fun σ H Q => ta σ H fun vs H1 => ∃ v, vs = [v] ∧ SmallV v ∧ ∀ d, H1 d = none → Q (.ref C) (some d) (upd H1 d (.xd [(("at" : Str), v)]))
theorem pmk_bad {a : Expr} {ta : TA} {p pos : Pos} {k : Nat} (T : PySem.BadX.BadTxt X.prog X.K X.mg cx qual t1 t2 C fI) (hr : Room k X.A) (hk : 1 ≤ k) (ha : PA X [a] ta) (hg : Gl X cx := by rfl) (hdb : (cx == ("__debug__" : Str)) = false := by decide)
    (he : starEach (a :: []) X.env = (false, eval a X.env) :: starEach [] X.env := by rfl) (hpl : (backTo pos (starEach [] X.env)).any (·.1) = false := by rfl) :
    PMk X (.Call (.Name cx p) [a] [] pos) (tMkBad C ta) := by
  intro pins s σ H Q I h
  refine wpAny_Call_Name_kw (ld_glob I hg T.gC ?_ hdb)
  refine PySem.W.callWith_K (h₀ := X.base) I.ok.mod.kin T.kC (thn (ha.run pos pins s σ H _ I h) fun us s1 hh => ?_) he hpl
  obtain ⟨vs, H1, I1, r1, v, ev, hsm, q1⟩ := hh
  subst ev
  refine ⟨I1.kIn, ?_⟩
  cases r1 with
  | cons rv rn =>
    rename_i v' us'
    cases rn
    show wpAny _ _ (call (.ref C) [v']) _ _ _
    have hlim := I1.nolimit
    have hbk := I1.bk
    obtain ⟨hp, g, dr, tk, os⟩ := s1
    refine wpAny_call (PySem.BadX.bad_made T I1.ok.mod hbk hlim (by have := hr.dp; omega) (hsm.rel rv) fun h' tk' e d M => ?_)
    show MkP X pins σ Q (.ref e) ⟨h', g, dr, tk', os⟩
    obtain ⟨oe, fv, hoe, hc, hd, hdat, h1⟩ := M.obj
    have hns := M.ns
    obtain ⟨G', g1, g2⟩ := restrict h' fun b => decide (b ≠ e)
    have gk : ∀ b, b ≠ e → G'.get? b = h'.get? b := fun b hb => g1 b (decide_eq_true hb)
    have ge : G'.get? e = none := g2 e (by simp)
    have old : ∀ b o, hp.get? b = some o → G'.get? b = some o := fun b o q => (gk b (Nat.ne_of_lt (Nat.lt_of_lt_of_le (Heap.lt_size q) M.new))).trans (M.keep b o q)
    have ob : ObjOk X.prog X.w (upd H1 d (.xd [(("at" : Str), v)])) G' d (.xd [(("at" : Str), v)]) :=
      ⟨_, hns.at (fun o q => (gk d M.dne).trans q), fun f => relO_bad rv f⟩
    have J : Inv X pins σ (upd H1 d (.xd [(("at" : Str), v)])) ⟨G', g, dr, tk', os⟩ := I1.laid (t' := tk') old M.dbig ob
    refine ⟨e, oe, fv, ⟨G', g, dr, tk', os⟩, _, .ref C, some d, rfl, J, fun b o q => ?_, ge, hoe, ⟨hc, hd⟩, hdat, h1, ?_, rfl, I1.bare, raises_own T.exC T.tyC, q1 d (I1.hok.fresh M.dbig)⟩
    · by_cases hb : b = e
      · have q' : G'.get? b = some o := q
        rw [hb, ge] at q'; cases q'
      · exact (gk b hb).symm.trans q
    · rw [upd_ne (Ne.symm M.dne)]
      exact I1.hok.fresh M.new
/-- raise C(e) -/
def tRaiseBad (C : Addr) (W : WX) (ta : TA) : TS := fun _ σ H => tMkBad C ta σ H fun cls d H' => W cls d σ H'
theorem ps_raiseBad {a : Expr} {ta : TA} {W : WX} {p pos pos2 : Pos} {k : Nat} (hc : X.calm = true) (T : PySem.BadX.BadTxt X.prog X.K X.mg cx qual t1 t2 C fI) (hr : Room k X.A) (hk : 1 ≤ k) (tk : Takes X W) (ha : PA X [a] ta) (hg : Gl X cx := by rfl) (hdb : (cx == ("__debug__" : Str)) = false := by decide)
    (he : starEach (a :: []) X.env = (false, eval a X.env) :: starEach [] X.env := by rfl) (hpl : (backTo pos (starEach [] X.env)).any (·.1) = false := by rfl) :
    PS X (.Raise (some (.Call (.Name cx p) [a] [] pos)) none pos2) (tRaiseBad C W ta) := ps_raise hc tk (pmk_bad T hr hk ha hg hdb he hpl)
end
end L2

namespace L2
open PySem PySem.Spec PyProof.Rows
/-! ### a caught exception that stays: tracked behind its suite -/
/-- at a: an exception of the class cls, its own dict d -/
def exH (a : Addr) (cls : Value) (d : Option Addr) : HO := .ext fun h => ∃ oe : Obj, h.get? a = some oe ∧ Zc cls d oe ∧ ∃ vs, oe.data = .fields vs
theorem exH_ok {P : Program} {w : World} {H : Hp} {h : Heap} {a : Addr} {cls : Value} {d : Option Addr} {oe : Obj} {vs : Array Value} (e : h.get? a = some oe) (z : Zc cls d oe) (hd : oe.data = .fields vs) : ObjOk P w H h a (exH a cls d) :=
  ⟨⟨oe, e, z, vs, hd⟩, ⟨_, e⟩, fun h1 h2 z k => by
    obtain ⟨o, q, z1, z2⟩ := z
    exact ⟨o, k _ q, z1, z2⟩⟩
theorem exH_at {P : Program} {w : World} {H : Hp} {h : Heap} {a : Addr} {cls : Value} {d : Option Addr} (hok : HOk P w H h) (he : H a = some (exH a cls d)) : ∃ oe : Obj, h.get? a = some oe ∧ Zc cls d oe ∧ ∃ vs, oe.data = .fields vs := by
  have x : ObjOk P w H h a (.ext fun h => ∃ oe : Obj, h.get? a = some oe ∧ Zc cls d oe ∧ ∃ vs, oe.data = .fields vs) := hok a _ he
  exact x.1
section
variable {X : Cx} {pins : List (Addr × Obj)} {σ : St} {H : Hp} {s : Shared}
theorem Inv.unsuiteP {a : Addr} {q : Addr × Obj} {pn' : List (Addr × Obj)} (I : Inv (X.suite a (q :: (X.pn ++ pins))) pn' σ H s) (ok : X.Ok) : Inv X (q :: pins) σ H s :=
  ⟨ok, I.os, I.bare, I.base, I.loc, I.cell, I.free, I.freeC, fun p hp => by
    refine I.pin p (List.mem_append_left _ ?_)
    rcases List.mem_append.mp hp with h | h
    · exact List.mem_cons_of_mem _ (List.mem_append_left _ h)
    · rcases List.mem_cons.mp h with e | h
      · rw [e]; exact List.mem_cons_self
      · exact List.mem_cons_of_mem _ (List.mem_append_right _ h), I.hok, I.len⟩
/-- a pinned exception, made behind the entry, is tracked -/
theorem Inv.track {a : Addr} {oe : Obj} {cls : Value} {d : Option Addr} {vs : Array Value} (I : Inv X ((a, oe) :: pins) σ H s) (hz : Zc cls d oe) (hd : oe.data = .fields vs) (hnew : X.s_0.heap.get? a = none) (hc : ∀ x c, X.env.cells.lookup x = some c → c ≠ a) (hp : ∀ p ∈ X.pn ++ pins, p.1 ≠ a) :
    Inv X pins σ (upd H a (exH a cls d)) s := by
  obtain ⟨ea, na, nL, nF, _⟩ := I.pin (a, oe) (List.mem_append_right _ List.mem_cons_self)
  have ea' : s.heap.get? a = some oe := ea
  have na' : H a = none := na
  have nL' : a ≠ X.env.locals := nL
  have nw : ∀ {b : Addr} {o : Obj}, X.s_0.heap.get? b = some o → b ≠ a := fun {b o} e z => by rw [z, hnew] at e; cases e
  refine ⟨I.ok, I.os, I.bare, ⟨I.base.keep, I.base.slot, fun b o e n hx => ?_, I.base.there, fun b xs e => ?_, fun b o v e => ?_, fun b ps e => ?_⟩, I.loc, I.cell, ?_, fun x c e => ?_, fun p hp' => ?_, fun b o e => ?_, I.len⟩
  · rw [upd_ne (nw e)]
    exact I.base.free b o e n hx
  · have q := I.base.tups b xs e
    rw [upd_ne (ne_of_none q na')]
    exact q
  · have q := I.base.frzs b o v e
    rw [upd_ne (ne_of_none q na')]
    exact q
  · obtain ⟨more, q⟩ := I.base.tbls b ps e
    exact ⟨more, by rw [upd_ne (ne_of_none q na')]; exact q⟩
  · rw [upd_ne nL'.symm]
    exact I.free
  · rw [upd_ne (hc x c e)]
    exact I.freeC x c e
  · obtain ⟨e1, e2, e3, e4, e5⟩ := I.pin p (by
      rcases List.mem_append.mp hp' with h | h
      · exact List.mem_append_left _ h
      · exact List.mem_append_right _ (List.mem_cons_of_mem _ h))
    exact ⟨e1, by rw [upd_ne (hp p hp')]; exact e2, e3, e4, e5⟩
  · by_cases hb : b = a
    · subst hb
      rw [upd_same] at e
      cases e
      exact exH_ok ea' hz hd
    · rw [upd_ne hb] at e
      exact (I.hok b o e).stay (fun _ _ _ q => q) (fun c q => by rw [upd_ne (ne_of_none q na')]; exact q) fun c xs q => by rw [upd_ne (ne_of_none q na')]; exact q
end
section
variable {X : Cx} {pins : List (Addr × Obj)} {σ : St} {H : Hp} {s : Shared}
theorem Inv.unpin {q : Addr × Obj} (I : Inv X (q :: pins) σ H s) : Inv X pins σ H s :=
  ⟨I.ok, I.os, I.bare, I.base, I.loc, I.cell, I.free, I.freeC, fun p hp => I.pin p (by
    rcases List.mem_append.mp hp with h | h
    · exact List.mem_append_left _ h
    · exact List.mem_append_right _ (List.mem_cons_of_mem _ h)), I.hok, I.len⟩
end
/-- what the clause 'except x as n' wishes; behind a suite that runs through the exception is tracked -/
def wAsT (K : PySem.W.Frag) (c : Value) (i : Nat) (ts : Addr → Value → Option Addr → TS) (Wout : WX) (D : Ends) : WX := fun cls d σ H =>
  ∃ b, PySem.W.exmOne K cls c = some b ∧ (b = true → ∀ a, H a = none → ts a cls d { nx := fun σ' H' => D.nx (σ'.set i none) (upd H' a (exH a cls d)), rt := D.rt, bk := fun σ' H' => D.bk (σ'.set i none) H', ct := fun σ' H' => D.ct (σ'.set i none) H' } (σ.set i (some (.ref a))) H) ∧
    (b = false → Wout cls d σ H)
section
variable {X : Cx} {x n : Str} {c : Value} {i : Nat} {body suite : List Stmt} {b₀ : Stmt} {np pos pos' : Pos} {tb : WX → TS} {ts : Addr → Value → Option Addr → TS} {Wout : WX}
theorem ps_try_asT (hexn : X.ex = []) (hs : X.stack = X.env :: X.outer) (hf : X.env.frame = some X.env.locals) (hN : X.N.Nodup) (hi : X.N[i]? = some n) (hln : X.env.kindOf n = some .local) (hc : Names X x c) (tk : Takes X Wout)
    (hb : ∀ (W : WX) (pn : List (Addr × Obj)) (xe : Value → Shared → Prop), Takes (X.tr pn xe) W → PassesOwn (model X.prog X.w) X.A X.env xe → PSs (X.tr pn xe) body (tb W))
    (hsu : ∀ (a : Addr) (oe : Obj) (cls : Value) (d : Option Addr) (pn : List (Addr × Obj)), Zc cls d oe → (∃ vs, oe.data = .fields vs) → PSs (X.suite a ((a, oe) :: pn)) (b₀ :: suite) (ts a cls d)) :
    PS X (.Try body [.ExceptHandler (some (.Name x np)) (some n) (b₀ :: suite) pos'] [] [] pos) (fun D σ H => tb (wAsT X.K c i ts Wout D) D σ H) := by
  refine ⟨fun pins s σ H D I h => ?_⟩
  have ok := I.ok
  have hfr : X.A.frames = some (X.env :: X.outer) := by rw [ok.frames, hs]
  have hloc : Loc X.env.scope n := .inl hln
  refine wpAny_Try_except ?_
  refine wpAny_mono ((hb (wAsT X.K c i ts Wout D) (X.pn ++ pins) (fun e s₁ => wpAny (model X.prog X.w) X.A (noteFrame e X.env) (fun _ s₂ => wpAny (model X.prog X.w) X.A (setFlight e none) (fun _ s₃ =>
    wpAny (model X.prog X.w) X.A (handleBy e X.env [.ExceptHandler (some (.Name x np)) (some n) (b₀ :: suite) pos']) (SP X pins D) X.xe s₃) X.xe s₂) X.xe s₁) (fun u s' xx => ?_) PassesOwn.looking).run [] s σ H D (I.toTry _) h) (fun f s1 hsp => ?_) (fun e s1 he => he)
  · -- the catch
    obtain ⟨a, B, sI, pins', σ', H', cls, d, rfl, J', nb, up, sky, na, os, ag, b, hb1, hyes, hno⟩ := xx
    have J : Inv X pins σ' H' sI := J'.ofTry ok
    have sky' : Sky B (X.env :: X.outer) a (Zc cls d) X.env.locals s'.heap := by rw [← hs]; exact sky
    show wpAny (model X.prog X.w) X.A (noteFrame (.ref a) X.env) _ _ _
    refine Sky.land Zc.steady hfr hf sky' fun h3 fl3 up3 => ?_
    have J3 : Inv X pins σ' H' { s' with heap := h3 } := J.landed nb fl3.1 (up.trans up3) os ag
    obtain ⟨oe3, vs3, he3, hz3, hd3⟩ := fl3.there
    have notFr : ∀ {h : Heap} {o : Obj} {vs : Array Value}, h.FunFrames B (X.env :: X.outer) → h.get? a = some o → o.data = .fields vs → a ∉ frs (X.env :: X.outer) := fun {h o vs} ff e dd hm => by
      obtain ⟨_, o', e', hnf⟩ := ff.mem hm
      rw [e] at e'; cases e'
      exact hnf _ dd
    have nfr := notFr fl3.2.2.1 he3 hd3
    have nL : a ≠ X.env.locals := fun z => nfr (List.mem_filterMap.mpr ⟨X.env, List.mem_cons_self, by rw [hf, z]⟩)
    have nF : a ∉ X.fs := fun hm => by
      obtain ⟨e, he, q⟩ := List.mem_filterMap.mp hm
      exact nfr (List.mem_filterMap.mpr ⟨e, List.mem_cons_of_mem _ he, q⟩)
    have S3 := J3.suite he3 hd3 na nL nF
    refine wpAny_handleBy_cons (codeAny_handlers_test ?_) (by intro q; cases q)
    have LT : PySem.W.Looks (model X.prog X.w) h3 (typeOf (.ref a)) cls := fun A Q E s k q => wpAny_typeOf_ref (k _ _ he3) (by rw [hz3.1]; exact q)
    have LM := PySem.W.exm_one (M := model X.prog X.w) (J3.kIn) LT hb1
    have test : ∀ {Q : Value → Shared → Prop} {E : Value → Shared → Prop}, Q c { s' with heap := h3 } → wpAny (model X.prog X.w) (X.A.mark (some (.ref a))) (eval (.Name x np) X.env) Q E { s' with heap := h3 } := fun {Q E} q => by
      obtain ⟨hg, hdbg, hm | ⟨hm, hv, hnn⟩⟩ := hc
      · exact ld_glob (X := X.suite a ((a, oe3) :: (X.pn ++ pins))) S3 hg hm q hdbg
      · exact ld_blt (X := X.suite a ((a, oe3) :: (X.pn ++ pins))) S3 hg hm hv q hnn hdbg
    refine test (LM.here ?_)
    cases b with
    | true =>
      refine codeAny_handlers_suite_as ?_
      refine HandSPX.lands_againZ fl3 fun h4 fl4 up4 => ?_
      have J4 : Inv X pins σ' H' { s' with heap := h4 } := J.landed nb fl4.1 ((up.trans up3).trans up4) os ag
      obtain ⟨oe4, vs4, he4, hz4, hd4⟩ := fl4.there
      have S4 := J4.suite he4 hd4 na nL nF
      refine store_ok (X := X.suite a ((a, oe4) :: (X.pn ++ pins))) (v := .ref a) S4 hN hi hloc rfl (fun s5 S5 => ?_) (.inr hln)
      refine wpAny_mono ((hsu a oe4 cls d (X.pn ++ pins) hz4 ⟨_, hd4⟩).run [] s5 _ H' _ S5 (hyes rfl a na)) (fun f s6 hsp => ?_) (fun _ _ z => False.elim z)
      have hn0 : X.s_0.heap.get? a = none := by
        cases e0 : X.s_0.heap.get? a with
        | none => rfl
        | some o0 =>
          obtain ⟨o1, e1⟩ := J.base.there a o0 e0 (fun hx => by rw [hexn] at hx; cases hx)
          have z := nb a o1 e1 (by rw [hs]; exact nfr)
          rw [fl3.2.1] at z
          cases z
      have hpn : ∀ p ∈ X.pn ++ pins, p.1 ≠ a := fun p hp z => by
        obtain ⟨e1, _, n1, n2, _⟩ := J.pin p hp
        have z2 := nb p.1 p.2 e1 (by rw [z, hs]; exact nfr)
        rw [z, fl3.2.1] at z2
        cases z2
      have end_ : ∀ {σ6 : St} {H6 : Hp} {Q : Shared → Prop}, Inv (X.suite a ((a, oe4) :: (X.pn ++ pins))) [] σ6 H6 s6 → (∀ s7, Inv X ((a, oe4) :: pins) (σ6.set i none) H6 s7 → Q s7) →
          wpAny (model X.prog X.w) X.A (do bindName X.env n .none; unbindBehindTheSuite X.env n pos') (fun _ s7 => Q s7) X.xe s6 := fun {σ6 H6 Q} S6 hq => gone_ok (S6.unsuiteP ok) hN hi hln hq
      cases f with
      | next =>
        obtain ⟨σ6, H6, S6, q6⟩ := hsp
        refine end_ S6 fun s7 J7 => ⟨_, _, J7.track hz4 hd4 hn0 (fun y cc ey z => ?_) hpn, q6⟩
        obtain ⟨w', oc, q1, q2⟩ := J7.cell y cc ey
        obtain ⟨e7, _⟩ := J7.pin (a, oe4) (List.mem_append_right _ List.mem_cons_self)
        have e7' : s7.heap.get? a = some oe4 := e7
        rw [z, e7'] at q1
        cases q1
        rw [hd4] at q2
        cases q2
      | brk =>
        obtain ⟨σ6, H6, S6, q6⟩ := hsp
        exact end_ S6 fun s7 J7 => ⟨_, _, J7.unpin, q6⟩
      | cont =>
        obtain ⟨σ6, H6, S6, q6⟩ := hsp
        exact end_ S6 fun s7 J7 => ⟨_, _, J7.unpin, q6⟩
      | ret u =>
        obtain ⟨v6, σ6, H6, S6, r6, q6⟩ := hsp
        exact end_ S6 fun s7 J7 => ⟨_, _, _, J7.unpin, r6, q6⟩
    | false =>
      show wpAny _ X.A (handleBy (.ref a) X.env []) _ _ _
      refine wpAny_handleBy_nil ?_
      obtain ⟨k1, k2, k3, oe, vs, T, oT, ts', he, hz, hd, h1, hr⟩ := id fl3
      unfold PySem.passOn
      refine wpAny_bind (wpAny_field he hd h1 ?_)
      rw [if_neg (show ¬ ((Value.ref T == Value.none) = true) from by simp)]
      have fin : wpAny (model X.prog X.w) X.A (setFlight (.ref a) X.env.frame) (fun _ s4 => wpAny (model X.prog X.w) X.A (throw (.ref a) : Sem Flow) (SP X pins D) X.xe s4) X.xe { s' with heap := h3 } := by
        rw [hf]
        refine HandSPX.setFlight_upZ fl3 fun h4 hh4 up4 => wpAny_throw (tk _ _ ?_)
        exact ⟨a, B, sI, pins, σ', H', cls, d, rfl, J, nb, (up.trans up3).trans up4, .inr (.inr (by rw [hs]; exact hh4)), na, os, ag, hno rfl⟩
      first
        | exact wpAny_bind (wpAny_pure (wpAny_bind fin))
        | exact wpAny_bind fin
  · cases f with
    | next =>
      obtain ⟨σ', H', J', q⟩ := hsp
      exact wpAny_execs_nil ⟨σ', H', J'.ofTry ok, q⟩
    | brk =>
      obtain ⟨σ', H', J', q⟩ := hsp
      exact ⟨σ', H', J'.ofTry ok, q⟩
    | cont =>
      obtain ⟨σ', H', J', q⟩ := hsp
      exact ⟨σ', H', J'.ofTry ok, q⟩
    | ret u =>
      obtain ⟨v, σ', H', J', r, q⟩ := hsp
      exact ⟨v, σ', H', J'.ofTry ok, r, q⟩
end
end L2

namespace PySem.BadX
open PySem PySem.Spec PySem.Calls PyProof.Rows PySem.W
section
variable {prog : Program} {w : World} {A : Around} {E : Value → Shared → Prop} {s : Shared} {K : Frag} {x D : Addr} {ox : Obj} {od : Option Obj}
/-- the class of an exception's object, asked as an attribute: whatever its own dict holds -/
theorem class_found (hd : hasDictIn K D = true) (ha : findIn K (.ref D) "__class__" = some (some (.builtin "object.__class__")))
    (hn : specialIn K (.builtin "object.__class__") "__get__" = some (some (.builtin "getset_descriptor.__get__"))) (ht : takesIn K (.builtin "object.__class__") = some true) :
    findObj K D od "__class__" = some (.bind (.builtin "getset_descriptor.__get__") (.builtin "object.__class__")) := by
  obtain ⟨cd, hc, _⟩ := any_some hd
  simp [findObj, hc, ha, hn, ht]
theorem class_asked {Q : Option Value → Shared → Prop} (C : L2.ExcC K D) (X : K.In s.heap) (I : InstAt s.heap x ox D od) (h : Q (some (.ref D)) { s with toks := s.toks + 1 }) : wpAny (model prog w) A (getAttr? (.ref x) "__class__") Q E s := by
  obtain ⟨hga, hgt, hsub, hdct, ha, hn, htk, hm⟩ := C
  obtain ⟨hp, g, dr, t, os⟩ := s
  have LT := I.type (M := model prog w)
  have LG := looks_findIn (M := model prog w) X hga
  have LH := looks_findIn (M := model prog w) X hgt
  have LF := looks_find (M := model prog w) X I (class_found (od := od) hdct ha hn htk)
  have LS : Looks (model prog w) hp (isInstance (.ref x) (.type "BaseException")) true := LT.andThen (looks_subIn X hsub)
  have no1 : (onTheHeap (Value.ref D) && Value.builtin "BaseException.__getattribute__" == Value.builtin "object.__getattribute__") = false := by
    rw [show (Value.builtin "BaseException.__getattribute__" == Value.builtin "object.__getattribute__") = false by decide +kernel]; rfl
  unfold getAttr? getAttrBy? getAttrBy
  refine wpAny_bind (wpAny_mkText (wpAny_bind (wpAny_attempt (wpAny_holding (wpAny_bind (LT.at (wpAny_bind (LG.at ?_))))))))
  refine (show wpAny _ _ (if (onTheHeap (Value.ref D) && Value.builtin "BaseException.__getattribute__" == Value.builtin "object.__getattribute__") = true then _ else _) _ _ _ from ?_)
  rw [no1, if_neg Bool.false_ne_true]
  unfold getAttrByItsOwn hookBefore
  refine wpAny_bind ?_
  rw [if_pos (show onTheHeap (Value.ref D) = true from rfl)]
  refine LH.at (wpAny_bind (wpAny_attempt (wpAny_holding ?_)))
  unfold callGetattribute
  rw [show (false && onTheHeap (Value.builtin "BaseException.__getattribute__")) = false from rfl, if_neg Bool.false_ne_true]
  unfold boundAndCalled
  rw [PySem.F.excAttr_ValueError.ga.bind (.ref x)]
  refine wpAny_bind (wpAny_pure ?_)
  refine (show wpAny _ _ (call (.builtin "BaseException.__getattribute__") [.ref x, .str "__class__" t]) _ _ _ from ?_)
  refine wpAny_call (codeAny_call_builtin PySem.F.excAttr_ValueError.ga.plain PySem.F.entry_bexc_ga (@check_slot (model prog w) _ _ ⟨hp, g, dr, t + 1, os⟩ "BaseException.__getattribute__" "BaseException" "__getattribute__" (.ref x) [.str "__class__" t] [] _ (by decide +kernel) (by decide +kernel) LS (PySem.F.args_bexc_ga (.ref x) (.str "__class__" t)) ?_))
  unfold Builtin.«object.__getattribute__»
  refine wpAny_bind (wpAny_of_eq (a := ((Value.ref x : Value), [Value.str "__class__" t])) (by first | rfl | (simp only [slotArgs]; rfl)) (wpAny_bind (wpAny_pure (wpAny_bind (LT.at (wpAny_bind (LF.at ?_)))))))
  refine (show wpAny _ _ (holding [Value.builtin "object.__class__"] (call (.builtin "getset_descriptor.__get__") [.builtin "object.__class__", .ref x, .ref D]) >>= ret) _ _ _ from ?_)
  refine wpAny_bind (wpAny_holding (wpAny_call (class_get (s := ⟨hp, g, dr, t + 1, os⟩) (ox := ox) (od := od) X I hm (wpAny_pure ?_))))
  refine (show wpAny _ _ (handedOut (.ref D)) _ _ _ from ?_)
  rw [handedOut_of (v := .ref D) rfl]
  first
    | exact wpAny_pure (wpAny_pure h)
    | exact wpAny_pure h
    | exact wpAny_pure (wpAny_bind (wpAny_pure (wpAny_pure h)))
theorem cls_obj (hd : hasDictIn K D = true) : ∃ c d cd sl, K.lookup D = some ⟨c, d, .cls cd, sl⟩ := by
  obtain ⟨cdD, hcD, _⟩ := any_some hd
  unfold clsIn at hcD
  split at hcD
  · rename_i c d cd sl ho
    exact ⟨c, d, cd, sl, ho⟩
  · cases hcD
theorem kitx_bad (C : L2.ExcC K D) : KitX K (.ref x) (.ref D) (fun h => InstAt h x ox D od) where
  ty := fun _ _ _ I => I.type
  it := fun _ _ X _ => by
    obtain ⟨c, d, cd, sl, ho⟩ := cls_obj C.hd
    intro A' Q' E' s' k q
    unfold isType loadHead
    exact wpAny_bind (wpAny_loadPart (k _ _ (X _ _ ho)) (wpAny_pure q))
  ne := fun h tp dd its n sl X htp => by
    obtain ⟨c, d, cd, sl, ho⟩ := cls_obj C.hd
    refine Bool.eq_false_iff.mpr fun q => ?_
    have e : D = tp := Value.ref.inj (beq_iff_eq.mp q)
    subst e
    have z := (X _ _ ho).symm.trans htp
    cases z
  ca := fun X I k => class_asked C X I k
end
end PySem.BadX
namespace L2
open PySem PySem.Spec PyProof.Rows
/-- a tracked exception's own dict, if it has one -/
def DictOk (H : Hp) : Option Addr → Prop
  | none => True
  | some dd => ∃ fs, H dd = some (.xd fs)
theorem inst_bad {X : Cx} {pins : List (Addr × Obj)} {σ : St} {H : Hp} {s : Shared} {a D : Addr} {d : Option Addr} (I : Inv X pins σ H s) (e : H a = some (exH a (.ref D) d)) (hd : DictOk H d) : ∃ ox od, PySem.W.InstAt s.heap a ox D od := by
  obtain ⟨oe, h1, h2, vs, h3⟩ := exH_at I.hok e
  obtain ⟨oc, odd, oda, osl⟩ := oe
  obtain ⟨z1, z2⟩ := h2
  dsimp only at z1 z2 h3
  subst z1 z2 h3
  cases odd with
  | none => exact ⟨_, none, h1, rfl, rfl, trivial⟩
  | some dd =>
    obtain ⟨fs, hf⟩ := hd
    have hx : ObjOk X.prog X.w H s.heap dd (.xd fs) := I.hok dd _ hf
    obtain ⟨mA, hns, hr⟩ := hx
    obtain ⟨od, ho, hl⟩ := lookIn_ns hns
    exact ⟨_, some od, h1, rfl, rfl, ho⟩
/-- isinstance(e, c), e a tracked exception -/
def rIsX (K : PySem.W.Frag) : List V → Hp → VK → Prop := fun xs H Q => ∃ (a D : Addr) (d : Option Addr) (c : V) (cv : Value) (b : Bool), xs = [.ref a, c] ∧ ExcC K D ∧ H a = some (exH a (.ref D) d) ∧ DictOk H d ∧ ClsV c cv ∧ PySem.W.kitOne K (.ref D) cv = some b ∧ Q (.bl b) H
/-- isinstance(x, c), x a plain value or a tracked exception -/
def rIsXV (K : PySem.W.Frag) : List V → Hp → VK → Prop := fun xs H Q => rIsX K xs H Q ∨ rIsi K xs H Q
section
variable {X : Cx}
theorem call_isX : CallR X (.builtin "isinstance") (rIsX X.K) := by
  intro pins s σ H xs us Q I r h
  obtain ⟨a, D, d, c, cv, b, rfl, C, ea, hd, k, e, q⟩ := h
  obtain ⟨u1, u2, rfl, r1, r2⟩ := vals2 r
  cases r1
  have ec := k.eq r2
  subst ec
  obtain ⟨ox, od, J⟩ := inst_bad I ea hd
  exact PySem.W.kia_one (PySem.BadX.kitx_bad C) I.kIn J e (fun z => nomatch z) fun tk => ⟨.bl b, H, I.kept (t' := tk) fun _ _ z => z, rfl, q⟩
theorem call_isXV : CallR X (.builtin "isinstance") (rIsXV X.K) := by
  intro pins s σ H xs us Q I r h
  rcases h with h | h
  · exact call_isX pins s σ H xs us Q I r h
  · exact call_isi pins s σ H xs us Q I r h
/-- e.f, e a tracked exception -/
def tXa (K : PySem.W.Frag) (f : Str) (te : TE) : TE := fun σ H Q => te σ H fun x H1 => ∃ (a D dd : Addr) (fs : List (Str × V)) (v : V), x = .ref a ∧ XfC K D ∧ PySem.W.findIn K (.ref D) f = some none ∧ H1 a = some (exH a (.ref D) (some dd)) ∧ H1 dd = some (.xd fs) ∧ fs.lookup f = some v ∧ Q v H1
theorem pe_xa {e : Expr} {te : TE} {pos : Pos} {n : Str} (he : PE X e te) (hb : attributeBase e n X.env (eval e X.env) = eval e X.env := by rfl) : PE X (.Attribute e n pos) (tXa X.K n te) := by
  refine ⟨fun pins s σ H Q I h => ?_⟩
  refine attr_of hb (thn (he.run pins s σ H _ I h) fun u s1 hh => ?_)
  obtain ⟨x, H1, I1, rx, a, D, dd, fs, v, rfl, T, hno, ea, ed, l, q⟩ := hh
  obtain rfl : u = Value.ref a := rx
  obtain ⟨oe, h1, h2, vs, h3⟩ := exH_at I1.hok ea
  have hx : ObjOk X.prog X.w H1 s1.heap dd (.xd fs) := I1.hok dd _ ed
  obtain ⟨mA, hns, hr⟩ := hx
  obtain ⟨od, ho, hl⟩ := lookIn_ns hns
  obtain ⟨u, hu, ru⟩ := RelO.some_of (v := v) (o := mA n) (by rw [← l]; exact hr n)
  have J : PySem.W.InstAt s1.heap a oe D (some od) := ⟨h1, h2.1, by unfold PySem.W.notCls; rw [h3] <;> rfl, by rw [h2.2]; exact ho⟩
  exact HandSPX.exc_get I1.kIn J T.ga T.gg T.exC (PySem.W.findObj_own T.hdC hno rfl (by rw [hl, hu])) (handed_of ru) ⟨v, H1, I1.tok _, ru, q⟩
end
end L2

namespace G
open PySem PySem.Spec PyProof.Rows L2
abbrev s_is_places : Stmt := topS 12
theorem sc_is_places : FnScope ["value", "many", "item"] ["value", "many"] (defScope s_is_places) := ⟨rfl, rfl, rfl, by decide +kernel, rfl, by decide +kernel, by decide +kernel⟩
abbrev s_is_ways : Stmt := topS 13
theorem sc_is_ways : FnScope ["value", "many"] ["value", "many"] (defScope s_is_ways) := ⟨rfl, rfl, rfl, by decide +kernel, rfl, by decide +kernel, by decide +kernel⟩
abbrev s_is_row : Stmt := topS 14
theorem sc_is_row : FnScope ["value", "many", "player", "number", "ways"] ["value", "many"] (defScope s_is_row) := ⟨rfl, rfl, rfl, by decide +kernel, rfl, by decide +kernel, by decide +kernel⟩
abbrev s_check_game : Stmt := topS 16
theorem sc_check_game : FnScope ["game", "place", "row"] ["game"] (defScope s_check_game) := ⟨rfl, rfl, rfl, by decide +kernel, rfl, by decide +kernel, by decide +kernel⟩
/-! ### helpers: comprehensions that keep all, enumerate -/
theorem lc_pure {K : PySem.W.Frag} {a : Addr} {xs : List V} {g : TG} {te : TE} {vs : List Nat} {σ : L2.St} {H1 : Hp} {D : Addr} {Qd : Hp → Prop} (ys : List V) (hl : ys.length = xs.length) (hS : SqL K H1 a xs) (nD : H1 D = none) (hz : xs.length ≤ 1000)
    (hs : ∀ (i : Nat) (x y : V) (H : Hp) (Q : VK), xs[i]? = some x → ys[i]? = some y → Same H1 H → (∀ H', Same H H' → Q y H') → g x (wipe σ vs) H fun σ2 H2 => wipe σ2 vs = wipe σ vs ∧ te σ2 H2 Q)
    (hd : ∀ H, Same H1 H → H D = some (.lst ys) → Qd H) :
    ∃ W : Nat → Nat → Hp → Prop, (∃ m, W 0 m (upd H1 D (.lst []))) ∧ ∀ i m H, W i m H →
      ((Itl K a).stop i H ∧ Qd H) ∨ ((Itl K a).go i H ∧ ∃ Nx : Hp → Prop, (∀ H', Nx H' → ∃ m', m' < m ∧ W (i + 1) m' H') ∧ ∀ x H', (Itl K a).yld i H x H' → g x (wipe σ vs) H' fun σ2 H2 => wipe σ2 vs = wipe σ vs ∧ tYes σ2 H2 fun b H3 =>
        if b = true then te σ2 H3 fun y H4 => ∃ acc, H4 D = some (.lst acc) ∧ acc.length < sizeLine ∧ Nx (upd H4 D (.lst (acc ++ [y]))) else Nx H3) := by
  refine lc_list (K := K) (a := a) (xs := xs) (fun i H => Same H1 H ∧ H D = some (.lst (ys.take i))) ⟨same_upd nD, by rw [upd_same]; rfl⟩ (fun i H _ p => p.1.seq hS) (fun i x H hi p => ?_) (fun H p => hd H p.1 ?_)
  · have hlt : i < ys.length := by rw [hl]; exact (List.getElem?_eq_some_iff.mp hi).1
    refine hs i x ys[i] H _ hi (List.getElem?_eq_getElem hlt) p.1 (fun H' s => ⟨_, s _ _ p.2, ?_, fun b o e => ?_, ?_⟩)
    · rw [List.length_take]
      exact small1000 (Nat.le_trans (Nat.min_le_right _ _) (by omega))
    · rw [upd_ne (ne_of_none e nD)]
      exact s _ _ (p.1 _ _ e)
    · rw [upd_same, List.take_add_one, List.getElem?_eq_getElem hlt]
      rfl
  · have q := p.2
    rw [← hl, List.take_length] at q
    exact q
theorem for_enum {K : PySem.W.Frag} {a : Addr} {xs : List V} {g : TG} {tb : TS} {D : Ends} {σ : L2.St} {H : Hp} (Pv : Nat → L2.St → Hp → Prop) (h0 : Pv 0 σ H) (hl : ∀ i σ H, i ≤ xs.length → Pv i σ H → SqL K H a xs)
    (hs : ∀ i x T σ H, xs[i]? = some x → Pv i σ H → H T = none → g (.ref T) σ (upd H T (.tup [.int (i : Nat), x])) fun σ2 H2 => tb { D with nx := Pv (i + 1), ct := Pv (i + 1), bk := D.nx } σ2 H2) (hd : ∀ σ H, Pv xs.length σ H → D.nx σ H) :
    ∃ W : Nat → Nat → L2.St → Hp → Prop, (∃ m, W 0 m σ H) ∧ ∀ i m σ H, W i m σ H →
      ((Ite K a).stop i H ∧ D.nx σ H) ∨ ((Ite K a).go i H ∧ ∃ N : L2.St → Hp → Prop, (∀ σ' H', N σ' H' → ∃ m', m' < m ∧ W (i + 1) m' σ' H') ∧ ∀ x H', (Ite K a).yld i H x H' → g x σ H' fun σ2 H2 => tb { D with nx := N, ct := N, bk := D.nx } σ2 H2) := by
  refine ⟨fun i m σ H => m = xs.length - i ∧ i ≤ xs.length ∧ Pv i σ H, ⟨xs.length, by simp, Nat.zero_le _, h0⟩, fun i m σ H h => ?_⟩
  obtain ⟨rfl, hi, p⟩ := h
  have q := hl i σ H hi p
  by_cases hlt : i < xs.length
  · refine .inr ⟨⟨xs, xs[i], q, by simp [hlt]⟩, Pv (i + 1), fun σ' H' p' => ⟨xs.length - (i + 1), by omega, rfl, hlt, p'⟩, fun v H' y => ?_⟩
    obtain ⟨T, x, rfl, nT, rfl, y⟩ := y
    exact hs i x T σ H (y xs q) p nT
  · obtain rfl : i = xs.length := by omega
    exact .inl ⟨⟨xs, q, Nat.le_refl _⟩, hd σ H p⟩
/-! ### len(set(xs)) of ints -/
def uniqN (ns : List Int) : Nat := (PyProof.Rows.firstMet (fun i => ns.getD i 0) ns.length).length
theorem uniq_le (f : Nat → Int) : ∀ n, (PyProof.Rows.firstMet f n).length = n → PyProof.Rows.firstMet f n = (List.range n).map f ∧ ((List.range n).map f).Nodup
  | 0, _ => ⟨rfl, List.nodup_nil⟩
  | n + 1, h => by
    have hle := PyProof.Rows.firstMet_length_le f n
    rw [PyProof.Rows.firstMet_succ] at h ⊢
    have hd : PyProof.Rows.step_dedup (PyProof.Rows.firstMet f n) (f n) = if (PyProof.Rows.firstMet f n).any (· == f n) then PyProof.Rows.firstMet f n else PyProof.Rows.firstMet f n ++ [f n] := rfl
    rw [hd] at h ⊢
    cases ha : (PyProof.Rows.firstMet f n).any (· == f n) with
    | true =>
      rw [ha, if_pos rfl] at h
      omega
    | false =>
      rw [ha, if_neg Bool.false_ne_true, List.length_append, List.length_singleton] at h
      obtain ⟨e1, e2⟩ := uniq_le f n (by omega)
      rw [if_neg Bool.false_ne_true, List.range_succ, List.map_append, e1]
      refine ⟨rfl, List.nodup_append.mpr ⟨e2, by simp, fun x hx y hy => ?_⟩⟩
      rw [e1] at ha
      have hy' : y = f n := by simpa using hy
      intro z
      have : (List.map f (List.range n)).any (· == f n) = true := List.any_eq_true.mpr ⟨x, hx, by rw [z, hy']; exact beq_self_eq_true _⟩
      rw [ha] at this
      cases this
theorem uniq_iff (ns : List Int) : uniqN ns = ns.length ↔ ns.Nodup := by
  have e : (List.range ns.length).map (fun i => ns.getD i 0) = ns := by
    apply List.ext_getElem?
    intro i
    by_cases h : i < ns.length
    · simp [h]
    · simp [h]
  constructor
  · intro h
    have q := (uniq_le (fun i => ns.getD i 0) ns.length h).2
    rw [e] at q
    exact q
  · intro h
    unfold uniqN
    rw [RZ.firstMet_nodup h ns.length (Nat.le_refl _), List.take_length]
def tLenSetU (K : PySem.W.Frag) (ta : TE) : TE := fun σ H Q => ta σ H fun x H1 => ∃ (l : Addr) (ns : List Int), x = .ref l ∧ SqL K H1 l (ns.map V.int) ∧ ns.length ≤ 4000 ∧ Q (.int (uniqN ns : Nat)) H1
theorem pe_lenset {X : Cx} {a : Expr} {ta : TE} {p p2 q pos : Pos} (hg : Gl X "len") (hm : X.mg "len" = none) (hg2 : Gl X "set") (hm2 : X.mg "set" = none) (ha : PE X a ta) (hc : X.calm = true := by rfl)
    (na : starEach [a] X.env = (false, eval a X.env) :: starEach [] X.env := by rfl) : PE X (.Call (.Name "len" p) [.Call (.Name "set" p2) [a] [] q] [] pos) (tLenSetU X.K ta) := by
  refine ⟨fun pins s σ H Q I h => Call_ (ld_blt I hg hm boot_len (PyProof.Rows.callWith_builtin1 (PyProof.Rows.args_cons (Call_ (ld_blt I hg2 hm2 boot_set (PyProof.Rows.callWith_type1 (PyProof.Rows.args_cons (thn (ha.run pins s σ H _ I h) fun v s1 hv => PyProof.Rows.args_nil ?_) na) na rfl))) rfl) rfl rfl))⟩
  obtain ⟨x, H1, I1, r1, l, ns, rfl, hq, hl, q1⟩ := hv
  cases r1
  obtain ⟨its, r, pl, hz⟩ := I1.list hq
  have hlen : its.toArray.size = ns.length := by rw [List.size_toArray, ← r.length, List.length_map]
  refine call_set_list (I1.ok.hd hc) pl.isList (by simpa using RZ.intsAre_vals r) (by rw [hlen]; unfold scanBound; omega) fun h' tk hS hk => PyProof.Rows.args_nil ?_
  rw [hlen] at hS
  obtain ⟨o, es, ep, t, ho, hex, hd, _, _, _, hf, hn⟩ := hS
  have I2 : Inv X pins σ H1 { s1 with heap := h', toks := tk } := I1.kept fun b o e => hk b o (Heap.lt_size e) e
  have hu : (PyProof.Rows.firstMet (fun i => ns.getD i 0) ns.length).length ≤ ns.length := PyProof.Rows.firstMet_length_le _ _
  exact call_len_set ho hex hd hf (by rw [hn]; omega) ⟨.int (uniqN ns : Nat), H1, I2.tok _, ⟨_, by rw [hn]; rfl⟩, q1⟩
end G

namespace G
open PySem PySem.Spec PyProof.Rows L2
def toI : PyData → Int | .int i => i | _ => 0
def isPlaces (d : PyData) (m : Int) : Bool := match d with
  | .list ds => ds.all (fun e => isPlace e m) && decide ((ds.map toI).Nodup)
  | _ => false
def isWays (d : PyData) (m : Int) : Bool := match d with
  | .list ds => !ds.isEmpty && isPlaces (.list ds) m
  | _ => false
theorem list_or (d : PyData) : (∃ ds, d = .list ds) ∨ (isTy d "list" = false ∧ ∀ m, isPlaces d m = false) := by
  cases d with
  | list ds => exact .inl ⟨ds, rfl⟩
  | _ => exact .inr ⟨by unfold isTy; dsimp only [tyName]; decide +kernel, fun _ => rfl⟩
theorem isTy_list (ds : List PyData) : isTy (.list ds) "list" = true := by unfold isTy; dsimp only [tyName]; decide +kernel
theorem isTy_tuple (ds : List PyData) : isTy (.tuple ds) "tuple" = true := by unfold isTy; dsimp only [tyName]; decide +kernel
theorem place_int {d : PyData} {m : Int} (h : isPlace d m = true) : ∃ i, d = .int i ∧ 0 ≤ i ∧ i < m := by
  cases d with
  | int i =>
    have h' : (decide (0 ≤ i) && decide (i < m)) = true := h
    rw [Bool.and_eq_true, decide_eq_true_eq, decide_eq_true_eq] at h'
    exact ⟨i, rfl, h'.1, h'.2⟩
  | _ => cases h
theorem dp_ints {K : PySem.W.Frag} {H : Hp} {m : Int} : ∀ {ds : List PyData} {xs : List V}, DpAll K H xs ds → ds.all (fun e => isPlace e m) = true → xs = (ds.map toI).map V.int
  | [], _, .nil, _ => rfl
  | d :: ds, _, .cons h hs, e => by
    rw [List.all_cons, Bool.and_eq_true] at e
    obtain ⟨i, rfl, _⟩ := place_int e.1
    cases h
    rw [dp_ints hs e.2]
    rfl
theorem DpAll.getD {K : PySem.W.Frag} {H : Hp} {vs : List V} {ds : List PyData} {i : Nat} {v : V} {d : PyData} (h : DpAll K H vs ds) (e : vs[i]? = some v) (e2 : ds[i]? = some d) : Dp K H v d := by
  obtain ⟨d', q, r⟩ := DpAll.get h e
  rw [e2] at q
  cases q
  exact r
section
variable {P : Program} {w : World} {K : PySem.W.Frag} {mg : Str → Option Value} {base : Heap}
def spIsPlaces (K : PySem.W.Frag) : Sp := fun vs H Q _ => ∃ (v : V) (d : PyData) (m : Int), vs = [v, .int m] ∧ Dx K H v d ∧ (∀ ds, d = .list ds → ds.length ≤ 1000) ∧ ∀ H', Same H H' → Q (.bl (isPlaces d m)) H'
theorem ok_is_places {f : Addr} {fd : FuncData} (B : Bt mg) (F : Fun K "is_places" "is_places" s_is_places f fd) (C_is_place : Cal P w K mg base 2 "is_place" (spIsPlace K)) : FnOk P w K mg base (L2.CX P w) 3 f fd ["value", "many"] (spIsPlaces K) := by
  refine F.okX sc_is_places (fun vs H Q E h => ?_) (fun cdv A outer s H vs Q E hr h => ?_)
  · obtain ⟨v, d, m, rfl, _⟩ := h
    rfl
  · obtain ⟨v, d, m, rfl, hd, hz, q⟩ := h
    refine ⟨_, (pss_cons (ps_if (pt_not (pt_val (pe_callB call_isi (by rfl) B.isinstance_ (by decide +kernel) (pa_cons (pv 0) (pa_cons (pe_bltn (v := .ty "list") (u := .type "list") (by rfl) B.list_ (by decide +kernel) rfl) pa_nil))))) (pss_one (ps_ret pe_bl)) pss_nil)
      (pss_cons (ps_if (pt_not (pt_val (pe_callB (cr_all rfl) (by rfl) B.all_ (by decide +kernel) (pa_cons (pe_lc (own := [("item", 2)]) (by rfl) sc_is_places.nd (pi_list (pv 0)) (blkOk_by (own := [("item", 2)]) (N := ["value", "many", "item"]) (sc := defScope s_is_places) (by decide +kernel)) (fun _ _ _ _ _ => (pg_name (i := 2) sc_is_places.nd rfl (Or.inl rfl))) (fun _ _ _ _ _ => pts_nil) (fun _ _ _ _ _ => (pe_cal C_is_place hr (by decide) (by rfl) (pa_cons (pv 2) (pa_cons (pv 1) pa_nil))))) pa_nil)))) (pss_one (ps_ret pe_bl)) pss_nil)
      (pss_one (ps_ret (pe_cmpR op_eq (pe_lenset (by rfl) B.len_ (by rfl) B.set_ (pv 0)) (pe_callB call_len_seq (by rfl) B.len_ (by decide +kernel) (pa_cons (pv 0) pa_nil)) (nomark _)))))), ?_⟩
    refine ⟨_, rfl, _, _, _, _, _, rfl, .ty _, hd.ty, kit_ty (kit_list d), _, rfl, ?_⟩
    rcases list_or d with ⟨ds, rfl⟩ | ⟨e1, e2⟩
    · rw [isTy_list]
      obtain ⟨a, xs, rfl, hS, hA⟩ : ∃ a xs, v = .ref a ∧ SqL K H a xs ∧ DpAll K H xs ds := by
        cases hd with
        | of hd =>
          cases hd with
          | lst h1 h2 => exact ⟨_, _, rfl, h1, h2⟩
      have hlen := DpAll.len hA
      have hz' := hz ds rfl
      refine iteF ⟨_, rfl, a, rfl, ⟨_, hS⟩, fun D nD => lc_pure (ds.map fun e => V.bl (isPlace e m)) (by rw [List.length_map, hlen]) hS nD (by omega) (fun i x y H' Q' hx hy sm hQ => ?_) (fun H' sm hD => ?_)⟩
      · rw [List.getElem?_map] at hy
        obtain ⟨e', he, rfl⟩ := Option.map_eq_some_iff.mp hy
        refine ⟨rfl, _, rfl, _, rfl, _, _, _, rfl, .of (dp_mono sm _ _ (DpAll.getD hA hx he)), hQ _ (Same.refl _)⟩
      · refine ⟨D, ds.map (fun e => isPlace e m), rfl, .inl (.inl (by rw [hD, List.map_map]; rfl)), _, rfl, ?_⟩
        have eall : (ds.map (fun e => isPlace e m)).all id = ds.all (fun e => isPlace e m) := by rw [List.all_map]; rfl
        rw [eall]
        cases ha : ds.all (fun e => isPlace e m) with
        | false =>
          refine iteT ?_
          have e2 : isPlaces (.list ds) m = false := by
            show (ds.all (fun e => isPlace e m) && _) = false
            rw [ha, Bool.false_and]
          rw [e2] at q
          exact q _ sm
        | true =>
          have ex := dp_ints hA ha
          subst ex
          refine iteF ⟨_, rfl, a, _, rfl, sm.seq hS, (by rw [List.length_map]; omega), _, rfl, a, _, rfl, .inl (sm.seq hS), rfl, ?_⟩
          have e2 : isPlaces (.list ds) m = decide (V.int (uniqN (ds.map toI) : Nat) = V.int ((((ds.map toI).map V.int).length : Nat) : Int)) := by
            show (ds.all (fun e => isPlace e m) && decide ((ds.map toI).Nodup)) = _
            rw [ha, Bool.true_and]
            have hu := uniq_iff (ds.map toI)
            refine decide_eq_decide.mpr (hu.symm.trans ⟨fun e => ?_, fun e => ?_⟩)
            · rw [e, List.length_map, List.length_map, List.length_map]
            · have e' := V.int.inj e
              rw [List.length_map] at e'
              omega
          rw [e2] at q
          exact q _ sm
    · rw [e1]
      refine iteT ?_
      have q' := q _ (Same.refl _)
      rw [show isPlaces d m = false from e2 m] at q'
      exact q'
def spIsWays (K : PySem.W.Frag) : Sp := fun vs H Q _ => ∃ (v : V) (d : PyData) (m : Int), vs = [v, .int m] ∧ Dx K H v d ∧ (∀ ds, d = .list ds → ds.length ≤ 1000) ∧ ∀ H', Same H H' → Q (.bl (isWays d m)) H'
theorem ok_is_ways {f : Addr} {fd : FuncData} (B : Bt mg) (F : Fun K "is_ways" "is_ways" s_is_ways f fd) (C_is_places : Cal P w K mg base 3 "is_places" (spIsPlaces K)) : FnOk P w K mg base (L2.CX P w) 4 f fd ["value", "many"] (spIsWays K) := by
  refine F.okX sc_is_ways (fun vs H Q E h => ?_) (fun cdv A outer s H vs Q E hr h => ?_)
  · obtain ⟨v, d, m, rfl, _⟩ := h
    rfl
  · obtain ⟨v, d, m, rfl, hd, hz, q⟩ := h
    refine ⟨_, (pss_one (ps_ret (pe_and (pe_cal C_is_places hr (by decide) (by rfl) (pa_cons (pv 0) (pa_cons (pv 1) pa_nil))) (pe_one (pe_cmpR op_gt (pe_callB call_len_seq (by rfl) B.len_ (by decide +kernel) (pa_cons (pv 0) pa_nil)) pe_int (nomark _)))))), ?_⟩
    refine ⟨_, rfl, _, rfl, _, _, _, rfl, hd, hz, fun H' sm => ⟨_, rfl, ?_⟩⟩
    cases hb : isPlaces d m with
    | false =>
      refine iteF ?_
      have e : isWays d m = false := by
        cases d with
        | list ds =>
          show (!ds.isEmpty && isPlaces (.list ds) m) = false
          rw [hb, Bool.and_false]
        | _ => rfl
      rw [e] at q
      exact q _ sm
    | true =>
      rcases list_or d with ⟨ds, rfl⟩ | ⟨_, e2⟩
      · obtain ⟨a, xs, rfl, hS, hA⟩ : ∃ a xs, v = .ref a ∧ SqL K H a xs ∧ DpAll K H xs ds := by
          cases hd with
          | of hd =>
            cases hd with
            | lst h1 h2 => exact ⟨_, _, rfl, h1, h2⟩
        have hlen := DpAll.len hA
        refine iteT ⟨_, rfl, _, _, rfl, .inl (sm.seq hS), _, _, rfl, rfl, ?_⟩
        have e : isWays (.list ds) m = decide ((xs.length : Int) > 0) := by
          show (!ds.isEmpty && isPlaces (.list ds) m) = _
          rw [hb, Bool.and_true, hlen]
          cases ds with
          | nil => rfl
          | cons x l =>
            rw [decide_eq_true (by show (0 : Int) < ((x :: l).length : Int); rw [List.length_cons]; omega)]
            rfl
        rw [e] at q
        exact q _ sm
      · rw [show isPlaces d m = false from e2 m] at hb
        cases hb
end
end G

namespace G
open PySem PySem.Spec PyProof.Rows L2
def isRow (d : PyData) (m : Int) : Bool := match d with
  | .tuple [p, n, ws] => (isNum n && decide (0 ≤ toI n)) && (isPlayer p && isWays ws m)
  | _ => false
theorem tuple_or (d : PyData) : (∃ ds, d = .tuple ds) ∨ (isTy d "tuple" = false ∧ ∀ m, isRow d m = false) := by
  cases d with
  | tuple ds => exact .inl ⟨ds, rfl⟩
  | _ => exact .inr ⟨by unfold isTy; dsimp only [tyName]; decide +kernel, fun _ => rfl⟩
def szRow (d : PyData) : Prop := ∀ p n ws, d = .tuple [p, n, .list ws] → ws.length ≤ 1000
/-- the first place whose datum is none -/
def fb (p : Nat → PyData → Bool) : List PyData → Nat → Option Nat
  | [], _ => none
  | d :: ds, k => if p k d = true then fb p ds (k + 1) else some k
theorem fb_some {p : Nat → PyData → Bool} : ∀ {ds : List PyData} {k i : Nat} {d : PyData}, (∀ j e, j < i → ds[j]? = some e → p (k + j) e = true) → ds[i]? = some d → p (k + i) d = false → fb p ds k = some (k + i)
  | [], _, _, _, _, e, _ => by cases e
  | d0 :: ds, k, 0, d, _, e, h => by
    cases e
    unfold fb
    rw [if_neg (by rw [show p k d0 = false from h]; exact Bool.false_ne_true)]
    rfl
  | d0 :: ds, k, i + 1, d, hj, e, h => by
    have h0 : p k d0 = true := hj 0 d0 (Nat.succ_pos _) rfl
    unfold fb
    rw [if_pos h0, fb_some (k := k + 1) (i := i) (d := d) (fun j e' hlt he => by
      have := hj (j + 1) e' (Nat.succ_lt_succ hlt) he
      rw [show k + 1 + j = k + (j + 1) by omega]
      exact this) e (by rw [show k + 1 + i = k + (i + 1) by omega]; exact h)]
    rw [show k + 1 + i = k + (i + 1) by omega]
theorem fb_none {p : Nat → PyData → Bool} : ∀ {ds : List PyData} {k : Nat}, (∀ j e, ds[j]? = some e → p (k + j) e = true) → fb p ds k = none
  | [], _, _ => rfl
  | d0 :: ds, k, h => by
    unfold fb
    rw [if_pos (show p k d0 = true from h 0 d0 rfl)]
    exact fb_none fun j e he => by
      rw [show k + 1 + j = k + (j + 1) by omega]
      exact h (j + 1) e he
theorem fb_all {p : Nat → PyData → Bool} : ∀ {ds : List PyData} {k : Nat}, fb p ds k = none → ∀ j e, ds[j]? = some e → p (k + j) e = true
  | [], _, _, _, _, he => by cases he
  | d0 :: ds, k, h, j, e, he => by
    unfold fb at h
    cases hp : p k d0 with
    | false =>
      rw [hp, if_neg Bool.false_ne_true] at h
      cases h
    | true =>
      rw [hp, if_pos rfl] at h
      cases j with
      | zero =>
        cases he
        exact hp
      | succ j =>
        have := fb_all h j e he
        rw [show k + (j + 1) = k + 1 + j by omega]
        exact this
def gameErr (d : PyData) : Option (Option Nat) := match d with
  | .list ds => if 40 < ds.length then some none else (fb (fun _ r => isRow r ds.length) ds 0).map some
  | _ => some none
def szGame (d : PyData) : Prop := ∀ ds, d = .list ds → ds.length ≤ 1000 ∧ ∀ r ∈ ds, szRow r
def atV : Option Nat → V
  | none => .non
  | some i => .int (i : Int)
theorem list_orG (d : PyData) : (∃ ds, d = .list ds) ∨ (isTy d "list" = false ∧ gameErr d = some none) := by
  cases d with
  | list ds => exact .inl ⟨ds, rfl⟩
  | _ => exact .inr ⟨by unfold isTy; dsimp only [tyName]; decide +kernel, rfl⟩
/-- an own exception class without an __init__ of its own -/
structure PlainX (K : PySem.W.Frag) (mg : Str → Option Value) (x : Str) (C : Addr) : Prop where
  gC : mg x = some (.ref C)
  xC : PySem.W.excIn K C [.type "ValueError", .type "Exception", .type "BaseException", .type "object"] "ValueError.__new__" = true
  kC : PySem.W.keepIn K (.ref C) = true
  exC : PySem.W.subIn K (.ref C) (.type "BaseException") = some true
  tyC : PySem.W.typeIn K (.ref C) = some (.type "type")
section
variable {P : Program} {w : World} {K : PySem.W.Frag} {mg : Str → Option Value} {base : Heap}
def spIsRow (K : PySem.W.Frag) : Sp := fun vs H Q _ => ∃ (v : V) (d : PyData) (m : Int), vs = [v, .int m] ∧ Dx K H v d ∧ szRow d ∧ ∀ H', Same H H' → Q (.bl (isRow d m)) H'
theorem ok_is_row {f : Addr} {fd : FuncData} (B : Bt mg) (F : Fun K "is_row" "is_row" s_is_row f fd) (C_is_number : Cal P w K mg base 1 "is_number" (spIsNumber K)) (C_is_player : Cal P w K mg base 2 "is_player" (spIsPlayer K)) (C_is_ways : Cal P w K mg base 4 "is_ways" (spIsWays K)) :
    FnOk P w K mg base (L2.CX P w) 5 f fd ["value", "many"] (spIsRow K) := by
  refine F.okX sc_is_row (fun vs H Q E h => ?_) (fun cdv A outer s H vs Q E hr h => ?_)
  · obtain ⟨v, d, m, rfl, _⟩ := h
    rfl
  · obtain ⟨v, d, m, rfl, hd, hz, q⟩ := h
    refine ⟨_, (pss_cons (ps_if (PW.pt (pw_or (pt_not (pt_val (pe_callB call_isi (by rfl) B.isinstance_ (by decide +kernel) (pa_cons (pv 0) (pa_cons (pe_bltn (v := .ty "tuple") (u := .type "tuple") (by rfl) B.tuple_ (by decide +kernel) rfl) pa_nil))))) (pw_or1 (pt_cmpR op_ne (pe_callB call_len_seq (by rfl) B.len_ (by decide +kernel) (pa_cons (pv 0) pa_nil)) pe_int (nomark _))))) (pss_one (ps_ret pe_bl)) pss_nil)
      (pss_cons (ps_asg (pv 0) (pg_tup (by rfl) (pgs_cons (pg_name (i := 2) sc_is_row.nd rfl (Or.inl rfl)) (pgs_cons (pg_name (i := 3) sc_is_row.nd rfl (Or.inl rfl)) (pgs_cons (pg_name (i := 4) sc_is_row.nd rfl (Or.inl rfl)) pgs_nil)))))
      (pss_cons (ps_if (PW.pt (pw_or (pt_not (pt_val (pe_cal C_is_number hr (by decide) (by rfl) (pa_cons (pv 3) pa_nil)))) (pw_or1 (pt_cmpR op_lt (pv 3) pe_int (nomark _))))) (pss_one (ps_ret pe_bl)) pss_nil)
      (pss_one (ps_ret (pe_and (pe_cal C_is_player hr (by decide) (by rfl) (pa_cons (pv 2) pa_nil)) (pe_one (pe_cal C_is_ways hr (by decide) (by rfl) (pa_cons (pv 4) (pa_cons (pv 1) pa_nil)))))))))), ?_⟩
    refine ⟨_, rfl, _, _, _, _, _, rfl, .ty _, hd.ty, kit_ty (kit_tuple d), _, rfl, ?_⟩
    rcases tuple_or d with ⟨ds, rfl⟩ | ⟨e1, e2⟩
    · rw [isTy_tuple]
      obtain ⟨a, xs, rfl, hS, hA⟩ : ∃ a xs, v = .ref a ∧ SqT K H a xs ∧ DpAll K H xs ds := by
        cases hd with
        | of hd =>
          cases hd with
          | tup h1 h2 => exact ⟨_, _, rfl, h1, h2⟩
      have hlen := DpAll.len hA
      refine iteF ⟨_, rfl, _, _, rfl, .inr hS, rfl, _, rfl, ite2 (fun e => ?_) (fun e => ?_)⟩
      · have e0 : ds.length ≠ 3 := fun z => by
          rw [Bool.not_eq_true', decide_eq_false_iff_not] at e
          exact e (by rw [hlen, z]; rfl)
        have e3 : isRow (.tuple ds) m = false := by
          match ds, e0 with
          | [], _ => rfl
          | [_], _ => rfl
          | [_, _], _ => rfl
          | [_, _, _], h => exact absurd rfl h
          | _ :: _ :: _ :: _ :: _, _ => rfl
        have q' := q _ (Same.refl _)
        rw [e3] at q'
        exact q'
      · have e0 : (xs.length : Int) = 3 := by
          rw [Bool.not_eq_true', decide_eq_false_iff_not, Classical.not_not] at e
          exact V.int.inj e
        obtain ⟨p, n, ws, rfl⟩ : ∃ p n ws, ds = [p, n, ws] := by
          match ds, (show ds.length = 3 by omega) with
          | [p, n, ws], _ => exact ⟨p, n, ws, rfl⟩
        cases hA with
        | cons hp hA =>
        cases hA with
        | cons hn hA =>
        cases hA with
        | cons hw hA =>
        cases hA
        rename_i x0 x1 x2
        refine ⟨_, rfl, a, _, rfl, hS, rfl, _, _, rfl, _, _, rfl, _, _, rfl, rfl, ?_⟩
        refine ⟨_, rfl, _, _, rfl, .of hn, _, rfl, ?_⟩
        cases en : isNum n with
        | false =>
          refine iteT (iteT ?_)
          have e3 : isRow (.tuple [p, n, ws]) m = false := by
            show ((isNum n && _) && _) = false
            rw [en, Bool.false_and, Bool.false_and]
          have q' := q _ (Same.refl _)
          rw [e3] at q'
          exact q'
        | true =>
          obtain ⟨i, rfl, rfl⟩ := num_int (.of hn) en
          refine iteF ⟨_, rfl, i, 0, rfl, rfl, _, rfl, ite2 (fun e => ?_) (fun e => ?_)⟩
          · have h0 : i < 0 := of_decide_eq_true e
            have e3 : isRow (.tuple [p, .int i, ws]) m = false := by
              show ((true && decide (0 ≤ i)) && _) = false
              rw [decide_eq_false (by omega), Bool.and_false, Bool.false_and]
            have q' := q _ (Same.refl _)
            rw [e3] at q'
            exact q'
          · have h0 : 0 ≤ i := by
              rcases Int.lt_or_le i 0 with h | h
              · exact absurd (decide_eq_true h) e
              · exact h
            refine ⟨_, rfl, _, _, rfl, .of hp, fun H' sm => ⟨_, rfl, ?_⟩⟩
            have e3 : isRow (.tuple [p, .int i, ws]) m = (isPlayer p && isWays ws m) := by
              show ((true && decide (0 ≤ i)) && _) = _
              rw [decide_eq_true h0, Bool.true_and, Bool.true_and]
            rw [e3] at q
            cases ep : isPlayer p with
            | false =>
              rw [ep, Bool.false_and] at q
              exact iteF (q _ sm)
            | true =>
              rw [ep, Bool.true_and] at q
              exact iteT ⟨_, rfl, _, rfl, _, _, _, rfl, .of (dp_mono sm _ _ hw), fun ds' e' => hz p (.int i) ds' (by rw [e']), fun H'' sm' => q _ (sm.trans sm')⟩
    · rw [e1]
      refine iteT (iteT ?_)
      have q' := q _ (Same.refl _)
      rw [e2] at q'
      exact q'
def spCheckGame (K : PySem.W.Frag) (BG : Addr) : Sp := fun vs H Q E => ∃ (v : V) (d : PyData), vs = [v] ∧ Dx K H v d ∧ szGame d ∧ (gameErr d = none → ∀ H', Same H H' → Q .non H') ∧
  ∀ e, gameErr d = some e → ∀ H' dd, Same H H' → H dd = none → H' dd = some (.xd [(("at" : Str), atV e)]) → E (.ref BG) (some dd) H'
theorem ok_check_game {f BG fG : Addr} {fd : FuncData} {tk : Tok} (B : Bt mg) (T : PySem.BadX.BadTxt P K mg "BadGame" "BadGame.__init__" "no game (at: " ")" BG fG) (M_MOST_PLACES : mg "MOST_PLACES" = some (.int 40 tk)) (F : Fun K "check_game" "check_game" s_check_game f fd) (C_is_row : Cal P w K mg base 5 "is_row" (spIsRow K)) :
    FnOk P w K mg base (L2.CX P w) 6 f fd ["game"] (spCheckGame K BG) := by
  refine F.okX sc_check_game (fun vs H Q E h => ?_) (fun cdv A outer s H vs Q E hr h => ?_)
  · obtain ⟨v, d, rfl, _⟩ := h
    rfl
  · obtain ⟨v, d, rfl, hd, hz, q, qe⟩ := h
    refine ⟨_, (pss_cons (ps_if (PW.pt (pw_or (pt_not (pt_val (pe_callB call_isi (by rfl) B.isinstance_ (by decide +kernel) (pa_cons (pv 0) (pa_cons (pe_bltn (v := .ty "list") (u := .type "list") (by rfl) B.list_ (by decide +kernel) rfl) pa_nil))))) (pw_or1 (pt_cmpR op_gt (pe_callB call_len_seq (by rfl) B.len_ (by decide +kernel) (pa_cons (pv 0) pa_nil)) (pe_glob (v := .int 40) (by rfl) M_MOST_PLACES ⟨_, rfl⟩) (nomark _))))) (pss_one (ps_raiseBad rfl T hr (by decide) (takes_of rfl rfl rfl rfl) (pa_cons pe_non pa_nil))) pss_nil)
      (pss_one (ps_for (passes_of rfl) rfl (pi_enum (by rfl) B.enumerate_ (pa_cons (pv 0) pa_nil)) (pg_tup (by rfl) (pgs_cons (pg_name (i := 1) sc_check_game.nd rfl (Or.inl rfl)) (pgs_cons (pg_name (i := 2) sc_check_game.nd rfl (Or.inl rfl)) pgs_nil))) (pss_one (ps_if (pt_not (pt_val (pe_cal C_is_row hr (by decide) (by rfl) (pa_cons (pv 2) (pa_cons (pe_callB call_len_seq (by rfl) B.len_ (by decide +kernel) (pa_cons (pv 0) pa_nil)) pa_nil))))) (pss_one (ps_raiseBad rfl T hr (by decide) (takes_of rfl rfl rfl rfl) (pa_cons (pv 1) pa_nil))) pss_nil))))), ?_⟩
    refine ⟨_, rfl, _, _, _, _, _, rfl, .ty _, hd.ty, kit_ty (kit_list d), _, rfl, ?_⟩
    rcases list_orG d with ⟨ds, rfl⟩ | ⟨e1, e2⟩
    · rw [isTy_list]
      obtain ⟨a, xs, rfl, hS, hA⟩ : ∃ a xs, v = .ref a ∧ SqL K H a xs ∧ DpAll K H xs ds := by
        cases hd with
        | of hd =>
          cases hd with
          | lst h1 h2 => exact ⟨_, _, rfl, h1, h2⟩
      have hlen := DpAll.len hA
      obtain ⟨hz1, hz2⟩ := hz ds rfl
      refine iteF ⟨_, rfl, _, _, rfl, .inl hS, _, _, rfl, rfl, _, rfl, ite2 (fun e => ?_) (fun e => ?_)⟩
      · have e0 : (40 : Int) < (xs.length : Int) := of_decide_eq_true e
        have e2 : gameErr (.list ds) = some none := if_pos (by omega)
        exact ⟨_, rfl, .inl rfl, fun dd nd => qe none e2 _ dd (same_upd nd) nd upd_same⟩
      · have e0 : ds.length ≤ 40 := by
          have := of_decide_eq_false (eq_false_of_ne_true e)
          omega
        have e2 : gameErr (.list ds) = (fb (fun _ r => isRow r ds.length) ds 0).map some := if_neg (by omega)
        refine ⟨_, rfl, a, _, rfl, hS, for_enum (K := K) (a := a) (xs := xs) (fun i σ H' => ∃ y1 y2, σ = [some (.ref a), y1, y2] ∧ Same H H' ∧ ∀ j r, j < i → ds[j]? = some r → isRow r ds.length = true)
          ⟨none, none, rfl, Same.refl _, fun j r hj => absurd hj (Nat.not_lt_zero _)⟩ (fun i σ H' _ ⟨_, _, _, sm, _⟩ => sm.seq hS) (fun i x T' σ H' hi ⟨y1, y2, es, sm, ok⟩ nT => ?_) (fun σ H' ⟨y1, y2, es, sm, ok⟩ => ?_)⟩
        · subst es
          obtain ⟨r, hr', hdr⟩ := DpAll.get hA hi
          have sm1 : Same H (upd H' T' (.tup [.int (i : Nat), x])) := sm.trans (same_upd nT)
          refine ⟨T', _, rfl, .inl (.inl upd_same), rfl, _, _, rfl, _, _, rfl, rfl, ?_⟩
          refine ⟨_, rfl, _, rfl, _, _, rfl, .inl (sm1.seq hS), _, _, _, rfl, .of (dp_mono sm1 _ _ hdr), hz2 r (List.mem_of_getElem? hr'), fun H2 sm2 => ⟨_, rfl, ?_⟩⟩
          rw [hlen]
          cases hrow : isRow r ds.length with
          | true =>
            refine iteF ⟨_, _, rfl, sm1.trans sm2, fun j r' hj hr2 => ?_⟩
            by_cases hji : j < i
            · exact ok j r' hji hr2
            · obtain rfl : j = i := by omega
              rw [hr'] at hr2
              cases hr2
              exact hrow
          | false =>
            have hlt : i < ds.length := (List.getElem?_eq_some_iff.mp hr').1
            have e3 : gameErr (.list ds) = some (some i) := by
              rw [e2, fb_some (k := 0) (i := i) (d := r) (fun j e' hj he => ok j e' hj he) hr' hrow, Nat.zero_add]
              rfl
            refine iteT ⟨_, rfl, _, rfl, .inr ⟨i, rfl, by omega⟩, fun dd nd => ?_⟩
            have sm3 := sm1.trans sm2
            exact qe (some i) e3 _ dd (sm3.trans (same_upd nd)) (Same.free sm3 nd) upd_same
        · subst es
          rw [hlen] at ok
          refine q ?_ _ sm
          rw [e2, fb_none (fun j e' he => ok j e' (List.getElem?_eq_some_iff.mp he).1 he)]
          rfl
    · rw [e1]
      exact iteT (iteT ⟨_, rfl, .inl rfl, fun dd nd => qe none e2 _ dd (same_upd nd) nd upd_same⟩)
end
end G

namespace G
open PySem PySem.Spec PyProof.Rows L2
/-! ### games as plain rows -/
structure Row where
  p : Int
  n : Int
  ws : List Int
  deriving DecidableEq
def rowD (r : Row) : PyData := .tuple [.int r.p, .int r.n, .list (r.ws.map .int)]
def gameD (g : List Row) : PyData := .list (g.map rowD)
def intsD (ns : List Int) : PyData := .list (ns.map .int)
def ValidR (r : Row) (m : Int) : Prop := (r.p = 0 ∨ r.p = 1) ∧ 0 ≤ r.n ∧ r.ws ≠ [] ∧ (∀ x ∈ r.ws, 0 ≤ x ∧ x < m) ∧ r.ws.Nodup
def ValidG (g : List Row) : Prop := g.length ≤ 40 ∧ ∀ r ∈ g, ValidR r (g.length : Int)
theorem ints_of_places {m : Int} : ∀ {ds : List PyData}, ds.all (fun e => isPlace e m) = true → ds = (ds.map toI).map .int
  | [], _ => rfl
  | d :: ds, e => by
    rw [List.all_cons, Bool.and_eq_true] at e
    obtain ⟨i, rfl, _⟩ := place_int e.1
    have ih := ints_of_places e.2
    show _ = PyData.int i :: (ds.map toI).map .int
    rw [← ih]
theorem all_ints {m : Int} (ns : List Int) : (ns.map PyData.int).all (fun e => isPlace e m) = true ↔ ∀ x ∈ ns, 0 ≤ x ∧ x < m := by
  rw [List.all_map, List.all_eq_true]
  refine ⟨fun h x hx => ?_, fun h x hx => ?_⟩
  · have := h x hx
    have h' : (decide (0 ≤ x) && decide (x < m)) = true := this
    rwa [Bool.and_eq_true, decide_eq_true_eq, decide_eq_true_eq] at h'
  · show (decide (0 ≤ x) && decide (x < m)) = true
    obtain ⟨h1, h2⟩ := h x hx
    rw [decide_eq_true h1, decide_eq_true h2]; rfl
theorem map_toI (ns : List Int) : (ns.map PyData.int).map toI = ns := by
  rw [List.map_map]
  exact List.map_id _
theorem isRow_row (r : Row) (m : Int) : isRow (rowD r) m = true ↔ ValidR r m := by
  show ((true && decide (0 ≤ r.n)) && ((decide (r.p = 0) || decide (r.p = 1)) && (!(r.ws.map PyData.int).isEmpty && ((r.ws.map PyData.int).all (fun e => isPlace e m) && decide (((r.ws.map PyData.int).map toI).Nodup))))) = true ↔ _
  rw [map_toI, Bool.true_and, Bool.and_eq_true, Bool.and_eq_true, Bool.or_eq_true, Bool.and_eq_true, Bool.and_eq_true, all_ints, decide_eq_true_eq, decide_eq_true_eq, decide_eq_true_eq, decide_eq_true_eq]
  have e1 : (!(r.ws.map PyData.int).isEmpty) = true ↔ r.ws ≠ [] := by
    cases r.ws <;> simp
  rw [e1]
  unfold ValidR
  constructor
  · rintro ⟨a, b, c, d, e⟩; exact ⟨b, a, c, d, e⟩
  · rintro ⟨a, b, c, d, e⟩; exact ⟨b, a, c, d, e⟩
theorem row_of {d : PyData} {m : Int} (h : isRow d m = true) : ∃ r, d = rowD r ∧ ValidR r m := by
  match d, h with
  | .tuple [p, n, ws], h =>
    have h0 := h
    have h' : ((isNum n && decide (0 ≤ toI n)) && (isPlayer p && isWays ws m)) = true := h
    rw [Bool.and_eq_true, Bool.and_eq_true, Bool.and_eq_true] at h'
    obtain ⟨⟨h1, _⟩, h3, h4⟩ := h'
    match n, h1 with
    | .int n, _ =>
      match p, h3 with
      | .int p, _ =>
        match ws, h4 with
        | .list ds, h4 =>
          have h5 : (!ds.isEmpty && (ds.all (fun e => isPlace e m) && decide ((ds.map toI).Nodup))) = true := h4
          rw [Bool.and_eq_true, Bool.and_eq_true] at h5
          have e : PyData.tuple [.int p, .int n, .list ds] = rowD ⟨p, n, ds.map toI⟩ := by
            unfold rowD
            rw [← ints_of_places h5.2.1]
          rw [e] at h0 ⊢
          exact ⟨_, rfl, (isRow_row _ _).mp h0⟩
theorem game_of {d : PyData} (h : gameErr d = none) : ∃ g, d = gameD g ∧ ValidG g := by
  match d, h with
  | .list ds, h =>
    have h' : (if 40 < ds.length then some none else (fb (fun _ r => isRow r ds.length) ds 0).map some) = none := h
    by_cases hl : 40 < ds.length
    · rw [if_pos hl] at h'
      cases h'
    · rw [if_neg hl] at h'
      have h2 : fb (fun _ r => isRow r ds.length) ds 0 = none := by
        cases e : fb (fun _ r => isRow r ds.length) ds 0 with
        | none => rfl
        | some x =>
          rw [e] at h'
          cases h'
      have h3 := fb_all h2
      have key : ∀ (es : List PyData), (∀ e ∈ es, isRow e (ds.length : Int) = true) → ∃ g : List Row, es = g.map rowD ∧ ∀ r ∈ g, ValidR r (ds.length : Int) := by
        intro es
        induction es with
        | nil => exact fun _ => ⟨[], rfl, fun r hr => by cases hr⟩
        | cons e es ih =>
          intro he
          obtain ⟨r, hr, vr⟩ := row_of (he e List.mem_cons_self)
          obtain ⟨g, hg, vg⟩ := ih fun e' he' => he e' (List.mem_cons_of_mem _ he')
          refine ⟨r :: g, by rw [hr, hg]; rfl, fun r' hr' => ?_⟩
          rcases List.mem_cons.mp hr' with z | z
          · rw [z]; exact vr
          · exact vg r' z
      obtain ⟨g, hg, vg⟩ := key ds fun e he => by
        obtain ⟨j, hj⟩ := List.mem_iff_getElem?.mp he
        exact h3 j e hj
      have hlen : ds.length = g.length := by rw [hg, List.length_map]
      refine ⟨g, by rw [hg]; rfl, by omega, fun r hr => by rw [← hlen]; exact vg r hr⟩
theorem gameErr_valid {g : List Row} (h : ValidG g) : gameErr (gameD g) = none := by
  show (if 40 < (g.map rowD).length then some none else (fb (fun _ r => isRow r ((g.map rowD).length : Int)) (g.map rowD) 0).map some) = none
  rw [List.length_map, if_neg (by have := h.1; omega), fb_none (fun j e he => ?_)]
  · rfl
  · rw [List.getElem?_map] at he
    obtain ⟨r, hr, rfl⟩ := Option.map_eq_some_iff.mp he
    exact (isRow_row _ _).mpr (h.2 r (List.mem_of_getElem? hr))
theorem szGame_game {g : List Row} (h : ValidG g) (hw : ∀ r ∈ g, r.ws.length ≤ 1000) : szGame (gameD g) := fun ds e => by
  have e' : g.map rowD = ds := PyData.list.inj e
  subst e'
  refine ⟨by rw [List.length_map]; have := h.1; omega, fun r hr p n ws er => ?_⟩
  obtain ⟨r0, hr0, rfl⟩ := List.mem_map.mp hr
  have e2 := PyData.tuple.inj er
  have e3 := PyData.list.inj (List.cons.inj (List.cons.inj (List.cons.inj e2).2).2).1
  rw [← e3, List.length_map]
  exact hw r0 hr0
theorem pigeon : ∀ (n : Nat) (l : List Int), l.Nodup → (∀ x ∈ l, 0 ≤ x ∧ x < (n : Int)) → l.length ≤ n
  | 0, [], _, _ => Nat.le_refl _
  | 0, x :: _, _, h => by
    have := h x List.mem_cons_self
    omega
  | n + 1, l, hN, h => by
    have hN' : (l.erase (n : Int)).Nodup := hN.erase _
    have h' : ∀ x ∈ l.erase (n : Int), 0 ≤ x ∧ x < (n : Int) := fun x hx => by
      obtain ⟨h1, h2⟩ := (hN.mem_erase_iff).mp hx
      have := h x h2
      exact ⟨this.1, by omega⟩
    have ih := pigeon n _ hN' h'
    have hl : l.length ≤ (l.erase (n : Int)).length + 1 := by
      rw [List.length_erase]
      split <;> omega
    omega
theorem ValidR.len {r : Row} {m : Nat} (h : ValidR r (m : Int)) : r.ws.length ≤ m := pigeon m r.ws h.2.2.2.2 h.2.2.2.1
theorem ValidG.sz {g : List Row} (h : ValidG g) : szGame (gameD g) := szGame_game h fun r hr => Nat.le_trans (h.2 r hr).len (by have := h.1; omega)
/-! ### reading a game -/
theorem dpa_ints {K : PySem.W.Frag} {H : Hp} : ∀ {ns : List Int} {xs : List V}, DpAll K H xs (ns.map .int) → xs = ns.map V.int
  | [], _, .nil => rfl
  | n :: ns, _, .cons h hs => by
    cases h
    rw [dpa_ints hs]
    rfl
theorem dpa_ints' {K : PySem.W.Frag} {H : Hp} : ∀ (ns : List Int), DpAll K H (ns.map V.int) (ns.map .int)
  | [] => .nil
  | n :: ns => .cons (.int n) (dpa_ints' ns)
theorem dp_intsD {K : PySem.W.Frag} {H : Hp} {v : V} {ns : List Int} (h : Dp K H v (intsD ns)) : ∃ a, v = .ref a ∧ SqL K H a (ns.map V.int) := by
  cases h with
  | lst h1 h2 =>
    have := dpa_ints h2
    subst this
    exact ⟨_, rfl, h1⟩
theorem dp_row {K : PySem.W.Frag} {H : Hp} {v : V} {r : Row} (h : Dp K H v (rowD r)) : ∃ t w, v = .ref t ∧ SqT K H t [.int r.p, .int r.n, .ref w] ∧ SqL K H w (r.ws.map V.int) := by
  cases h with
  | tup h1 h2 =>
    cases h2 with
    | cons a h2 =>
    cases h2 with
    | cons b h2 =>
    cases h2 with
    | cons c h2 =>
    cases h2
    cases a
    cases b
    obtain ⟨w, rfl, hw⟩ := dp_intsD c
    exact ⟨_, w, rfl, h1, hw⟩
theorem dp_game {K : PySem.W.Frag} {H : Hp} {v : V} {g : List Row} (h : Dp K H v (gameD g)) : ∃ a xs, v = .ref a ∧ SqL K H a xs ∧ xs.length = g.length ∧ ∀ (i : Nat) (r : Row), g[i]? = some r → ∃ t w, xs[i]? = some (.ref t) ∧ SqT K H t [.int r.p, .int r.n, .ref w] ∧ SqL K H w (r.ws.map V.int) := by
  cases h with
  | lst h1 h2 =>
    rename_i a xs
    have hl := DpAll.len h2
    rw [List.length_map] at hl
    refine ⟨a, xs, rfl, h1, hl, fun i r hr => ?_⟩
    have hlt : i < xs.length := by rw [hl]; exact (List.getElem?_eq_some_iff.mp hr).1
    have hx : xs[i]? = some xs[i] := List.getElem?_eq_getElem hlt
    have hd := DpAll.getD h2 hx (d := rowD r) (by rw [List.getElem?_map, hr]; rfl)
    obtain ⟨t, w, e, p⟩ := dp_row hd
    exact ⟨t, w, by rw [hx, e], p⟩
theorem inV_int (x : Int) (ns : List Int) : inV (.int x) (ns.map V.int) = decide (x ∈ ns) := by
  unfold inV
  rw [List.any_map]
  show (ns.any fun y => y == x) = _
  rw [Bool.eq_iff_iff, List.any_eq_true, decide_eq_true_eq]
  constructor
  · rintro ⟨y, hy, e⟩
    rw [beq_iff_eq] at e
    rw [← e]; exact hy
  · intro h
    exact ⟨x, h, beq_self_eq_true _⟩
theorem flat_ints (ns : List Int) : (ns.map V.int).all flatV = true := by
  rw [List.all_map]
  exact List.all_eq_true.mpr fun _ _ => rfl
end G

namespace G
open PySem PySem.Spec PyProof.Rows L2
/-! ### rules within a comprehension's block -/
section
variable {X : Cx} {K : PySem.W.Frag}
theorem kr_ix_list (h : X.K = K) : IxR X (rIxL K) := h ▸ ix_list
theorem kr_ix_tup (h : X.K = K) : IxR X (rIxT K) := h ▸ ix_tup
theorem kr_op_in_seq (h : X.K = K) : OpR X (compareOp .In) (rIn K false) := h ▸ op_in_seq
theorem kr_op_notIn_seq (h : X.K = K) : OpR X (compareOp .NotIn) (rIn K true) := h ▸ op_notIn_seq
theorem kr_call_isi (h : X.K = K) : CallR X (.builtin "isinstance") (rIsi K) := h ▸ call_isi
end
def numAt (g : List Row) (x : Int) : Int := ((g[x.toNat]?).map Row.n).getD 0
def maxL : List Int → Int
  | [] => 0
  | [x] => x
  | x :: y :: r => if maxL (y :: r) ≤ x then x else maxL (y :: r)
theorem maxL_spec : ∀ {l : List Int}, l ≠ [] → maxL l ∈ l ∧ ∀ y ∈ l, y ≤ maxL l
  | [], h => absurd rfl h
  | [x], _ => ⟨List.mem_cons_self, fun y hy => by
    have : y = x := by simpa using hy
    rw [this]; exact Int.le_refl _⟩
  | x :: y :: r, _ => by
    obtain ⟨h1, h2⟩ := maxL_spec (l := y :: r) (by simp)
    show (if maxL (y :: r) ≤ x then x else maxL (y :: r)) ∈ x :: y :: r ∧ _
    have e : maxL (x :: y :: r) = if maxL (y :: r) ≤ x then x else maxL (y :: r) := rfl
    rw [e]
    by_cases hc : maxL (y :: r) ≤ x
    · rw [if_pos hc]
      refine ⟨List.mem_cons_self, fun z hz => ?_⟩
      rcases List.mem_cons.mp hz with q | q
      · rw [q]; exact Int.le_refl _
      · exact Int.le_trans (h2 z q) hc
    · rw [if_neg hc]
      refine ⟨List.mem_cons_of_mem _ h1, fun z hz => ?_⟩
      rcases List.mem_cons.mp hz with q | q
      · rw [q]; omega
      · exact h2 z q
theorem maxL_eq {l : List Int} {m : Int} (h1 : m ∈ l) (h2 : ∀ y ∈ l, y ≤ m) : m = maxL l := by
  obtain ⟨a, b⟩ := maxL_spec (l := l) (fun e => by rw [e] at h1; cases h1)
  exact Int.le_antisymm (b m h1) (h2 _ a)
theorem nodup_snoc {l : List Int} {x : Int} (h : l.Nodup) (hx : x ∉ l) : (l ++ [x]).Nodup :=
  List.nodup_append.mpr ⟨h, by simp, fun a ha b hb e => hx (by
    have : b = x := by simpa using hb
    rw [← this, ← e]; exact ha)⟩
theorem atI_int {α : Type} {xs : List α} {i : Int} {v : α} (h0 : 0 ≤ i) (h : xs[i.toNat]? = some v) : atI xs i = some v := by
  have e : i = (i.toNat : Int) := by omega
  rw [e]
  exact atI_nat h
theorem cut_to (xs : List V) {j : Nat} (h : j ≤ xs.length) : cutV xs none (some (j : Int)) = xs.take j := by
  unfold cutV
  rw [HT.sIx_none, HT.sIx_nat, List.drop_zero, Nat.sub_zero, Nat.min_eq_left h]
theorem cut_from (xs : List V) {j : Nat} (h : j ≤ xs.length) : cutV xs (some (j : Int)) none = xs.drop j := by
  unfold cutV
  rw [HT.sIx_none, HT.sIx_nat, Nat.min_eq_left h]
  exact List.take_of_length_le (by rw [List.length_drop]; omega)
structure Ads where
  BadGame : Addr
  BadSteps : Addr
  BadPlace : Addr
  BadPlayer : Addr
  TooMany : Addr
  GongError : Addr
section
variable {P : Program} {w : World} {K : PySem.W.Frag} {mg : Str → Option Value} {base : Heap}
/-- a def that may raise, called where its exception leaves the caller too -/
theorem pe_calX {X : Cx} {k j : Nat} {x : Str} {sp : Sp} {E : XK} {p pos : Pos} {e : Expr} {es : List Expr} {t : TA} (c : Cal X.prog X.w X.K X.mg X.base k x sp) (hr : Room j X.A) (hk : k ≤ j) (tk : Takes X (fun cls d _ H => E cls d H)) (hg : Gl X x) (ha : PA X (e :: es) t)
    (hdb : (x == ("__debug__" : Str)) = false := by decide) (he : starEach (e :: es) X.env = (false, eval e X.env) :: starEach es X.env := by rfl) (hpl : (backTo pos (starEach es X.env)).any (·.1) = false := by rfl) :
    PE X (.Call (.Name x p) (e :: es) [] pos) (tCall sp [] E t) := by
  obtain ⟨f, fd, ps, F, hm, kp, b⟩ := c.ex
  exact pe_call F (hr.mono hk) hg hm kp b .nil (passes_call tk fun _ _ _ _ h => h) ha hdb he hpl
/-- what the three walks ask of a game, steps and a place, and how they refuse -/
def EBad (H : Hp) (C : Addr) (e : Option Nat) (E : XK) : Prop := ∀ H' dd, Same H H' → H dd = none → H' dd = some (.xd [(("at" : Str), atV e)]) → E (.ref C) (some dd) H'
theorem EBad.mono {H H1 : Hp} {C : Addr} {e : Option Nat} {E : XK} (h : EBad H C e E) (s : Same H H1) : EBad H1 C e E := fun H' dd s' nd hd => h H' dd (s.trans s') (Same.free s nd) hd
end
theorem numAt_of {g : List Row} {x : Int} {r : Row} (h : g[x.toNat]? = some r) : numAt g x = r.n := by unfold numAt; rw [h]; rfl
end G

namespace G
open PySem PySem.Spec PyProof.Rows L2
abbrev s_check_many_steps : Stmt := topS 18
theorem sc_check_many_steps : FnScope ["game", "steps"] ["game", "steps"] (defScope s_check_many_steps) := ⟨rfl, rfl, rfl, by decide +kernel, rfl, by decide +kernel, by decide +kernel⟩
abbrev s_is_step : Stmt := topS 15
theorem sc_is_step : FnScope ["value", "row"] ["value", "row"] (defScope s_is_step) := ⟨rfl, rfl, rfl, by decide +kernel, rfl, by decide +kernel, by decide +kernel⟩
abbrev s_check_steps : Stmt := topS 19
theorem sc_check_steps : FnScope ["game", "steps", "place", "step"] ["game", "steps"] (defScope s_check_steps) := ⟨rfl, rfl, rfl, by decide +kernel, rfl, by decide +kernel, by decide +kernel⟩
abbrev s_check_place : Stmt := topS 17
theorem sc_check_place : FnScope ["game", "place"] ["game", "place"] (defScope s_check_place) := ⟨rfl, rfl, rfl, by decide +kernel, rfl, by decide +kernel, by decide +kernel⟩
/-! ### steps -/
def wsAt (g : List Row) (i : Nat) : List Int := ((g[i]?).map Row.ws).getD []
def stepOk (g : List Row) (i : Nat) (d : PyData) : Bool := match d with | .int s => decide (s ∈ wsAt g i) | _ => false
def stepsErr (g : List Row) (d : PyData) : Option (Option Nat) := match d with
  | .list ds => if ds.length ≠ g.length then some none else (fb (stepOk g) ds 0).map some
  | _ => some none
theorem list_orS (g : List Row) (d : PyData) : (∃ ds, d = .list ds) ∨ (isTy d "list" = false ∧ stepsErr g d = some none) := by
  cases d with
  | list ds => exact .inl ⟨ds, rfl⟩
  | _ => exact .inr ⟨by unfold isTy; dsimp only [tyName]; decide +kernel, rfl⟩
section
variable {P : Program} {w : World} {K : PySem.W.Frag} {mg : Str → Option Value} {base : Heap}
def spCheckSteps (K : PySem.W.Frag) (BS : Addr) : Sp := fun vs H Q E => ∃ (vg v : V) (g : List Row) (d : PyData), vs = [vg, v] ∧ Dp K H vg (gameD g) ∧ g.length ≤ 40 ∧ Dx K H v d ∧ (stepsErr g d = none → ∀ H', Same H H' → Q .non H') ∧
  ∀ e, stepsErr g d = some e → EBad H BS e E
def spManySteps (K : PySem.W.Frag) (BS : Addr) : Sp := fun vs H Q E => ∃ (vg v : V) (g : List Row) (d : PyData), vs = [vg, v] ∧ Dp K H vg (gameD g) ∧ Dx K H v d ∧ ((∃ ds, d = .list ds ∧ ds.length = g.length) → Q .non H) ∧ ((∀ ds, d = .list ds → ds.length ≠ g.length) → EBad H BS none E)
theorem ok_check_many_steps {f BS fS : Addr} {fd : FuncData} (B : Bt mg) (T : PySem.BadX.BadTxt P K mg "BadSteps" "BadSteps.__init__" "no steps for this game (at: " ")" BS fS) (F : Fun K "check_many_steps" "check_many_steps" s_check_many_steps f fd) :
    FnOk P w K mg base (L2.CX P w) 5 f fd ["game", "steps"] (spManySteps K BS) := by
  refine F.okX sc_check_many_steps (fun vs H Q E h => ?_) (fun cdv A outer s H vs Q E hr h => ?_)
  · obtain ⟨vg, v, g, d, rfl, _⟩ := h
    rfl
  · obtain ⟨vg, v, g, d, rfl, hg, hd, q, qe⟩ := h
    refine ⟨_, (pss_one (ps_if (PW.pt (pw_or (pt_not (pt_val (pe_callB call_isi (by rfl) B.isinstance_ (by decide +kernel) (pa_cons (pv 1) (pa_cons (pe_bltn (v := .ty "list") (u := .type "list") (by rfl) B.list_ (by decide +kernel) rfl) pa_nil))))) (pw_or1 (pt_cmpR op_ne (pe_callB call_len_seq (by rfl) B.len_ (by decide +kernel) (pa_cons (pv 1) pa_nil)) (pe_callB call_len_seq (by rfl) B.len_ (by decide +kernel) (pa_cons (pv 0) pa_nil)) (nomark _))))) (pss_one (ps_raiseBad rfl T hr (by decide) (takes_of rfl rfl rfl rfl) (pa_cons pe_non pa_nil))) pss_nil)), ?_⟩
    obtain ⟨ag, xg, rfl, hG, hGl, hGr⟩ := dp_game hg
    refine ⟨_, rfl, _, _, _, _, _, rfl, .ty _, hd.ty, kit_ty (kit_list d), _, rfl, ?_⟩
    rcases list_orS g d with ⟨ds, rfl⟩ | ⟨e1, e2⟩
    · rw [isTy_list]
      obtain ⟨a, xs, rfl, hS, hA⟩ : ∃ a xs, v = .ref a ∧ SqL K H a xs ∧ DpAll K H xs ds := by
        cases hd with
        | of hd =>
          cases hd with
          | lst h1 h2 => exact ⟨_, _, rfl, h1, h2⟩
      have hlen := DpAll.len hA
      refine iteF ⟨_, rfl, _, _, rfl, .inl hS, _, rfl, _, _, rfl, .inl hG, rfl, _, rfl, ite2 (fun e => ?_) (fun e => ?_)⟩
      · have e0 : ds.length ≠ g.length := fun z => by
          rw [Bool.not_eq_true', decide_eq_false_iff_not] at e
          exact e (by rw [hlen, z, hGl])
        exact ⟨_, rfl, .inl rfl, fun dd nd => qe (fun ds' e' => by cases e'; exact e0) _ dd (same_upd nd) nd upd_same⟩
      · have e0 : ds.length = g.length := by
          rw [Bool.not_eq_true', decide_eq_false_iff_not, Classical.not_not] at e
          have := V.int.inj e
          omega
        exact q ⟨ds, rfl, e0⟩
    · rw [e1]
      refine iteT (iteT ⟨_, rfl, .inl rfl, fun dd nd => qe (fun ds' e' => ?_) _ dd (same_upd nd) nd upd_same⟩)
      rw [e', isTy_list] at e1
      cases e1
def stepIn (r : Row) (d : PyData) : Bool := match d with | .int s => decide (s ∈ r.ws) | _ => false
theorem stepIn_at {g : List Row} {i : Nat} {r : Row} {d : PyData} (h : g[i]? = some r) : stepIn r d = stepOk g i d := by
  cases d with
  | int s =>
    show decide (s ∈ r.ws) = decide (s ∈ wsAt g i)
    unfold wsAt
    rw [h]
    rfl
  | _ => rfl
def spIsStep (K : PySem.W.Frag) : Sp := fun vs H Q _ => ∃ (v vr : V) (d : PyData) (r : Row), vs = [v, vr] ∧ Dx K H v d ∧ Dp K H vr (rowD r) ∧ Q (.bl (stepIn r d)) H
theorem ok_is_step {f : Addr} {fd : FuncData} (F : Fun K "is_step" "is_step" s_is_step f fd) (C_is_number : Cal P w K mg base 1 "is_number" (spIsNumber K)) : FnOk P w K mg base (L2.CX P w) 2 f fd ["value", "row"] (spIsStep K) := by
  refine F.okX sc_is_step (fun vs H Q E h => ?_) (fun cdv A outer s H vs Q E hr h => ?_)
  · obtain ⟨v, vr, d, r, rfl, _⟩ := h
    rfl
  · obtain ⟨v, vr, d, r, rfl, hd, hrw, q⟩ := h
    refine ⟨_, (pss_one (ps_ret (pe_and (pe_cal C_is_number hr (by decide) (by rfl) (pa_cons (pv 0) pa_nil)) (pe_one (pe_cmpR op_in_seq (pv 0) (pe_ix ix_tup (pv 1) pe_int (fun _ _ => rfl)) (by rfl)))))), ?_⟩
    obtain ⟨t, wy, rfl, hT, hW⟩ := dp_row hrw
    refine ⟨_, rfl, _, _, rfl, hd, _, rfl, ?_⟩
    cases en : isNum d with
    | false =>
      have hb : stepIn r d = false := by cases d <;> first | rfl | cases en
      rw [hb] at q
      exact iteF q
    | true =>
      obtain ⟨z, rfl, rfl⟩ := num_int hd en
      refine iteT ⟨_, rfl, _, rfl, _, _, _, _, rfl, rfl, hT, atI_nat (j := 2) rfl, _, _, rfl, .inl hW, rfl, flat_ints _, ?_⟩
      show Q (.bl (inV (.int z) (r.ws.map V.int))) H
      rw [inV_int]
      exact q
theorem ok_check_steps {f BS fS : Addr} {fd : FuncData} (B : Bt mg) (T : PySem.BadX.BadTxt P K mg "BadSteps" "BadSteps.__init__" "no steps for this game (at: " ")" BS fS) (F : Fun K "check_steps" "check_steps" s_check_steps f fd) (C_check_many_steps : Cal P w K mg base 5 "check_many_steps" (spManySteps K BS)) (C_is_step : Cal P w K mg base 2 "is_step" (spIsStep K)) :
    FnOk P w K mg base (L2.CX P w) 6 f fd ["game", "steps"] (spCheckSteps K BS) := by
  refine F.okX sc_check_steps (fun vs H Q E h => ?_) (fun cdv A outer s H vs Q E hr h => ?_)
  · obtain ⟨vg, v, g, d, rfl, _⟩ := h
    rfl
  · obtain ⟨vg, v, g, d, rfl, hg, hgl, hd, q, qe⟩ := h
    refine ⟨_, (pss_cons (ps_expr (pe_calX C_check_many_steps hr (by decide) (takes_of rfl rfl rfl rfl) (by rfl) (pa_cons (pv 0) (pa_cons (pv 1) pa_nil))))
      (pss_one (ps_for (passes_of rfl) rfl (pi_enum (by rfl) B.enumerate_ (pa_cons (pv 1) pa_nil)) (pg_tup (by rfl) (pgs_cons (pg_name (i := 2) sc_check_steps.nd rfl (Or.inl rfl)) (pgs_cons (pg_name (i := 3) sc_check_steps.nd rfl (Or.inl rfl)) pgs_nil))) (pss_one (ps_if (pt_not (pt_val (pe_cal C_is_step hr (by decide) (by rfl) (pa_cons (pv 3) (pa_cons (pe_ix ix_list (pv 0) (pv 2) (fun _ _ => rfl)) pa_nil))))) (pss_one (ps_raiseBad rfl T hr (by decide) (takes_of rfl rfl rfl rfl) (pa_cons (pv 2) pa_nil))) pss_nil))))), ?_⟩
    obtain ⟨ag, xg, rfl, hG, hGl, hGr⟩ := dp_game hg
    refine ⟨_, rfl, _, rfl, .ref ag, v, g, d, rfl, hg, hd, fun ⟨ds, ed, e0⟩ => ?_, fun hn => qe none ?_⟩
    · subst ed
      obtain ⟨a, xs, rfl, hS, hA⟩ : ∃ a xs, v = .ref a ∧ SqL K H a xs ∧ DpAll K H xs ds := by
        cases hd with
        | of hd =>
          cases hd with
          | lst h1 h2 => exact ⟨_, _, rfl, h1, h2⟩
      have hlen := DpAll.len hA
      have e2 : stepsErr g (.list ds) = (fb (stepOk g) ds 0).map some := if_neg (by omega)
      refine ⟨_, rfl, a, _, rfl, hS, for_enum (K := K) (a := a) (xs := xs) (fun i σ H' => ∃ y1 y2, σ = [some (.ref ag), some (.ref a), y1, y2] ∧ Same H H' ∧ ∀ j r, j < i → ds[j]? = some r → stepOk g j r = true)
        ⟨none, none, rfl, Same.refl _, fun j r hj => absurd hj (Nat.not_lt_zero _)⟩ (fun i σ H' _ ⟨_, _, _, sm, _⟩ => sm.seq hS) (fun i x T' σ H' hi ⟨y1, y2, es, sm, ok⟩ nT => ?_) (fun σ H' ⟨y1, y2, es, sm, ok⟩ => ?_)⟩
      · subst es
        obtain ⟨r, hr', hdr⟩ := DpAll.get hA hi
        have sm1 : Same H (upd H' T' (.tup [.int (i : Nat), x])) := sm.trans (same_upd nT)
        have hlt : i < ds.length := (List.getElem?_eq_some_iff.mp hr').1
        have bad : stepOk g i r = false → ∀ dd, (upd H' T' (.tup [.int (i : Nat), x])) dd = none → E (.ref BS) (some dd) (upd (upd H' T' (.tup [.int (i : Nat), x])) dd (.xd [(("at" : Str), .int (i : Int))])) := fun hb dd nd => by
          have e3 : stepsErr g (.list ds) = some (some i) := by
            rw [e2, fb_some (k := 0) (i := i) (d := r) (fun j e' hj he => by rw [Nat.zero_add]; exact ok j e' hj he) hr' (by rw [Nat.zero_add]; exact hb), Nat.zero_add]
            rfl
          exact qe (some i) e3 _ dd (sm1.trans (same_upd nd)) (Same.free sm1 nd) upd_same
        refine ⟨T', _, rfl, .inl (.inl upd_same), rfl, _, _, rfl, _, _, rfl, rfl, ?_⟩
        have hgi : g[i]? = some g[i] := List.getElem?_eq_getElem (by omega)
        obtain ⟨t, wy, ht, hT, hW⟩ := hGr i g[i] hgi
        refine ⟨_, rfl, _, rfl, _, rfl, _, _, _, _, rfl, rfl, sm1.seq hG, atI_nat ht, _, _, r, g[i], rfl, .of (dp_mono sm1 _ _ hdr), .tup (same_sqt sm1 hT) (.cons (.int _) (.cons (.int _) (.cons (.lst (sm1.seq hW) (dpa_ints' _)) .nil))), _, rfl, ?_⟩
        rw [stepIn_at hgi]
        cases hb : stepOk g i r with
        | true =>
          refine iteF ⟨_, _, rfl, sm1, fun j r' hj hr2 => ?_⟩
          by_cases hji : j < i
          · exact ok j r' hji hr2
          · obtain rfl : j = i := by omega
            rw [hr'] at hr2
            cases hr2
            exact hb
        | false => exact iteT ⟨_, rfl, _, rfl, .inr ⟨i, rfl, by omega⟩, bad hb⟩
      · subst es
        rw [hlen] at ok
        refine q ?_ _ sm
        rw [e2, fb_none (fun j e' he => by rw [Nat.zero_add]; exact ok j e' (List.getElem?_eq_some_iff.mp he).1 he)]
        rfl
    · cases d with
      | list ds => exact if_pos (hn ds rfl)
      | _ => rfl
def spCheckPlace (K : PySem.W.Frag) (BP : Addr) : Sp := fun vs H Q E => ∃ (vg v : V) (g : List Row) (d : PyData), vs = [vg, v] ∧ Dp K H vg (gameD g) ∧ Dx K H v d ∧ (isPlace d (g.length : Int) = true → Q .non H) ∧ (isPlace d (g.length : Int) = false → E (.ref BP) none H)
theorem ok_check_place {f BP : Addr} {fd : FuncData} (B : Bt mg) (T : PlainX K mg "BadPlace" BP) (F : Fun K "check_place" "check_place" s_check_place f fd) (C_is_place : Cal P w K mg base 2 "is_place" (spIsPlace K)) :
    FnOk P w K mg base (L2.CX P w) 3 f fd ["game", "place"] (spCheckPlace K BP) := by
  refine F.okX sc_check_place (fun vs H Q E h => ?_) (fun cdv A outer s H vs Q E hr h => ?_)
  · obtain ⟨vg, v, g, d, rfl, _⟩ := h
    rfl
  · obtain ⟨vg, v, g, d, rfl, hg, hd, q, qe⟩ := h
    refine ⟨_, (pss_one (ps_if (pt_not (pt_val (pe_cal C_is_place hr (by decide) (by rfl) (pa_cons (pv 1) (pa_cons (pe_callB call_len_seq (by rfl) B.len_ (by decide +kernel) (pa_cons (pv 0) pa_nil)) pa_nil))))) (pss_one (ps_raise rfl (takes_of rfl rfl rfl rfl) (pmk_own PySem.F.excBase_ValueError T.xC T.gC T.kC (raises_own T.exC T.tyC) rfl))) pss_nil)), ?_⟩
    obtain ⟨ag, xg, rfl, hG, hGl, hGr⟩ := dp_game hg
    refine ⟨_, rfl, _, rfl, _, _, rfl, .inl hG, _, _, _, rfl, hd, _, rfl, ?_⟩
    rw [hGl]
    cases e : isPlace d (g.length : Int) with
    | true => exact iteF (q e)
    | false => exact iteT (qe e)
end
end G

namespace G
open PySem PySem.Spec PyProof.Rows L2
/-! ### walks, plainly -/
def nx (ss : List Int) (x : Int) : Int := ss.getD x.toNat 0
/-- on from x, having met some: those met in the end, and the first that is come to again -/
def go (ss : List Int) : Nat → List Int → Int → List Int × Int
  | 0, met, x => (met, x)
  | f + 1, met, x => if x ∈ met then (met, x) else go ss f (met ++ [x]) (nx ss x)
def walkAll (ss : List Int) (p : Int) : List Int × Int := go ss (ss.length + 1) [] p
def aheadOf (ss : List Int) (p : Int) : List Int := (walkAll ss p).1.take ((walkAll ss p).1.idxOf (walkAll ss p).2)
def ringOf (ss : List Int) (p : Int) : List Int := (walkAll ss p).1.drop ((walkAll ss p).1.idxOf (walkAll ss p).2)
def heardOf (g : List Row) (ss : List Int) (p : Int) : Int := maxL ((ringOf ss p).map (numAt g))
/-- what go does: those met are met again, no two alike, and the last one is among them -/
structure GoOk (ss : List Int) (n : Nat) (r : List Int × Int) : Prop where
  nd : r.1.Nodup
  rg : ∀ x ∈ r.1, 0 ≤ x ∧ x < (n : Int)
  mem : r.2 ∈ r.1
theorem nx_rg {ss : List Int} {n : Nat} (hl : ss.length = n) (hs : ∀ s ∈ ss, 0 ≤ s ∧ s < (n : Int)) {x : Int} (h0 : 0 ≤ x) (h1 : x < n) : 0 ≤ nx ss x ∧ nx ss x < (n : Int) := by
  have hlt : x.toNat < ss.length := by omega
  have e : nx ss x = ss[x.toNat] := by
    unfold nx
    rw [List.getD_eq_getElem?_getD, List.getElem?_eq_getElem hlt]
    rfl
  rw [e]
  exact hs _ (List.getElem_mem hlt)
theorem go_ok {ss : List Int} {n : Nat} (hl : ss.length = n) (hs : ∀ s ∈ ss, 0 ≤ s ∧ s < (n : Int)) : ∀ (f : Nat) (met : List Int) (x : Int), met.Nodup → (∀ y ∈ met, 0 ≤ y ∧ y < (n : Int)) → 0 ≤ x → x < n → n + 1 ≤ f + met.length → GoOk ss n (go ss f met x)
  | 0, met, x, hN, hr, h0, h1, hf => by
    have := pigeon n met hN hr
    omega
  | f + 1, met, x, hN, hr, h0, h1, hf => by
    unfold go
    by_cases hm : x ∈ met
    · rw [if_pos hm]
      exact ⟨hN, hr, hm⟩
    · rw [if_neg hm]
      obtain ⟨a, b⟩ := nx_rg hl hs h0 h1
      exact go_ok hl hs f _ _ (nodup_snoc hN hm) (fun y hy => by
        rcases List.mem_append.mp hy with q | q
        · exact hr y q
        · have : y = x := by simpa using q
          rw [this]; exact ⟨h0, h1⟩) a b (by rw [List.length_append, List.length_singleton]; omega)
theorem walk_ok {ss : List Int} {n : Nat} (hl : ss.length = n) (hs : ∀ s ∈ ss, 0 ≤ s ∧ s < (n : Int)) {p : Int} (h0 : 0 ≤ p) (h1 : p < n) : GoOk ss n (walkAll ss p) := by
  unfold walkAll
  exact go_ok hl hs _ [] p List.nodup_nil (fun y hy => by cases hy) h0 h1 (by rw [hl]; simp)
theorem ring_ne {ss : List Int} {n : Nat} {p : Int} (h : GoOk ss n (walkAll ss p)) : ringOf ss p ≠ [] := by
  unfold ringOf
  intro e
  have hlt := List.idxOf_lt_length_of_mem h.mem
  have := congrArg List.length e
  rw [List.length_drop] at this
  simp at this
  omega
theorem ring_sub {ss : List Int} {n : Nat} {p : Int} (h : GoOk ss n (walkAll ss p)) : ∀ x ∈ ringOf ss p, 0 ≤ x ∧ x < (n : Int) := fun x hx => h.rg x (List.mem_of_mem_drop hx)
end G

namespace G
open PySem PySem.Spec PyProof.Rows L2
abbrev s_walk : Stmt := topS 21
theorem sc_walk : FnScope ["game", "steps", "place", "come_to", "now", "start"] ["game", "steps", "place"] (defScope s_walk) := ⟨rfl, rfl, rfl, by decide +kernel, rfl, by decide +kernel, by decide +kernel⟩
abbrev s_heard : Stmt := topS 22
theorem sc_heard : FnScope ["game", "steps", "place", "_", "ring", "at"] ["game", "steps", "place"] (defScope s_heard) := ⟨rfl, rfl, rfl, by decide +kernel, rfl, by decide +kernel, by decide +kernel⟩
abbrev s_winner : Stmt := topS 23
theorem sc_winner : FnScope ["game", "steps", "place"] ["game", "steps", "place"] (defScope s_winner) := ⟨rfl, rfl, rfl, by decide +kernel, rfl, by decide +kernel, by decide +kernel⟩
/-! ### steps that are ways -/
theorem steps_of {g : List Row} {d : PyData} (h : stepsErr g d = none) : ∃ ss, d = intsD ss ∧ ss.length = g.length ∧ ∀ i s, ss[i]? = some s → s ∈ wsAt g i := by
  match d, h with
  | .list ds, h =>
    have h' : (if ds.length ≠ g.length then some none else (fb (stepOk g) ds 0).map some) = none := h
    by_cases hl : ds.length ≠ g.length
    · rw [if_pos hl] at h'
      cases h'
    · rw [if_neg hl] at h'
      have h2 : fb (stepOk g) ds 0 = none := by
        cases e : fb (stepOk g) ds 0 with
        | none => rfl
        | some x =>
          rw [e] at h'
          cases h'
      have h3 := fb_all h2
      have hi : ∀ i e, ds[i]? = some e → ∃ s, e = .int s ∧ s ∈ wsAt g i := fun i e he => by
        have q := h3 i e he
        rw [Nat.zero_add] at q
        cases e with
        | int s => exact ⟨s, rfl, of_decide_eq_true q⟩
        | _ => cases q
      have ed : ds = (ds.map toI).map .int := by
        apply List.ext_getElem?
        intro i
        rw [List.getElem?_map, List.getElem?_map]
        cases e : ds[i]? with
        | none => rfl
        | some d =>
          obtain ⟨s, rfl, _⟩ := hi i d e
          rfl
      refine ⟨ds.map toI, by unfold intsD; rw [← ed], by rw [List.length_map]; omega, fun i s he => ?_⟩
      rw [List.getElem?_map] at he
      obtain ⟨e, he', rfl⟩ := Option.map_eq_some_iff.mp he
      obtain ⟨s, rfl, hs⟩ := hi i e he'
      exact hs
theorem steps_rg {g : List Row} (hv : ValidG g) {ss : List Int} (hl : ss.length = g.length) (h : ∀ i s, ss[i]? = some s → s ∈ wsAt g i) : ∀ s ∈ ss, 0 ≤ s ∧ s < (g.length : Int) := fun s hs => by
  obtain ⟨i, hi⟩ := List.mem_iff_getElem?.mp hs
  have q := h i s hi
  have hlt : i < g.length := by rw [← hl]; exact (List.getElem?_eq_some_iff.mp hi).1
  have e : wsAt g i = g[i].ws := by unfold wsAt; rw [List.getElem?_eq_getElem hlt]; rfl
  rw [e] at q
  exact (hv.2 _ (List.getElem_mem hlt)).2.2.2.1 s q
section
variable {P : Program} {w : World} {K : PySem.W.Frag} {mg : Str → Option Value} {base : Heap}
/-- what the three walks ask of a game, steps and a place, and how they refuse -/
def spW (K : PySem.W.Frag) (A : Ads) (ok : List Row → List Int → Int → Hp → VK → Prop) : Sp := fun vs H Q E => ∃ (vg vt vp : V) (dg ds dp : PyData), vs = [vg, vt, vp] ∧ Dx K H vg dg ∧ szGame dg ∧ Dx K H vt ds ∧ Dx K H vp dp ∧
  (∀ e, gameErr dg = some e → EBad H A.BadGame e E) ∧
  ∀ g, dg = gameD g → ValidG g → (∀ e, stepsErr g ds = some e → EBad H A.BadSteps e E) ∧
    ∀ ss, ds = intsD ss → stepsErr g ds = none → (isPlace dp (g.length : Int) = false → ∀ H', Same H H' → E (.ref A.BadPlace) none H') ∧
      ∀ i, dp = .int i → isPlace dp (g.length : Int) = true → ok g ss i H Q
def okWalk : List Row → List Int → Int → Hp → VK → Prop := fun g ss i H Q => ∀ H' T a1 a2, Same H H' → H T = none → H a1 = none → H a2 = none → a1 ≠ a2 → H' T = some (.tup [.ref a1, .ref a2]) → H' a1 = some (.lst ((aheadOf ss i).map V.int)) → H' a2 = some (.lst ((ringOf ss i).map V.int)) → Q (.ref T) H'
def okHeard : List Row → List Int → Int → Hp → VK → Prop := fun g ss i H Q => ∀ H', Same H H' → Q (.int (heardOf g ss i)) H'
def okWinner : List Row → List Int → Int → Hp → VK → Prop := fun g ss i H Q => ∀ H', Same H H' → Q (.int (heardOf g ss i % 2)) H'
theorem ok_walk {f : Addr} {fd : FuncData} {A : Ads} (F : Fun K "walk" "walk" s_walk f fd) (C_check_game : Cal P w K mg base 6 "check_game" (spCheckGame K A.BadGame)) (C_check_steps : Cal P w K mg base 6 "check_steps" (spCheckSteps K A.BadSteps)) (C_check_place : Cal P w K mg base 3 "check_place" (spCheckPlace K A.BadPlace)) :
    FnOk P w K mg base (L2.CX P w) 7 f fd ["game", "steps", "place"] (spW K A okWalk) := by
  refine F.okX sc_walk (fun vs H Q E h => ?_) (fun cdv Ar outer s H vs Q E hr h => ?_)
  · obtain ⟨vg, vt, vp, dg, ds, dp, rfl, _⟩ := h
    rfl
  · obtain ⟨vg, vt, vp, dg, ds, dp, rfl, hdg, hsz, hdt, hdp, h1, h2⟩ := h
    refine ⟨_, (pss_cons (ps_expr (pe_calX C_check_game hr (by decide) (takes_of rfl rfl rfl rfl) (by rfl) (pa_cons (pv 0) pa_nil)))
      (pss_cons (ps_expr (pe_calX C_check_steps hr (by decide) (takes_of rfl rfl rfl rfl) (by rfl) (pa_cons (pv 0) (pa_cons (pv 1) pa_nil))))
      (pss_cons (ps_expr (pe_calX C_check_place hr (by decide) (takes_of rfl rfl rfl rfl) (by rfl) (pa_cons (pv 0) (pa_cons (pv 2) pa_nil))))
      (pss_cons (ps_set (i := 3) sc_walk.nd rfl (Or.inl rfl) (pe_lst pa_nil))
      (pss_cons (ps_set (i := 4) sc_walk.nd rfl (Or.inl rfl) (pv 2))
      (pss_cons (ps_while (passes_of rfl) (pt_cmpR op_notIn_seq (pv 4) (pv 3) (by rfl)) (pss_cons (ps_expr (pe_bm PySem.F.plainAttrs_list PySem.F.slot_list_append PySem.F.type_list_append mt_append (pv 3) (pa_cons (pv 4) pa_nil)))
      (pss_one (ps_set (i := 4) sc_walk.nd rfl (Or.inl rfl) (pe_ix ix_list (pv 1) (pv 4) (fun _ _ => rfl))))))
      (pss_cons (ps_set (i := 5) sc_walk.nd rfl (Or.inl rfl) (pe_bm PySem.F.plainAttrs_list PySem.F.slot_list_index PySem.F.type_list_index mt_index (pv 3) (pa_cons (pv 4) pa_nil)))
      (pss_one (ps_ret (pe_tup (pa_cons (pe_slice sl_list (pv 3) po_none (po_some (pv 5))) (pa_cons (pe_slice sl_list (pv 3) (po_some (pv 5)) po_none) pa_nil)))))))))))), ?_⟩
    -- check_game(game)
    refine ⟨_, rfl, _, _, rfl, hdg, hsz, fun e0 H1 sm1 => ?_, h1⟩
    obtain ⟨g, rfl, hv⟩ := game_of e0
    obtain ⟨h3, h4⟩ := h2 g rfl hv
    have hG : Dp K H vg (gameD g) := by cases hdg with | of h => exact h
    -- check_steps(game, steps)
    refine ⟨_, rfl, _, rfl, _, _, _, _, rfl, dp_mono sm1 _ _ hG, hv.1, hdt.mono sm1, fun e1 H2 sm2 => ?_, fun e he => (h3 e he).mono sm1⟩
    obtain ⟨ss, rfl, hl, hss⟩ := steps_of e1
    obtain ⟨h5, h6⟩ := h4 ss rfl e1
    have sm12 := sm1.trans sm2
    -- check_place(game, place)
    refine ⟨_, rfl, _, rfl, _, _, _, _, rfl, dp_mono sm12 _ _ hG, hdp.mono sm12, fun e2 => ?_, fun e2 => h5 e2 _ sm12⟩
    obtain ⟨i, rfl, hi0, hi1⟩ := place_int e2
    have h7 := h6 i rfl e2
    obtain rfl : vp = .int i := by
      cases hdp with
      | of h => cases h; rfl
    have hrg := steps_rg hv hl hss
    obtain ⟨at_, rfl, hT⟩ : ∃ a, vt = .ref a ∧ SqL K H a (ss.map V.int) := by
      cases hdt with
      | of h => exact dp_intsD h
    -- come_to = []; now = place
    refine ⟨Nat.zero_le _, fun L nL => ⟨_, rfl, ?_⟩⟩
    have smL : Same H2 (upd H2 L (.lst [])) := same_upd nL
    refine ⟨fun m σ H' => ∃ (met : List Int) (now : Int) (y : Option V), σ = [some vg, some (.ref at_), some (.int i), some (.ref L), some (.int now), y] ∧ Same H2 H' ∧ H' L = some (.lst (met.map V.int)) ∧ met.Nodup ∧ (∀ x ∈ met, 0 ≤ x ∧ x < (g.length : Int)) ∧ 0 ≤ now ∧ now < (g.length : Int) ∧
      m + met.length = g.length + 1 ∧ go ss m met now = walkAll ss i, ⟨g.length + 1, [], i, none, rfl, smL, upd_same, List.nodup_nil, (fun x hx => by cases hx), hi0, hi1, rfl, by unfold walkAll; rw [hl]⟩, fun m σ H' hW => ?_⟩
    obtain ⟨met, now, y, rfl, smH, hL, hN, hR, hn0, hn1, hm, hgo⟩ := hW
    have hpg := pigeon _ met hN hR
    refine ⟨_, rfl, _, rfl, L, _, rfl, .inl (.inl (.inl hL)), rfl, flat_ints _, _, rfl, ?_⟩
    rw [inV_int]
    obtain ⟨m', rfl⟩ : ∃ m', m = m' + 1 := ⟨m - 1, by omega⟩
    cases hc : decide (now ∈ met) with
    | false =>
      have hnm : now ∉ met := of_decide_eq_false hc
      have hlt : now.toNat < ss.length := by omega
      have es : (ss.map V.int)[now.toNat]? = some (.int (nx ss now)) := by
        rw [List.getElem?_map, List.getElem?_eq_getElem hlt]
        unfold nx
        rw [List.getD_eq_getElem?_getD, List.getElem?_eq_getElem hlt]
        rfl
      refine iteT ⟨fun σ' H'' => ∃ (met : List Int) (now : Int) (y : Option V), σ' = [some vg, some (.ref at_), some (.int i), some (.ref L), some (.int now), y] ∧ Same H2 H'' ∧ H'' L = some (.lst (met.map V.int)) ∧ met.Nodup ∧ (∀ x ∈ met, 0 ≤ x ∧ x < (g.length : Int)) ∧ 0 ≤ now ∧ now < (g.length : Int) ∧
        m' + met.length = g.length + 1 ∧ go ss m' met now = walkAll ss i, fun σ' H'' h => ⟨m', Nat.lt_succ_self _, h⟩, ?_⟩
      refine ⟨.ref L, rfl, .inl ⟨rfl, _, .inl (.inl hL)⟩, _, rfl, L, _, _, rfl, rfl, hL, ?_, ?_⟩
      · rw [List.length_map]
        exact small1000 (by have := hv.1; omega)
      have smU : Same H2 (upd H' L (.lst (met.map V.int ++ [.int now]))) := fun b o e => by
        rw [upd_ne (ne_of_none e nL)]
        exact smH _ _ e
      refine ⟨_, rfl, _, rfl, at_, _, now, _, rfl, rfl, smU.seq (sm12.seq hT), atI_int hn0 es, ?_⟩
      obtain ⟨a, b⟩ := nx_rg hl hrg hn0 hn1
      refine ⟨met ++ [now], nx ss now, y, rfl, smU, by rw [upd_same, List.map_append]; rfl, nodup_snoc hN hnm, fun x hx => ?_, a, b, by rw [List.length_append, List.length_singleton]; omega, ?_⟩
      · rcases List.mem_append.mp hx with q | q
        · exact hR x q
        · have : x = now := by simpa using q
          rw [this]; exact ⟨hn0, hn1⟩
      · rw [← hgo]
        show _ = if now ∈ met then (met, now) else go ss m' (met ++ [now]) (nx ss now)
        rw [if_neg hnm]
    | true =>
      have hmem : now ∈ met := of_decide_eq_true hc
      have ew : walkAll ss i = (met, now) := by
        rw [← hgo]
        show (if now ∈ met then (met, now) else _) = _
        rw [if_pos hmem]
      have hlt := List.idxOf_lt_length_of_mem hmem
      refine iteF ⟨.ref L, rfl, .inl ⟨rfl, _, .inl (.inl hL)⟩, _, rfl, L, _, _, met.idxOf now, .int now, rfl, rfl, .inl (.inl hL), rfl, flat_ints _, ?_, beq_self_eq_true now, fun k z' hk hz => ?_, ?_⟩
      · rw [List.getElem?_map, List.getElem?_eq_getElem hlt, List.getElem_idxOf]
        rfl
      · rw [List.getElem?_map] at hz
        obtain ⟨z, hz1, rfl⟩ := Option.map_eq_some_iff.mp hz
        have hk2 : k < met.length := Nat.lt_trans hk hlt
        rw [List.getElem?_eq_getElem hk2] at hz1
        cases hz1
        have := List.not_of_lt_findIdx (p := fun x => x == now) hk
        show (met[k] == now) = false
        simpa using this
      -- return come_to[:start], come_to[start:]
      have hL1 : SqL K H' L (met.map V.int) := .inl (.inl hL)
      refine ⟨_, rfl, _, rfl, _, rfl, L, _, rfl, hL1, fun a1 n1 => ⟨_, rfl, _, rfl, _, rfl, L, _, rfl, (same_upd n1).seq hL1, fun a2 n2 => ⟨by show 2 ≤ sizeLine; decide, fun T nT => ?_⟩⟩⟩
      have f2 : H' a2 = none := by
        by_cases e : a2 = a1
        · rw [e]; exact n1
        · rw [upd_ne e] at n2; exact n2
      have n12 : a1 ≠ a2 := fun e => by
        rw [← e, upd_same] at n2
        cases n2
      have s1 : Same H' (upd H' a1 (.lst (cutV (met.map V.int) none (some (met.idxOf now : Nat))))) := same_upd n1
      have s2 := s1.trans (same_upd (o := .lst (cutV (met.map V.int) (some (met.idxOf now : Nat)) none)) n2)
      have s3 := s2.trans (same_upd (o := .tup [.ref a1, .ref a2]) nT)
      have smA := sm12.trans (smH.trans s3)
      have hTn : H' T = none := Same.free s2 nT
      have back : ∀ {b}, H' b = none → H b = none := fun h => Same.free (sm12.trans smH) h
      have nT1 : a1 ≠ T := fun e => by
        rw [← e, upd_ne n12, upd_same] at nT
        cases nT
      have nT2 : a2 ≠ T := fun e => by
        rw [← e, upd_same] at nT
        cases nT
      refine h7 _ T a1 a2 smA (back hTn) (back n1) (back f2) n12 upd_same ?_ ?_
      · rw [upd_ne nT1, upd_ne n12, upd_same, cut_to _ (by rw [List.length_map]; omega)]
        unfold aheadOf
        rw [ew, List.map_take]
      · rw [upd_ne nT2, upd_same, cut_from _ (by rw [List.length_map]; omega)]
        unfold ringOf
        rw [ew, List.map_drop]
theorem ok_heard {f : Addr} {fd : FuncData} {A : Ads} (B : Bt mg) (F : Fun K "heard" "heard" s_heard f fd) (C_walk : Cal P w K mg base 7 "walk" (spW K A okWalk)) : FnOk P w K mg base (L2.CX P w) 8 f fd ["game", "steps", "place"] (spW K A okHeard) := by
  refine F.okX sc_heard (fun vs H Q E h => ?_) (fun cdv Ar outer s H vs Q E hr h => ?_)
  · obtain ⟨vg, vt, vp, dg, ds, dp, rfl, _⟩ := h
    rfl
  · obtain ⟨vg, vt, vp, dg, ds, dp, rfl, hdg, hsz, hdt, hdp, h1, h2⟩ := h
    refine ⟨_, (pss_cons (ps_asg (pe_calX C_walk hr (by decide) (takes_of rfl rfl rfl rfl) (by rfl) (pa_cons (pv 0) (pa_cons (pv 1) (pa_cons (pv 2) pa_nil)))) (pg_tup (by rfl) (pgs_cons (pg_name (i := 3) sc_heard.nd rfl (Or.inl rfl)) (pgs_cons (pg_name (i := 4) sc_heard.nd rfl (Or.inl rfl)) pgs_nil))))
      (pss_one (ps_ret (pe_callB (cr_max rfl) (by rfl) B.max_ (by decide +kernel) (pa_cons (pe_lc (own := [("at", 5)]) (by rfl) sc_heard.nd (pi_list (pv 4)) (blkOk_by (own := [("at", 5)]) (N := ["game", "steps", "place", "_", "ring", "at"]) (sc := defScope s_heard) (by decide +kernel)) (fun _ _ _ _ _ => (pg_name (i := 5) sc_heard.nd rfl (Or.inl rfl))) (fun _ _ _ _ _ => pts_nil) (fun _ _ _ _ _ => (pe_ix (kr_ix_tup (K := K) rfl) (pe_ix (kr_ix_list (K := K) rfl) (pv 0) (pv 5) (fun _ _ => rfl)) pe_int (fun _ _ => rfl)))) pa_nil))))), ?_⟩
    refine ⟨_, rfl, _, rfl, _, rfl, vg, vt, vp, dg, ds, dp, rfl, hdg, hsz, hdt, hdp, h1, fun g eg hv => ⟨(h2 g eg hv).1, fun ss es e1 => ⟨((h2 g eg hv).2 ss es e1).1, fun i ei e2 => fun H' T a1 a2 sm nT n1 n2 n12 hT ha1 ha2 => ?_⟩⟩⟩
    have h7 := ((h2 g eg hv).2 ss es e1).2 i ei e2
    subst eg
    have hG : Dp K H vg (gameD g) := by cases hdg with | of h => exact h
    obtain ⟨ag, xg, rfl, hGL, hGl, hGr⟩ := dp_game hG
    obtain ⟨i', z, hi0, hi1⟩ := place_int e2
    rw [ei] at z
    cases z
    obtain ⟨ss', es', hl, hss⟩ := steps_of e1
    have ess : ss' = ss := by
      rw [es] at es'
      have := congrArg (List.map toI) (PyData.list.inj es')
      rw [map_toI, map_toI] at this
      exact this.symm
    subst ess
    have gok := walk_ok hl (steps_rg hv hl hss) hi0 hi1
    refine ⟨T, _, rfl, .inl (.inl hT), rfl, _, _, rfl, _, _, rfl, rfl, ?_⟩
    refine ⟨_, rfl, a2, rfl, ⟨_, .inl (.inl ha2)⟩, fun D nD => lc_pure (((ringOf ss' i).map (numAt g)).map V.int) (by rw [List.length_map, List.length_map, List.length_map]) (.inl (.inl ha2)) nD ?_ (fun j x y H3 Q' hx hy sm3 hQ => ?_) (fun H3 sm3 hD => ?_)⟩
    · rw [List.length_map]
      have := pigeon _ _ gok.nd gok.rg
      unfold ringOf
      rw [List.length_drop]
      have := hv.1
      omega
    · rw [List.getElem?_map] at hx
      obtain ⟨r, hr1, rfl⟩ := Option.map_eq_some_iff.mp hx
      rw [List.getElem?_map, List.getElem?_map, hr1] at hy
      cases hy
      obtain ⟨r0, r1⟩ := ring_sub gok r (List.mem_of_getElem? hr1)
      have hgr : g[r.toNat]? = some g[r.toNat] := List.getElem?_eq_getElem (by omega)
      obtain ⟨t, wy, ht, hT', hW⟩ := hGr r.toNat _ hgr
      rw [numAt_of hgr] at hQ
      exact ⟨rfl, _, rfl, _, rfl, _, _, _, _, rfl, rfl, sm3.seq (sm.seq hGL), atI_int r0 ht, _, _, _, _, rfl, rfl, same_sqt (sm.trans sm3) hT', atI_nat (j := 1) rfl, hQ _ (Same.refl _)⟩
    · refine ⟨D, _, rfl, .inl (.inl hD), ?_, fun m hm hle => ?_⟩
      · rw [List.length_map]
        exact List.length_pos_iff.mpr (ring_ne gok)
      · rw [maxL_eq hm hle]
        exact h7 _ (sm.trans sm3)
theorem ok_winner {f : Addr} {fd : FuncData} {A : Ads} (F : Fun K "winner" "winner" s_winner f fd) (C_heard : Cal P w K mg base 8 "heard" (spW K A okHeard)) : FnOk P w K mg base (L2.CX P w) 9 f fd ["game", "steps", "place"] (spW K A okWinner) := by
  refine F.okX sc_winner (fun vs H Q E h => ?_) (fun cdv Ar outer s H vs Q E hr h => ?_)
  · obtain ⟨vg, vt, vp, dg, ds, dp, rfl, _⟩ := h
    rfl
  · obtain ⟨vg, vt, vp, dg, ds, dp, rfl, hdg, hsz, hdt, hdp, h1, h2⟩ := h
    refine ⟨_, (pss_one (ps_ret (pe_op op_mod (pe_calX C_heard hr (by decide) (takes_of rfl rfl rfl rfl) (by rfl) (pa_cons (pv 0) (pa_cons (pv 1) (pa_cons (pv 2) pa_nil)))) pe_int))), ?_⟩
    refine ⟨_, rfl, _, rfl, _, rfl, vg, vt, vp, dg, ds, dp, rfl, hdg, hsz, hdt, hdp, h1, fun g eg hv => ⟨(h2 g eg hv).1, fun ss es e1 => ⟨((h2 g eg hv).2 ss es e1).1, fun i ei e2 => fun H' sm => ⟨_, _, rfl, rfl, (by show (0:Int) < 2; decide), ?_⟩⟩⟩⟩
    exact ((h2 g eg hv).2 ss es e1).2 i ei e2 _ sm
end
end G

namespace G
open PySem PySem.Spec PyProof.Rows L2
abbrev s__law_game : Stmt := topS 26
theorem sc__law_game : FnScope ["_law_script", "_law_most", "_law_number", "_law_many", "_law_wide", "_law_rows", "_law_place", "_law_more", "_law_cell", "_law_row", "_law_way"] ["_law_script", "_law_most"] (defScope s__law_game) := ⟨rfl, rfl, rfl, by decide +kernel, rfl, by decide +kernel, by decide +kernel⟩
/-! ### the law's game, plainly -/
def headOr (ns : List Int) : Int := match ns with | [] => 6 | x :: _ => x
def widesOf (many : Int) : List Int := [2, 3, 5, 10 ^ 9, many]
def manyOf (ns : List Int) (most : Int) : Int := mixed (headOr ns) 1 % most + 1
def wideOf (ns : List Int) (most : Int) : Int := (widesOf (manyOf ns most)).getD (mixed (headOr ns) 1 / 64 % 5).toNat 0
def row0 (num many wide : Int) (k : Nat) : Row := ⟨mixed num (10 + k) % 2, mixed num (10 + k) / 2 % wide, [mixed num (10 + k) / 7 % many]⟩
def rows0 (num many wide : Int) (k : Nat) : List Row := (List.range k).map (row0 num many wide)
def changed (r : Row) (m3 t way : Int) : Row :=
  if t = 0 then ⟨1 - r.p, r.n, r.ws⟩ else if t = 1 then ⟨r.p, m3, r.ws⟩ else if way ∉ r.ws then ⟨r.p, r.n, r.ws ++ [way]⟩ else if 1 < r.ws.length then ⟨r.p, r.n, r.ws.eraseIdx (r.ws.idxOf way)⟩ else r
def cellStep (many wide : Int) (g : List Row) (cell : Int) : List Row :=
  let more := mixed cell 2
  let i := (more % many).toNat
  match g[i]? with
  | none => g
  | some r => g.set i (changed r (mixed more 3 % wide) (more / 1009 % 8) (more / many % many))
def lawGame (ns : List Int) (most : Int) : List Row :=
  ns.foldl (cellStep (manyOf ns most) (wideOf ns most)) (rows0 (mixed (headOr ns) 1) (manyOf ns most) (wideOf ns most) (manyOf ns most).toNat)
theorem mixed_rg (n k : Int) : 0 ≤ mixed n k ∧ mixed n k < 2147483629 := ⟨Int.emod_nonneg _ (by decide), Int.emod_lt_of_pos _ (by decide)⟩
theorem many_rg {ns : List Int} {most : Int} (h : 1 ≤ most) : 1 ≤ manyOf ns most ∧ manyOf ns most ≤ most := by
  unfold manyOf
  have := Int.emod_nonneg (mixed (headOr ns) 1) (show most ≠ 0 by omega)
  have := Int.emod_lt_of_pos (mixed (headOr ns) 1) (show 0 < most by omega)
  omega
theorem wide_pos {ns : List Int} {most : Int} (h : 1 ≤ most) : 1 ≤ wideOf ns most := by
  have hm := (many_rg (ns := ns) h).1
  unfold wideOf widesOf
  have h0 := Int.emod_nonneg (mixed (headOr ns) 1 / 64) (show (5 : Int) ≠ 0 by decide)
  have h1 := Int.emod_lt_of_pos (mixed (headOr ns) 1 / 64) (show (0 : Int) < 5 by decide)
  generalize mixed (headOr ns) 1 / 64 % 5 = i at h0 h1
  have : i = 0 ∨ i = 1 ∨ i = 2 ∨ i = 3 ∨ i = 4 := by omega
  rcases this with rfl | rfl | rfl | rfl | rfl
  · show (1 : Int) ≤ 2; decide
  · show (1 : Int) ≤ 3; decide
  · show (1 : Int) ≤ 5; decide
  · show (1 : Int) ≤ 10 ^ 9; decide
  · exact hm
theorem mod_rg {a m : Int} (h : 1 ≤ m) : 0 ≤ a % m ∧ a % m < m := ⟨Int.emod_nonneg _ (by omega), Int.emod_lt_of_pos _ (by omega)⟩
theorem mod2 (a : Int) : a % 2 = 0 ∨ a % 2 = 1 := by omega
theorem row0_valid {num many wide : Int} {k : Nat} (hm : 1 ≤ many) (hw : 1 ≤ wide) : ValidR (row0 num many wide k) many := by
  refine ⟨mod2 _, (mod_rg hw).1, by simp [row0], fun x hx => ?_, by simp [row0]⟩
  have : x = mixed num (10 + k) / 7 % many := by simpa [row0] using hx
  rw [this]; exact mod_rg hm
theorem changed_valid {r : Row} {many m3 t way : Int} (h : ValidR r many) (h3 : 0 ≤ m3) (hw : 0 ≤ way ∧ way < many) : ValidR (changed r m3 t way) many := by
  obtain ⟨h1, h2, h4, h5, h6⟩ := h
  unfold changed
  split
  · refine ⟨?_, h2, h4, h5, h6⟩
    show 1 - r.p = 0 ∨ 1 - r.p = 1
    omega
  · split
    · exact ⟨h1, h3, h4, h5, h6⟩
    · split
      · rename_i hn
        refine ⟨h1, h2, by simp, fun x hx => ?_, nodup_snoc h6 hn⟩
        rcases List.mem_append.mp hx with q | q
        · exact h5 x q
        · have : x = way := by simpa using q
          rw [this]; exact hw
      · split
        · rename_i hl
          refine ⟨h1, h2, fun e => ?_, fun x hx => h5 x (List.mem_of_mem_eraseIdx hx), h6.sublist (List.eraseIdx_sublist _ _)⟩
          have := congrArg List.length e
          have h7 : (r.ws.eraseIdx (r.ws.idxOf way)).length ≥ r.ws.length - 1 := by
            rw [List.length_eraseIdx]
            split <;> omega
          have h8 : (r.ws.eraseIdx (r.ws.idxOf way)).length = 0 := this
          omega
        · exact ⟨h1, h2, h4, h5, h6⟩
theorem cellStep_ok {many wide : Int} (hm : 1 ≤ many) (hw : 1 ≤ wide) {g : List Row} (hl : (g.length : Int) = many) (h : ∀ r ∈ g, ValidR r many) (c : Int) : ((cellStep many wide g c).length : Int) = many ∧ ∀ r ∈ cellStep many wide g c, ValidR r many := by
  unfold cellStep
  dsimp only
  split
  · exact ⟨hl, h⟩
  · rename_i r hr
    refine ⟨by rw [List.length_set]; exact hl, fun r' hr' => ?_⟩
    rcases List.mem_or_eq_of_mem_set hr' with q | q
    · exact h r' q
    · rw [q]
      exact changed_valid (h r (List.mem_of_getElem? hr)) (mod_rg hw).1 (mod_rg hm)
theorem foldl_cell {many wide : Int} (hm : 1 ≤ many) (hw : 1 ≤ wide) : ∀ (cs : List Int) (g : List Row), (g.length : Int) = many → (∀ r ∈ g, ValidR r many) → ((cs.foldl (cellStep many wide) g).length : Int) = many ∧ ∀ r ∈ cs.foldl (cellStep many wide) g, ValidR r many
  | [], g, hl, h => ⟨hl, h⟩
  | c :: cs, g, hl, h => by
    obtain ⟨a, b⟩ := cellStep_ok hm hw hl h c
    exact foldl_cell hm hw cs _ a b
theorem rows0_ok {num many wide : Int} (hm : 1 ≤ many) (hw : 1 ≤ wide) (k : Nat) : (rows0 num many wide k).length = k ∧ ∀ r ∈ rows0 num many wide k, ValidR r many := by
  unfold rows0
  refine ⟨by rw [List.length_map, List.length_range], fun r hr => ?_⟩
  obtain ⟨j, _, rfl⟩ := List.mem_map.mp hr
  exact row0_valid hm hw
theorem lawGame_ok {ns : List Int} {most : Int} (h1 : 1 ≤ most) (h2 : most ≤ 40) : ValidG (lawGame ns most) ∧ ((lawGame ns most).length : Int) = manyOf ns most ∧ lawGame ns most ≠ [] := by
  obtain ⟨a, b⟩ := many_rg (ns := ns) h1
  have hw := wide_pos (ns := ns) h1
  obtain ⟨c, d⟩ := rows0_ok (num := mixed (headOr ns) 1) a hw (manyOf ns most).toNat
  obtain ⟨e, f⟩ := foldl_cell a hw ns _ (by rw [c]; omega) d
  have e' : ((lawGame ns most).length : Int) = manyOf ns most := e
  refine ⟨⟨by omega, fun r hr => ?_⟩, e', fun z => ?_⟩
  · rw [e']
    exact f r hr
  · rw [z] at e'
    have : (0 : Int) = manyOf ns most := e'
    omega
/-! ### heaps without the list that is being made -/
def wo (H : Hp) (D : Addr) : Hp := fun b => if b = D then none else H b
theorem wo_ne {H : Hp} {D b : Addr} (h : b ≠ D) : wo H D b = H b := if_neg h
theorem wo_sub (H : Hp) (D : Addr) : Same (wo H D) H := fun b o e => by
  by_cases h : b = D
  · rw [h] at e
    have e' : (if D = D then none else H D) = some o := e
    rw [if_pos rfl] at e'
    cases e'
  · rw [wo_ne h] at e
    exact e
theorem wo_mono {H H' : Hp} {D : Addr} (s : Same H H') : Same (wo H D) (wo H' D) := fun b o e => by
  by_cases h : b = D
  · rw [h] at e
    have e' : (if D = D then none else H D) = some o := e
    rw [if_pos rfl] at e'
    cases e'
  · rw [wo_ne h] at e ⊢
    exact s _ _ e
theorem wo_of {H H' : Hp} {D : Addr} (s : Same H H') (n : H D = none) : Same H (wo H' D) := fun b o e => by
  rw [wo_ne (ne_of_none e n)]
  exact s _ _ e
theorem wo_upd {H : Hp} {D : Addr} {o : HO} : wo (upd H D o) D = wo H D := by
  funext b
  by_cases h : b = D
  · rw [h]
    show (if D = D then none else _) = (if D = D then none else _)
    rw [if_pos rfl, if_pos rfl]
  · rw [wo_ne h, wo_ne h, upd_ne h]
theorem dpAll_snoc {K : PySem.W.Frag} {H : Hp} {v : V} {d : PyData} (h : Dp K H v d) : ∀ {vs : List V} {ds : List PyData}, DpAll K H vs ds → DpAll K H (vs ++ [v]) (ds ++ [d])
  | [], [], .nil => .cons h .nil
  | _ :: _, _ :: _, .cons a b => .cons a (dpAll_snoc h b)
theorem lc_data {K : PySem.W.Frag} {a : Addr} {xs : List V} {g : TG} {te : TE} {vs : List Nat} {σ : L2.St} {H1 : Hp} {D : Addr} {Qd : Hp → Prop} (ds : List PyData) (hl : ds.length = xs.length) (hS : SqL K H1 a xs) (nD : H1 D = none) (hz : xs.length ≤ 1000)
    (hs : ∀ (i : Nat) (x : V) (d : PyData) (H : Hp) (Q : VK), xs[i]? = some x → ds[i]? = some d → Same H1 H → (∃ acc, H D = some (.lst acc)) → (∀ y H', Same H H' → Dp K (wo H' D) y d → Q y H') → g x (wipe σ vs) H fun σ2 H2 => wipe σ2 vs = wipe σ vs ∧ te σ2 H2 Q)
    (hd : ∀ H ys, Same H1 H → H D = some (.lst ys) → DpAll K (wo H D) ys ds → Qd H) :
    ∃ W : Nat → Nat → Hp → Prop, (∃ m, W 0 m (upd H1 D (.lst []))) ∧ ∀ i m H, W i m H →
      ((Itl K a).stop i H ∧ Qd H) ∨ ((Itl K a).go i H ∧ ∃ Nx : Hp → Prop, (∀ H', Nx H' → ∃ m', m' < m ∧ W (i + 1) m' H') ∧ ∀ x H', (Itl K a).yld i H x H' → g x (wipe σ vs) H' fun σ2 H2 => wipe σ2 vs = wipe σ vs ∧ tYes σ2 H2 fun b H3 =>
        if b = true then te σ2 H3 fun y H4 => ∃ acc, H4 D = some (.lst acc) ∧ acc.length < sizeLine ∧ Nx (upd H4 D (.lst (acc ++ [y]))) else Nx H3) := by
  refine lc_list (K := K) (a := a) (xs := xs) (fun i H => Same H1 H ∧ ∃ acc, H D = some (.lst acc) ∧ DpAll K (wo H D) acc (ds.take i)) ⟨same_upd nD, [], upd_same, .nil⟩ (fun i H _ p => p.1.seq hS) (fun i x H hi p => ?_) (fun H p => ?_)
  · obtain ⟨sm, acc, hD, hA⟩ := p
    have hlt : i < ds.length := by rw [hl]; exact (List.getElem?_eq_some_iff.mp hi).1
    refine hs i x ds[i] H _ hi (List.getElem?_eq_getElem hlt) sm ⟨acc, hD⟩ (fun y H' s hy => ⟨acc, s _ _ hD, ?_, fun b o e => ?_, acc ++ [y], upd_same, ?_⟩)
    · have := DpAll.len hA
      rw [List.length_take] at this
      exact small1000 (by rw [this]; exact Nat.le_trans (Nat.min_le_right _ _) (by omega))
    · rw [upd_ne (ne_of_none e nD)]
      exact s _ _ (sm _ _ e)
    · rw [wo_upd, List.take_add_one, List.getElem?_eq_getElem hlt]
      exact dpAll_snoc hy (dp_monoAll (wo_mono s) _ _ hA)
  · obtain ⟨sm, acc, hD, hA⟩ := p
    rw [← hl, List.take_length] at hA
    exact hd H acc sm hD hA
def rLo (K : PySem.W.Frag) : List V → Hp → VK → Prop := fun xs H Q => ∃ p ys, xs = [.ref p] ∧ (SqL K H p ys ∨ SqT K H p ys) ∧ ∀ l, H l = none → Q (.ref l) (upd H l (.lst ys))
theorem kr_call_list_of {X : Cx} {K : PySem.W.Frag} (h : X.K = K) : CallR X (.type "list") (rLo K) := h ▸ call_list_of
theorem kr_pg_tup {X : Cx} {K : PySem.W.Frag} (hK : X.K = K) {es : List Expr} {k : Nat} {t : TGs} {n : Nat} {pos : Pos} (hc : X.calm = true) (h : PGs X es t) (hn : (assignEach es X.env).length = n := by rfl) (hst : (assignEach es X.env).findIdx? (·.1) = none := by rfl) : PG X (.Tuple es k pos) (gTup K n t) := hK ▸ pg_tup hc h hn hst
end G

namespace G
open PySem PySem.Spec PyProof.Rows L2
/-! ### == of plain data -/
theorem lay_ints : ∀ ns : List Int, PyData.canLayAll0 (ns.map .int) = true
  | [] => rfl
  | n :: ns => by
    show (true && PyData.canLayAll0 (ns.map .int)) = true
    rw [lay_ints ns]; rfl
theorem dep_ints : ∀ ns : List Int, PyData.depthAll (ns.map .int) = 0
  | [] => rfl
  | n :: ns => by
    show max 0 (PyData.depthAll (ns.map .int)) = 0
    rw [dep_ints ns]; rfl
theorem shaped_ints (ns : List Int) : SeqAt.shaped (intsD ns) = true := by
  show (PyData.canLayAll0 (ns.map .int) && decide (PyData.depthAll (ns.map .int) + 1 ≤ 64)) = true
  rw [lay_ints, dep_ints]; rfl
theorem eqv_nil (ns : List Int) : PyData.eqv (intsD ns) (.list []) = ns.isEmpty := by
  cases ns <;> rfl
/-! ### the law's rows, as lists that change -/
structure RowsAt (H0 H : Hp) (L : Addr) (rs : List (Addr × Addr)) (g : List Row) : Prop where
  same : Same H0 H
  l0 : H0 L = none
  list : H L = some (.lst (rs.map fun p => V.ref p.1))
  len : rs.length = g.length
  at_ : ∀ (i : Nat) (p : Addr × Addr) (r : Row), rs[i]? = some p → g[i]? = some r → H0 p.1 = none ∧ H0 p.2 = none ∧ H p.1 = some (.lst [.int r.p, .int r.n, .ref p.2]) ∧ H p.2 = some (.lst (r.ws.map V.int))
  ap : ∀ (i j : Nat) (p q : Addr × Addr), rs[i]? = some p → rs[j]? = some q → p.1 ≠ q.2 ∧ (p.1 = q.1 → i = j) ∧ (p.2 = q.2 → i = j)
  al : ∀ (i : Nat) (p : Addr × Addr), rs[i]? = some p → p.1 ≠ L ∧ p.2 ≠ L
theorem RowsAt.nil {H0 H : Hp} {L : Addr} (s : Same H0 H) (n : H0 L = none) (e : H L = some (.lst [])) : RowsAt H0 H L [] [] :=
  ⟨s, n, e, rfl, fun i p r h => by simp at h, fun i j p q h => by simp at h, fun i p h => by simp at h⟩
theorem RowsAt.there {H0 H : Hp} {L : Addr} {rs : List (Addr × Addr)} {g : List Row} (h : RowsAt H0 H L rs g) {i : Nat} {p : Addr × Addr} (hp : rs[i]? = some p) : ∃ r, g[i]? = some r := by
  have hlt : i < g.length := by rw [← h.len]; exact (List.getElem?_eq_some_iff.mp hp).1
  exact ⟨_, List.getElem?_eq_getElem hlt⟩
/-- what is new leaves it as it is -/
theorem RowsAt.grow {H0 H H' : Hp} {L : Addr} {rs : List (Addr × Addr)} {g : List Row} (h : RowsAt H0 H L rs g) (s : Same H H') : RowsAt H0 H' L rs g :=
  ⟨h.same.trans s, h.l0, s _ _ h.list, h.len, fun i p r hp hr => by
    obtain ⟨a, b, c, d⟩ := h.at_ i p r hp hr
    exact ⟨a, b, s _ _ c, s _ _ d⟩, h.ap, h.al⟩
theorem snoc_get {α : Type} {l : List α} {x y : α} {i : Nat} (h : (l ++ [x])[i]? = some y) : l[i]? = some y ∧ i < l.length ∨ i = l.length ∧ y = x := by
  rcases Nat.lt_or_ge i l.length with hi | hi
  · rw [List.getElem?_append_left hi] at h
    exact .inl ⟨h, hi⟩
  · rw [List.getElem?_append_right hi] at h
    have : i - l.length = 0 := by
      have := (List.getElem?_eq_some_iff.mp h).1
      simp at this
      omega
    rw [this] at h
    exact .inr ⟨by omega, (Option.some.inj h).symm⟩
/-- one more row: its ways' list at W, then itself at R, then the list of rows -/
theorem RowsAt.push {H0 H : Hp} {L W R : Addr} {rs : List (Addr × Addr)} {g : List Row} {r : Row} (h : RowsAt H0 H L rs g) (nW : H W = none) (nR : (upd H W (.lst (r.ws.map V.int))) R = none) :
    RowsAt H0 (upd (upd (upd H W (.lst (r.ws.map V.int))) R (.lst [.int r.p, .int r.n, .ref W])) L (.lst (rs.map (fun p => V.ref p.1) ++ [.ref R]))) L (rs ++ [(R, W)]) (g ++ [r]) := by
  have RW : R ≠ W := fun e => by
    rw [e, upd_same] at nR
    cases nR
  have nR' : H R = none := by rw [upd_ne RW] at nR; exact nR
  have LW : L ≠ W := ne_of_none h.list nW
  have LR : L ≠ R := ne_of_none h.list nR'
  have s1 : Same H (upd (upd H W (.lst (r.ws.map V.int))) R (.lst [.int r.p, .int r.n, .ref W])) := (same_upd nW).trans (same_upd nR)
  have old : ∀ {i : Nat} {p : Addr × Addr}, rs[i]? = some p → p.1 ≠ W ∧ p.1 ≠ R ∧ p.2 ≠ W ∧ p.2 ≠ R := fun hp => by
    obtain ⟨r', hr'⟩ := h.there hp
    obtain ⟨_, _, c, d⟩ := h.at_ _ _ _ hp hr'
    exact ⟨ne_of_none c nW, ne_of_none c nR', ne_of_none d nW, ne_of_none d nR'⟩
  refine ⟨fun b o e => ?_, h.l0, by rw [upd_same, List.map_append]; rfl, by rw [List.length_append, List.length_append, h.len]; rfl, fun i p r' hp hr' => ?_, fun i j p q hp hq => ?_, fun i p hp => ?_⟩
  · rw [upd_ne (ne_of_none e h.l0)]
    exact s1 _ _ (h.same _ _ e)
  · rcases snoc_get hp with ⟨hp1, hi⟩ | ⟨hi, rfl⟩
    · rw [List.getElem?_append_left (by rw [← h.len]; exact hi)] at hr'
      obtain ⟨a, b, c, d⟩ := h.at_ i p r' hp1 hr'
      obtain ⟨l1, l2⟩ := h.al i p hp1
      exact ⟨a, b, by rw [upd_ne l1]; exact s1 _ _ c, by rw [upd_ne l2]; exact s1 _ _ d⟩
    · subst hi
      rw [h.len, List.getElem?_append_right (Nat.le_refl _), Nat.sub_self] at hr'
      cases hr'
      refine ⟨h.same.free nR', h.same.free nW, ?_, ?_⟩
      · rw [upd_ne LR.symm, upd_same]
      · rw [upd_ne LW.symm, upd_ne RW.symm, upd_same]
  · rcases snoc_get hp with ⟨hp1, hi⟩ | ⟨hi, rfl⟩
    · rcases snoc_get hq with ⟨hq1, hj⟩ | ⟨hj, rfl⟩
      · exact h.ap i j p q hp1 hq1
      · obtain ⟨a, b, c, d⟩ := old hp1
        exact ⟨a, fun e => absurd e b, fun e => absurd e c⟩
    · rcases snoc_get hq with ⟨hq1, hj⟩ | ⟨hj, rfl⟩
      · obtain ⟨a, b, c, d⟩ := old hq1
        exact ⟨fun e => d e.symm, fun e => absurd e.symm b, fun e => absurd e.symm c⟩
      · exact ⟨RW, fun _ => hi.trans hj.symm, fun _ => hi.trans hj.symm⟩
  · rcases snoc_get hp with ⟨hp1, hi⟩ | ⟨hi, rfl⟩
    · exact h.al i p hp1
    · exact ⟨LR.symm, LW.symm⟩
theorem set_get {α : Type} {l : List α} {x y : α} {i j : Nat} (h : (l.set i x)[j]? = some y) : (i = j ∧ y = x) ∨ (i ≠ j ∧ l[j]? = some y) := by
  by_cases e : i = j
  · subst e
    have hlt : i < l.length := by
      have := (List.getElem?_eq_some_iff.mp h).1
      rw [List.length_set] at this
      exact this
    rw [List.getElem?_set_self hlt] at h
    exact .inl ⟨rfl, (Option.some.inj h).symm⟩
  · rw [List.getElem?_set_ne e] at h
    exact .inr ⟨e, h⟩
/-- a row gets another player or number -/
theorem RowsAt.row {H0 H : Hp} {L : Addr} {rs : List (Addr × Addr)} {g : List Row} {i : Nat} {p : Addr × Addr} {r : Row} (h : RowsAt H0 H L rs g) (hp : rs[i]? = some p) (hr : g[i]? = some r) (a b : Int) :
    RowsAt H0 (upd H p.1 (.lst [.int a, .int b, .ref p.2])) L rs (g.set i ⟨a, b, r.ws⟩) := by
  obtain ⟨n1, n2, c1, c2⟩ := h.at_ i p r hp hr
  obtain ⟨l1, l2⟩ := h.al i p hp
  refine ⟨fun b o e => ?_, h.l0, by rw [upd_ne l1.symm]; exact h.list, by rw [List.length_set]; exact h.len, fun j q r' hq hr' => ?_, h.ap, h.al⟩
  · rw [upd_ne (ne_of_none e n1)]
    exact h.same _ _ e
  · rcases set_get hr' with ⟨rfl, rfl⟩ | ⟨hne, hr''⟩
    · rw [hp] at hq
      cases hq
      exact ⟨n1, n2, upd_same, by rw [upd_ne (h.ap i i p p hp hp).1.symm]; exact c2⟩
    · obtain ⟨m1, m2, d1, d2⟩ := h.at_ j q r' hq hr''
      obtain ⟨x1, x2, _⟩ := h.ap i j p q hp hq
      exact ⟨m1, m2, by rw [upd_ne fun e => hne (x2 e.symm)]; exact d1, by rw [upd_ne x1.symm]; exact d2⟩
/-- a row's ways change -/
theorem RowsAt.ways {H0 H : Hp} {L : Addr} {rs : List (Addr × Addr)} {g : List Row} {i : Nat} {p : Addr × Addr} {r : Row} (h : RowsAt H0 H L rs g) (hp : rs[i]? = some p) (hr : g[i]? = some r) (ws : List Int) :
    RowsAt H0 (upd H p.2 (.lst (ws.map V.int))) L rs (g.set i ⟨r.p, r.n, ws⟩) := by
  obtain ⟨n1, n2, c1, c2⟩ := h.at_ i p r hp hr
  obtain ⟨l1, l2⟩ := h.al i p hp
  refine ⟨fun b o e => ?_, h.l0, by rw [upd_ne l2.symm]; exact h.list, by rw [List.length_set]; exact h.len, fun j q r' hq hr' => ?_, h.ap, h.al⟩
  · rw [upd_ne (ne_of_none e n2)]
    exact h.same _ _ e
  · rcases set_get hr' with ⟨rfl, rfl⟩ | ⟨hne, hr''⟩
    · rw [hp] at hq
      cases hq
      exact ⟨n1, n2, by rw [upd_ne (h.ap i i p p hp hp).1]; exact c1, upd_same⟩
    · obtain ⟨m1, m2, d1, d2⟩ := h.at_ j q r' hq hr''
      obtain ⟨_, _, x3⟩ := h.ap i j p q hp hq
      obtain ⟨y1, _, _⟩ := h.ap j i q p hq hp
      exact ⟨m1, m2, by rw [upd_ne y1]; exact d1, by rw [upd_ne fun e => hne (x3 e.symm)]; exact d2⟩
theorem RowsAt.id {H0 H : Hp} {L : Addr} {rs : List (Addr × Addr)} {g : List Row} {i : Nat} {r : Row} (h : RowsAt H0 H L rs g) (hr : g[i]? = some r) : RowsAt H0 H L rs (g.set i r) := by
  have e : g.set i r = g := by
    apply List.ext_getElem?
    intro j
    by_cases hj : i = j
    · subst hj
      rw [List.getElem?_set_self (List.getElem?_eq_some_iff.mp hr).1, hr]
    · rw [List.getElem?_set_ne hj]
  rw [e]
  exact h
theorem if_join {b : Bool} {ta tb : TE} {σ : L2.St} {H : Hp} {Q : VK} {v : V} (h1 : b = true → ∀ Q : VK, Q v H → ta σ H Q) (h2 : b = false → ∀ Q : VK, Q v H → tb σ H Q) (q : Q v H) : if b = true then ta σ H Q else tb σ H Q := by
  cases b with
  | true => exact iteT (h1 rfl Q q)
  | false => exact iteF (h2 rfl Q q)
theorem atI_ints {xs : List Int} {i : Int} (h0 : 0 ≤ i) (h1 : i.toNat < xs.length) : atI (xs.map V.int) i = some (.int (xs.getD i.toNat 0)) :=
  atI_int h0 (by rw [List.getElem?_map, List.getElem?_eq_getElem h1, List.getD_eq_getElem?_getD, List.getElem?_eq_getElem h1]; rfl)
end G

namespace G
open PySem PySem.Spec PyProof.Rows L2
section
variable {P : Program} {w : World} {K : PySem.W.Frag} {mg : Str → Option Value} {base : Heap}
def spLawGame (K : PySem.W.Frag) : Sp := fun vs H Q _ => ∃ (a : Addr) (ns : List Int) (most : Int), vs = [.ref a, .int most] ∧ SqL K H a (ns.map V.int) ∧ 1 ≤ most ∧ most ≤ 40 ∧ ∀ H' v, Same H H' → Dp K H' v (gameD (lawGame ns most)) → Q v H'
theorem ok_law_game {f : Addr} {fd : FuncData} (B : Bt mg) (F : Fun K "_law_game" "_law_game" s__law_game f fd) (C__law_mixed : Cal P w K mg base 1 "_law_mixed" spMixed) : FnOk P w K mg base (L2.CX P w) 2 f fd ["_law_script", "_law_most"] (spLawGame K) := by
  refine F.okX sc__law_game (fun vs H Q E h => ?_) (fun cdv Ar outer s H vs Q E hr h => ?_)
  · obtain ⟨a, ns, most, rfl, _⟩ := h
    rfl
  · obtain ⟨a, ns, most, rfl, hS, hm1, hm2, q⟩ := h
    refine ⟨_, (pss_cons (ps_set (i := 2) sc__law_game.nd rfl (Or.inl rfl) (pe_cal C__law_mixed hr (by decide) (by rfl) (pa_cons (pe_ifExp (pt_cmpR (op_neD hr.units) (pv 0) (pe_lst pa_nil) (nomark _)) (pe_ix ix_list (pv 0) pe_int (fun _ _ => rfl)) pe_int) (pa_cons pe_int pa_nil))))
      (pss_cons (ps_set (i := 3) sc__law_game.nd rfl (Or.inl rfl) (pe_op op_add (pe_op op_mod (pv 2) (pv 1)) pe_int))
      (pss_cons (ps_set (i := 4) sc__law_game.nd rfl (Or.inl rfl) (pe_ix ix_list (pe_lst (pa_cons pe_int (pa_cons pe_int (pa_cons pe_int (pa_cons (pe_op op_pow pe_int pe_int) (pa_cons (pv 3) pa_nil)))))) (pe_op op_mod (pe_op op_fdiv (pv 2) pe_int) pe_int) (fun _ _ => rfl)))
      (pss_cons (ps_set (i := 5) sc__law_game.nd rfl (Or.inl rfl) (pe_lst pa_nil))
      (pss_cons (ps_for (passes_of rfl) rfl (pi_range1 (by rfl) B.range_ (pa_cons (pv 3) pa_nil)) (pg_name (i := 6) sc__law_game.nd rfl (Or.inl rfl)) (pss_cons (ps_set (i := 7) sc__law_game.nd rfl (Or.inl rfl) (pe_cal C__law_mixed hr (by decide) (by rfl) (pa_cons (pv 2) (pa_cons (pe_op op_add pe_int (pv 6)) pa_nil))))
      (pss_one (ps_expr (pe_bm PySem.F.plainAttrs_list PySem.F.slot_list_append PySem.F.type_list_append mt_append (pv 5) (pa_cons (pe_lst (pa_cons (pe_op op_mod (pv 7) pe_int) (pa_cons (pe_op op_mod (pe_op op_fdiv (pv 7) pe_int) (pv 4)) (pa_cons (pe_lst (pa_cons (pe_op op_mod (pe_op op_fdiv (pv 7) pe_int) (pv 3)) pa_nil)) pa_nil)))) pa_nil))))))
      (pss_cons (ps_for (passes_of rfl) rfl (pi_list (pv 0)) (pg_name (i := 8) sc__law_game.nd rfl (Or.inl rfl)) (pss_cons (ps_set (i := 7) sc__law_game.nd rfl (Or.inl rfl) (pe_cal C__law_mixed hr (by decide) (by rfl) (pa_cons (pv 8) (pa_cons pe_int pa_nil))))
      (pss_cons (ps_set (i := 9) sc__law_game.nd rfl (Or.inl rfl) (pe_ix ix_list (pv 5) (pe_op op_mod (pv 7) (pv 3)) (fun _ _ => rfl)))
      (pss_cons (ps_set (i := 10) sc__law_game.nd rfl (Or.inl rfl) (pe_op op_mod (pe_op op_fdiv (pv 7) (pv 3)) (pv 3)))
      (pss_one (ps_if (pt_cmpR op_eq (pe_op op_mod (pe_op op_fdiv (pv 7) pe_int) pe_int) pe_int (nomark _)) (pss_one (ps_asg (pe_op op_sub pe_int (pe_ix ix_list (pv 9) pe_int (fun _ _ => rfl))) (pg_sub (pv 9) pe_int set_list))) (pss_one (ps_if (pt_cmpR op_eq (pe_op op_mod (pe_op op_fdiv (pv 7) pe_int) pe_int) pe_int (nomark _)) (pss_one (ps_asg (pe_op op_mod (pe_cal C__law_mixed hr (by decide) (by rfl) (pa_cons (pv 7) (pa_cons pe_int pa_nil))) (pv 4)) (pg_sub (pv 9) pe_int set_list))) (pss_one (ps_if (pt_cmpR op_notIn_seq (pv 10) (pe_ix ix_list (pv 9) pe_int (fun _ _ => rfl)) (by rfl)) (pss_one (ps_expr (pe_bm PySem.F.plainAttrs_list PySem.F.slot_list_append PySem.F.type_list_append mt_append (pe_ix ix_list (pv 9) pe_int (fun _ _ => rfl)) (pa_cons (pv 10) pa_nil)))) (pss_one (ps_if (pt_cmpR op_gt (pe_callB call_len_seq (by rfl) B.len_ (by decide +kernel) (pa_cons (pe_ix ix_list (pv 9) pe_int (fun _ _ => rfl)) pa_nil)) pe_int (nomark _)) (pss_one (ps_expr (pe_bm PySem.F.plainAttrs_list PySem.F.slot_list_remove PySem.F.type_list_remove mt_remove (pe_ix ix_list (pv 9) pe_int (fun _ _ => rfl)) (pa_cons (pv 10) pa_nil)))) pss_nil))))))))))))
      (pss_one (ps_ret (pe_lc (own := [("_law_row", 9)]) (by rfl) sc__law_game.nd (pi_list (pv 5)) (blkOk_by (own := [("_law_row", 9)]) (N := ["_law_script", "_law_most", "_law_number", "_law_many", "_law_wide", "_law_rows", "_law_place", "_law_more", "_law_cell", "_law_row", "_law_way"]) (sc := defScope s__law_game) (by decide +kernel)) (fun _ _ _ _ _ => (pg_name (i := 9) sc__law_game.nd rfl (Or.inl rfl))) (fun _ _ _ _ _ => pts_nil) (fun _ _ _ _ _ => (pe_tup (pa_cons (pe_ix (kr_ix_list (K := K) rfl) (pv 9) pe_int (fun _ _ => rfl)) (pa_cons (pe_ix (kr_ix_list (K := K) rfl) (pv 9) pe_int (fun _ _ => rfl)) (pa_cons (pe_ix (kr_ix_list (K := K) rfl) (pv 9) pe_int (fun _ _ => rfl)) pa_nil)))))))))))))), ?_⟩
    -- _law_number = _law_mixed(_law_script[0] if _law_script != [] else 6, 1)
    refine ⟨_, rfl, Nat.zero_le _, fun e0 ne0 => ⟨intsD ns, .list [], .lst ((same_upd ne0).seq hS) (dpa_ints' ns), .lst (.inl (.inl upd_same)) .nil, shaped_ints ns, rfl, _, rfl, ?_⟩⟩
    have sm0 : Same H (upd H e0 (.lst [])) := same_upd ne0
    rw [eqv_nil]
    refine if_join (v := .int (headOr ns)) (fun hb Q' q' => ?_) (fun hb Q' q' => ?_) ?_
    · cases ns with
      | nil => cases hb
      | cons x r => exact ⟨_, rfl, _, _, _, _, rfl, rfl, sm0.seq hS, atI_nat (j := 0) rfl, q'⟩
    · cases ns with
      | nil => exact q'
      | cons x r => cases hb
    have hnum := mixed_rg (headOr ns) 1
    refine ⟨_, _, rfl, by decide, by decide, ?_⟩
    -- _law_many, _law_wide, _law_rows
    refine ⟨_, rfl, _, rfl, _, _, rfl, rfl, (by omega : (0:Int) < most), _, _, rfl, rfl, ?_⟩
    obtain ⟨hk1, hk2⟩ := many_rg (ns := ns) hm1
    have hw := wide_pos (ns := ns) hm1
    have h5a := Int.emod_nonneg (mixed (headOr ns) 1 / 64) (show (5 : Int) ≠ 0 by decide)
    have h5b := Int.emod_lt_of_pos (mixed (headOr ns) 1 / 64) (show (0 : Int) < 5 by decide)
    refine ⟨_, _, rfl, rfl, ⟨by decide, by decide, by decide⟩, _, rfl, (by show 5 ≤ sizeLine; decide), fun l0 nl0 => ⟨_, rfl, _, _, rfl, rfl, ⟨by decide, by decide⟩, _, _, rfl, rfl, (by show (0:Int) < 5; decide), l0, _, _, .int (wideOf ns most), rfl, rfl, .inl (.inl upd_same), atI_ints (xs := widesOf (manyOf ns most)) h5a (by show _ < 5; omega), ?_⟩⟩
    refine ⟨Nat.zero_le _, fun L nL => ?_⟩
    have smL := sm0.trans (same_upd (o := .lst [.int 2, .int 3, .int 5, .int (10 ^ (9 : Int).toNat), .int (mixed (headOr ns) 1 % most + 1)]) nl0)
    -- for _law_place in range(_law_many)
    refine ⟨_, rfl, manyOf ns most, rfl, by omega, by omega, for_range (lo := 0) (n := (manyOf ns most).toNat) (fun i σ H' => ∃ (y6 y7 : Option V) (rs : List (Addr × Addr)), σ = [some (.ref a), some (.int most), some (.int (mixed (headOr ns) 1)), some (.int (manyOf ns most)), some (.int (wideOf ns most)), some (.ref L), y6, y7, none, none, none] ∧
        RowsAt H H' L rs (rows0 (mixed (headOr ns) 1) (manyOf ns most) (wideOf ns most) i)) ⟨none, none, [], rfl, .nil (smL.trans (same_upd nL)) (smL.free nL) upd_same⟩ (fun i σ H' hi hP => ?_) (fun σ H' hP => ?_)⟩
    · obtain ⟨y6, y7, rs, rfl, hR⟩ := hP
      refine ⟨_, rfl, _, rfl, _, _, rfl, rfl, _, _, rfl, by omega, by omega, ?_⟩
      rw [show (10 : Int) + (0 + (i : Int)) = 10 + (i : Int) by omega]
      have hmr := mixed_rg (mixed (headOr ns) 1) (10 + (i : Int))
      have hlen : rs.length = i := by rw [hR.len]; exact (rows0_ok hk1 hw i).1
      refine ⟨_, rfl, .inl ⟨rfl, _, .inl (.inl hR.list)⟩, _, rfl, _, _, rfl, rfl, (by show (0:Int) < 2; decide), _, rfl, _, _, rfl, rfl, ⟨by decide, by decide⟩, _, rfl, _, _, rfl, rfl, (by omega : (0:Int) < wideOf ns most), _, rfl, _, _, rfl, rfl, ⟨by decide, by decide⟩, _, rfl, _, _, rfl, rfl, (by omega : (0:Int) < manyOf ns most), (by show 1 ≤ sizeLine; decide), fun W nW => ⟨(by show 3 ≤ sizeLine; decide), fun R nR => ?_⟩⟩
      have hpush := hR.push (r := row0 (mixed (headOr ns) 1) (manyOf ns most) (wideOf ns most) i) nW nR
      have LW : L ≠ W := ne_of_none hR.list nW
      have nR' : H' R = none := by
        have RW : R ≠ W := fun e => by
          rw [e, upd_same] at nR
          cases nR
        rw [upd_ne RW] at nR
        exact nR
      refine ⟨L, rs.map (fun p => V.ref p.1), _, rfl, rfl, ?_, ?_⟩
      · rw [upd_ne (ne_of_none hR.list nR'), upd_ne LW]
        exact hR.list
      · refine ⟨by rw [List.length_map, hlen]; exact small1000 (by omega), ?_⟩
        refine ⟨_, _, rs ++ [(R, W)], rfl, ?_⟩
        have e1 : rows0 (mixed (headOr ns) 1) (manyOf ns most) (wideOf ns most) (i + 1) = rows0 (mixed (headOr ns) 1) (manyOf ns most) (wideOf ns most) i ++ [row0 (mixed (headOr ns) 1) (manyOf ns most) (wideOf ns most) i] := by
          unfold rows0
          rw [List.range_succ, List.map_append]
          rfl
        rw [e1]
        exact hpush
    · obtain ⟨y6, y7, rs, rfl, hR⟩ := hP
      -- for _law_cell in _law_script
      refine ⟨_, rfl, a, rfl, ⟨_, hR.same.seq hS⟩, for_list (K := K) (a := a) (xs := ns.map V.int) (fun i σ H' => ∃ (y6 y7 y8 y9 y10 : Option V) (rs : List (Addr × Addr)), σ = [some (.ref a), some (.int most), some (.int (mixed (headOr ns) 1)), some (.int (manyOf ns most)), some (.int (wideOf ns most)), some (.ref L), y6, y7, y8, y9, y10] ∧
        RowsAt H H' L rs ((ns.take i).foldl (cellStep (manyOf ns most) (wideOf ns most)) (rows0 (mixed (headOr ns) 1) (manyOf ns most) (wideOf ns most) (manyOf ns most).toNat))) ⟨y6, y7, none, none, none, rs, rfl, hR⟩ (fun i σ H' _ ⟨_, _, _, _, _, _, _, hR⟩ => hR.same.seq hS) (fun i x σ H' hi hP => ?_) (fun σ H' hP => ?_)⟩
      · obtain ⟨y6, y7, y8, y9, y10, rs, rfl, hR⟩ := hP
        rw [List.getElem?_map] at hi
        obtain ⟨c, hc, rfl⟩ := Option.map_eq_some_iff.mp hi
        obtain ⟨c1, c2⟩ := rows0_ok (num := mixed (headOr ns) 1) hk1 hw (manyOf ns most).toNat
        obtain ⟨c3, c4⟩ := foldl_cell hk1 hw (ns.take i) _ (by rw [c1]; omega) c2
        have hnext : (ns.take (i + 1)).foldl (cellStep (manyOf ns most) (wideOf ns most)) (rows0 (mixed (headOr ns) 1) (manyOf ns most) (wideOf ns most) (manyOf ns most).toNat) = cellStep (manyOf ns most) (wideOf ns most) ((ns.take i).foldl (cellStep (manyOf ns most) (wideOf ns most)) (rows0 (mixed (headOr ns) 1) (manyOf ns most) (wideOf ns most) (manyOf ns most).toNat)) c := by
          rw [List.take_add_one, hc, List.foldl_append]
          rfl
        generalize hg : (ns.take i).foldl (cellStep (manyOf ns most) (wideOf ns most)) (rows0 (mixed (headOr ns) 1) (manyOf ns most) (wideOf ns most) (manyOf ns most).toNat) = g at hR c3 c4 hnext
        obtain ⟨i0, i1⟩ := mod_rg (a := mixed c 2) hk1
        have hlt : (mixed c 2 % manyOf ns most).toNat < g.length := by omega
        have hr : g[(mixed c 2 % manyOf ns most).toNat]? = some g[(mixed c 2 % manyOf ns most).toNat] := List.getElem?_eq_getElem hlt
        have hp : rs[(mixed c 2 % manyOf ns most).toNat]? = some (rs[(mixed c 2 % manyOf ns most).toNat]'(by rw [hR.len]; exact hlt)) := List.getElem?_eq_getElem _
        generalize g[(mixed c 2 % manyOf ns most).toNat] = r at hr
        generalize (rs[(mixed c 2 % manyOf ns most).toNat]'(by rw [hR.len]; exact hlt)) = p at hp
        have hstep : cellStep (manyOf ns most) (wideOf ns most) g c = g.set (mixed c 2 % manyOf ns most).toNat (changed r (mixed (mixed c 2) 3 % wideOf ns most) (mixed c 2 / 1009 % 8) (mixed c 2 / manyOf ns most % manyOf ns most)) := by
          unfold cellStep
          dsimp only
          rw [hr]
        obtain ⟨n1, n2, d1, d2⟩ := hR.at_ _ p r hp hr
        have hvr := c4 r (List.mem_of_getElem? hr)
        have hwl : r.ws.length ≤ 40 := Nat.le_trans (ValidR.len (m := g.length) (by rw [c3]; exact hvr)) (by omega)
        -- more, row, way
        refine ⟨_, rfl, _, _, rfl, by decide, by decide, ?_⟩
        refine ⟨_, rfl, _, rfl, _, rfl, _, _, rfl, rfl, (by omega : (0:Int) < manyOf ns most), _, _, _, .ref p.1, rfl, rfl, .inl (.inl hR.list), atI_int i0 (by rw [List.getElem?_map, hp]; rfl), ?_⟩
        refine ⟨_, rfl, _, rfl, _, _, rfl, rfl, ⟨by omega, by omega⟩, _, rfl, _, _, rfl, rfl, (by omega : (0:Int) < manyOf ns most), ?_⟩
        have fin : ∀ (H2 : Hp), RowsAt H H2 L rs (g.set (mixed c 2 % manyOf ns most).toNat (changed r (mixed (mixed c 2) 3 % wideOf ns most) (mixed c 2 / 1009 % 8) (mixed c 2 / manyOf ns most % manyOf ns most))) →
            ∃ (z6 z7 z8 z9 z10 : Option V) (rs : List (Addr × Addr)), [some (V.ref a), some (.int most), some (.int (mixed (headOr ns) 1)), some (.int (manyOf ns most)), some (.int (wideOf ns most)), some (.ref L), y6, some (.int (mixed c 2)), some (.int c), some (.ref p.1), some (.int (mixed c 2 / manyOf ns most % manyOf ns most))] = [some (.ref a), some (.int most), some (.int (mixed (headOr ns) 1)), some (.int (manyOf ns most)), some (.int (wideOf ns most)), some (.ref L), z6, z7, z8, z9, z10] ∧
              RowsAt H H2 L rs ((ns.take (i + 1)).foldl (cellStep (manyOf ns most) (wideOf ns most)) (rows0 (mixed (headOr ns) 1) (manyOf ns most) (wideOf ns most) (manyOf ns most).toNat)) := fun H2 h2 => by
          rw [hnext, hstep]
          exact ⟨_, _, _, _, _, rs, rfl, h2⟩
        have hway2 := mod_rg (a := mixed c 2 / manyOf ns most) hk1
        -- if _law_more // 1009 % 8 == 0
        refine ⟨_, rfl, _, _, rfl, rfl, ⟨by decide, by decide⟩, _, _, rfl, rfl, (by show (0:Int) < 8; decide), rfl, _, rfl, ite2 (fun e => ?_) (fun e => ?_)⟩
        · have e0 : mixed c 2 / 1009 % 8 = 0 := V.int.inj (of_decide_eq_true e)
          refine ⟨_, rfl, _, _, _, _, rfl, rfl, .inl (.inl d1), atI_nat (j := 0) rfl, _, _, rfl, rfl, _, rfl, _, _, _, 0, rfl, rfl, d1, rfl, fin _ ?_⟩
          unfold changed
          rw [if_pos e0]
          exact hR.row hp hr (1 - r.p) r.n
        have e0 : ¬ mixed c 2 / 1009 % 8 = 0 := fun z => e (decide_eq_true (congrArg V.int z))
        refine ⟨_, rfl, _, _, rfl, rfl, ⟨by decide, by decide⟩, _, _, rfl, rfl, (by show (0:Int) < 8; decide), rfl, _, rfl, ite2 (fun e => ?_) (fun e => ?_)⟩
        · have e1 : mixed c 2 / 1009 % 8 = 1 := V.int.inj (of_decide_eq_true e)
          refine ⟨_, rfl, _, _, rfl, by decide, by decide, _, rfl, _, _, rfl, rfl, (by omega : (0:Int) < wideOf ns most), _, rfl, _, _, _, 1, rfl, rfl, d1, rfl, fin _ ?_⟩
          unfold changed
          rw [if_neg e0, if_pos e1]
          exact hR.row hp hr r.p _
        have e1 : ¬ mixed c 2 / 1009 % 8 = 1 := fun z => e (decide_eq_true (congrArg V.int z))
        refine ⟨_, rfl, _, rfl, _, _, _, _, rfl, rfl, .inl (.inl d1), atI_nat (j := 2) rfl, _, _, rfl, .inl (.inl (.inl d2)), rfl, flat_ints _, _, rfl, ?_⟩
        rw [inV_int]
        cases hin : decide ((mixed c 2 / manyOf ns most % manyOf ns most) ∈ r.ws) with
        | false =>
          have hno : (mixed c 2 / manyOf ns most % manyOf ns most) ∉ r.ws := of_decide_eq_false hin
          refine iteT ⟨_, rfl, _, _, _, _, rfl, rfl, .inl (.inl d1), atI_nat (j := 2) rfl, .inl ⟨rfl, _, .inl (.inl d2)⟩, _, rfl, _, _, _, rfl, rfl, d2, ?_, fin _ ?_⟩
          · rw [List.length_map]
            exact small1000 (by omega)
          · unfold changed
            rw [if_neg e0, if_neg e1, if_pos hno]
            have := hR.ways hp hr (r.ws ++ [(mixed c 2 / manyOf ns most % manyOf ns most)])
            rw [List.map_append] at this
            exact this
        | true =>
          have hyes : (mixed c 2 / manyOf ns most % manyOf ns most) ∈ r.ws := of_decide_eq_true hin
          refine iteF ⟨_, rfl, _, _, _, _, rfl, rfl, .inl (.inl d1), atI_nat (j := 2) rfl, _, _, rfl, .inl (.inl (.inl d2)), _, _, rfl, rfl, _, rfl, ite2 (fun e => ?_) (fun e => ?_)⟩
          · have e2 : 1 < r.ws.length := by
              have := of_decide_eq_true e
              rw [List.length_map] at this
              omega
            have hix := List.idxOf_lt_length_of_mem hyes
            refine ⟨_, rfl, _, _, _, _, rfl, rfl, .inl (.inl d1), atI_nat (j := 2) rfl, .inl ⟨rfl, _, .inl (.inl d2)⟩, _, rfl, p.2, r.ws, (mixed c 2 / manyOf ns most % manyOf ns most), r.ws.idxOf (mixed c 2 / manyOf ns most % manyOf ns most), rfl, rfl, d2, ?_, fun m hm hz => ?_, fin _ ?_⟩
            · rw [List.getElem?_eq_getElem hix, List.getElem_idxOf]
            · have := List.not_of_lt_findIdx (p := fun x => x == (mixed c 2 / manyOf ns most % manyOf ns most)) hm
              rw [List.getElem?_eq_getElem (Nat.lt_trans hm hix)] at hz
              rw [Option.some.inj hz] at this
              simp at this
            · unfold changed
              rw [if_neg e0, if_neg e1, if_neg (fun h => h hyes), if_pos e2]
              exact hR.ways hp hr _
          · have e2 : ¬ 1 < r.ws.length := fun z => e (decide_eq_true (by rw [List.length_map]; omega))
            refine fin _ ?_
            unfold changed
            rw [if_neg e0, if_neg e1, if_neg (fun h => h hyes), if_neg e2]
            exact hR.id hr
      · -- return [(row[0], row[1], row[2]) for row in rows]
        obtain ⟨y6, y7, y8, y9, y10, rs, rfl, hR⟩ := hP
        rw [List.length_map, List.take_length] at hR
        have hg : ns.foldl (cellStep (manyOf ns most) (wideOf ns most)) (rows0 (mixed (headOr ns) 1) (manyOf ns most) (wideOf ns most) (manyOf ns most).toNat) = lawGame ns most := rfl
        rw [hg] at hR
        obtain ⟨g1, g2, g3⟩ := lawGame_ok (ns := ns) hm1 hm2
        refine ⟨_, rfl, L, rfl, ⟨_, .inl (.inl hR.list)⟩, fun D nD => lc_data ((lawGame ns most).map rowD) (by rw [List.length_map, List.length_map, hR.len]) (.inl (.inl hR.list)) nD (by rw [List.length_map, hR.len]; have := g1.1; omega) (fun i x d H3 Q' hx hd sm3 hacc hQ => ?_) (fun H3 ys sm3 hD hA => ?_)⟩
        · rw [List.getElem?_map] at hx hd
          obtain ⟨p, hp, rfl⟩ := Option.map_eq_some_iff.mp hx
          obtain ⟨r, hr, rfl⟩ := Option.map_eq_some_iff.mp hd
          obtain ⟨n1, n2, d1, d2⟩ := hR.at_ i p r hp hr
          have d1' := sm3 _ _ d1
          refine ⟨rfl, _, rfl, _, _, _, _, rfl, rfl, .inl (.inl d1'), atI_nat (j := 0) rfl, _, rfl, _, _, _, _, rfl, rfl, .inl (.inl d1'), atI_nat (j := 1) rfl, _, rfl, _, _, _, _, rfl, rfl, .inl (.inl d1'), atI_nat (j := 2) rfl, (by show 3 ≤ sizeLine; decide), fun T nT => hQ _ _ (same_upd nT) ?_⟩
          obtain ⟨acc, hacc⟩ := hacc
          have TD : T ≠ D := (ne_of_none hacc nT).symm
          refine .tup (.inl (.inl (by rw [wo_ne TD, upd_same]))) (.cons (.int _) (.cons (.int _) (.cons (.lst (.inl (.inl ?_)) (dpa_ints' _)) .nil)))
          rw [wo_ne (ne_of_none d2 nD), upd_ne (ne_of_none (sm3 _ _ d2) nT)]
          exact sm3 _ _ d2
        · exact q _ _ (hR.same.trans sm3) (.lst (.inl (.inl hD)) (dp_monoAll (wo_sub _ _) _ _ hA))
end
end G

namespace G
open PySem PySem.Spec PyProof.Rows L2
abbrev s__law_copied : Stmt := topS 27
theorem sc__law_copied : FnScope ["_law_game_here", "_law_player", "_law_number", "_law_ways"] ["_law_game_here"] (defScope s__law_copied) := ⟨rfl, rfl, rfl, by decide +kernel, rfl, by decide +kernel, by decide +kernel⟩
section
variable {P : Program} {w : World} {K : PySem.W.Frag} {mg : Str → Option Value} {base : Heap}
def spCopied (K : PySem.W.Frag) : Sp := fun vs H Q _ => ∃ (v : V) (g : List Row), vs = [v] ∧ Dp K H v (gameD g) ∧ g.length ≤ 40 ∧ ∀ H' p, Same H H' → Dp K H' (.ref p) (gameD g) → Q (.ref p) H'
theorem ok_law_copied {f : Addr} {fd : FuncData} (B : Bt mg) (F : Fun K "_law_copied" "_law_copied" s__law_copied f fd) : FnOk P w K mg base (L2.CX P w) 1 f fd ["_law_game_here"] (spCopied K) := by
  refine F.okX sc__law_copied (fun vs H Q E h => ?_) (fun cdv Ar outer s H vs Q E hr h => ?_)
  · obtain ⟨v, g, rfl, _⟩ := h
    rfl
  · obtain ⟨v, g, rfl, hg, hl, q⟩ := h
    refine ⟨_, (pss_one (ps_ret (pe_lc (own := [("_law_player", 1), ("_law_number", 2), ("_law_ways", 3)]) (by rfl) sc__law_copied.nd (pi_list (pv 0)) (blkOk_by (own := [("_law_player", 1), ("_law_number", 2), ("_law_ways", 3)]) (N := ["_law_game_here", "_law_player", "_law_number", "_law_ways"]) (sc := defScope s__law_copied) (by decide +kernel)) (fun _ _ _ _ _ => (kr_pg_tup (K := K) (n := 3) (by rfl) (by rfl) (pgs_cons (pg_name (i := 1) sc__law_copied.nd rfl (Or.inl rfl)) (pgs_cons (pg_name (i := 2) sc__law_copied.nd rfl (Or.inl rfl)) (pgs_cons (pg_name (i := 3) sc__law_copied.nd rfl (Or.inl rfl)) pgs_nil))))) (fun _ _ _ _ _ => pts_nil) (fun _ _ _ _ _ => (pe_tup (pa_cons (pv 1) (pa_cons (pv 2) (pa_cons (pe_callTy (kr_call_list_of (K := K) rfl) (by rfl) B.list_ (by decide +kernel) (pa_cons (pv 3) pa_nil)) pa_nil)))))))), ?_⟩
    obtain ⟨ag, xg, rfl, hG, hGl, hGr⟩ := dp_game hg
    refine ⟨_, rfl, ag, rfl, ⟨_, hG⟩, fun D nD => lc_data (g.map rowD) (by rw [List.length_map, hGl]) hG nD (by omega) (fun i x d H3 Q' hx hd sm3 hacc hQ => ?_) (fun H3 ys sm3 hD hA => ?_)⟩
    · rw [List.getElem?_map] at hd
      obtain ⟨r, hr, rfl⟩ := Option.map_eq_some_iff.mp hd
      obtain ⟨t, wy, ht, hT, hW⟩ := hGr i r hr
      rw [hx] at ht
      cases ht
      obtain ⟨acc, hacc⟩ := hacc
      refine ⟨t, _, rfl, same_sqt sm3 hT, rfl, _, _, rfl, _, _, rfl, _, _, rfl, rfl, rfl, _, rfl, _, rfl, _, rfl, wy, _, rfl, .inl (sm3.seq hW), fun l nl => ⟨(by show 3 ≤ sizeLine; decide), fun T nT => hQ _ _ ((same_upd nl).trans (same_upd nT)) ?_⟩⟩
      have lD : l ≠ D := (ne_of_none hacc nl).symm
      have lT : l ≠ T := fun e => by
        rw [← e, upd_same] at nT
        cases nT
      have TD : T ≠ D := fun e => by
        rw [e, upd_ne lD.symm, hacc] at nT
        cases nT
      exact .tup (.inl (.inl (by rw [wo_ne TD, upd_same]))) (.cons (.int _) (.cons (.int _) (.cons (.lst (.inl (.inl (by rw [wo_ne lD, upd_ne lT, upd_same]))) (dpa_ints' _)) .nil)))
    · exact q _ _ sm3 (.lst (.inl (.inl hD)) (dp_monoAll (wo_sub _ _) _ _ hA))
end
end G

namespace G
open PySem PySem.Spec PyProof.Rows L2
abbrev s__law_word : Stmt := topS 28
theorem sc__law_word : FnScope ["_law_e", "_law_kinds"] ["_law_e"] (defScope s__law_word) := ⟨rfl, rfl, rfl, by decide +kernel, rfl, by decide +kernel, by decide +kernel⟩
/-! ### xs.count(y) of flat things -/
theorem count_eqU {x : V} : ∀ {xs : List V} {us : List Value}, Vals xs us → xs.all flatV = true → us.countP (eqU x) = xs.countP fun y => eqV y x
  | [], _, .nil, _ => rfl
  | y :: xs, u :: us, .cons r t, f => by
    rw [List.all_cons, Bool.and_eq_true] at f
    rw [List.countP_cons, List.countP_cons, eqU_of r f.1, count_eqU t f.2]
def rCntF (K : PySem.W.Frag) : V → List V → Hp → VK → Prop := fun x xs H Q => ∃ (p : Addr) (ys : List V) (y : V), x = .ref p ∧ xs = [y] ∧ SqL K H p ys ∧ flatV y = true ∧ ys.all flatV = true ∧ Q (.int (ys.countP fun z => eqV z y : Nat)) H
theorem mt_countF {X : Cx} : MtR X "list.count" (rCntF X.K) := by
  intro pins s σ H x xs v us Q I rx rxs h
  obtain ⟨p, ys, y, rfl, rfl, hs, fy, fys, q⟩ := h
  cases rx
  obtain ⟨u, rfl, ru⟩ := rxs.one
  obtain ⟨its, rv, ⟨⟨cls, dd, data, sl⟩, n, ho, hc, hdn, hd⟩, hlen⟩ := I.list hs
  simp only at hc hd
  subst hc hd
  refine call_meets PySem.F.slot_list_count ⟨_, ho, rfl⟩ PySem.F.entry_list_count (PySem.F.args_list_count_2 _ _) (SeqAt.list_countAt p its.toArray n dd sl u (eqU y)) ⟨ho, fun z hz => mem_eqAt ru fy rv fys z (by simpa using hz), ?_⟩
  refine ⟨.int (ys.countP fun z => eqV z y : Nat), H, I.tok _, ⟨s.toks, ?_⟩, q⟩
  show Value.int ((its.toArray.toList.countP (eqU y) : Nat) : Int) s.toks = _
  rw [show its.toArray.toList = its by simp, count_eqU rv fys]
/-! ### classes -/
structure Tx (K : PySem.W.Frag) (mg : Str → Option Value) (A : Ads) : Prop where
  g_BadGame : mg "BadGame" = some (.ref A.BadGame)
  g_BadSteps : mg "BadSteps" = some (.ref A.BadSteps)
  g_BadPlace : mg "BadPlace" = some (.ref A.BadPlace)
  g_BadPlayer : mg "BadPlayer" = some (.ref A.BadPlayer)
  g_TooMany : mg "TooMany" = some (.ref A.TooMany)
  g_GongError : mg "GongError" = some (.ref A.GongError)
/-- the class at D is the k-th of: game, player, place, steps, many -/
structure ErrKind (K : PySem.W.Frag) (A : Ads) (D : Addr) (k : Nat) : Prop where
  xc : ExcC K D
  k0 : PySem.W.kitOne K (.ref D) (.ref A.BadGame) = some (k == 0)
  k1 : PySem.W.kitOne K (.ref D) (.ref A.BadPlayer) = some (k == 1)
  k2 : PySem.W.kitOne K (.ref D) (.ref A.BadPlace) = some (k == 2)
  k3 : PySem.W.kitOne K (.ref D) (.ref A.BadSteps) = some (k == 3)
  k4 : PySem.W.kitOne K (.ref D) (.ref A.TooMany) = some (k == 4)
  ve : PySem.W.kitOne K (.ref D) (.type "ValueError") = some true
def wordOf : Nat → Str
  | 0 => "game" | 1 => "player" | 2 => "place" | 3 => "steps" | _ => "many"
section
variable {P : Program} {w : World} {K : PySem.W.Frag} {mg : Str → Option Value} {base : Heap}
def spWord (K : PySem.W.Frag) (A : Ads) : Sp := fun vs H Q _ => ∃ v : V, vs = [v] ∧ ((v = .non ∧ Q (.str "none") H) ∨ ∃ (a D : Addr) (d : Option Addr) (k : Nat), v = .ref a ∧ H a = some (exH a (.ref D) d) ∧ DictOk H d ∧ ErrKind K A D k ∧ k < 5 ∧ ∀ H', Same H H' → Q (.str (wordOf k)) H')
theorem dictOk_mono {H H' : Hp} {d : Option Addr} (s : Same H H') (h : DictOk H d) : DictOk H' d := by
  cases d with
  | none => trivial
  | some dd =>
    obtain ⟨fs, h⟩ := h
    exact ⟨fs, s _ _ h⟩
theorem ok_law_word {f : Addr} {fd : FuncData} {A : Ads} (B : Bt mg) (T : Tx K mg A) (F : Fun K "_law_word" "_law_word" s__law_word f fd) : FnOk P w K mg base (L2.CX P w) 1 f fd ["_law_e"] (spWord K A) := by
  refine F.okX sc__law_word (fun vs H Q E h => ?_) (fun cdv Ar outer s H vs Q E hr h => ?_)
  · obtain ⟨v, rfl, _⟩ := h
    rfl
  · obtain ⟨v, rfl, h⟩ := h
    refine ⟨_, (pss_cons (ps_if (pt_cmpR op_isN (pv 0) pe_non (nomark _)) (pss_one (ps_ret pe_str)) pss_nil)
      (pss_cons (ps_set (i := 1) sc__law_word.nd rfl (Or.inl rfl) (pe_lst (pa_cons (pe_callB call_isX (by rfl) B.isinstance_ (by decide +kernel) (pa_cons (pv 0) (pa_cons (pe_glob (v := .ref A.BadGame) (by rfl) T.g_BadGame rfl) pa_nil))) (pa_cons (pe_callB call_isX (by rfl) B.isinstance_ (by decide +kernel) (pa_cons (pv 0) (pa_cons (pe_glob (v := .ref A.BadPlayer) (by rfl) T.g_BadPlayer rfl) pa_nil))) (pa_cons (pe_callB call_isX (by rfl) B.isinstance_ (by decide +kernel) (pa_cons (pv 0) (pa_cons (pe_glob (v := .ref A.BadPlace) (by rfl) T.g_BadPlace rfl) pa_nil))) pa_nil)))))
      (pss_cons (ps_set (i := 1) sc__law_word.nd rfl (Or.inl rfl) (pe_op op_cat (pv 1) (pe_lst (pa_cons (pe_callB call_isX (by rfl) B.isinstance_ (by decide +kernel) (pa_cons (pv 0) (pa_cons (pe_glob (v := .ref A.BadSteps) (by rfl) T.g_BadSteps rfl) pa_nil))) (pa_cons (pe_callB call_isX (by rfl) B.isinstance_ (by decide +kernel) (pa_cons (pv 0) (pa_cons (pe_glob (v := .ref A.TooMany) (by rfl) T.g_TooMany rfl) pa_nil))) pa_nil)))))
      (pss_cons (ps_if (PW.pt (pw_or (pt_cmpR op_ne (pe_bm PySem.F.plainAttrs_list PySem.F.slot_list_count PySem.F.type_list_count mt_countF (pv 1) (pa_cons pe_bl pa_nil)) pe_int (nomark _)) (pw_or1 (pt_not (pt_val (pe_callB call_isX (by rfl) B.isinstance_ (by decide +kernel) (pa_cons (pv 0) (pa_cons (pe_bltn (v := .ty "ValueError") (u := .type "ValueError") (by rfl) B.ValueError_ (by decide +kernel) rfl) pa_nil)))))))) (pss_one (ps_ret pe_str)) pss_nil)
      (pss_one (ps_ret (pe_ix ix_list (pe_lst (pa_cons pe_str (pa_cons pe_str (pa_cons pe_str (pa_cons pe_str (pa_cons pe_str pa_nil)))))) (pe_bm PySem.F.plainAttrs_list PySem.F.slot_list_index PySem.F.type_list_index mt_index (pv 1) (pa_cons pe_bl pa_nil)) (fun _ _ => rfl)))))))), ?_⟩
    rcases h with ⟨rfl, q⟩ | ⟨a, D, d, k, rfl, ea, hd, X, hk, q⟩
    · exact ⟨_, rfl, rfl, _, rfl, iteT q⟩
    · refine ⟨_, rfl, rfl, _, rfl, iteF ?_⟩
      -- kinds = [.., .., ..]
      refine ⟨_, rfl, a, D, d, _, _, _, rfl, X.xc, ea, hd, .own _, X.k0, _, rfl, a, D, d, _, _, _, rfl, X.xc, ea, hd, .own _, X.k1, _, rfl, a, D, d, _, _, _, rfl, X.xc, ea, hd, .own _, X.k2, (by show 3 ≤ sizeLine; decide), fun l1 n1 => ?_⟩
      have s1 : Same H (upd H l1 (.lst [.bl (k == 0), .bl (k == 1), .bl (k == 2)])) := same_upd n1
      -- kinds = kinds + [.., ..]
      refine ⟨_, rfl, _, rfl, a, D, d, _, _, _, rfl, X.xc, s1 _ _ ea, dictOk_mono s1 hd, .own _, X.k3, _, rfl, a, D, d, _, _, _, rfl, X.xc, s1 _ _ ea, dictOk_mono s1 hd, .own _, X.k4, (by show 2 ≤ sizeLine; decide), fun l2 n2 => ?_⟩
      have s2 := s1.trans (same_upd (o := .lst [.bl (k == 3), .bl (k == 4)]) n2)
      have l12 : l1 ≠ l2 := fun e => by
        rw [← e, upd_same] at n2
        cases n2
      refine ⟨l1, l2, _, _, rfl, rfl, by rw [upd_ne l12, upd_same], upd_same, (by show 5 ≤ sizeLine; decide), fun l3 n3 => ?_⟩
      have s3 := s2.trans (same_upd (o := .lst ([.bl (k == 0), .bl (k == 1), .bl (k == 2)] ++ [.bl (k == 3), .bl (k == 4)])) n3)
      have hfl : ([.bl (k == 0), .bl (k == 1), .bl (k == 2)] ++ [.bl (k == 3), .bl (k == 4)] : List V).all flatV = true := rfl
      refine ⟨.ref l3, rfl, .inl ⟨rfl, _, .inl (.inl upd_same)⟩, l3, _, _, rfl, rfl, .inl (.inl upd_same), rfl, hfl, rfl, _, rfl, ?_⟩
      have hcnt : (([.bl (k == 0), .bl (k == 1), .bl (k == 2)] ++ [.bl (k == 3), .bl (k == 4)] : List V).countP fun z => eqV z (.bl true)) = 1 := by
        have : k = 0 ∨ k = 1 ∨ k = 2 ∨ k = 3 ∨ k = 4 := by omega
        rcases this with rfl | rfl | rfl | rfl | rfl <;> rfl
      rw [hcnt]
      refine iteF ⟨_, rfl, a, D, d, _, _, _, rfl, X.xc, s3 _ _ ea, dictOk_mono s3 hd, .ty _, X.ve, _, rfl, iteF ?_⟩
      -- the word
      refine ⟨(by show 5 ≤ sizeLine; decide), fun l4 n4 => ?_⟩
      have s4 := s3.trans (same_upd (o := .lst [.str "game", .str "player", .str "place", .str "steps", .str "many"]) n4)
      have l34 : l3 ≠ l4 := fun e => by
        rw [← e, upd_same] at n4
        cases n4
      have q' := q _ s4
      have hl3 : ∀ xs, (upd (upd (upd (upd H l1 (.lst [.bl (k == 0), .bl (k == 1), .bl (k == 2)])) l2 (.lst [.bl (k == 3), .bl (k == 4)])) l3 (.lst ([.bl (k == 0), .bl (k == 1), .bl (k == 2)] ++ [.bl (k == 3), .bl (k == 4)]))) l4 (.lst xs)) l3 = some (.lst ([.bl (k == 0), .bl (k == 1), .bl (k == 2)] ++ [.bl (k == 3), .bl (k == 4)])) := fun xs => by rw [upd_ne l34, upd_same]
      refine ⟨.ref l3, rfl, .inl ⟨rfl, _, .inl (.inl (hl3 _))⟩, l3, _, .bl true, k, .bl true, rfl, rfl, .inl (.inl (hl3 _)), rfl, hfl, ?_, rfl, ?_, l4, _, _, .str (wordOf k), rfl, rfl, .inl (.inl upd_same), ?_, q'⟩
      · have : k = 0 ∨ k = 1 ∨ k = 2 ∨ k = 3 ∨ k = 4 := by omega
        rcases this with rfl | rfl | rfl | rfl | rfl <;> rfl
      · intro m z' hm hz
        have : k = 0 ∨ k = 1 ∨ k = 2 ∨ k = 3 ∨ k = 4 := by omega
        have hm5 : m = 0 ∨ m = 1 ∨ m = 2 ∨ m = 3 := by omega
        rcases this with rfl | rfl | rfl | rfl | rfl <;> rcases hm5 with rfl | rfl | rfl | rfl <;> first | omega | (cases hz; rfl)
      · have : k = 0 ∨ k = 1 ∨ k = 2 ∨ k = 3 ∨ k = 4 := by omega
        rcases this with rfl | rfl | rfl | rfl | rfl <;> exact atI_nat rfl
end
end G

namespace G
open PySem PySem.Spec PyProof.Rows L2
/-! ### plain data: how deep, alike -/
theorem lay_rows : ∀ g : List Row, PyData.canLayAll0 (g.map rowD) = true
  | [] => rfl
  | r :: g => by
    show ((true && (true && (PyData.canLayAll0 (r.ws.map .int) && true))) && PyData.canLayAll0 (g.map rowD)) = true
    rw [lay_ints, lay_rows g]; rfl
theorem dep_rows : ∀ g : List Row, PyData.depthAll (g.map rowD) ≤ 2
  | [] => Nat.zero_le _
  | r :: g => by
    show max (max 0 (max 0 (max (PyData.depthAll (r.ws.map .int) + 1) 0)) + 1) (PyData.depthAll (g.map rowD)) ≤ 2
    rw [dep_ints]
    have := dep_rows g
    omega
theorem lay_game (g : List Row) : PyData.canLay0 (gameD g) = true := lay_rows g
theorem shaped_game (g : List Row) : SeqAt.shaped (gameD g) = true := by
  unfold SeqAt.shaped
  rw [lay_game, Bool.true_and, decide_eq_true_eq]
  show PyData.depthAll (g.map rowD) + 1 ≤ 64
  have := dep_rows g
  omega
theorem lay_handed (g : List Row) (ss : List Int) : PyData.canLay0 (.list [gameD g, intsD ss]) = true := by
  show (PyData.canLayAll0 (g.map rowD) && (PyData.canLayAll0 (ss.map .int) && true)) = true
  rw [lay_rows, lay_ints]; rfl
theorem shaped_handed (g : List Row) (ss : List Int) : SeqAt.shaped (.list [gameD g, intsD ss]) = true := by
  unfold SeqAt.shaped
  rw [lay_handed, Bool.true_and, decide_eq_true_eq]
  show max (PyData.depthAll (g.map rowD) + 1) (max (PyData.depthAll (ss.map .int) + 1) 0) + 1 ≤ 64
  rw [dep_ints]
  have := dep_rows g
  omega
theorem lay_two (xs ys : List Int) : PyData.canLay0 (.tuple [intsD xs, intsD ys]) = true := by
  show (PyData.canLayAll0 (xs.map .int) && (PyData.canLayAll0 (ys.map .int) && true)) = true
  rw [lay_ints, lay_ints]; rfl
theorem shaped_two (xs ys : List Int) : SeqAt.shaped (.tuple [intsD xs, intsD ys]) = true := by
  unfold SeqAt.shaped
  rw [lay_two, Bool.true_and, decide_eq_true_eq]
  show max (PyData.depthAll (xs.map .int) + 1) (max (PyData.depthAll (ys.map .int) + 1) 0) + 1 ≤ 64
  rw [dep_ints, dep_ints]
  omega
theorem range_snoc {f : Nat → V} (n : Nat) : (List.range (n + 1)).map f = (List.range n).map f ++ [f n] := by
  rw [List.range_succ, List.map_append]
  rfl
theorem ints_inj {xs ys : List Int} (h : xs.map PyData.int = ys.map PyData.int) : xs = ys := by
  have := congrArg (List.map toI) h
  rw [map_toI, map_toI] at this
  exact this
theorem rowD_inj {a b : Row} (h : rowD a = rowD b) : a = b := by
  obtain ⟨p, n, ws⟩ := a
  obtain ⟨p', n', ws'⟩ := b
  have h1 := PyData.tuple.inj h
  obtain ⟨e1, h2⟩ := List.cons.inj h1
  obtain ⟨e2, h3⟩ := List.cons.inj h2
  obtain ⟨e3, _⟩ := List.cons.inj h3
  cases PyData.int.inj e1
  cases PyData.int.inj e2
  cases ints_inj (PyData.list.inj e3)
  rfl
theorem gameD_inj {g g' : List Row} (h : gameD g = gameD g') : g = g' := by
  have h1 : g.map rowD = g'.map rowD := PyData.list.inj h
  exact List.map_inj_right (fun a b e => rowD_inj e) |>.mp h1
def spLaw (K : PySem.W.Frag) : Sp := fun vs H Q _ => ∃ (a : Addr) (ns : List Int), vs = [.ref a] ∧ SqL K H a (ns.map V.int) ∧ ns.length ≤ 63 ∧ ∀ H', Q (.bl true) H'
end G

namespace G
open PySem PySem.Spec PyProof.Rows L2
abbrev s__law_ring : Stmt := topS 29
theorem sc__law_ring : FnScope ["_law_nexts", "_law_place", "_law_met", "_law_at"] ["_law_nexts", "_law_place"] (defScope s__law_ring) := ⟨rfl, rfl, rfl, by decide +kernel, rfl, by decide +kernel, by decide +kernel⟩
section
variable {P : Program} {w : World} {K : PySem.W.Frag} {mg : Str → Option Value} {base : Heap}
def spRing (K : PySem.W.Frag) : Sp := fun vs H Q _ => ∃ (a : Addr) (ss : List Int) (i : Int), vs = [.ref a, .int i] ∧ SqL K H a (ss.map V.int) ∧ ss.length ≤ 40 ∧ (∀ s ∈ ss, 0 ≤ s ∧ s < (ss.length : Int)) ∧ 0 ≤ i ∧ i < (ss.length : Int) ∧ okWalk [] ss i H Q
theorem ok_law_ring {f : Addr} {fd : FuncData} (F : Fun K "_law_ring" "_law_ring" s__law_ring f fd) : FnOk P w K mg base (L2.CX P w) 1 f fd ["_law_nexts", "_law_place"] (spRing K) := by
  refine F.okX sc__law_ring (fun vs H Q E h => ?_) (fun cdv Ar outer s H vs Q E hr h => ?_)
  · obtain ⟨a, ss, i, rfl, _⟩ := h
    rfl
  · obtain ⟨a, ss, i, rfl, hT, h40, hrg, hi0, hi1, h7⟩ := h
    refine ⟨_, (pss_cons (ps_set (i := 2) sc__law_ring.nd rfl (Or.inl rfl) (pe_lst pa_nil))
      (pss_cons (ps_while (passes_of rfl) (pt_cmpR op_notIn_seq (pv 1) (pv 2) (by rfl)) (pss_cons (ps_expr (pe_bm PySem.F.plainAttrs_list PySem.F.slot_list_append PySem.F.type_list_append mt_append (pv 2) (pa_cons (pv 1) pa_nil)))
      (pss_one (ps_set (i := 1) sc__law_ring.nd rfl (Or.inl rfl) (pe_ix ix_list (pv 0) (pv 1) (fun _ _ => rfl))))))
      (pss_cons (ps_set (i := 3) sc__law_ring.nd rfl (Or.inl rfl) (pe_bm PySem.F.plainAttrs_list PySem.F.slot_list_index PySem.F.type_list_index mt_index (pv 2) (pa_cons (pv 1) pa_nil)))
      (pss_one (ps_ret (pe_tup (pa_cons (pe_slice sl_list (pv 2) po_none (po_some (pv 3))) (pa_cons (pe_slice sl_list (pv 2) (po_some (pv 3)) po_none) pa_nil)))))))), ?_⟩
    refine ⟨Nat.zero_le _, fun L nL => ?_⟩
    refine ⟨fun m σ H' => ∃ (met : List Int) (now : Int) (y : Option V), σ = [some (.ref a), some (.int now), some (.ref L), y] ∧ Same H H' ∧ H' L = some (.lst (met.map V.int)) ∧ met.Nodup ∧ (∀ x ∈ met, 0 ≤ x ∧ x < (ss.length : Int)) ∧ 0 ≤ now ∧ now < (ss.length : Int) ∧
      m + met.length = ss.length + 1 ∧ go ss m met now = walkAll ss i, ⟨ss.length + 1, [], i, none, rfl, same_upd nL, upd_same, List.nodup_nil, (fun x hx => by cases hx), hi0, hi1, rfl, rfl⟩, fun m σ H' hW => ?_⟩
    obtain ⟨met, now, y, rfl, smH, hL, hN, hR, hn0, hn1, hm, hgo⟩ := hW
    have hpg := pigeon _ met hN hR
    refine ⟨_, rfl, _, rfl, L, _, rfl, .inl (.inl (.inl hL)), rfl, flat_ints _, _, rfl, ?_⟩
    rw [inV_int]
    obtain ⟨m', rfl⟩ : ∃ m', m = m' + 1 := ⟨m - 1, by omega⟩
    cases hc : decide (now ∈ met) with
    | false =>
      have hnm : now ∉ met := of_decide_eq_false hc
      have hlt : now.toNat < ss.length := by omega
      have es : (ss.map V.int)[now.toNat]? = some (.int (nx ss now)) := by
        rw [List.getElem?_map, List.getElem?_eq_getElem hlt]
        unfold nx
        rw [List.getD_eq_getElem?_getD, List.getElem?_eq_getElem hlt]
        rfl
      refine iteT ⟨fun σ' H'' => ∃ (met : List Int) (now : Int) (y : Option V), σ' = [some (.ref a), some (.int now), some (.ref L), y] ∧ Same H H'' ∧ H'' L = some (.lst (met.map V.int)) ∧ met.Nodup ∧ (∀ x ∈ met, 0 ≤ x ∧ x < (ss.length : Int)) ∧ 0 ≤ now ∧ now < (ss.length : Int) ∧
        m' + met.length = ss.length + 1 ∧ go ss m' met now = walkAll ss i, fun σ' H'' h => ⟨m', Nat.lt_succ_self _, h⟩, ?_⟩
      refine ⟨.ref L, rfl, .inl ⟨rfl, _, .inl (.inl hL)⟩, _, rfl, L, _, _, rfl, rfl, hL, ?_, ?_⟩
      · rw [List.length_map]
        exact small1000 (by omega)
      have smU : Same H (upd H' L (.lst (met.map V.int ++ [.int now]))) := fun b o e => by
        rw [upd_ne (ne_of_none e nL)]
        exact smH _ _ e
      refine ⟨_, rfl, _, rfl, a, _, now, _, rfl, rfl, smU.seq hT, atI_int hn0 es, ?_⟩
      obtain ⟨c, b⟩ := nx_rg rfl hrg hn0 hn1
      refine ⟨met ++ [now], nx ss now, y, rfl, smU, by rw [upd_same, List.map_append]; rfl, nodup_snoc hN hnm, fun x hx => ?_, c, b, by rw [List.length_append, List.length_singleton]; omega, ?_⟩
      · rcases List.mem_append.mp hx with q | q
        · exact hR x q
        · have : x = now := by simpa using q
          rw [this]; exact ⟨hn0, hn1⟩
      · rw [← hgo]
        show _ = if now ∈ met then (met, now) else go ss m' (met ++ [now]) (nx ss now)
        rw [if_neg hnm]
    | true =>
      have hmem : now ∈ met := of_decide_eq_true hc
      have ew : walkAll ss i = (met, now) := by
        rw [← hgo]
        show (if now ∈ met then (met, now) else _) = _
        rw [if_pos hmem]
      have hlt := List.idxOf_lt_length_of_mem hmem
      refine iteF ⟨.ref L, rfl, .inl ⟨rfl, _, .inl (.inl hL)⟩, _, rfl, L, _, _, met.idxOf now, .int now, rfl, rfl, .inl (.inl hL), rfl, flat_ints _, ?_, beq_self_eq_true now, fun k z' hk hz => ?_, ?_⟩
      · rw [List.getElem?_map, List.getElem?_eq_getElem hlt, List.getElem_idxOf]
        rfl
      · rw [List.getElem?_map] at hz
        obtain ⟨z, hz1, rfl⟩ := Option.map_eq_some_iff.mp hz
        have hk2 : k < met.length := Nat.lt_trans hk hlt
        rw [List.getElem?_eq_getElem hk2] at hz1
        cases hz1
        have := List.not_of_lt_findIdx (p := fun x => x == now) hk
        show (met[k] == now) = false
        simpa using this
      have hL1 : SqL K H' L (met.map V.int) := .inl (.inl hL)
      refine ⟨_, rfl, _, rfl, _, rfl, L, _, rfl, hL1, fun a1 n1 => ⟨_, rfl, _, rfl, _, rfl, L, _, rfl, (same_upd n1).seq hL1, fun a2 n2 => ⟨by show 2 ≤ sizeLine; decide, fun T nT => ?_⟩⟩⟩
      have f2 : H' a2 = none := by
        by_cases e : a2 = a1
        · rw [e]; exact n1
        · rw [upd_ne e] at n2; exact n2
      have n12 : a1 ≠ a2 := fun e => by
        rw [← e, upd_same] at n2
        cases n2
      have s1 : Same H' (upd H' a1 (.lst (cutV (met.map V.int) none (some (met.idxOf now : Nat))))) := same_upd n1
      have s2 := s1.trans (same_upd (o := .lst (cutV (met.map V.int) (some (met.idxOf now : Nat)) none)) n2)
      have s3 := s2.trans (same_upd (o := .tup [.ref a1, .ref a2]) nT)
      have smA := smH.trans s3
      have hTn : H' T = none := Same.free s2 nT
      have back : ∀ {b}, H' b = none → H b = none := fun h => Same.free smH h
      have nT1 : a1 ≠ T := fun e => by
        rw [← e, upd_ne n12, upd_same] at nT
        cases nT
      have nT2 : a2 ≠ T := fun e => by
        rw [← e, upd_same] at nT
        cases nT
      refine h7 _ T a1 a2 smA (back hTn) (back n1) (back f2) n12 upd_same ?_ ?_
      · rw [upd_ne nT1, upd_ne n12, upd_same, cut_to _ (by rw [List.length_map]; omega)]
        unfold aheadOf
        rw [ew, List.map_take]
      · rw [upd_ne nT2, upd_same, cut_from _ (by rw [List.length_map]; omega)]
        unfold ringOf
        rw [ew, List.map_drop]
end
end G

namespace G
open PySem PySem.Spec PyProof.Rows L2
/-- a call whose exception a clause around it catches -/
theorem pe_calS {X : Cx} {k j : Nat} {x : Str} {sp : Sp} {W : WX} {p pos : Pos} {e : Expr} {es : List Expr} {t : TA} (c : Cal X.prog X.w X.K X.mg X.base k x sp) (hr : Room j X.A) (hk : k ≤ j) (tk : Takes X W) (hg : Gl X x) (ha : PA X (e :: es) t)
    (hdb : (x == ("__debug__" : Str)) = false := by decide) (he : starEach (e :: es) X.env = (false, eval e X.env) :: starEach es X.env := by rfl) (hpl : (backTo pos (starEach es X.env)).any (·.1) = false := by rfl) :
    PE X (.Call (.Name x p) (e :: es) [] pos) (tCallS sp (WE W) t) := by
  obtain ⟨f, fd, ps, F, hm, kp, b⟩ := c.ex
  exact pe_callS F (hr.mono hk) hg hm kp b (fun σ => passAt tk σ) ha hdb he hpl
/-- what a class must bear for its errors to be caught, told apart and read -/
structure Caught (K : PySem.W.Frag) (A : Ads) (D : Addr) (k : Nat) : Prop where
  kind : ErrKind K A D k
  exm : PySem.W.exmOne K (.ref D) (.ref A.GongError) = some true
structure Read (K : PySem.W.Frag) (D : Addr) : Prop where
  xf : XfC K D
  no : PySem.W.findIn K (.ref D) "at" = some none
def atD : Option Nat → PyData
  | none => .none
  | some i => .int (i : Int)
theorem dp_at {K : PySem.W.Frag} {H : Hp} (e : Option Nat) : Dp K H (atV e) (atD e) := by
  cases e with
  | none => exact .non
  | some i => exact .int _
end G

namespace G
open PySem PySem.Spec PyProof.Rows L2
abbrev s__law_refused : Stmt := topS 30
theorem sc__law_refused : FnScope ["_law_way", "_law_game_here", "_law_steps", "_law_place", "_law_refused_here", "_law_e"] ["_law_way", "_law_game_here", "_law_steps", "_law_place"] (defScope s__law_refused) := ⟨rfl, rfl, rfl, by decide +kernel, rfl, by decide +kernel, by decide +kernel⟩
section
variable {P : Program} {w : World} {K : PySem.W.Frag} {mg : Str → Option Value} {base : Heap}
def spRefused (K : PySem.W.Frag) : Sp := fun vs H Q _ => ∃ (way : Int) (vg vt vp : V) (g : List Row) (ds dp : PyData), vs = [.int way, vg, vt, vp] ∧ Dp K H vg (gameD g) ∧ ValidG g ∧ Dx K H vt ds ∧ Dx K H vp dp ∧
  (stepsErr g ds = none → isPlace dp (g.length : Int) = false) ∧
  (∀ e, stepsErr g ds = some e → ∀ H' p, Same H H' → Dp K H' p (.tuple [.str "steps", atD e]) → Q p H') ∧
  (stepsErr g ds = none → ∀ H' p, Same H H' → Dp K H' p (.tuple [.str "place", .none]) → Q p H')
theorem ok_law_refused {f : Addr} {fd : FuncData} {A : Ads} (T : Tx K mg A) (cS : Caught K A A.BadSteps 3) (cP : Caught K A A.BadPlace 2) (rS : Read K A.BadSteps) (F : Fun K "_law_refused" "_law_refused" s__law_refused f fd) (C__law_word : Cal P w K mg base 1 "_law_word" (spWord K A))
    (C_walk : Cal P w K mg base 7 "walk" (spW K A okWalk)) (C_heard : Cal P w K mg base 8 "heard" (spW K A okHeard)) (C_winner : Cal P w K mg base 9 "winner" (spW K A okWinner)) :
    FnOk P w K mg base (L2.CX P w) 10 f fd ["_law_way", "_law_game_here", "_law_steps", "_law_place"] (spRefused K) := by
  refine F.okX sc__law_refused (fun vs H Q E h => ?_) (fun cdv Ar outer s H vs Q E hr h => ?_)
  · obtain ⟨way, vg, vt, vp, g, ds, dp, rfl, _⟩ := h
    rfl
  · obtain ⟨way, vg, vt, vp, g, ds, dp, rfl, hg, hv, hdt, hdp, h1, h2, h3⟩ := h
    refine ⟨_, (pss_cons (ps_set (i := 4) sc__law_refused.nd rfl (Or.inl rfl) pe_non)
      (pss_cons (ps_try_asT (i := 5) (Wout := fun _ _ _ _ => False) rfl rfl rfl sc__law_refused.nd rfl rfl ⟨rfl, by decide, Or.inl T.g_GongError⟩ takes0 (fun W pn xe tk _ => (pss_one (ps_if (pt_cmpR op_eq (pv 0) pe_int (nomark _)) (pss_one (ps_expr (pe_calS C_walk hr (by decide) tk (by rfl) (pa_cons (pv 1) (pa_cons (pv 2) (pa_cons (pv 3) pa_nil)))))) (pss_one (ps_if (pt_cmpR op_eq (pv 0) pe_int (nomark _)) (pss_one (ps_expr (pe_calS C_heard hr (by decide) tk (by rfl) (pa_cons (pv 1) (pa_cons (pv 2) (pa_cons (pv 3) pa_nil)))))) (pss_one (ps_expr (pe_calS C_winner hr (by decide) tk (by rfl) (pa_cons (pv 1) (pa_cons (pv 2) (pa_cons (pv 3) pa_nil))))))))))) (fun a oe cls d pn hz hf => (pss_one (ps_set (i := 4) sc__law_refused.nd rfl (Or.inl rfl) (pv 5)))))
      (pss_cons (ps_if (pt_cmpR op_ne (pe_cal C__law_word hr (by decide) (by rfl) (pa_cons (pv 4) pa_nil)) pe_str (nomark _)) (pss_one (ps_ret (pe_tup (pa_cons (pe_cal C__law_word hr (by decide) (by rfl) (pa_cons (pv 4) pa_nil)) (pa_cons pe_non pa_nil))))) pss_nil)
      (pss_one (ps_ret (pe_tup (pa_cons pe_str (pa_cons (pe_xa (pv 4)) pa_nil)))))))), ?_⟩
    refine ⟨_, rfl, rfl, _, rfl, ite2 (fun _ => ⟨_, rfl, _, rfl, _, rfl, vg, vt, vp, gameD g, ds, dp, rfl, .of hg, hv.sz, hdt, hdp, (fun e he => by rw [gameErr_valid hv] at he; cases he), fun g' eg hv' => ⟨fun e he => ?_, fun ss es e1 => ⟨fun hno H' sm => ?_, fun i ei hpl => ?_⟩⟩⟩) (fun _ => ⟨_, rfl, rfl, _, rfl, ite2 (fun _ => ⟨_, rfl, _, rfl, _, rfl, vg, vt, vp, gameD g, ds, dp, rfl, .of hg, hv.sz, hdt, hdp, (fun e he => by rw [gameErr_valid hv] at he; cases he), fun g' eg hv' => ⟨fun e he => ?_, fun ss es e1 => ⟨fun hno H' sm => ?_, fun i ei hpl => ?_⟩⟩⟩) (fun _ => ⟨_, rfl, _, rfl, _, rfl, vg, vt, vp, gameD g, ds, dp, rfl, .of hg, hv.sz, hdt, hdp, (fun e he => by rw [gameErr_valid hv] at he; cases he), fun g' eg hv' => ⟨fun e he => ?_, fun ss es e1 => ⟨fun hno H' sm => ?_, fun i ei hpl => ?_⟩⟩⟩)⟩)⟩
    · cases gameD_inj eg
      exact (fun H' dd sm nd hdd => ⟨true, cS.exm, fun _ a na => ⟨_, rfl, _, rfl, .ref a, rfl, .inr ⟨a, A.BadSteps, some dd, 3, rfl, upd_same, ⟨_, by rw [upd_ne (ne_of_none hdd na)]; exact hdd⟩, cS.kind, by decide, fun H5 s5 => ⟨rfl, _, rfl, iteNS rfl ⟨.ref a, rfl, a, A.BadSteps, dd, _, atV e, rfl, rS.xf, rS.no, s5 _ _ upd_same, s5 _ _ (by rw [upd_ne (ne_of_none hdd na)]; exact hdd), rfl, (by show 2 ≤ sizeLine; decide), fun T5 nT => h2 e he _ (.ref T5) (sm.trans ((same_upd na).trans (s5.trans (same_upd nT)))) (.tup (.inl (.inl upd_same)) (.cons (.str _) (.cons (dp_at e) .nil)))⟩⟩⟩⟩, fun z => nomatch z⟩)
    · cases gameD_inj eg
      exact ⟨true, cP.exm, fun _ a na => ⟨_, rfl, _, rfl, .ref a, rfl, .inr ⟨a, A.BadPlace, none, 2, rfl, upd_same, trivial, cP.kind, by decide, fun H5 s5 => ⟨rfl, _, rfl, iteT ⟨_, rfl, .ref a, rfl, .inr ⟨a, A.BadPlace, none, 2, rfl, s5 _ _ upd_same, trivial, cP.kind, by decide, fun H6 s6 => ⟨(by show 2 ≤ sizeLine; decide), fun T5 nT => h3 e1 _ (.ref T5) (sm.trans ((same_upd na).trans (s5.trans (s6.trans (same_upd nT))))) (.tup (.inl (.inl upd_same)) (.cons (.str _) (.cons .non .nil)))⟩⟩⟩⟩⟩⟩, fun z => nomatch z⟩
    · cases gameD_inj eg
      rw [h1 e1] at hpl
      cases hpl
    · cases gameD_inj eg
      exact (fun H' dd sm nd hdd => ⟨true, cS.exm, fun _ a na => ⟨_, rfl, _, rfl, .ref a, rfl, .inr ⟨a, A.BadSteps, some dd, 3, rfl, upd_same, ⟨_, by rw [upd_ne (ne_of_none hdd na)]; exact hdd⟩, cS.kind, by decide, fun H5 s5 => ⟨rfl, _, rfl, iteNS rfl ⟨.ref a, rfl, a, A.BadSteps, dd, _, atV e, rfl, rS.xf, rS.no, s5 _ _ upd_same, s5 _ _ (by rw [upd_ne (ne_of_none hdd na)]; exact hdd), rfl, (by show 2 ≤ sizeLine; decide), fun T5 nT => h2 e he _ (.ref T5) (sm.trans ((same_upd na).trans (s5.trans (same_upd nT)))) (.tup (.inl (.inl upd_same)) (.cons (.str _) (.cons (dp_at e) .nil)))⟩⟩⟩⟩, fun z => nomatch z⟩)
    · cases gameD_inj eg
      exact ⟨true, cP.exm, fun _ a na => ⟨_, rfl, _, rfl, .ref a, rfl, .inr ⟨a, A.BadPlace, none, 2, rfl, upd_same, trivial, cP.kind, by decide, fun H5 s5 => ⟨rfl, _, rfl, iteT ⟨_, rfl, .ref a, rfl, .inr ⟨a, A.BadPlace, none, 2, rfl, s5 _ _ upd_same, trivial, cP.kind, by decide, fun H6 s6 => ⟨(by show 2 ≤ sizeLine; decide), fun T5 nT => h3 e1 _ (.ref T5) (sm.trans ((same_upd na).trans (s5.trans (s6.trans (same_upd nT))))) (.tup (.inl (.inl upd_same)) (.cons (.str _) (.cons .non .nil)))⟩⟩⟩⟩⟩⟩, fun z => nomatch z⟩
    · cases gameD_inj eg
      rw [h1 e1] at hpl
      cases hpl
    · cases gameD_inj eg
      exact (fun H' dd sm nd hdd => ⟨true, cS.exm, fun _ a na => ⟨_, rfl, _, rfl, .ref a, rfl, .inr ⟨a, A.BadSteps, some dd, 3, rfl, upd_same, ⟨_, by rw [upd_ne (ne_of_none hdd na)]; exact hdd⟩, cS.kind, by decide, fun H5 s5 => ⟨rfl, _, rfl, iteNS rfl ⟨.ref a, rfl, a, A.BadSteps, dd, _, atV e, rfl, rS.xf, rS.no, s5 _ _ upd_same, s5 _ _ (by rw [upd_ne (ne_of_none hdd na)]; exact hdd), rfl, (by show 2 ≤ sizeLine; decide), fun T5 nT => h2 e he _ (.ref T5) (sm.trans ((same_upd na).trans (s5.trans (same_upd nT)))) (.tup (.inl (.inl upd_same)) (.cons (.str _) (.cons (dp_at e) .nil)))⟩⟩⟩⟩, fun z => nomatch z⟩)
    · cases gameD_inj eg
      exact ⟨true, cP.exm, fun _ a na => ⟨_, rfl, _, rfl, .ref a, rfl, .inr ⟨a, A.BadPlace, none, 2, rfl, upd_same, trivial, cP.kind, by decide, fun H5 s5 => ⟨rfl, _, rfl, iteT ⟨_, rfl, .ref a, rfl, .inr ⟨a, A.BadPlace, none, 2, rfl, s5 _ _ upd_same, trivial, cP.kind, by decide, fun H6 s6 => ⟨(by show 2 ≤ sizeLine; decide), fun T5 nT => h3 e1 _ (.ref T5) (sm.trans ((same_upd na).trans (s5.trans (s6.trans (same_upd nT))))) (.tup (.inl (.inl upd_same)) (.cons (.str _) (.cons .non .nil)))⟩⟩⟩⟩⟩⟩, fun z => nomatch z⟩
    · cases gameD_inj eg
      rw [h1 e1] at hpl
      cases hpl
end
end G

namespace G
open PySem PySem.Spec PyProof.Rows L2
abbrev s__law_wrong : Stmt := topS 31
theorem sc__law_wrong : FnScope ["_law_game_here", "_law_at", "_law_number", "_law_many", "_law_strange", "_law_place"] ["_law_game_here", "_law_at", "_law_number"] (defScope s__law_wrong) := ⟨rfl, rfl, rfl, by decide +kernel, rfl, by decide +kernel, by decide +kernel⟩
abbrev s__law_refused_right : Stmt := topS 32
theorem sc__law_refused_right : FnScope ["_law_game_here", "_law_steps", "_law_more", "_law_at", "_law_bad", "_law_way", "_law_none"] ["_law_game_here", "_law_steps", "_law_more"] (defScope s__law_refused_right) := ⟨rfl, rfl, rfl, by decide +kernel, rfl, by decide +kernel, by decide +kernel⟩
def strangeOf (ws : List Int) (n : Nat) : List Int := ((List.range n).filter (fun (k : Nat) => !decide ((k : Int) ∈ ws))).map (fun (k : Nat) => (k : Int))
theorem strange_succ (ws : List Int) (n : Nat) : strangeOf ws (n + 1) = strangeOf ws n ++ (if ((n : Int) ∈ ws) then [] else [(n : Int)]) := by
  unfold strangeOf
  rw [List.range_succ, List.filter_append, List.map_append]
  congr 1
  by_cases h : (n : Int) ∈ ws
  · rw [if_pos h]; simp [h]
  · rw [if_neg h]; simp [h]
theorem strange_len (ws : List Int) : ∀ n, (strangeOf ws n).length ≤ n := fun n => by
  unfold strangeOf
  rw [List.length_map]
  exact Nat.le_trans (List.length_filter_le _ _) (by rw [List.length_range]; exact Nat.le_refl _)
theorem strange_no {ws : List Int} {n : Nat} {s : Int} (h : s ∈ strangeOf ws n) : s ∉ ws := by
  unfold strangeOf at h
  obtain ⟨k, hk, rfl⟩ := List.mem_map.mp h
  have := (List.mem_filter.mp hk).2
  simpa using this
/-- a value that is no step: plain, or a new list -/
def WV (K : PySem.W.Frag) (H H' : Hp) (v : V) (d : PyData) : Prop := (∀ Hx, Dp K Hx v d) ∨ ∃ z, v = .ref z ∧ H z = none ∧ H' z = some (.lst [.int 0]) ∧ d = .list [.int 0]
section
variable {P : Program} {w : World} {K : PySem.W.Frag} {mg : Str → Option Value} {base : Heap}
def spWrong (K : PySem.W.Frag) : Sp := fun vs H Q _ => ∃ (vg : V) (g : List Row) (at_ : Int) (num : Int), vs = [vg, .int at_, .int num] ∧ Dp K H vg (gameD g) ∧ ValidG g ∧ 0 ≤ at_ ∧ at_ < (g.length : Int) ∧ ∀ H' v d, Same H H' → WV K H H' v d → stepOk g at_.toNat d = false → Q v H'
theorem ok_law_wrong {f : Addr} {fd : FuncData} (B : Bt mg) (F : Fun K "_law_wrong" "_law_wrong" s__law_wrong f fd) : FnOk P w K mg base (L2.CX P w) 1 f fd ["_law_game_here", "_law_at", "_law_number"] (spWrong K) := by
  refine F.okX sc__law_wrong (fun vs H Q E h => ?_) (fun cdv Ar outer s H vs Q E hr h => ?_)
  · obtain ⟨vg, g, at_, num, rfl, _⟩ := h
    rfl
  · obtain ⟨vg, g, at_, num, rfl, hg, hv, hat0, hat1, q⟩ := h
    obtain ⟨i, hi0⟩ : ∃ i : Nat, i = at_.toNat := ⟨_, rfl⟩
    have hi : i < g.length := by omega
    rw [← hi0] at q
    refine ⟨_, (pss_cons (ps_set (i := 3) sc__law_wrong.nd rfl (Or.inl rfl) (pe_callB call_len_seq (by rfl) B.len_ (by decide +kernel) (pa_cons (pv 0) pa_nil)))
      (pss_cons (ps_set (i := 4) sc__law_wrong.nd rfl (Or.inl rfl) (pe_op op_cat (pe_lc (own := [("_law_place", 5)]) (by rfl) sc__law_wrong.nd (pi_range1 (by rfl) B.range_ (pa_cons (pv 3) pa_nil)) (blkOk_by (own := [("_law_place", 5)]) (N := ["_law_game_here", "_law_at", "_law_number", "_law_many", "_law_strange", "_law_place"]) (sc := defScope s__law_wrong) (by decide +kernel)) (fun _ _ _ _ _ => (pg_name (i := 5) sc__law_wrong.nd rfl (Or.inl rfl))) (fun _ _ _ _ _ => (pts_one (pt_cmpR (kr_op_notIn_seq (K := K) rfl) (pv 5) (pe_ix (kr_ix_tup (K := K) rfl) (pe_ix (kr_ix_list (K := K) rfl) (pv 0) (pv 1) (fun _ _ => rfl)) pe_int (fun _ _ => rfl)) (by rfl)))) (fun _ _ _ _ _ => (pv 5))) (pe_lst (pa_cons (pv 3) pa_nil))))
      (pss_one (ps_ret (pe_ix ix_list (pe_lst (pa_cons (pe_ix ix_list (pv 4) (pe_op op_mod (pv 2) (pe_callB call_len_seq (by rfl) B.len_ (by decide +kernel) (pa_cons (pv 4) pa_nil))) (fun _ _ => rfl)) (pa_cons pe_non (pa_cons pe_bl (pa_cons (pe_un un_neg pe_int) (pa_cons pe_str (pa_cons (pe_lst (pa_cons pe_int pa_nil)) (pa_cons (pv 3) (pa_cons (pe_op op_pow pe_int pe_int) pa_nil))))))))) (pe_op op_mod (pe_op op_fdiv (pv 2) pe_int) pe_int) (fun _ _ => rfl)))))), ?_⟩
    obtain ⟨ag, xg, rfl, hG, hGl, hGr⟩ := dp_game hg
    have hgi : g[i]? = some g[i] := List.getElem?_eq_getElem hi
    obtain ⟨t, wy, ht, hT, hW⟩ := hGr i _ hgi
    have hvr := hv.2 _ (List.getElem_mem hi)
    have ew : wsAt g i = g[i].ws := by unfold wsAt; rw [hgi]; rfl
    have h40 := hv.1
    -- many = len(game)
    refine ⟨_, rfl, _, _, rfl, .inl hG, ?_⟩
    rw [hGl]
    -- strange = [.. for ..] + [many]
    refine ⟨_, rfl, (g.length : Int), rfl, by omega, by omega, fun D nD => lc_range (lo := 0) (n := (g.length : Int).toNat) (fun k H' => Same H H' ∧ H' D = some (.lst ((strangeOf g[i].ws k).map V.int))) ⟨same_upd nD, by rw [upd_same]; rfl⟩ (fun k H' hk hP => ?_) (fun H' hP => ?_)⟩
    · obtain ⟨sm, hD⟩ := hP
      refine ⟨rfl, _, rfl, _, rfl, _, rfl, _, _, _, _, rfl, rfl, sm.seq hG, atI_int hat0 (by rw [← hi0]; exact ht), _, _, _, _, rfl, rfl, same_sqt sm hT, atI_nat (j := 2) rfl, _, _, rfl, .inl (sm.seq hW), rfl, flat_ints _, _, rfl, ?_⟩
      rw [show (0 : Int) + (k : Int) = (k : Int) by omega, inV_int]
      have hsl := strange_len g[i].ws k
      cases hm : decide ((k : Int) ∈ g[i].ws) with
      | true =>
        refine iteF ⟨sm, ?_⟩
        rw [strange_succ, if_pos (of_decide_eq_true hm), List.append_nil]
        exact hD
      | false =>
        refine iteT ⟨_, rfl, _, hD, ?_, fun b o e => ?_, ?_⟩
        · rw [List.length_map]
          exact small1000 (by omega)
        · rw [upd_ne (ne_of_none e nD)]
          exact sm _ _ e
        · rw [upd_same, strange_succ, if_neg (of_decide_eq_false hm), List.map_append]
          rfl
    · obtain ⟨sm, hD⟩ := hP
      rw [show ((g.length : Int)).toNat = g.length by omega] at hD
      have hsl := strange_len g[i].ws g.length
      refine ⟨_, rfl, (by show 1 ≤ sizeLine; decide), fun b nb => ⟨D, b, _, _, rfl, rfl, by rw [upd_ne (ne_of_none hD nb)]; exact hD, upd_same, ?_, fun S nS => ?_⟩⟩
      · rw [List.length_map]
        exact Nat.le_trans (by show _ + 1 ≤ 1000; omega) (by decide)
      have sm2 := sm.trans ((same_upd nb).trans (same_upd (o := .lst ((strangeOf g[i].ws g.length).map V.int ++ [.int (g.length : Int)])) nS))
      generalize hxs : strangeOf g[i].ws g.length ++ [(g.length : Int)] = xs
      have hxm : (strangeOf g[i].ws g.length).map V.int ++ [.int (g.length : Int)] = xs.map V.int := by rw [← hxs, List.map_append]; rfl
      rw [hxm] at sm2 ⊢
      have hx0 : 0 < xs.length := by rw [← hxs, List.length_append, List.length_singleton]; omega
      have hxno : ∀ s ∈ xs, s ∉ g[i].ws := fun s hs => by
        rw [← hxs] at hs
        rcases List.mem_append.mp hs with z | z
        · exact strange_no z
        · have : s = (g.length : Int) := by simpa using z
          rw [this]
          intro hin
          have := (hvr.2.2.2.1 _ hin).2
          omega
      -- [.., None, True, ..][number // 41 % 8]
      have m0 := mod_rg (a := num) (m := ((xs.map V.int).length : Int)) (by rw [List.length_map]; omega)
      rw [List.length_map] at m0
      have hlt : (num % (xs.length : Int)).toNat < xs.length := by omega
      refine ⟨_, rfl, _, rfl, _, rfl, S, _, rfl, .inl (.inl (.inl upd_same)), _, _, rfl, rfl, (by show (0:Int) < ((xs.map V.int).length : Int); rw [List.length_map]; omega), S, _, _, .int (xs.getD (num % (xs.length : Int)).toNat 0), rfl, rfl, .inl (.inl upd_same), ?_, ?_⟩
      · rw [List.length_map]
        exact atI_ints m0.1 hlt
      refine ⟨_, rfl, Nat.succ_le_of_lt (by decide), fun z nz => ⟨_, rfl, _, _, rfl, rfl, ⟨by decide, by decide, by decide⟩, (by show 8 ≤ sizeLine; decide), fun l nl => ?_⟩⟩
      have i0 := Int.emod_nonneg (num / 41) (show (8 : Int) ≠ 0 by decide)
      have i1 := Int.emod_lt_of_pos (num / 41) (show (0 : Int) < 8 by decide)
      have sm3 := sm2.trans ((same_upd (o := .lst [.int 0]) nz))
      have hz0 : H z = none := sm2.free nz
      have bad : ∀ x : Int, x ∉ g[i].ws → stepOk g i (.int x) = false := fun x hx => by
        show decide (x ∈ wsAt g i) = false
        rw [ew]
        exact decide_eq_false hx
      have out : ∀ x : Int, (x < 0 ∨ (g.length : Int) ≤ x) → x ∉ g[i].ws := fun x hx hin => by
        have := hvr.2.2.2.1 _ hin
        omega
      have hgd : xs.getD (num % (xs.length : Int)).toNat 0 ∈ xs := by
        rw [List.getD_eq_getElem?_getD, List.getElem?_eq_getElem hlt]
        exact List.getElem_mem hlt
      have hk : num / 41 % 8 = 0 ∨ num / 41 % 8 = 1 ∨ num / 41 % 8 = 2 ∨ num / 41 % 8 = 3 ∨ num / 41 % 8 = 4 ∨ num / 41 % 8 = 5 ∨ num / 41 % 8 = 6 ∨ num / 41 % 8 = 7 := by omega
      rcases hk with e | e | e | e | e | e | e | e
      · exact ⟨_, rfl, _, _, rfl, rfl, ⟨by decide, by decide⟩, _, _, rfl, rfl, (by show (0:Int) < 8; decide), l, _, _, .int (xs.getD (num % (xs.length : Int)).toNat 0), rfl, rfl, .inl (.inl upd_same), (by rw [e]; exact atI_nat (j := 0) rfl), q _ _ _ (sm3.trans (same_upd nl)) (.inl fun _ => .int _) (bad _ (hxno _ hgd))⟩
      · exact ⟨_, rfl, _, _, rfl, rfl, ⟨by decide, by decide⟩, _, _, rfl, rfl, (by show (0:Int) < 8; decide), l, _, _, .non, rfl, rfl, .inl (.inl upd_same), (by rw [e]; exact atI_nat (j := 1) rfl), q _ _ _ (sm3.trans (same_upd nl)) (.inl fun _ => .non) rfl⟩
      · exact ⟨_, rfl, _, _, rfl, rfl, ⟨by decide, by decide⟩, _, _, rfl, rfl, (by show (0:Int) < 8; decide), l, _, _, .bl true, rfl, rfl, .inl (.inl upd_same), (by rw [e]; exact atI_nat (j := 2) rfl), q _ _ _ (sm3.trans (same_upd nl)) (.inl fun _ => .bl _) rfl⟩
      · exact ⟨_, rfl, _, _, rfl, rfl, ⟨by decide, by decide⟩, _, _, rfl, rfl, (by show (0:Int) < 8; decide), l, _, _, .int (-1), rfl, rfl, .inl (.inl upd_same), (by rw [e]; exact atI_nat (j := 3) rfl), q _ _ _ (sm3.trans (same_upd nl)) (.inl fun _ => .int _) (bad _ (out _ (.inl (by decide))))⟩
      · exact ⟨_, rfl, _, _, rfl, rfl, ⟨by decide, by decide⟩, _, _, rfl, rfl, (by show (0:Int) < 8; decide), l, _, _, .str "0", rfl, rfl, .inl (.inl upd_same), (by rw [e]; exact atI_nat (j := 4) rfl), q _ _ _ (sm3.trans (same_upd nl)) (.inl fun _ => .str _) rfl⟩
      · exact ⟨_, rfl, _, _, rfl, rfl, ⟨by decide, by decide⟩, _, _, rfl, rfl, (by show (0:Int) < 8; decide), l, _, _, .ref z, rfl, rfl, .inl (.inl upd_same), (by rw [e]; exact atI_nat (j := 5) rfl), q _ _ _ (sm3.trans (same_upd nl)) (.inr ⟨z, rfl, hz0, (by rw [upd_ne (ne_of_none upd_same nl), upd_same]), rfl⟩) rfl⟩
      · exact ⟨_, rfl, _, _, rfl, rfl, ⟨by decide, by decide⟩, _, _, rfl, rfl, (by show (0:Int) < 8; decide), l, _, _, .int (g.length : Int), rfl, rfl, .inl (.inl upd_same), (by rw [e]; exact atI_nat (j := 6) rfl), q _ _ _ (sm3.trans (same_upd nl)) (.inl fun _ => .int _) (bad _ (out _ (.inr (Int.le_refl _))))⟩
      · exact ⟨_, rfl, _, _, rfl, rfl, ⟨by decide, by decide⟩, _, _, rfl, rfl, (by show (0:Int) < 8; decide), l, _, _, .int (10 ^ (20 : Int).toNat), rfl, rfl, .inl (.inl upd_same), (by rw [e]; exact atI_nat (j := 7) rfl), q _ _ _ (sm3.trans (same_upd nl)) (.inl fun _ => .int _) (bad _ (out _ (.inr (by show (g.length : Int) ≤ 10 ^ 20; omega))))⟩
/-- data where l holds another list -/
theorem WV.dp {K : PySem.W.Frag} {H H' : Hp} {v : V} {d : PyData} {l : Addr} {o : HO} (h : WV K H H' v d) (hl : ∃ o', H l = some o') : Dp K (upd H' l o) v d := by
  rcases h with h | ⟨z, rfl, hz, hz', rfl⟩
  · exact h _
  · have : z ≠ l := fun e => by
      obtain ⟨o', e'⟩ := hl
      rw [← e, hz] at e'
      cases e'
    exact .lst (.inl (.inl (by rw [upd_ne this]; exact hz'))) (.cons (.int 0) .nil)
theorem dpAll_set {K : PySem.W.Frag} {H : Hp} {v : V} {d : PyData} (h : Dp K H v d) : ∀ {vs : List V} {ds : List PyData} {i : Nat}, DpAll K H vs ds → DpAll K H (vs.set i v) (ds.set i d)
  | [], [], _, .nil => .nil
  | _ :: _, _ :: _, 0, .cons _ b => .cons h b
  | _ :: _, _ :: _, i + 1, .cons a b => .cons a (dpAll_set (i := i) h b)
/-- values that are no place, the list of them as the law writes it -/
theorem none_place {m : Int} (hm : 0 ≤ m) (hm2 : m ≤ 40) {k : Int} (h0 : 0 ≤ k) (h1 : k < 6) : ∃ v d, atI [V.int (-1), .int m, .non, .bl true, .str "0", .int (10 ^ (20 : Int).toNat)] k = some v ∧ (∀ (K : PySem.W.Frag) (H : Hp), Dp K H v d) ∧ isPlace d m = false := by
  have hk : k = 0 ∨ k = 1 ∨ k = 2 ∨ k = 3 ∨ k = 4 ∨ k = 5 := by omega
  have np : ∀ x : Int, (x < 0 ∨ m ≤ x) → isPlace (.int x) m = false := fun x hx => by
    show (decide (0 ≤ x) && decide (x < m)) = false
    rcases hx with h | h
    · rw [decide_eq_false (by omega), Bool.false_and]
    · rw [decide_eq_false (show ¬ x < m by omega), Bool.and_false]
  rcases hk with rfl | rfl | rfl | rfl | rfl | rfl
  · exact ⟨_, .int (-1), atI_nat (j := 0) rfl, fun _ _ => .int _, np _ (.inl (by decide))⟩
  · exact ⟨_, .int m, atI_nat (j := 1) rfl, fun _ _ => .int _, np _ (.inr (Int.le_refl _))⟩
  · exact ⟨_, .none, atI_nat (j := 2) rfl, fun _ _ => .non, rfl⟩
  · exact ⟨_, .bool true, atI_nat (j := 3) rfl, fun _ _ => .bl _, rfl⟩
  · exact ⟨_, .str "0", atI_nat (j := 4) rfl, fun _ _ => .str _, rfl⟩
  · exact ⟨_, .int (10 ^ (20 : Int).toNat), atI_nat (j := 5) rfl, fun _ _ => .int _, np _ (.inr (by show m ≤ 10 ^ 20; omega))⟩
theorem steps_bad {g : List Row} {ss : List Int} {ds : List PyData} {i : Nat} {d : PyData} (h : stepsErr g (intsD ss) = none) (hl : ds.length = g.length) (hj : ∀ j, j < i → ds[j]? = (ss[j]?).map .int) (hi : ds[i]? = some d) (hb : stepOk g i d = false) : stepsErr g (.list ds) = some (some i) := by
  have h' : (if (ss.map PyData.int).length ≠ g.length then some none else (fb (stepOk g) (ss.map .int) 0).map some) = none := h
  by_cases hc : (ss.map PyData.int).length ≠ g.length
  · rw [if_pos hc] at h'
    cases h'
  · rw [if_neg hc] at h'
    have h2 : fb (stepOk g) (ss.map .int) 0 = none := by
      cases e : fb (stepOk g) (ss.map PyData.int) 0 with
      | none => rfl
      | some x =>
        rw [e] at h'
        cases h'
    show (if ds.length ≠ g.length then some none else (fb (stepOk g) ds 0).map some) = _
    rw [if_neg (fun z => z hl), fb_some (k := 0) (i := i) (d := d) (fun j e hlt he => fb_all h2 j e (by rw [List.getElem?_map, ← hj j hlt]; exact he)) hi (by rw [Nat.zero_add]; exact hb), Nat.zero_add]
    rfl
theorem eqv_pair (s : Str) (e : Option Nat) : PyData.eqv (.tuple [.str s, atD e]) (.tuple [.str s, atD e]) = true := by
  show (PyData.eqv (.str s) (.str s) && (PyData.eqv (atD e) (atD e) && true)) = true
  have h1 : PyData.eqv (.str s) (.str s) = true := by
    show (s == s) = true
    exact beq_self_eq_true s
  rw [h1]
  cases e with
  | none => rfl
  | some i =>
    show (true && (((i : Int) == (i : Int)) && true)) = true
    rw [beq_self_eq_true]; rfl
theorem lay_steps : PyData.canLay0 (.str "steps") = true := by decide +kernel
theorem shaped_steps (e : Option Nat) : SeqAt.shaped (.tuple [.str "steps", atD e]) = true := by
  cases e with
  | none => decide +kernel
  | some i =>
    show ((PyData.canLay0 (.str "steps") && (true && true)) && decide (max 0 (max 0 0) + 1 ≤ 64)) = true
    rw [lay_steps]; rfl
end
end G

namespace G
open PySem PySem.Spec PyProof.Rows L2
theorem shaped_place : SeqAt.shaped (.tuple [.str "place", atD none]) = true := by decide +kernel
theorem ixN_int {n : Nat} {i : Int} (h0 : 0 ≤ i) (h1 : i < (n : Int)) : ixN n i = some i.toNat := by
  unfold ixN
  rw [if_pos h0, if_pos h1]
section
variable {P : Program} {w : World} {K : PySem.W.Frag} {mg : Str → Option Value} {base : Heap}
def spRefusedRight (K : PySem.W.Frag) : Sp := fun vs H Q _ => ∃ (vg : V) (g : List Row) (sa : Addr) (ss : List Int) (more : Int), vs = [vg, .ref sa, .int more] ∧ Dp K H vg (gameD g) ∧ ValidG g ∧ g ≠ [] ∧ H sa = some (.lst (ss.map V.int)) ∧ stepsErr g (intsD ss) = none ∧ ∀ H', Same H H' → Q (.bl true) H'
theorem ok_law_refused_right {f : Addr} {fd : FuncData} (B : Bt mg) (F : Fun K "_law_refused_right" "_law_refused_right" s__law_refused_right f fd) (C__law_wrong : Cal P w K mg base 1 "_law_wrong" (spWrong K)) (C__law_refused : Cal P w K mg base 10 "_law_refused" (spRefused K)) :
    FnOk P w K mg base (L2.CX P w) 11 f fd ["_law_game_here", "_law_steps", "_law_more"] (spRefusedRight K) := by
  refine F.okX sc__law_refused_right (fun vs H Q E h => ?_) (fun cdv Ar outer s H vs Q E hr h => ?_)
  · obtain ⟨vg, g, sa, ss, more, rfl, _⟩ := h
    rfl
  · obtain ⟨vg, g, sa, ss, more, rfl, hg, hv, hne, hs, hss, q⟩ := h
    refine ⟨_, (pss_cons (ps_set (i := 3) sc__law_refused_right.nd rfl (Or.inl rfl) (pe_op op_mod (pv 2) (pe_callB call_len_seq (by rfl) B.len_ (by decide +kernel) (pa_cons (pv 0) pa_nil))))
      (pss_cons (ps_set (i := 4) sc__law_refused_right.nd rfl (Or.inl rfl) (pe_callTy call_list_of (by rfl) B.list_ (by decide +kernel) (pa_cons (pv 1) pa_nil)))
      (pss_cons (ps_asg (pe_cal C__law_wrong hr (by decide) (by rfl) (pa_cons (pv 0) (pa_cons (pv 3) (pa_cons (pe_op op_fdiv (pv 2) pe_int) pa_nil)))) (pg_sub (pv 4) (pv 3) set_list))
      (pss_cons (ps_if (PW.pt (pw_and (pt_cmpR op_eq (pe_op op_mod (pe_op op_fdiv (pv 2) pe_int) pe_int) pe_int (nomark _)) (pw_and1 (pt_cmpR op_lt (pe_op op_add (pv 3) pe_int) (pe_callB call_len_seq (by rfl) B.len_ (by decide +kernel) (pa_cons (pv 0) pa_nil)) (nomark _))))) (pss_one (ps_asg (pe_cal C__law_wrong hr (by decide) (by rfl) (pa_cons (pv 0) (pa_cons (pe_op op_sub (pe_callB call_len_seq (by rfl) B.len_ (by decide +kernel) (pa_cons (pv 0) pa_nil)) pe_int) (pa_cons (pe_op op_fdiv (pv 2) pe_int) pa_nil)))) (pg_sub (pv 4) (pe_op op_sub (pe_callB call_len_seq (by rfl) B.len_ (by decide +kernel) (pa_cons (pv 0) pa_nil)) pe_int) set_list))) pss_nil)
      (pss_cons (ps_set (i := 5) sc__law_refused_right.nd rfl (Or.inl rfl) (pe_op op_mod (pe_op op_fdiv (pv 2) pe_int) pe_int))
      (pss_cons (ps_set (i := 6) sc__law_refused_right.nd rfl (Or.inl rfl) (pe_ix ix_list (pe_lst (pa_cons (pe_un un_neg pe_int) (pa_cons (pe_callB call_len_seq (by rfl) B.len_ (by decide +kernel) (pa_cons (pv 0) pa_nil)) (pa_cons pe_non (pa_cons pe_bl (pa_cons pe_str (pa_cons (pe_op op_pow pe_int pe_int) pa_nil))))))) (pe_op op_mod (pe_op op_fdiv (pv 2) pe_int) pe_int) (fun _ _ => rfl)))
      (pss_cons (ps_if (pt_cmpR (op_neD hr.units) (pe_cal C__law_refused hr (by decide) (by rfl) (pa_cons (pv 5) (pa_cons (pv 0) (pa_cons (pv 4) (pa_cons (pe_ix ix_list (pe_lst (pa_cons pe_int (pa_cons (pv 6) pa_nil))) (pe_op op_mod (pe_op op_fdiv (pv 2) pe_int) pe_int) (fun _ _ => rfl)) pa_nil))))) (pe_tup (pa_cons pe_str (pa_cons (pv 3) pa_nil))) (nomark _)) (pss_one (ps_ret pe_bl)) pss_nil)
      (pss_cons (ps_if (pt_cmpR (op_neD hr.units) (pe_cal C__law_refused hr (by decide) (by rfl) (pa_cons (pv 5) (pa_cons (pv 0) (pa_cons (pe_ix ix_list (pe_lst (pa_cons pe_non (pa_cons (pe_callTy call_tuple_of (by rfl) B.tuple_ (by decide +kernel) (pa_cons (pv 1) pa_nil)) (pa_cons (pe_op op_cat (pv 1) (pe_lst (pa_cons pe_int pa_nil))) (pa_cons pe_dnewK pa_nil))))) (pe_op op_mod (pe_op op_fdiv (pv 2) pe_int) pe_int) (fun _ _ => rfl)) (pa_cons (pv 6) pa_nil))))) (pe_tup (pa_cons pe_str (pa_cons pe_non pa_nil))) (nomark _)) (pss_one (ps_ret pe_bl)) pss_nil)
      (pss_one (ps_ret (pe_cmpR (op_eqD hr.units) (pe_cal C__law_refused hr (by decide) (by rfl) (pa_cons (pv 5) (pa_cons (pv 0) (pa_cons (pv 1) (pa_cons (pv 6) pa_nil))))) (pe_tup (pa_cons pe_str (pa_cons pe_non pa_nil))) (nomark _)))))))))))), ?_⟩
    obtain ⟨ag, xg, rfl, hG, hGl, hGr⟩ := dp_game hg
    have h40 := hv.1
    have hn0 : 0 < g.length := List.length_pos_iff.mpr hne
    obtain ⟨ss', es', hsl, hsw⟩ := steps_of hss
    obtain rfl : ss = ss' := ints_inj (PyData.list.inj es')
    -- at, bad
    obtain ⟨a0, a1⟩ := mod_rg (a := more) (m := (xg.length : Int)) (by omega)
    refine ⟨_, rfl, _, rfl, _, _, rfl, .inl hG, _, _, rfl, rfl, (by omega : (0:Int) < (xg.length : Int)), ?_⟩
    refine ⟨_, rfl, sa, _, rfl, .inl (.inl (.inl hs)), fun l nl => ?_⟩
    have smL : Same H (upd H l (.lst (ss.map V.int))) := same_upd nl
    refine ⟨_, rfl, _, rfl, _, rfl, _, _, rfl, rfl, ⟨by decide, by decide⟩, .ref ag, g, more % (xg.length : Int), _, rfl, dp_mono smL _ _ hg, hv, a0, by rw [← hGl]; exact a1, fun H2 v d s2 hw hb => ?_⟩
    refine ⟨_, rfl, _, rfl, l, _, _, _, rfl, rfl, s2 _ _ upd_same, ixN_int a0 (by rw [List.length_map, hsl, ← hGl]; exact a1), ?_⟩
    have hi : (more % (xg.length : Int)).toNat < g.length := by omega
    have sa1 : Same H (upd H2 l (.lst ((ss.map V.int).set (more % (xg.length : Int)).toNat v))) := fun b o e => by
      rw [upd_ne (ne_of_none e nl)]
      exact s2 _ _ (smL _ _ e)
    have hd1 : DpAll K (upd H2 l (.lst ((ss.map V.int).set (more % (xg.length : Int)).toNat v))) ((ss.map V.int).set (more % (xg.length : Int)).toNat v) ((ss.map PyData.int).set (more % (xg.length : Int)).toNat d) := dpAll_set (hw.dp ⟨_, upd_same⟩) (dpa_ints' ss)
    have he1 : stepsErr g (.list ((ss.map PyData.int).set (more % (xg.length : Int)).toNat d)) = some (some (more % (xg.length : Int)).toNat) := steps_bad hss (by rw [List.length_set, List.length_map]; exact hsl) (fun j hj => by rw [List.getElem?_set_ne (by omega), List.getElem?_map]) (by rw [List.getElem?_set_self (by rw [List.length_map]; omega)]) hb
    have hq1 : stepOk g (more % (xg.length : Int)).toNat d = false := hb
    -- if more // 7 % 3 == 1 and at + 1 < len(game)
    refine ⟨_, rfl, _, _, rfl, rfl, ⟨by decide, by decide⟩, _, _, rfl, rfl, (by show (0:Int) < 3; decide), rfl, _, rfl, ite2 (fun _ => ?_) (fun _ => ?_)⟩
    · refine ⟨_, rfl, _, _, rfl, rfl, _, rfl, _, _, rfl, .inl (sa1.seq hG), _, _, rfl, rfl, _, rfl, ite2 (fun e2 => ?_) (fun _ => ?_)⟩
      · have hlt2 : more % (xg.length : Int) + 1 < (xg.length : Int) := of_decide_eq_true e2
        refine ⟨_, rfl, _, rfl, _, _, rfl, .inl (sa1.seq hG), _, _, rfl, rfl, _, rfl, _, _, rfl, rfl, ⟨by decide, by decide⟩, .ref ag, g, (xg.length : Int) - 1, _, rfl, dp_mono sa1 _ _ hg, hv, by omega, by omega, fun H3 v2 d2 s3 hw2 hb2 => ?_⟩
        refine ⟨_, rfl, _, rfl, _, _, rfl, .inl ((sa1.trans s3).seq hG), _, _, rfl, rfl, l, _, _, _, rfl, rfl, s3 _ _ upd_same, ixN_int (by omega) (by rw [List.length_set, List.length_map, hsl, ← hGl]; omega), ?_⟩
        obtain ⟨xs', hxs⟩ : ∃ xs', xs' = ((ss.map V.int).set (more % (xg.length : Int)).toNat v).set ((xg.length : Int) - 1).toNat v2 := ⟨_, rfl⟩
        obtain ⟨ds', hds'⟩ : ∃ ds', ds' = ((ss.map PyData.int).set (more % (xg.length : Int)).toNat d).set ((xg.length : Int) - 1).toNat d2 := ⟨_, rfl⟩
        obtain ⟨Hb, hHb⟩ : ∃ Hb, Hb = upd H3 l (.lst (((ss.map V.int).set (more % (xg.length : Int)).toNat v).set ((xg.length : Int) - 1).toNat v2)) := ⟨_, rfl⟩
        have sb : Same H Hb := fun b o e => by
          rw [hHb, upd_ne (ne_of_none e nl)]
          exact s3 _ _ (sa1 _ _ e)
        have hl : Hb l = some (.lst xs') := by rw [hHb, hxs, upd_same]
        have hds : DpAll K Hb xs' ds' := by
          rw [hxs, hds', hHb]
          refine dpAll_set (hw2.dp ⟨_, upd_same⟩) (dpAll_set ?_ (dpa_ints' ss))
          rcases hw with hw | ⟨z, rfl, hz, hz', rfl⟩
          · exact hw _
          · have zl : z ≠ l := fun e => by
              rw [e, upd_same] at hz
              cases hz
            exact .lst (.inl (.inl (by rw [upd_ne zl]; exact s3 _ _ (by rw [upd_ne zl]; exact hz')))) (.cons (.int 0) .nil)
        have herr : stepsErr g (.list ds') = some (some (more % (xg.length : Int)).toNat) := by
          rw [hds']
          refine steps_bad (d := d) hss (by rw [List.length_set, List.length_set, List.length_map]; exact hsl) (fun j hj => ?_) ?_ hb
          · rw [List.getElem?_set_ne (by omega), List.getElem?_set_ne (by omega), List.getElem?_map]
          · rw [List.getElem?_set_ne (by omega), List.getElem?_set_self (by rw [List.length_map]; omega)]
        rw [← hHb]
        -- way, none
        obtain ⟨vn, dn, hatn, hdn, hpn⟩ := none_place (m := (xg.length : Int)) (by omega) (by omega) (k := more / 13 % 6) (Int.emod_nonneg _ (by decide)) (Int.emod_lt_of_pos _ (by decide))
        rw [hGl] at hpn
        obtain ⟨vp, dp, hatp, hdp⟩ : ∃ vp dp, atI [V.int 0, vn] (more / 17 % 2) = some vp ∧ ∀ (K : PySem.W.Frag) (H : Hp), Dp K H vp dp := by
          rcases mod2 (more / 17) with e | e
          · exact ⟨_, .int 0, by rw [e]; exact atI_nat (j := 0) rfl, fun _ _ => .int 0⟩
          · exact ⟨_, dn, by rw [e]; exact atI_nat (j := 1) rfl, hdn⟩
        refine ⟨_, rfl, _, _, rfl, rfl, ⟨by decide, by decide⟩, _, _, rfl, rfl, (by show (0:Int) < 3; decide), ?_⟩
        refine ⟨_, rfl, _, rfl, _, _, rfl, .inl (sb.seq hG), _, _, rfl, rfl, ⟨by decide, by decide, by decide⟩, (by show 6 ≤ sizeLine; decide), fun l6 n6 => ⟨_, rfl, _, _, rfl, rfl, ⟨by decide, by decide⟩, _, _, rfl, rfl, (by show (0:Int) < 6; decide), l6, _, _, vn, rfl, rfl, .inl (.inl upd_same), hatn, ?_⟩⟩
        have sb6 := sb.trans (same_upd (o := .lst [V.int (-1), .int (xg.length : Int), .non, .bl true, .str "0", .int (10 ^ (20 : Int).toNat)]) n6)
        have g6 : Same Hb (upd Hb l6 (.lst [V.int (-1), .int (xg.length : Int), .non, .bl true, .str "0", .int (10 ^ (20 : Int).toNat)])) := same_upd n6
        -- refused(way, game, bad, ..) != ("steps", at)
        refine ⟨_, rfl, _, rfl, _, rfl, _, rfl, (by show 2 ≤ sizeLine; decide), fun l2 n2 => ⟨_, rfl, _, _, rfl, rfl, ⟨by decide, by decide⟩, _, _, rfl, rfl, (by show (0:Int) < 2; decide), l2, _, _, vp, rfl, rfl, .inl (.inl upd_same), hatp, ?_⟩⟩
        have sb2 := sb6.trans (same_upd (o := .lst [V.int 0, vn]) n2)
        have g2 := g6.trans (same_upd (o := .lst [V.int 0, vn]) n2)
        refine ⟨_, .ref ag, .ref l, vp, g, .list ds', dp, rfl, dp_mono sb2 _ _ hg, hv, .of (.lst (.inl (.inl (g2 _ _ hl))) (dp_monoAll g2 _ _ hds)), .of (hdp _ _), (fun e1 => by rw [herr] at e1; cases e1), fun e he H5 p5 s5 hp5 => ?_, fun e1 => by rw [herr] at e1; cases e1⟩
        rw [herr] at he
        cases he
        have sb5 := sb2.trans s5
        have hatd : ∀ H : Hp, Dp K H (.int (more % (xg.length : Int))) (atD (some (more % (xg.length : Int)).toNat)) := fun H => by
          have z : (((more % (xg.length : Int)).toNat : Nat) : Int) = (more % (xg.length : Int)) := by omega
          show Dp K H (.int (more % (xg.length : Int))) (.int (((more % (xg.length : Int)).toNat : Nat) : Int))
          rw [z]; exact .int _
        refine ⟨_, rfl, (by show 2 ≤ sizeLine; decide), fun t1 nt1 => ⟨_, .tuple [.str "steps", atD (some (more % (xg.length : Int)).toNat)], dp_mono (same_upd nt1) _ _ hp5, .tup (.inl (.inl upd_same)) (.cons (.str _) (.cons (hatd _) .nil)), shaped_steps _, shaped_steps _, _, rfl, ?_⟩⟩
        rw [eqv_pair]
        have sbt := sb5.trans (same_upd (o := .tup [.str "steps", .int (more % (xg.length : Int))]) nt1)
        -- refused(way, game, [None, tuple(steps), steps + [0], {}][..], none) != ("steps", None)
        have hs1 := sbt _ _ hs
        refine iteF ⟨_, rfl, _, rfl, _, rfl, sa, _, rfl, .inl ⟨.inl (.inl hs1), fun lt nlt => ⟨_, rfl, (by show 1 ≤ sizeLine; decide), fun lz nlz => ⟨sa, lz, _, _, rfl, rfl, by rw [upd_ne (ne_of_none (same_upd nlt _ _ hs1) nlz)]; exact same_upd nlt _ _ hs1, upd_same, (by rw [List.length_map, List.length_singleton]; exact small1000 (by omega)), fun lc nlc => ?_⟩⟩⟩⟩
        intro ld nld
        refine ⟨(by show 4 ≤ sizeLine; decide), fun l4 nl4 => ?_⟩
        have w1 := sbt.trans (same_upd (o := .tup (ss.map V.int)) nlt)
        have w2 := w1.trans (same_upd (o := .lst [V.int 0]) nlz)
        have w3 := w2.trans (same_upd (o := .lst (ss.map V.int ++ [V.int 0])) nlc)
        have w4 := w3.trans (same_upd (o := .dK []) nld)
        have w5 := w4.trans (same_upd (o := .lst [V.non, .ref lt, .ref lc, .ref ld]) nl4)
        have u2 := same_upd (o := .lst [V.int 0]) nlz
        have u3 := u2.trans (same_upd (o := .lst (ss.map V.int ++ [V.int 0])) nlc)
        have u4 := u3.trans (same_upd (o := .dK []) nld)
        have u5 := u4.trans (same_upd (o := .lst [V.non, .ref lt, .ref lc, .ref ld]) nl4)
        have x4 := (same_upd (o := .dK []) nld).trans (same_upd (o := .lst [V.non, .ref lt, .ref lc, .ref ld]) nl4)
        have y5 := same_upd (o := .lst [V.non, .ref lt, .ref lc, .ref ld]) nl4
        have hlt := u5 _ _ upd_same
        have hlc := x4 _ _ upd_same
        have hld := y5 _ _ upd_same
        obtain ⟨vb, db, hvb, hdb, heb⟩ : ∃ vb db, atI [V.non, .ref lt, .ref lc, .ref ld] (more / 19 % 4) = some vb ∧ (∀ Hx : Hp, Hx lt = some (.tup (ss.map V.int)) → Hx lc = some (.lst (ss.map V.int ++ [.int 0])) → Hx ld = some (.dK []) → Dx K Hx vb db) ∧ stepsErr g db = some none := by
          have hk : more / 19 % 4 = 0 ∨ more / 19 % 4 = 1 ∨ more / 19 % 4 = 2 ∨ more / 19 % 4 = 3 := by omega
          rcases hk with e | e | e | e
          · exact ⟨_, .none, by rw [e]; exact atI_nat (j := 0) rfl, fun _ _ _ _ => .of .non, rfl⟩
          · exact ⟨_, .tuple (ss.map .int), by rw [e]; exact atI_nat (j := 1) rfl, fun _ h _ _ => .of (.tup (.inl (.inl h)) (dpa_ints' ss)), rfl⟩
          · exact ⟨_, .list (ss.map .int ++ [.int 0]), by rw [e]; exact atI_nat (j := 2) rfl, fun _ _ h _ => .of (.lst (.inl (.inl h)) (dpAll_snoc (.int 0) (dpa_ints' ss))), if_pos (by rw [List.length_append, List.length_map, List.length_singleton]; omega)⟩
          · exact ⟨_, .dict [], by rw [e]; exact atI_nat (j := 3) rfl, fun _ _ _ h => .dict0 h, rfl⟩
        refine ⟨_, rfl, _, _, rfl, rfl, ⟨by decide, by decide⟩, _, _, rfl, rfl, (by show (0:Int) < 4; decide), l4, _, _, vb, rfl, rfl, .inl (.inl upd_same), hvb, _, rfl, _, .ref ag, vb, vn, g, db, dn, rfl, dp_mono w5 _ _ hg, hv, hdb _ hlt hlc hld, .of (hdn _ _), (fun e1 => by rw [heb] at e1; cases e1), fun e he H7 p7 s7 hp7 => ?_, fun e1 => by rw [heb] at e1; cases e1⟩
        rw [heb] at he
        cases he
        have w7 := w5.trans s7
        refine ⟨(by show 2 ≤ sizeLine; decide), fun t2 nt2 => ⟨_, .tuple [.str "steps", atD none], dp_mono (same_upd nt2) _ _ hp7, .tup (.inl (.inl upd_same)) (.cons (.str _) (.cons .non .nil)), shaped_steps _, shaped_steps _, _, rfl, ?_⟩⟩
        rw [eqv_pair]
        have w8 := w7.trans (same_upd (o := .tup [.str "steps", .non]) nt2)
        -- refused(way, game, steps, none) == ("place", None)
        refine iteF ⟨_, rfl, _, rfl, _, rfl, _, rfl, _, .ref ag, .ref sa, vn, g, intsD ss, dn, rfl, dp_mono w8 _ _ hg, hv, .of (.lst (.inl (.inl (w8 _ _ hs))) (dpa_ints' ss)), .of (hdn _ _), (fun _ => hpn), (fun e he => by rw [hss] at he; cases he), fun _ H9 p9 s9 hp9 => ?_⟩
        refine ⟨(by show 2 ≤ sizeLine; decide), fun t3 nt3 => ⟨_, .tuple [.str "place", atD none], dp_mono (same_upd nt3) _ _ hp9, .tup (.inl (.inl upd_same)) (.cons (.str _) (.cons .non .nil)), shaped_place, shaped_place, ?_⟩⟩
        rw [show PyData.eqv (.tuple [.str "place", .none]) (.tuple [.str "place", atD none]) = true from eqv_pair "place" none]
        exact q _ (w8.trans (s9.trans (same_upd nt3)))
      · obtain ⟨xs', hxs⟩ : ∃ xs', xs' = (ss.map V.int).set (more % (xg.length : Int)).toNat v := ⟨_, rfl⟩
        obtain ⟨ds', hds'⟩ : ∃ ds', ds' = (ss.map PyData.int).set (more % (xg.length : Int)).toNat d := ⟨_, rfl⟩
        obtain ⟨Hb, hHb⟩ : ∃ Hb, Hb = upd H2 l (.lst ((ss.map V.int).set (more % (xg.length : Int)).toNat v)) := ⟨_, rfl⟩
        have sb : Same H Hb := by rw [hHb]; exact sa1
        have hl : Hb l = some (.lst xs') := by rw [hHb, hxs, upd_same]
        have hds : DpAll K Hb xs' ds' := by rw [hxs, hds', hHb]; exact hd1
        have herr : stepsErr g (.list ds') = some (some (more % (xg.length : Int)).toNat) := by rw [hds']; exact he1
        rw [← hHb]
        -- way, none
        obtain ⟨vn, dn, hatn, hdn, hpn⟩ := none_place (m := (xg.length : Int)) (by omega) (by omega) (k := more / 13 % 6) (Int.emod_nonneg _ (by decide)) (Int.emod_lt_of_pos _ (by decide))
        rw [hGl] at hpn
        obtain ⟨vp, dp, hatp, hdp⟩ : ∃ vp dp, atI [V.int 0, vn] (more / 17 % 2) = some vp ∧ ∀ (K : PySem.W.Frag) (H : Hp), Dp K H vp dp := by
          rcases mod2 (more / 17) with e | e
          · exact ⟨_, .int 0, by rw [e]; exact atI_nat (j := 0) rfl, fun _ _ => .int 0⟩
          · exact ⟨_, dn, by rw [e]; exact atI_nat (j := 1) rfl, hdn⟩
        refine ⟨_, rfl, _, _, rfl, rfl, ⟨by decide, by decide⟩, _, _, rfl, rfl, (by show (0:Int) < 3; decide), ?_⟩
        refine ⟨_, rfl, _, rfl, _, _, rfl, .inl (sb.seq hG), _, _, rfl, rfl, ⟨by decide, by decide, by decide⟩, (by show 6 ≤ sizeLine; decide), fun l6 n6 => ⟨_, rfl, _, _, rfl, rfl, ⟨by decide, by decide⟩, _, _, rfl, rfl, (by show (0:Int) < 6; decide), l6, _, _, vn, rfl, rfl, .inl (.inl upd_same), hatn, ?_⟩⟩
        have sb6 := sb.trans (same_upd (o := .lst [V.int (-1), .int (xg.length : Int), .non, .bl true, .str "0", .int (10 ^ (20 : Int).toNat)]) n6)
        have g6 : Same Hb (upd Hb l6 (.lst [V.int (-1), .int (xg.length : Int), .non, .bl true, .str "0", .int (10 ^ (20 : Int).toNat)])) := same_upd n6
        -- refused(way, game, bad, ..) != ("steps", at)
        refine ⟨_, rfl, _, rfl, _, rfl, _, rfl, (by show 2 ≤ sizeLine; decide), fun l2 n2 => ⟨_, rfl, _, _, rfl, rfl, ⟨by decide, by decide⟩, _, _, rfl, rfl, (by show (0:Int) < 2; decide), l2, _, _, vp, rfl, rfl, .inl (.inl upd_same), hatp, ?_⟩⟩
        have sb2 := sb6.trans (same_upd (o := .lst [V.int 0, vn]) n2)
        have g2 := g6.trans (same_upd (o := .lst [V.int 0, vn]) n2)
        refine ⟨_, .ref ag, .ref l, vp, g, .list ds', dp, rfl, dp_mono sb2 _ _ hg, hv, .of (.lst (.inl (.inl (g2 _ _ hl))) (dp_monoAll g2 _ _ hds)), .of (hdp _ _), (fun e1 => by rw [herr] at e1; cases e1), fun e he H5 p5 s5 hp5 => ?_, fun e1 => by rw [herr] at e1; cases e1⟩
        rw [herr] at he
        cases he
        have sb5 := sb2.trans s5
        have hatd : ∀ H : Hp, Dp K H (.int (more % (xg.length : Int))) (atD (some (more % (xg.length : Int)).toNat)) := fun H => by
          have z : (((more % (xg.length : Int)).toNat : Nat) : Int) = (more % (xg.length : Int)) := by omega
          show Dp K H (.int (more % (xg.length : Int))) (.int (((more % (xg.length : Int)).toNat : Nat) : Int))
          rw [z]; exact .int _
        refine ⟨_, rfl, (by show 2 ≤ sizeLine; decide), fun t1 nt1 => ⟨_, .tuple [.str "steps", atD (some (more % (xg.length : Int)).toNat)], dp_mono (same_upd nt1) _ _ hp5, .tup (.inl (.inl upd_same)) (.cons (.str _) (.cons (hatd _) .nil)), shaped_steps _, shaped_steps _, _, rfl, ?_⟩⟩
        rw [eqv_pair]
        have sbt := sb5.trans (same_upd (o := .tup [.str "steps", .int (more % (xg.length : Int))]) nt1)
        -- refused(way, game, [None, tuple(steps), steps + [0], {}][..], none) != ("steps", None)
        have hs1 := sbt _ _ hs
        refine iteF ⟨_, rfl, _, rfl, _, rfl, sa, _, rfl, .inl ⟨.inl (.inl hs1), fun lt nlt => ⟨_, rfl, (by show 1 ≤ sizeLine; decide), fun lz nlz => ⟨sa, lz, _, _, rfl, rfl, by rw [upd_ne (ne_of_none (same_upd nlt _ _ hs1) nlz)]; exact same_upd nlt _ _ hs1, upd_same, (by rw [List.length_map, List.length_singleton]; exact small1000 (by omega)), fun lc nlc => ?_⟩⟩⟩⟩
        intro ld nld
        refine ⟨(by show 4 ≤ sizeLine; decide), fun l4 nl4 => ?_⟩
        have w1 := sbt.trans (same_upd (o := .tup (ss.map V.int)) nlt)
        have w2 := w1.trans (same_upd (o := .lst [V.int 0]) nlz)
        have w3 := w2.trans (same_upd (o := .lst (ss.map V.int ++ [V.int 0])) nlc)
        have w4 := w3.trans (same_upd (o := .dK []) nld)
        have w5 := w4.trans (same_upd (o := .lst [V.non, .ref lt, .ref lc, .ref ld]) nl4)
        have u2 := same_upd (o := .lst [V.int 0]) nlz
        have u3 := u2.trans (same_upd (o := .lst (ss.map V.int ++ [V.int 0])) nlc)
        have u4 := u3.trans (same_upd (o := .dK []) nld)
        have u5 := u4.trans (same_upd (o := .lst [V.non, .ref lt, .ref lc, .ref ld]) nl4)
        have x4 := (same_upd (o := .dK []) nld).trans (same_upd (o := .lst [V.non, .ref lt, .ref lc, .ref ld]) nl4)
        have y5 := same_upd (o := .lst [V.non, .ref lt, .ref lc, .ref ld]) nl4
        have hlt := u5 _ _ upd_same
        have hlc := x4 _ _ upd_same
        have hld := y5 _ _ upd_same
        obtain ⟨vb, db, hvb, hdb, heb⟩ : ∃ vb db, atI [V.non, .ref lt, .ref lc, .ref ld] (more / 19 % 4) = some vb ∧ (∀ Hx : Hp, Hx lt = some (.tup (ss.map V.int)) → Hx lc = some (.lst (ss.map V.int ++ [.int 0])) → Hx ld = some (.dK []) → Dx K Hx vb db) ∧ stepsErr g db = some none := by
          have hk : more / 19 % 4 = 0 ∨ more / 19 % 4 = 1 ∨ more / 19 % 4 = 2 ∨ more / 19 % 4 = 3 := by omega
          rcases hk with e | e | e | e
          · exact ⟨_, .none, by rw [e]; exact atI_nat (j := 0) rfl, fun _ _ _ _ => .of .non, rfl⟩
          · exact ⟨_, .tuple (ss.map .int), by rw [e]; exact atI_nat (j := 1) rfl, fun _ h _ _ => .of (.tup (.inl (.inl h)) (dpa_ints' ss)), rfl⟩
          · exact ⟨_, .list (ss.map .int ++ [.int 0]), by rw [e]; exact atI_nat (j := 2) rfl, fun _ _ h _ => .of (.lst (.inl (.inl h)) (dpAll_snoc (.int 0) (dpa_ints' ss))), if_pos (by rw [List.length_append, List.length_map, List.length_singleton]; omega)⟩
          · exact ⟨_, .dict [], by rw [e]; exact atI_nat (j := 3) rfl, fun _ _ _ h => .dict0 h, rfl⟩
        refine ⟨_, rfl, _, _, rfl, rfl, ⟨by decide, by decide⟩, _, _, rfl, rfl, (by show (0:Int) < 4; decide), l4, _, _, vb, rfl, rfl, .inl (.inl upd_same), hvb, _, rfl, _, .ref ag, vb, vn, g, db, dn, rfl, dp_mono w5 _ _ hg, hv, hdb _ hlt hlc hld, .of (hdn _ _), (fun e1 => by rw [heb] at e1; cases e1), fun e he H7 p7 s7 hp7 => ?_, fun e1 => by rw [heb] at e1; cases e1⟩
        rw [heb] at he
        cases he
        have w7 := w5.trans s7
        refine ⟨(by show 2 ≤ sizeLine; decide), fun t2 nt2 => ⟨_, .tuple [.str "steps", atD none], dp_mono (same_upd nt2) _ _ hp7, .tup (.inl (.inl upd_same)) (.cons (.str _) (.cons .non .nil)), shaped_steps _, shaped_steps _, _, rfl, ?_⟩⟩
        rw [eqv_pair]
        have w8 := w7.trans (same_upd (o := .tup [.str "steps", .non]) nt2)
        -- refused(way, game, steps, none) == ("place", None)
        refine iteF ⟨_, rfl, _, rfl, _, rfl, _, rfl, _, .ref ag, .ref sa, vn, g, intsD ss, dn, rfl, dp_mono w8 _ _ hg, hv, .of (.lst (.inl (.inl (w8 _ _ hs))) (dpa_ints' ss)), .of (hdn _ _), (fun _ => hpn), (fun e he => by rw [hss] at he; cases he), fun _ H9 p9 s9 hp9 => ?_⟩
        refine ⟨(by show 2 ≤ sizeLine; decide), fun t3 nt3 => ⟨_, .tuple [.str "place", atD none], dp_mono (same_upd nt3) _ _ hp9, .tup (.inl (.inl upd_same)) (.cons (.str _) (.cons .non .nil)), shaped_place, shaped_place, ?_⟩⟩
        rw [show PyData.eqv (.tuple [.str "place", .none]) (.tuple [.str "place", atD none]) = true from eqv_pair "place" none]
        exact q _ (w8.trans (s9.trans (same_upd nt3)))
    · obtain ⟨xs', hxs⟩ : ∃ xs', xs' = (ss.map V.int).set (more % (xg.length : Int)).toNat v := ⟨_, rfl⟩
      obtain ⟨ds', hds'⟩ : ∃ ds', ds' = (ss.map PyData.int).set (more % (xg.length : Int)).toNat d := ⟨_, rfl⟩
      obtain ⟨Hb, hHb⟩ : ∃ Hb, Hb = upd H2 l (.lst ((ss.map V.int).set (more % (xg.length : Int)).toNat v)) := ⟨_, rfl⟩
      have sb : Same H Hb := by rw [hHb]; exact sa1
      have hl : Hb l = some (.lst xs') := by rw [hHb, hxs, upd_same]
      have hds : DpAll K Hb xs' ds' := by rw [hxs, hds', hHb]; exact hd1
      have herr : stepsErr g (.list ds') = some (some (more % (xg.length : Int)).toNat) := by rw [hds']; exact he1
      rw [← hHb]
      -- way, none
      obtain ⟨vn, dn, hatn, hdn, hpn⟩ := none_place (m := (xg.length : Int)) (by omega) (by omega) (k := more / 13 % 6) (Int.emod_nonneg _ (by decide)) (Int.emod_lt_of_pos _ (by decide))
      rw [hGl] at hpn
      obtain ⟨vp, dp, hatp, hdp⟩ : ∃ vp dp, atI [V.int 0, vn] (more / 17 % 2) = some vp ∧ ∀ (K : PySem.W.Frag) (H : Hp), Dp K H vp dp := by
        rcases mod2 (more / 17) with e | e
        · exact ⟨_, .int 0, by rw [e]; exact atI_nat (j := 0) rfl, fun _ _ => .int 0⟩
        · exact ⟨_, dn, by rw [e]; exact atI_nat (j := 1) rfl, hdn⟩
      refine ⟨_, rfl, _, _, rfl, rfl, ⟨by decide, by decide⟩, _, _, rfl, rfl, (by show (0:Int) < 3; decide), ?_⟩
      refine ⟨_, rfl, _, rfl, _, _, rfl, .inl (sb.seq hG), _, _, rfl, rfl, ⟨by decide, by decide, by decide⟩, (by show 6 ≤ sizeLine; decide), fun l6 n6 => ⟨_, rfl, _, _, rfl, rfl, ⟨by decide, by decide⟩, _, _, rfl, rfl, (by show (0:Int) < 6; decide), l6, _, _, vn, rfl, rfl, .inl (.inl upd_same), hatn, ?_⟩⟩
      have sb6 := sb.trans (same_upd (o := .lst [V.int (-1), .int (xg.length : Int), .non, .bl true, .str "0", .int (10 ^ (20 : Int).toNat)]) n6)
      have g6 : Same Hb (upd Hb l6 (.lst [V.int (-1), .int (xg.length : Int), .non, .bl true, .str "0", .int (10 ^ (20 : Int).toNat)])) := same_upd n6
      -- refused(way, game, bad, ..) != ("steps", at)
      refine ⟨_, rfl, _, rfl, _, rfl, _, rfl, (by show 2 ≤ sizeLine; decide), fun l2 n2 => ⟨_, rfl, _, _, rfl, rfl, ⟨by decide, by decide⟩, _, _, rfl, rfl, (by show (0:Int) < 2; decide), l2, _, _, vp, rfl, rfl, .inl (.inl upd_same), hatp, ?_⟩⟩
      have sb2 := sb6.trans (same_upd (o := .lst [V.int 0, vn]) n2)
      have g2 := g6.trans (same_upd (o := .lst [V.int 0, vn]) n2)
      refine ⟨_, .ref ag, .ref l, vp, g, .list ds', dp, rfl, dp_mono sb2 _ _ hg, hv, .of (.lst (.inl (.inl (g2 _ _ hl))) (dp_monoAll g2 _ _ hds)), .of (hdp _ _), (fun e1 => by rw [herr] at e1; cases e1), fun e he H5 p5 s5 hp5 => ?_, fun e1 => by rw [herr] at e1; cases e1⟩
      rw [herr] at he
      cases he
      have sb5 := sb2.trans s5
      have hatd : ∀ H : Hp, Dp K H (.int (more % (xg.length : Int))) (atD (some (more % (xg.length : Int)).toNat)) := fun H => by
        have z : (((more % (xg.length : Int)).toNat : Nat) : Int) = (more % (xg.length : Int)) := by omega
        show Dp K H (.int (more % (xg.length : Int))) (.int (((more % (xg.length : Int)).toNat : Nat) : Int))
        rw [z]; exact .int _
      refine ⟨_, rfl, (by show 2 ≤ sizeLine; decide), fun t1 nt1 => ⟨_, .tuple [.str "steps", atD (some (more % (xg.length : Int)).toNat)], dp_mono (same_upd nt1) _ _ hp5, .tup (.inl (.inl upd_same)) (.cons (.str _) (.cons (hatd _) .nil)), shaped_steps _, shaped_steps _, _, rfl, ?_⟩⟩
      rw [eqv_pair]
      have sbt := sb5.trans (same_upd (o := .tup [.str "steps", .int (more % (xg.length : Int))]) nt1)
      -- refused(way, game, [None, tuple(steps), steps + [0], {}][..], none) != ("steps", None)
      have hs1 := sbt _ _ hs
      refine iteF ⟨_, rfl, _, rfl, _, rfl, sa, _, rfl, .inl ⟨.inl (.inl hs1), fun lt nlt => ⟨_, rfl, (by show 1 ≤ sizeLine; decide), fun lz nlz => ⟨sa, lz, _, _, rfl, rfl, by rw [upd_ne (ne_of_none (same_upd nlt _ _ hs1) nlz)]; exact same_upd nlt _ _ hs1, upd_same, (by rw [List.length_map, List.length_singleton]; exact small1000 (by omega)), fun lc nlc => ?_⟩⟩⟩⟩
      intro ld nld
      refine ⟨(by show 4 ≤ sizeLine; decide), fun l4 nl4 => ?_⟩
      have w1 := sbt.trans (same_upd (o := .tup (ss.map V.int)) nlt)
      have w2 := w1.trans (same_upd (o := .lst [V.int 0]) nlz)
      have w3 := w2.trans (same_upd (o := .lst (ss.map V.int ++ [V.int 0])) nlc)
      have w4 := w3.trans (same_upd (o := .dK []) nld)
      have w5 := w4.trans (same_upd (o := .lst [V.non, .ref lt, .ref lc, .ref ld]) nl4)
      have u2 := same_upd (o := .lst [V.int 0]) nlz
      have u3 := u2.trans (same_upd (o := .lst (ss.map V.int ++ [V.int 0])) nlc)
      have u4 := u3.trans (same_upd (o := .dK []) nld)
      have u5 := u4.trans (same_upd (o := .lst [V.non, .ref lt, .ref lc, .ref ld]) nl4)
      have x4 := (same_upd (o := .dK []) nld).trans (same_upd (o := .lst [V.non, .ref lt, .ref lc, .ref ld]) nl4)
      have y5 := same_upd (o := .lst [V.non, .ref lt, .ref lc, .ref ld]) nl4
      have hlt := u5 _ _ upd_same
      have hlc := x4 _ _ upd_same
      have hld := y5 _ _ upd_same
      obtain ⟨vb, db, hvb, hdb, heb⟩ : ∃ vb db, atI [V.non, .ref lt, .ref lc, .ref ld] (more / 19 % 4) = some vb ∧ (∀ Hx : Hp, Hx lt = some (.tup (ss.map V.int)) → Hx lc = some (.lst (ss.map V.int ++ [.int 0])) → Hx ld = some (.dK []) → Dx K Hx vb db) ∧ stepsErr g db = some none := by
        have hk : more / 19 % 4 = 0 ∨ more / 19 % 4 = 1 ∨ more / 19 % 4 = 2 ∨ more / 19 % 4 = 3 := by omega
        rcases hk with e | e | e | e
        · exact ⟨_, .none, by rw [e]; exact atI_nat (j := 0) rfl, fun _ _ _ _ => .of .non, rfl⟩
        · exact ⟨_, .tuple (ss.map .int), by rw [e]; exact atI_nat (j := 1) rfl, fun _ h _ _ => .of (.tup (.inl (.inl h)) (dpa_ints' ss)), rfl⟩
        · exact ⟨_, .list (ss.map .int ++ [.int 0]), by rw [e]; exact atI_nat (j := 2) rfl, fun _ _ h _ => .of (.lst (.inl (.inl h)) (dpAll_snoc (.int 0) (dpa_ints' ss))), if_pos (by rw [List.length_append, List.length_map, List.length_singleton]; omega)⟩
        · exact ⟨_, .dict [], by rw [e]; exact atI_nat (j := 3) rfl, fun _ _ _ h => .dict0 h, rfl⟩
      refine ⟨_, rfl, _, _, rfl, rfl, ⟨by decide, by decide⟩, _, _, rfl, rfl, (by show (0:Int) < 4; decide), l4, _, _, vb, rfl, rfl, .inl (.inl upd_same), hvb, _, rfl, _, .ref ag, vb, vn, g, db, dn, rfl, dp_mono w5 _ _ hg, hv, hdb _ hlt hlc hld, .of (hdn _ _), (fun e1 => by rw [heb] at e1; cases e1), fun e he H7 p7 s7 hp7 => ?_, fun e1 => by rw [heb] at e1; cases e1⟩
      rw [heb] at he
      cases he
      have w7 := w5.trans s7
      refine ⟨(by show 2 ≤ sizeLine; decide), fun t2 nt2 => ⟨_, .tuple [.str "steps", atD none], dp_mono (same_upd nt2) _ _ hp7, .tup (.inl (.inl upd_same)) (.cons (.str _) (.cons .non .nil)), shaped_steps _, shaped_steps _, _, rfl, ?_⟩⟩
      rw [eqv_pair]
      have w8 := w7.trans (same_upd (o := .tup [.str "steps", .non]) nt2)
      -- refused(way, game, steps, none) == ("place", None)
      refine iteF ⟨_, rfl, _, rfl, _, rfl, _, rfl, _, .ref ag, .ref sa, vn, g, intsD ss, dn, rfl, dp_mono w8 _ _ hg, hv, .of (.lst (.inl (.inl (w8 _ _ hs))) (dpa_ints' ss)), .of (hdn _ _), (fun _ => hpn), (fun e he => by rw [hss] at he; cases he), fun _ H9 p9 s9 hp9 => ?_⟩
      refine ⟨(by show 2 ≤ sizeLine; decide), fun t3 nt3 => ⟨_, .tuple [.str "place", atD none], dp_mono (same_upd nt3) _ _ hp9, .tup (.inl (.inl upd_same)) (.cons (.str _) (.cons .non .nil)), shaped_place, shaped_place, ?_⟩⟩
      rw [show PyData.eqv (.tuple [.str "place", .none]) (.tuple [.str "place", atD none]) = true from eqv_pair "place" none]
      exact q _ (w8.trans (s9.trans (same_upd nt3)))
end
end G

namespace G
open PySem PySem.Spec PyProof.Rows L2
abbrev s_law : Stmt := topS 33
theorem sc_law : FnScope ["_law_script", "_law_game_here", "_law_number", "_law_steps", "_law_place", "_law_ways", "_law_handed", "_law_k", "_law_ahead", "_law_ring_here", "_law_top", "_law_found", "_law_told", "_law_cell", "_law_one"] ["_law_script"] (defScope s_law) := ⟨rfl, rfl, rfl, by decide +kernel, rfl, by decide +kernel, by decide +kernel⟩
def stepAt (g : List Row) (num : Int) (i : Nat) : Int := (wsAt g i).getD (mixed num (50 + i) % ((wsAt g i).length : Int)).toNat 0
def stepsOf (g : List Row) (num : Int) : List Int := (List.range g.length).map (stepAt g num)
theorem ws_valid {g : List Row} (hv : ValidG g) {i : Nat} (hi : i < g.length) : wsAt g i = g[i].ws ∧ g[i].ws ≠ [] := by
  refine ⟨by unfold wsAt; rw [List.getElem?_eq_getElem hi]; rfl, (hv.2 _ (List.getElem_mem hi)).2.2.1⟩
theorem stepAt_mem {g : List Row} (hv : ValidG g) {num : Int} {i : Nat} (hi : i < g.length) : stepAt g num i ∈ wsAt g i := by
  obtain ⟨e, hne⟩ := ws_valid hv hi
  rw [← e] at hne
  have hl : 0 < (wsAt g i).length := List.length_pos_iff.mpr hne
  have := mod_rg (a := mixed num (50 + i)) (m := ((wsAt g i).length : Int)) (by omega)
  unfold stepAt
  have hlt : (mixed num (50 + i) % ((wsAt g i).length : Int)).toNat < (wsAt g i).length := by omega
  rw [List.getD_eq_getElem?_getD, List.getElem?_eq_getElem hlt]
  exact List.getElem_mem hlt
theorem stepsOf_ok {g : List Row} (hv : ValidG g) (num : Int) : stepsErr g (intsD (stepsOf g num)) = none := by
  show (if ((stepsOf g num).map PyData.int).length ≠ g.length then some none else (fb (stepOk g) ((stepsOf g num).map .int) 0).map some) = none
  rw [if_neg (by rw [List.length_map]; unfold stepsOf; rw [List.length_map, List.length_range]; exact fun z => z rfl), fb_none (fun j e he => ?_)]
  · rfl
  · rw [Nat.zero_add]
    rw [List.getElem?_map] at he
    obtain ⟨s, hs, rfl⟩ := Option.map_eq_some_iff.mp he
    unfold stepsOf at hs
    rw [List.getElem?_map] at hs
    obtain ⟨k, hk, rfl⟩ := Option.map_eq_some_iff.mp hs
    have hlt : j < g.length := by
      have := (List.getElem?_eq_some_iff.mp hk).1
      rw [List.length_range] at this
      exact this
    rw [List.getElem?_eq_getElem (by rw [List.length_range]; exact hlt), List.getElem_range] at hk
    cases hk
    exact decide_eq_true (stepAt_mem hv hlt)
section
variable {P : Program} {w : World} {K : PySem.W.Frag} {mg : Str → Option Value} {base : Heap}
theorem place_ok {pl : Int} {n : Nat} (p0 : 0 ≤ pl) (p1 : pl < (n : Int)) : isPlace (.int pl) (n : Int) = true := by
  show (decide (0 ≤ pl) && decide (pl < (n : Int))) = true
  rw [decide_eq_true p0, decide_eq_true p1]; rfl
theorem spW_use {A : Ads} {ok : List Row → List Int → Int → Hp → VK → Prop} {vg vt vp : V} {g : List Row} {ss : List Int} {pl : Int} {H : Hp} {Q : VK} (ep : vp = .int pl) (hg : Dp K H vg (gameD g)) (hv : ValidG g) (ht : Dp K H vt (intsD ss)) (hss : stepsErr g (intsD ss) = none) (p0 : 0 ≤ pl) (p1 : pl < (g.length : Int)) (h : ok g ss pl H Q) : spW K A ok [vg, vt, vp] H Q E0 := by
  subst ep
  refine ⟨vg, vt, .int pl, gameD g, intsD ss, .int pl, rfl, .of hg, hv.sz, .of ht, .of (.int _), (fun e he => by rw [gameErr_valid hv] at he; cases he), fun g' eg hv' => ⟨fun e he => ?_, fun ss' es e1 => ⟨fun hno => ?_, fun i' ei hpl' => ?_⟩⟩⟩
  · cases gameD_inj eg
    rw [hss] at he
    cases he
  · cases gameD_inj eg
    rw [place_ok p0 p1] at hno
    cases hno
  cases gameD_inj eg
  cases ints_inj (PyData.list.inj es)
  cases PyData.int.inj ei
  exact h
theorem ok_law {f : Addr} {fd : FuncData} {A : Ads} (B : Bt mg) (F : Fun K "law" "law" s_law f fd) (C__law_game : Cal P w K mg base 2 "_law_game" (spLawGame K)) (C__law_mixed : Cal P w K mg base 1 "_law_mixed" spMixed) (C__law_copied : Cal P w K mg base 1 "_law_copied" (spCopied K))
    (C__law_ring : Cal P w K mg base 1 "_law_ring" (spRing K)) (C_walk : Cal P w K mg base 7 "walk" (spW K A okWalk)) (C_heard : Cal P w K mg base 8 "heard" (spW K A okHeard)) (C_winner : Cal P w K mg base 9 "winner" (spW K A okWinner)) (C__law_refused_right : Cal P w K mg base 11 "_law_refused_right" (spRefusedRight K)) :
    FnOk P w K mg base (L2.CX P w) 12 f fd ["_law_script"] (spLaw K) := by
  refine F.okX sc_law (fun vs H Q E h => ?_) (fun cdv Ar outer s H vs Q E hr h => ?_)
  · obtain ⟨a, ns, rfl, _⟩ := h
    rfl
  · obtain ⟨a, ns, rfl, hS, h63, q⟩ := h
    refine ⟨_, (pss_cons (ps_set (i := 1) sc_law.nd rfl (Or.inr rfl) (pe_cal C__law_game hr (by decide) (by rfl) (pa_cons (pv 0) (pa_cons pe_int pa_nil))))
      (pss_cons (ps_set (i := 2) sc_law.nd rfl (Or.inl rfl) (pe_cal C__law_mixed hr (by decide) (by rfl) (pa_cons (pe_op op_add (pe_callB call_len_seq (by rfl) B.len_ (by decide +kernel) (pa_cons (pv 0) pa_nil)) (pe_callB (cr_sum rfl) (by rfl) B.sum_ (by decide +kernel) (pa_cons (pe_lc (own := [("_law_cell", 13)]) (by rfl) sc_law.nd (pi_list (pv 0)) (blkOk_by (own := [("_law_cell", 13)]) (N := ["_law_script", "_law_game_here", "_law_number", "_law_steps", "_law_place", "_law_ways", "_law_handed", "_law_k", "_law_ahead", "_law_ring_here", "_law_top", "_law_found", "_law_told", "_law_cell", "_law_one"]) (sc := defScope s_law) (by decide +kernel)) (fun _ _ _ _ _ => (pg_name (i := 13) sc_law.nd rfl (Or.inl rfl))) (fun _ _ _ _ _ => pts_nil) (fun _ _ _ _ _ => (pe_op op_mod (pv 13) pe_int))) pa_nil))) (pa_cons pe_int pa_nil))))
      (pss_cons (ps_set (i := 3) sc_law.nd rfl (Or.inl rfl) (pe_lst pa_nil))
      (pss_cons (ps_for (passes_of rfl) rfl (pi_range1 (by rfl) B.range_ (pa_cons (pe_callB call_len_seq (by rfl) B.len_ (by decide +kernel) (pa_cons (pv 1) pa_nil)) pa_nil)) (pg_name (i := 4) sc_law.nd rfl (Or.inl rfl)) (pss_cons (ps_set (i := 5) sc_law.nd rfl (Or.inl rfl) (pe_ix ix_tup (pe_ix ix_list (pv 1) (pv 4) (fun _ _ => rfl)) pe_int (fun _ _ => rfl)))
      (pss_one (ps_expr (pe_bm PySem.F.plainAttrs_list PySem.F.slot_list_append PySem.F.type_list_append mt_append (pv 3) (pa_cons (pe_ix ix_list (pv 5) (pe_op op_mod (pe_cal C__law_mixed hr (by decide) (by rfl) (pa_cons (pv 2) (pa_cons (pe_op op_add pe_int (pv 4)) pa_nil))) (pe_callB call_len_seq (by rfl) B.len_ (by decide +kernel) (pa_cons (pv 5) pa_nil))) (fun _ _ => rfl)) pa_nil))))))
      (pss_cons (ps_set (i := 6) sc_law.nd rfl (Or.inl rfl) (pe_lst (pa_cons (pe_cal C__law_copied hr (by decide) (by rfl) (pa_cons (pv 1) pa_nil)) (pa_cons (pe_callTy call_list_of (by rfl) B.list_ (by decide +kernel) (pa_cons (pv 3) pa_nil)) pa_nil))))
      (pss_cons (ps_for (passes_of rfl) rfl (pi_range1 (by rfl) B.range_ (pa_cons pe_int pa_nil)) (pg_name (i := 7) sc_law.nd rfl (Or.inl rfl)) (pss_cons (ps_set (i := 4) sc_law.nd rfl (Or.inl rfl) (pe_op op_mod (pe_cal C__law_mixed hr (by decide) (by rfl) (pa_cons (pv 2) (pa_cons (pe_op op_add pe_int (pv 7)) pa_nil))) (pe_callB call_len_seq (by rfl) B.len_ (by decide +kernel) (pa_cons (pv 1) pa_nil))))
      (pss_cons (ps_asg (pe_cal C__law_ring hr (by decide) (by rfl) (pa_cons (pv 3) (pa_cons (pv 4) pa_nil))) (pg_tup (by rfl) (pgs_cons (pg_name (i := 8) sc_law.nd rfl (Or.inl rfl)) (pgs_cons (pg_name (i := 9) sc_law.nd rfl (Or.inl rfl)) pgs_nil))))
      (pss_cons (ps_set (i := 10) sc_law.nd rfl (Or.inl rfl) (pe_callB (cr_max rfl) (by rfl) B.max_ (by decide +kernel) (pa_cons (pe_lc (own := [("_law_one", 14)]) (by rfl) sc_law.nd (pi_list (pv 9)) (blkOk_by (own := [("_law_one", 14)]) (N := ["_law_script", "_law_game_here", "_law_number", "_law_steps", "_law_place", "_law_ways", "_law_handed", "_law_k", "_law_ahead", "_law_ring_here", "_law_top", "_law_found", "_law_told", "_law_cell", "_law_one"]) (sc := defScope s_law) (by decide +kernel)) (fun _ _ _ _ _ => (pg_name (i := 14) sc_law.nd rfl (Or.inl rfl))) (fun _ _ _ _ _ => pts_nil) (fun _ _ _ _ _ => (pe_ix (kr_ix_tup (K := K) rfl) (pe_ix (kr_ix_list (K := K) rfl) (pv 1) (pv 14) (fun _ _ => rfl)) pe_int (fun _ _ => rfl)))) pa_nil)))
      (pss_cons (ps_set (i := 11) sc_law.nd rfl (Or.inl rfl) (pe_cal C_walk hr (by decide) (by rfl) (pa_cons (pe_ix ix_list (pv 6) pe_int (fun _ _ => rfl)) (pa_cons (pe_ix ix_list (pv 6) pe_int (fun _ _ => rfl)) (pa_cons (pv 4) pa_nil)))))
      (pss_cons (ps_if (PW.pt (pw_or (pt_not (pt_val (pe_callB call_isi (by rfl) B.isinstance_ (by decide +kernel) (pa_cons (pv 11) (pa_cons (pe_bltn (v := .ty "tuple") (u := .type "tuple") (by rfl) B.tuple_ (by decide +kernel) rfl) pa_nil))))) (pw_or (pt_cmpR (op_neD hr.units) (pv 11) (pe_tup (pa_cons (pv 8) (pa_cons (pv 9) pa_nil))) (nomark _)) (pw_or1 (pt_not (pt_val (pe_callB call_isi (by rfl) B.isinstance_ (by decide +kernel) (pa_cons (pe_ix ix_tup (pv 11) pe_int (fun _ _ => rfl)) (pa_cons (pe_bltn (v := .ty "list") (u := .type "list") (by rfl) B.list_ (by decide +kernel) rfl) pa_nil))))))))) (pss_one (ps_ret pe_bl)) pss_nil)
      (pss_cons (ps_expr (pe_bm PySem.F.plainAttrs_list PySem.F.slot_list_append PySem.F.type_list_append mt_append (pe_ix ix_tup (pv 11) pe_int (fun _ _ => rfl)) (pa_cons pe_int pa_nil)))
      (pss_cons (ps_expr (pe_bm PySem.F.plainAttrs_list PySem.F.slot_list_append PySem.F.type_list_append mt_append (pe_ix ix_tup (pv 11) pe_int (fun _ _ => rfl)) (pa_cons pe_int pa_nil)))
      (pss_cons (ps_set (i := 12) sc_law.nd rfl (Or.inl rfl) (pe_lst (pa_cons (pe_cal C_heard hr (by decide) (by rfl) (pa_cons (pe_ix ix_list (pv 6) pe_int (fun _ _ => rfl)) (pa_cons (pe_ix ix_list (pv 6) pe_int (fun _ _ => rfl)) (pa_cons (pv 4) pa_nil)))) (pa_cons (pe_cal C_winner hr (by decide) (by rfl) (pa_cons (pe_ix ix_list (pv 6) pe_int (fun _ _ => rfl)) (pa_cons (pe_ix ix_list (pv 6) pe_int (fun _ _ => rfl)) (pa_cons (pv 4) pa_nil)))) pa_nil))))
      (pss_one (ps_if (PW.pt (pw_or (pt_cmpR (op_neD hr.units) (pv 12) (pe_lst (pa_cons (pv 10) (pa_cons (pe_op op_mod (pv 10) pe_int) pa_nil))) (nomark _)) (pw_or (pt_cmpR (op_neD hr.units) (pe_cal C_walk hr (by decide) (by rfl) (pa_cons (pv 1) (pa_cons (pv 3) (pa_cons (pv 4) pa_nil)))) (pe_tup (pa_cons (pv 8) (pa_cons (pv 9) pa_nil))) (nomark _)) (pw_or1 (pt_cmpR (op_neD hr.units) (pv 6) (pe_lst (pa_cons (pv 1) (pa_cons (pv 3) pa_nil))) (nomark _)))))) (pss_one (ps_ret pe_bl)) pss_nil)))))))))))
      (pss_cons (ps_for (passes_of rfl) rfl (pi_range1 (by rfl) B.range_ (pa_cons (pe_callB (call_min2 rfl) (by rfl) B.min_ (by decide +kernel) (pa_cons (pe_callB call_len_seq (by rfl) B.len_ (by decide +kernel) (pa_cons (pv 0) pa_nil)) (pa_cons pe_int pa_nil))) pa_nil)) (pg_name (i := 7) sc_law.nd rfl (Or.inl rfl)) (pss_one (ps_if (pt_not (pt_val (pe_cal C__law_refused_right hr (by decide) (by rfl) (pa_cons (pv 1) (pa_cons (pv 3) (pa_cons (pe_cal C__law_mixed hr (by decide) (by rfl) (pa_cons (pe_ix ix_list (pv 0) (pv 7) (fun _ _ => rfl)) (pa_cons pe_int pa_nil))) pa_nil)))))) (pss_one (ps_ret pe_bl)) pss_nil)))
      (pss_one (ps_ret pe_bl))))))))), ?_⟩
    obtain ⟨hv, hgl, hgne⟩ := lawGame_ok (ns := ns) (most := 40) (by decide) (by decide)
    refine ⟨_, rfl, a, ns, 40, rfl, hS, by decide, by decide, fun H1 vg s1 hg => ?_⟩
    generalize lawGame ns 40 = g at hv hgl hgne hg
    have h40 := hv.1
    have hn0 : 0 < g.length := List.length_pos_iff.mpr hgne
    obtain ⟨ag, xg, rfl, hG, hGl, hGr⟩ := dp_game hg
    -- _law_number
    refine ⟨_, rfl, _, _, rfl, .inl (s1.seq hS), _, rfl, a, rfl, ⟨_, s1.seq hS⟩, fun D nD => lc_pure ((ns.map fun c => c % 1000).map V.int) (by rw [List.length_map, List.length_map, List.length_map]) (s1.seq hS) nD (by rw [List.length_map]; omega) (fun i x y H2 Q' hx hy sm hQ => ?_) (fun H2 s2 hD => ?_)⟩
    · rw [List.getElem?_map] at hx
      obtain ⟨c, hc, rfl⟩ := Option.map_eq_some_iff.mp hx
      rw [List.getElem?_map, List.getElem?_map, hc] at hy
      cases hy
      exact ⟨rfl, _, rfl, _, _, rfl, rfl, (by show (0:Int) < 1000; decide), hQ _ (Same.refl _)⟩
    refine ⟨D, _, rfl, .inl (.inl hD), _, _, rfl, rfl, _, _, rfl, by decide, by decide, ?_⟩
    generalize hnum : mixed (((ns.map V.int).length : Int) + (ns.map fun c => c % 1000).sum) 5 = num
    have s12 := s1.trans s2
    -- steps = []; for place in range(len(game))
    refine ⟨Nat.zero_le _, fun SL nSL => ⟨_, rfl, _, _, rfl, .inl ((s2.trans (same_upd nSL)).seq hG), (xg.length : Int), rfl, by omega, by omega, for_range (lo := 0) (n := ((xg.length : Int)).toNat) (fun i σ H' => ∃ y4 y5 : Option V, σ = [some (.ref a), some (.ref ag), some (.int num), some (.ref SL), y4, y5, none, none, none, none, none, none, none, none, none] ∧
        Same H2 H' ∧ H' SL = some (.lst ((List.range i).map fun k => V.int (stepAt g num k)))) ⟨none, none, rfl, same_upd nSL, upd_same⟩ (fun i σ H' hi hP => ?_) (fun σ H' hP => ?_)⟩⟩
    · obtain ⟨y4, y5, rfl, sm, hSL⟩ := hP
      have hi' : i < g.length := by omega
      obtain ⟨ew, hwne⟩ := ws_valid hv hi'
      have hgi : g[i]? = some g[i] := List.getElem?_eq_getElem hi'
      obtain ⟨t, wy, ht, hT, hW⟩ := hGr i _ hgi
      rw [← ew] at hW hwne
      have hwl : 0 < (wsAt g i).length := List.length_pos_iff.mpr hwne
      have sm2 := s2.trans sm
      obtain ⟨m0, m1⟩ := mod_rg (a := mixed num (50 + (i : Int))) (m := ((wsAt g i).length : Int)) (by omega)
      refine ⟨_, rfl, _, rfl, _, _, _, _, rfl, rfl, sm2.seq hG, atI_int (v := .ref t) (by omega) (by rw [show ((0 : Int) + (i : Int)).toNat = i by omega]; exact ht), _, _, _, _, rfl, rfl, same_sqt sm2 hT, atI_nat (j := 2) rfl, ?_⟩
      refine ⟨_, rfl, .inl ⟨rfl, _, .inl (.inl hSL)⟩, _, rfl, _, rfl, _, rfl, _, _, rfl, rfl, _, _, rfl, by omega, by omega, _, rfl, _, _, rfl, .inl (sm2.seq hW), _, _, rfl, rfl, ?_, wy, _, _, .int (stepAt g num i), rfl, rfl, sm2.seq hW, ?_, SL, _, _, rfl, rfl, hSL, ?_, ?_⟩
      · show (0 : Int) < (((wsAt g i).map V.int).length : Int)
        rw [List.length_map]
        omega
      · rw [List.length_map, show (50 : Int) + (0 + (i : Int)) = 50 + (i : Int) by omega]
        exact atI_ints m0 (by omega)
      · rw [List.length_map, List.length_range]
        exact small1000 (by omega)
      · refine ⟨_, _, rfl, fun b o e => ?_, by rw [upd_same, range_snoc]⟩
        rw [upd_ne (ne_of_none e nSL)]
        exact sm _ _ e
    obtain ⟨y4, y5, rfl, sm3, hSL⟩ := hP
    have hss := stepsOf_ok hv num
    have essL : (List.range ((xg.length : Int)).toNat).map (fun k => V.int (stepAt g num k)) = (stepsOf g num).map V.int := by
      unfold stepsOf
      rw [List.map_map, show ((xg.length : Int)).toNat = g.length by omega]
      rfl
    rw [essL] at hSL
    generalize stepsOf g num = ss at hss hSL
    obtain ⟨ss', es', hsl, hsw⟩ := steps_of hss
    obtain rfl : ss = ss' := ints_inj (PyData.list.inj es')
    have hrg := steps_rg hv hsl hsw
    have hg3 := dp_mono (s2.trans sm3) _ _ hg
    -- handed = [copied(game), list(steps)]
    refine ⟨_, rfl, _, g, rfl, hg3, h40, fun H4 c1 s4 hc1 => ⟨_, rfl, SL, _, rfl, .inl (.inl (.inl (s4 _ _ hSL))), fun c2 n2 => ⟨(by show 2 ≤ sizeLine; decide), fun HD nHD => ?_⟩⟩⟩
    have s5 := s4.trans ((same_upd (o := .lst (ss.map V.int)) n2).trans (same_upd (o := .lst [V.ref c1, .ref c2]) nHD))
    have g5 := (same_upd (o := .lst (ss.map V.int)) n2).trans (same_upd (o := .lst [V.ref c1, .ref c2]) nHD)
    have hc2 : (upd (upd H4 c2 (.lst (ss.map V.int))) HD (.lst [V.ref c1, .ref c2])) c2 = some (.lst (ss.map V.int)) := same_upd nHD _ _ upd_same
    have hHD : (upd (upd H4 c2 (.lst (ss.map V.int))) HD (.lst [V.ref c1, .ref c2])) HD = some (.lst [V.ref c1, .ref c2]) := upd_same
    have hgB := dp_mono s5 _ _ hg3
    have hcB := dp_mono g5 _ _ hc1
    have hsB := s5 _ _ hSL
    have hSB : SqL K _ a (ns.map V.int) := ((s12.trans sm3).trans s5).seq hS
    generalize upd (upd H4 c2 (.lst (ss.map V.int))) HD (.lst [V.ref c1, .ref c2]) = HB at hc2 hHD hgB hcB hsB hSB ⊢
    obtain ⟨ag', xgB, eag, hGB, hGlB, hGrB⟩ := dp_game hgB
    cases eag
    -- for k in range(4)
    refine ⟨4, rfl, by decide, by decide, for_range (lo := 0) (n := (4 : Int).toNat) (fun i σ H' => ∃ y4 y5 y7 y8 y9 y10 y11 y12 : Option V, σ = [some (.ref a), some (.ref ag), some (.int num), some (.ref SL), y4, y5, some (.ref HD), y7, y8, y9, y10, y11, y12, none, none] ∧ Same HB H')
      ⟨_, _, none, none, none, none, none, none, rfl, Same.refl _⟩ (fun i σ H' hi hP => ?_) (fun σ H' hP => ?_)⟩
    · obtain ⟨y4, y5, y7, y8, y9, y10, y11, y12, rfl, sm⟩ := hP
      have hi4 : i < 4 := hi
      obtain ⟨p0, p1⟩ := mod_rg (a := mixed num (6 + (0 + (i : Int)))) (m := (xgB.length : Int)) (by omega)
      refine ⟨_, rfl, _, rfl, _, _, rfl, rfl, _, _, rfl, by omega, by omega, _, rfl, _, _, rfl, .inl (sm.seq hGB), _, _, rfl, rfl, (by show (0:Int) < (xgB.length : Int); omega), ?_⟩
      obtain ⟨pl, hpl⟩ : ∃ pl, pl = mixed num (6 + (0 + (i : Int))) % (xgB.length : Int) := ⟨_, rfl⟩
      rw [← hpl] at p0 p1
      rw [hGlB] at p1
      have gok := walk_ok hsl hrg p0 p1
      -- ahead, ring = _law_ring(steps, place)
      refine ⟨_, rfl, _, rfl, SL, ss, pl, by rw [hpl]; rfl, .inl (.inl (sm _ _ hsB)), by omega, by rw [hsl]; exact hrg, p0, by rw [hsl]; exact p1, fun H6 T r1 r2 s6 nT n1 n2 n12 hT hr1 hr2 => ⟨T, _, rfl, .inl (.inl hT), rfl, _, _, rfl, _, _, rfl, rfl, ?_⟩⟩
      have sm6 := sm.trans s6
      -- top
      refine ⟨_, rfl, r2, rfl, ⟨_, .inl (.inl hr2)⟩, fun D nD => lc_pure (((ringOf ss pl).map (numAt g)).map V.int) (by rw [List.length_map, List.length_map, List.length_map]) (.inl (.inl hr2)) nD ?_ (fun j x y H3 Q' hx hy sm3 hQ => ?_) (fun H7 s7 hD => ?_)⟩
      · rw [List.length_map]
        have := pigeon _ _ gok.nd gok.rg
        unfold ringOf
        rw [List.length_drop]
        omega
      · rw [List.getElem?_map] at hx
        obtain ⟨r, hr1', rfl⟩ := Option.map_eq_some_iff.mp hx
        rw [List.getElem?_map, List.getElem?_map, hr1'] at hy
        cases hy
        obtain ⟨q0, q1⟩ := ring_sub gok r (List.mem_of_getElem? hr1')
        have hgr : g[r.toNat]? = some g[r.toNat] := List.getElem?_eq_getElem (by omega)
        obtain ⟨t, wy, ht, hT', hW⟩ := hGrB r.toNat _ hgr
        rw [numAt_of hgr] at hQ
        exact ⟨rfl, _, rfl, _, rfl, _, _, _, _, rfl, rfl, (sm6.trans sm3).seq hGB, atI_int q0 ht, _, _, _, _, rfl, rfl, same_sqt (sm6.trans sm3) hT', atI_nat (j := 1) rfl, hQ _ (Same.refl _)⟩
      refine ⟨D, _, rfl, .inl (.inl hD), ?_, fun m hm hle => ?_⟩
      · rw [List.length_map]
        exact List.length_pos_iff.mpr (ring_ne gok)
      have em : m = heardOf g ss pl := maxL_eq hm hle
      subst em
      have sm7 := sm6.trans s7
      have hr1b := s7 _ _ hr1
      have hr2b := s7 _ _ hr2
      -- found = walk(handed[0], handed[1], place)
      refine ⟨_, rfl, HD, _, _, .ref c1, rfl, rfl, .inl (.inl (sm7 _ _ hHD)), atI_nat (j := 0) rfl, _, rfl, HD, _, _, .ref c2, rfl, rfl, .inl (.inl (sm7 _ _ hHD)), atI_nat (j := 1) rfl, _, rfl, ?_⟩
      refine spW_use (A := A) (ok := okWalk) (g := g) (ss := ss) (pl := pl) (by rw [hpl]) (dp_mono sm7 _ _ hcB) hv (.lst (.inl (.inl (sm7 _ _ hc2))) (dpa_ints' ss)) hss p0 p1 ?_
      intro H8 W f1 f2 s8 nW nf1 nf2 nf12 hW hf1 hf2
      have sm8 := sm7.trans s8
      -- if not isinstance(found, tuple) or found != (ahead, ring) or not isinstance(found[1], list)
      refine ⟨_, rfl, _, _, _, _, _, rfl, .ty _, sqt_ty (.inl (.inl hW)), kit_ty (r := true) (by decide +kernel), _, rfl, iteF ?_⟩
      refine ⟨_, rfl, _, rfl, _, rfl, (by show 2 ≤ sizeLine; decide), fun t1 nt1 => ⟨.tuple [intsD (aheadOf ss pl), intsD (ringOf ss pl)], .tuple [intsD (aheadOf ss pl), intsD (ringOf ss pl)], ?_, ?_, shaped_two _ _, shaped_two _ _, _, rfl, ?_⟩⟩
      · exact dp_mono (same_upd nt1) _ _ (.tup (.inl (.inl hW)) (.cons (.lst (.inl (.inl hf1)) (dpa_ints' _)) (.cons (.lst (.inl (.inl hf2)) (dpa_ints' _)) .nil)))
      · exact .tup (.inl (.inl upd_same)) (.cons (.lst (.inl (.inl (same_upd nt1 _ _ (s8 _ _ hr1b)))) (dpa_ints' _)) (.cons (.lst (.inl (.inl (same_upd nt1 _ _ (s8 _ _ hr2b)))) (dpa_ints' _)) .nil))
      rw [SeqAt.eqv_refl _ (lay_two _ _)]
      have hWt := same_upd (o := .tup [V.ref r1, .ref r2]) nt1 _ _ hW
      have hf1t := same_upd (o := .tup [V.ref r1, .ref r2]) nt1 _ _ hf1
      have hf2t := same_upd (o := .tup [V.ref r1, .ref r2]) nt1 _ _ hf2
      refine iteF ⟨_, rfl, W, _, _, .ref f2, rfl, rfl, .inl (.inl hWt), atI_nat (j := 1) rfl, _, _, _, _, _, rfl, .ty _, sql_ty (.inl (.inl hf2t)), kit_ty (r := true) (by decide +kernel), _, rfl, iteF ?_⟩
      -- found[0].append(0); found[1].append(0)
      have hal : (aheadOf ss pl).length ≤ 40 := by
        have := pigeon _ _ gok.nd gok.rg
        unfold aheadOf
        rw [List.length_take]
        omega
      have hrl : (ringOf ss pl).length ≤ 40 := by
        have := pigeon _ _ gok.nd gok.rg
        unfold ringOf
        rw [List.length_drop]
        omega
      have nWf1 : W ≠ f1 := fun e => by
        rw [e, hf1] at hW
        cases hW
      refine ⟨_, rfl, W, _, _, .ref f1, rfl, rfl, .inl (.inl hWt), atI_nat (j := 0) rfl, .inl ⟨rfl, _, .inl (.inl hf1t)⟩, f1, _, _, rfl, rfl, hf1t, (by rw [List.length_map]; exact small1000 (by omega)), ?_⟩
      refine ⟨_, rfl, W, _, _, .ref f2, rfl, rfl, .inl (.inl (by rw [upd_ne nWf1]; exact hWt)), atI_nat (j := 1) rfl, .inl ⟨rfl, _, .inl (.inl (by rw [upd_ne nf12.symm]; exact hf2t))⟩, f2, _, _, rfl, rfl, (by rw [upd_ne nf12.symm]; exact hf2t), (by rw [List.length_map]; exact small1000 (by omega)), ?_⟩
      have s10 : Same H7 (upd (upd (upd H8 t1 (.tup [.ref r1, .ref r2])) f1 (.lst ((aheadOf ss pl).map V.int ++ [.int 0]))) f2 (.lst ((ringOf ss pl).map V.int ++ [.int 0]))) := fun b o e => by
        rw [upd_ne (ne_of_none e nf2), upd_ne (ne_of_none e nf1)]
        exact same_upd nt1 _ _ (s8 _ _ e)
      have sm10 := sm7.trans s10
      -- told
      refine ⟨_, rfl, HD, _, _, .ref c1, rfl, rfl, .inl (.inl (sm10 _ _ hHD)), atI_nat (j := 0) rfl, _, rfl, HD, _, _, .ref c2, rfl, rfl, .inl (.inl (sm10 _ _ hHD)), atI_nat (j := 1) rfl, _, rfl, ?_⟩
      refine spW_use (A := A) (ok := okHeard) (g := g) (ss := ss) (pl := pl) (by rw [hpl]) (dp_mono sm10 _ _ hcB) hv (.lst (.inl (.inl (sm10 _ _ hc2))) (dpa_ints' ss)) hss p0 p1 ?_
      intro H11 s11
      have sm11 := sm10.trans s11
      refine ⟨_, rfl, HD, _, _, .ref c1, rfl, rfl, .inl (.inl (sm11 _ _ hHD)), atI_nat (j := 0) rfl, _, rfl, HD, _, _, .ref c2, rfl, rfl, .inl (.inl (sm11 _ _ hHD)), atI_nat (j := 1) rfl, _, rfl, ?_⟩
      refine spW_use (A := A) (ok := okWinner) (g := g) (ss := ss) (pl := pl) (by rw [hpl]) (dp_mono sm11 _ _ hcB) hv (.lst (.inl (.inl (sm11 _ _ hc2))) (dpa_ints' ss)) hss p0 p1 ?_
      intro H12 s12'
      have sm12 := sm11.trans s12'
      refine ⟨(by show 2 ≤ sizeLine; decide), fun tl ntl => ?_⟩
      have sm13 := sm12.trans (same_upd (o := .lst [V.int (heardOf g ss pl), .int (heardOf g ss pl % 2)]) ntl)
      have u13 := s10.trans (s11.trans (s12'.trans (same_upd (o := .lst [V.int (heardOf g ss pl), .int (heardOf g ss pl % 2)]) ntl)))
      -- if told != [top, top % 2] or walk(game, steps, place) != (ahead, ring) or handed != [game, steps]
      refine ⟨_, rfl, _, rfl, _, rfl, _, _, rfl, rfl, (by show (0:Int) < 2; decide), (by show 2 ≤ sizeLine; decide), fun t2 nt2 => ⟨intsD [heardOf g ss pl, heardOf g ss pl % 2], intsD [heardOf g ss pl, heardOf g ss pl % 2], ?_, ?_, shaped_ints _, shaped_ints _, _, rfl, ?_⟩⟩
      · exact .lst (.inl (.inl (same_upd nt2 _ _ upd_same))) (dpa_ints' [_, _])
      · exact .lst (.inl (.inl upd_same)) (dpa_ints' [_, _])
      rw [SeqAt.eqv_refl (intsD [heardOf g ss pl, heardOf g ss pl % 2]) (lay_ints [_, _])]
      have sm14 := sm13.trans (same_upd (o := .lst [V.int (heardOf g ss pl), .int (heardOf g ss pl % 2)]) nt2)
      have u14 := u13.trans (same_upd (o := .lst [V.int (heardOf g ss pl), .int (heardOf g ss pl % 2)]) nt2)
      refine iteF ⟨_, rfl, _, rfl, _, rfl, ?_⟩
      refine spW_use (A := A) (ok := okWalk) (g := g) (ss := ss) (pl := pl) (by rw [hpl]) (dp_mono sm14 _ _ hgB) hv (.lst (.inl (.inl (sm14 _ _ hsB))) (dpa_ints' ss)) hss p0 p1 ?_
      intro H15 W2 k1 k2 s15 nW2 nk1 nk2 nk12 hW2 hk1 hk2
      have sm15 := sm14.trans s15
      have u15 := u14.trans s15
      refine ⟨_, rfl, _, rfl, (by show 2 ≤ sizeLine; decide), fun t3 nt3 => ⟨.tuple [intsD (aheadOf ss pl), intsD (ringOf ss pl)], .tuple [intsD (aheadOf ss pl), intsD (ringOf ss pl)], ?_, ?_, shaped_two _ _, shaped_two _ _, _, rfl, ?_⟩⟩
      · exact dp_mono (same_upd nt3) _ _ (.tup (.inl (.inl hW2)) (.cons (.lst (.inl (.inl hk1)) (dpa_ints' _)) (.cons (.lst (.inl (.inl hk2)) (dpa_ints' _)) .nil)))
      · exact .tup (.inl (.inl upd_same)) (.cons (.lst (.inl (.inl (same_upd nt3 _ _ (u15 _ _ hr1b)))) (dpa_ints' _)) (.cons (.lst (.inl (.inl (same_upd nt3 _ _ (u15 _ _ hr2b)))) (dpa_ints' _)) .nil))
      rw [SeqAt.eqv_refl _ (lay_two _ _)]
      have sm16 := sm15.trans (same_upd (o := .tup [V.ref r1, .ref r2]) nt3)
      refine iteF ⟨_, rfl, _, rfl, _, rfl, (by show 2 ≤ sizeLine; decide), fun t4 nt4 => ⟨.list [gameD g, intsD ss], .list [gameD g, intsD ss], ?_, ?_, shaped_handed _ _, shaped_handed _ _, _, rfl, ?_⟩⟩
      · have sm17 := sm16.trans (same_upd (o := .lst [V.ref ag, .ref SL]) nt4)
        exact .lst (.inl (.inl (sm17 _ _ hHD))) (.cons (dp_mono sm17 _ _ hcB) (.cons (.lst (.inl (.inl (sm17 _ _ hc2))) (dpa_ints' _)) .nil))
      · have sm17 := sm16.trans (same_upd (o := .lst [V.ref ag, .ref SL]) nt4)
        exact .lst (.inl (.inl upd_same)) (.cons (dp_mono sm17 _ _ hgB) (.cons (.lst (.inl (.inl (sm17 _ _ hsB))) (dpa_ints' _)) .nil))
      rw [SeqAt.eqv_refl _ (lay_handed _ _)]
      exact iteF ⟨_, _, _, _, _, _, _, _, rfl, sm16.trans (same_upd (o := .lst [V.ref ag, .ref SL]) nt4)⟩
    · obtain ⟨y4, y5, y7, y8, y9, y10, y11, y12, rfl, sm⟩ := hP
      -- for k in range(min(len(script), 8))
      obtain ⟨mn, hmn⟩ : ∃ mn : Int, mn = if (8 : Int) < ((ns.map V.int).length : Int) then 8 else ((ns.map V.int).length : Int) := ⟨_, rfl⟩
      have hm0 : 0 ≤ mn ∧ mn ≤ 8 ∧ mn ≤ (ns.length : Int) := by
        rw [hmn, List.length_map]
        split <;> omega
      refine ⟨_, rfl, _, _, rfl, .inl (sm.seq hSB), _, _, rfl, mn, by rw [hmn], by omega, by omega, for_range (lo := 0) (n := mn.toNat) (fun i σ H' => ∃ y7 : Option V, σ = [some (.ref a), some (.ref ag), some (.int num), some (.ref SL), y4, y5, some (.ref HD), y7, y8, y9, y10, y11, y12, none, none] ∧ Same HB H') ⟨y7, rfl, sm⟩ (fun i σ H' hi hP => ?_) (fun σ H' hP => ?_)⟩
      · obtain ⟨y7, rfl, sm⟩ := hP
        have hi' : i < ns.length := by omega
        have hx : (ns.map V.int)[i]? = some (.int ns[i]) := by rw [List.getElem?_map, List.getElem?_eq_getElem hi']; rfl
        refine ⟨_, rfl, _, rfl, _, rfl, _, rfl, _, _, _, .int ns[i], rfl, rfl, sm.seq hSB, atI_int (by omega) (by rw [show ((0 : Int) + (i : Int)).toNat = i by omega]; exact hx), _, _, rfl, by decide, by decide, ?_⟩
        exact ⟨.ref ag, g, SL, ss, _, rfl, dp_mono sm _ _ hgB, hv, hgne, sm _ _ hsB, hss, fun H' s' => ⟨_, rfl, iteF ⟨_, rfl, sm.trans s'⟩⟩⟩
      · exact q _
end
end G

namespace G
open PySem PySem.Spec PyProof.Rows L2
abbrev P0 : Program := PySem.Challenge.pw_gongpath_k02_walks_and_rings
theorem along_of {K : PySem.W.Frag} {C : Addr} {bm : List Value} {v : Value} {nm q : Str} {N : Addr} {bs : List Value} {sn : List Str} {sub : List Value} {ab : Bool} {col : Option Bool} {dd : Option Addr} {k0 k1 k2 k3 k5 : Option Value} {nw : String} (h : K.lookup C = some (excClassObj nm q C N bs bm true sn sub ab col dd k0 k1 k2 k3 k5 nw)) (e : PySem.W.findIn K (.ref C) "__init__" = some (some v)) : PySem.W.alongIn K "__init__" (.ref C :: bm) = some (some v) := by
  unfold PySem.W.findIn at e
  dsimp only at e
  rw [h] at e
  exact e
set_option maxHeartbeats 8000000 in
theorem all_mk {w : World} {K : PySem.W.Frag} {h : Heap} {mg : Str → Option Value} {fa aBadGame aBadSteps aBadPlace aBadPlayer aTooMany aGongError : Addr} (X : K.In h) (Gn : h.Ns mainGlobals mg) (hfa : mg "law" = some (.ref fa))
    {f0 : Addr} {od0 an0 : Option Addr} {sl0 : Array (Option Value)} {oc0 kV0 dc0 pm0 cd0 ct0 : Value}
    {f1 : Addr} {od1 an1 : Option Addr} {sl1 : Array (Option Value)} {oc1 kV1 dc1 pm1 cd1 ct1 : Value}
    {f2 : Addr} {od2 an2 : Option Addr} {sl2 : Array (Option Value)} {oc2 kV2 dc2 pm2 cd2 ct2 : Value}
    {f3 : Addr} {od3 an3 : Option Addr} {sl3 : Array (Option Value)} {oc3 kV3 dc3 pm3 cd3 ct3 : Value}
    {f4 : Addr} {od4 an4 : Option Addr} {sl4 : Array (Option Value)} {oc4 kV4 dc4 pm4 cd4 ct4 : Value}
    {f5 : Addr} {od5 an5 : Option Addr} {sl5 : Array (Option Value)} {oc5 kV5 dc5 pm5 cd5 ct5 : Value}
    {f6 : Addr} {od6 an6 : Option Addr} {sl6 : Array (Option Value)} {oc6 kV6 dc6 pm6 cd6 ct6 : Value}
    {f7 : Addr} {od7 an7 : Option Addr} {sl7 : Array (Option Value)} {oc7 kV7 dc7 pm7 cd7 ct7 : Value}
    {f8 : Addr} {od8 an8 : Option Addr} {sl8 : Array (Option Value)} {oc8 kV8 dc8 pm8 cd8 ct8 : Value}
    {f9 : Addr} {od9 an9 : Option Addr} {sl9 : Array (Option Value)} {oc9 kV9 dc9 pm9 cd9 ct9 : Value}
    {f10 : Addr} {od10 an10 : Option Addr} {sl10 : Array (Option Value)} {oc10 kV10 dc10 pm10 cd10 ct10 : Value}
    {f11 : Addr} {od11 an11 : Option Addr} {sl11 : Array (Option Value)} {oc11 kV11 dc11 pm11 cd11 ct11 : Value}
    {f12 : Addr} {od12 an12 : Option Addr} {sl12 : Array (Option Value)} {oc12 kV12 dc12 pm12 cd12 ct12 : Value}
    {f13 : Addr} {od13 an13 : Option Addr} {sl13 : Array (Option Value)} {oc13 kV13 dc13 pm13 cd13 ct13 : Value}
    {f14 : Addr} {od14 an14 : Option Addr} {sl14 : Array (Option Value)} {oc14 kV14 dc14 pm14 cd14 ct14 : Value}
    {f15 : Addr} {od15 an15 : Option Addr} {sl15 : Array (Option Value)} {oc15 kV15 dc15 pm15 cd15 ct15 : Value}
    {f16 : Addr} {od16 an16 : Option Addr} {sl16 : Array (Option Value)} {oc16 kV16 dc16 pm16 cd16 ct16 : Value}
    {f17 : Addr} {od17 an17 : Option Addr} {sl17 : Array (Option Value)} {oc17 kV17 dc17 pm17 cd17 ct17 : Value}
    {f18 : Addr} {od18 an18 : Option Addr} {sl18 : Array (Option Value)} {oc18 kV18 dc18 pm18 cd18 ct18 : Value}
    {f19 : Addr} {od19 an19 : Option Addr} {sl19 : Array (Option Value)} {oc19 kV19 dc19 pm19 cd19 ct19 : Value}
    {f20 : Addr} {od20 an20 : Option Addr} {sl20 : Array (Option Value)} {oc20 kV20 dc20 pm20 cd20 ct20 : Value}
    {f21 : Addr} {od21 an21 : Option Addr} {sl21 : Array (Option Value)} {oc21 kV21 dc21 pm21 cd21 ct21 : Value}
    {f22 : Addr} {od22 an22 : Option Addr} {sl22 : Array (Option Value)} {oc22 kV22 dc22 pm22 cd22 ct22 : Value}
    {tk0 : Tok}
    {nmG qG : Str} {NG : Addr} {bsG : List Value} {snG : List Str} {subG : List Value} {abG : Bool} {colG : Option Bool} {ddG : Option Addr} {mG0 mG1 mG2 mG3 mG5 : Option Value} {newG : String}
    {nmBG qBG : Str} {NBG : Addr} {bsBG : List Value} {snBG : List Str} {subBG : List Value} {abBG : Bool} {colBG : Option Bool} {ddBG : Option Addr} {mBG0 mBG1 mBG2 mBG3 mBG5 : Option Value}
    {fBG cdaBG ccBG : Addr} {ocBG dcBG pmBG ctBG cclBG clBG : Value} {odBG anBG cddBG cldBG : Option Addr} {slBG ccsBG cslBG : Array (Option Value)} {vsBG : Array Value} {fileBG : Str} {tfBG : Tok}
    {nmBS qBS : Str} {NBS : Addr} {bsBS : List Value} {snBS : List Str} {subBS : List Value} {abBS : Bool} {colBS : Option Bool} {ddBS : Option Addr} {mBS0 mBS1 mBS2 mBS3 mBS5 : Option Value}
    {fBS cdaBS ccBS : Addr} {ocBS dcBS pmBS ctBS cclBS clBS : Value} {odBS anBS cddBS cldBS : Option Addr} {slBS ccsBS cslBS : Array (Option Value)} {vsBS : Array Value} {fileBS : Str} {tfBS : Tok}
    (a0 : PySem.W.nsIn K mainGlobals "is_number" = some (some (.ref f0)))
    (l0 : K.lookup f0 = some ⟨oc0, od0, .func (PySem.W.fnOf "is_number" "is_number" (defArgs s_is_number) (defBody s_is_number) (defScope s_is_number) .none kV0 dc0 pm0 an0 cd0 ct0), sl0⟩)
    (c0 : PySem.W.codeIn K cd0 "is_number" = true)
    (k0 : PySem.W.keepIn K (.ref f0) = true)
    (a1 : PySem.W.nsIn K mainGlobals "is_player" = some (some (.ref f1)))
    (l1 : K.lookup f1 = some ⟨oc1, od1, .func (PySem.W.fnOf "is_player" "is_player" (defArgs s_is_player) (defBody s_is_player) (defScope s_is_player) .none kV1 dc1 pm1 an1 cd1 ct1), sl1⟩)
    (c1 : PySem.W.codeIn K cd1 "is_player" = true)
    (k1 : PySem.W.keepIn K (.ref f1) = true)
    (a2 : PySem.W.nsIn K mainGlobals "is_place" = some (some (.ref f2)))
    (l2 : K.lookup f2 = some ⟨oc2, od2, .func (PySem.W.fnOf "is_place" "is_place" (defArgs s_is_place) (defBody s_is_place) (defScope s_is_place) .none kV2 dc2 pm2 an2 cd2 ct2), sl2⟩)
    (c2 : PySem.W.codeIn K cd2 "is_place" = true)
    (k2 : PySem.W.keepIn K (.ref f2) = true)
    (a3 : PySem.W.nsIn K mainGlobals "is_places" = some (some (.ref f3)))
    (l3 : K.lookup f3 = some ⟨oc3, od3, .func (PySem.W.fnOf "is_places" "is_places" (defArgs s_is_places) (defBody s_is_places) (defScope s_is_places) .none kV3 dc3 pm3 an3 cd3 ct3), sl3⟩)
    (c3 : PySem.W.codeIn K cd3 "is_places" = true)
    (k3 : PySem.W.keepIn K (.ref f3) = true)
    (a4 : PySem.W.nsIn K mainGlobals "is_ways" = some (some (.ref f4)))
    (l4 : K.lookup f4 = some ⟨oc4, od4, .func (PySem.W.fnOf "is_ways" "is_ways" (defArgs s_is_ways) (defBody s_is_ways) (defScope s_is_ways) .none kV4 dc4 pm4 an4 cd4 ct4), sl4⟩)
    (c4 : PySem.W.codeIn K cd4 "is_ways" = true)
    (k4 : PySem.W.keepIn K (.ref f4) = true)
    (a5 : PySem.W.nsIn K mainGlobals "is_row" = some (some (.ref f5)))
    (l5 : K.lookup f5 = some ⟨oc5, od5, .func (PySem.W.fnOf "is_row" "is_row" (defArgs s_is_row) (defBody s_is_row) (defScope s_is_row) .none kV5 dc5 pm5 an5 cd5 ct5), sl5⟩)
    (c5 : PySem.W.codeIn K cd5 "is_row" = true)
    (k5 : PySem.W.keepIn K (.ref f5) = true)
    (a6 : PySem.W.nsIn K mainGlobals "is_step" = some (some (.ref f6)))
    (l6 : K.lookup f6 = some ⟨oc6, od6, .func (PySem.W.fnOf "is_step" "is_step" (defArgs s_is_step) (defBody s_is_step) (defScope s_is_step) .none kV6 dc6 pm6 an6 cd6 ct6), sl6⟩)
    (c6 : PySem.W.codeIn K cd6 "is_step" = true)
    (k6 : PySem.W.keepIn K (.ref f6) = true)
    (a7 : PySem.W.nsIn K mainGlobals "check_game" = some (some (.ref f7)))
    (l7 : K.lookup f7 = some ⟨oc7, od7, .func (PySem.W.fnOf "check_game" "check_game" (defArgs s_check_game) (defBody s_check_game) (defScope s_check_game) .none kV7 dc7 pm7 an7 cd7 ct7), sl7⟩)
    (c7 : PySem.W.codeIn K cd7 "check_game" = true)
    (k7 : PySem.W.keepIn K (.ref f7) = true)
    (a8 : PySem.W.nsIn K mainGlobals "check_place" = some (some (.ref f8)))
    (l8 : K.lookup f8 = some ⟨oc8, od8, .func (PySem.W.fnOf "check_place" "check_place" (defArgs s_check_place) (defBody s_check_place) (defScope s_check_place) .none kV8 dc8 pm8 an8 cd8 ct8), sl8⟩)
    (c8 : PySem.W.codeIn K cd8 "check_place" = true)
    (k8 : PySem.W.keepIn K (.ref f8) = true)
    (a9 : PySem.W.nsIn K mainGlobals "check_many_steps" = some (some (.ref f9)))
    (l9 : K.lookup f9 = some ⟨oc9, od9, .func (PySem.W.fnOf "check_many_steps" "check_many_steps" (defArgs s_check_many_steps) (defBody s_check_many_steps) (defScope s_check_many_steps) .none kV9 dc9 pm9 an9 cd9 ct9), sl9⟩)
    (c9 : PySem.W.codeIn K cd9 "check_many_steps" = true)
    (k9 : PySem.W.keepIn K (.ref f9) = true)
    (a10 : PySem.W.nsIn K mainGlobals "check_steps" = some (some (.ref f10)))
    (l10 : K.lookup f10 = some ⟨oc10, od10, .func (PySem.W.fnOf "check_steps" "check_steps" (defArgs s_check_steps) (defBody s_check_steps) (defScope s_check_steps) .none kV10 dc10 pm10 an10 cd10 ct10), sl10⟩)
    (c10 : PySem.W.codeIn K cd10 "check_steps" = true)
    (k10 : PySem.W.keepIn K (.ref f10) = true)
    (a11 : PySem.W.nsIn K mainGlobals "walk" = some (some (.ref f11)))
    (l11 : K.lookup f11 = some ⟨oc11, od11, .func (PySem.W.fnOf "walk" "walk" (defArgs s_walk) (defBody s_walk) (defScope s_walk) .none kV11 dc11 pm11 an11 cd11 ct11), sl11⟩)
    (c11 : PySem.W.codeIn K cd11 "walk" = true)
    (k11 : PySem.W.keepIn K (.ref f11) = true)
    (a12 : PySem.W.nsIn K mainGlobals "heard" = some (some (.ref f12)))
    (l12 : K.lookup f12 = some ⟨oc12, od12, .func (PySem.W.fnOf "heard" "heard" (defArgs s_heard) (defBody s_heard) (defScope s_heard) .none kV12 dc12 pm12 an12 cd12 ct12), sl12⟩)
    (c12 : PySem.W.codeIn K cd12 "heard" = true)
    (k12 : PySem.W.keepIn K (.ref f12) = true)
    (a13 : PySem.W.nsIn K mainGlobals "winner" = some (some (.ref f13)))
    (l13 : K.lookup f13 = some ⟨oc13, od13, .func (PySem.W.fnOf "winner" "winner" (defArgs s_winner) (defBody s_winner) (defScope s_winner) .none kV13 dc13 pm13 an13 cd13 ct13), sl13⟩)
    (c13 : PySem.W.codeIn K cd13 "winner" = true)
    (k13 : PySem.W.keepIn K (.ref f13) = true)
    (a14 : PySem.W.nsIn K mainGlobals "_law_mixed" = some (some (.ref f14)))
    (l14 : K.lookup f14 = some ⟨oc14, od14, .func (PySem.W.fnOf "_law_mixed" "_law_mixed" (defArgs s__law_mixed) (defBody s__law_mixed) (defScope s__law_mixed) .none kV14 dc14 pm14 an14 cd14 ct14), sl14⟩)
    (c14 : PySem.W.codeIn K cd14 "_law_mixed" = true)
    (k14 : PySem.W.keepIn K (.ref f14) = true)
    (a15 : PySem.W.nsIn K mainGlobals "_law_game" = some (some (.ref f15)))
    (l15 : K.lookup f15 = some ⟨oc15, od15, .func (PySem.W.fnOf "_law_game" "_law_game" (defArgs s__law_game) (defBody s__law_game) (defScope s__law_game) .none kV15 dc15 pm15 an15 cd15 ct15), sl15⟩)
    (c15 : PySem.W.codeIn K cd15 "_law_game" = true)
    (k15 : PySem.W.keepIn K (.ref f15) = true)
    (a16 : PySem.W.nsIn K mainGlobals "_law_copied" = some (some (.ref f16)))
    (l16 : K.lookup f16 = some ⟨oc16, od16, .func (PySem.W.fnOf "_law_copied" "_law_copied" (defArgs s__law_copied) (defBody s__law_copied) (defScope s__law_copied) .none kV16 dc16 pm16 an16 cd16 ct16), sl16⟩)
    (c16 : PySem.W.codeIn K cd16 "_law_copied" = true)
    (k16 : PySem.W.keepIn K (.ref f16) = true)
    (a17 : PySem.W.nsIn K mainGlobals "_law_word" = some (some (.ref f17)))
    (l17 : K.lookup f17 = some ⟨oc17, od17, .func (PySem.W.fnOf "_law_word" "_law_word" (defArgs s__law_word) (defBody s__law_word) (defScope s__law_word) .none kV17 dc17 pm17 an17 cd17 ct17), sl17⟩)
    (c17 : PySem.W.codeIn K cd17 "_law_word" = true)
    (k17 : PySem.W.keepIn K (.ref f17) = true)
    (a18 : PySem.W.nsIn K mainGlobals "_law_ring" = some (some (.ref f18)))
    (l18 : K.lookup f18 = some ⟨oc18, od18, .func (PySem.W.fnOf "_law_ring" "_law_ring" (defArgs s__law_ring) (defBody s__law_ring) (defScope s__law_ring) .none kV18 dc18 pm18 an18 cd18 ct18), sl18⟩)
    (c18 : PySem.W.codeIn K cd18 "_law_ring" = true)
    (k18 : PySem.W.keepIn K (.ref f18) = true)
    (a19 : PySem.W.nsIn K mainGlobals "_law_refused" = some (some (.ref f19)))
    (l19 : K.lookup f19 = some ⟨oc19, od19, .func (PySem.W.fnOf "_law_refused" "_law_refused" (defArgs s__law_refused) (defBody s__law_refused) (defScope s__law_refused) .none kV19 dc19 pm19 an19 cd19 ct19), sl19⟩)
    (c19 : PySem.W.codeIn K cd19 "_law_refused" = true)
    (k19 : PySem.W.keepIn K (.ref f19) = true)
    (a20 : PySem.W.nsIn K mainGlobals "_law_wrong" = some (some (.ref f20)))
    (l20 : K.lookup f20 = some ⟨oc20, od20, .func (PySem.W.fnOf "_law_wrong" "_law_wrong" (defArgs s__law_wrong) (defBody s__law_wrong) (defScope s__law_wrong) .none kV20 dc20 pm20 an20 cd20 ct20), sl20⟩)
    (c20 : PySem.W.codeIn K cd20 "_law_wrong" = true)
    (k20 : PySem.W.keepIn K (.ref f20) = true)
    (a21 : PySem.W.nsIn K mainGlobals "_law_refused_right" = some (some (.ref f21)))
    (l21 : K.lookup f21 = some ⟨oc21, od21, .func (PySem.W.fnOf "_law_refused_right" "_law_refused_right" (defArgs s__law_refused_right) (defBody s__law_refused_right) (defScope s__law_refused_right) .none kV21 dc21 pm21 an21 cd21 ct21), sl21⟩)
    (c21 : PySem.W.codeIn K cd21 "_law_refused_right" = true)
    (k21 : PySem.W.keepIn K (.ref f21) = true)
    (a22 : PySem.W.nsIn K mainGlobals "law" = some (some (.ref f22)))
    (l22 : K.lookup f22 = some ⟨oc22, od22, .func (PySem.W.fnOf "law" "law" (defArgs s_law) (defBody s_law) (defScope s_law) .none kV22 dc22 pm22 an22 cd22 ct22), sl22⟩)
    (c22 : PySem.W.codeIn K cd22 "law" = true)
    (k22 : PySem.W.keepIn K (.ref f22) = true)
    (z_len : PySem.W.nsIn K mainGlobals "len" = some none)
    (z_isinstance : PySem.W.nsIn K mainGlobals "isinstance" = some none)
    (z_int : PySem.W.nsIn K mainGlobals "int" = some none)
    (z_bool : PySem.W.nsIn K mainGlobals "bool" = some none)
    (z_list : PySem.W.nsIn K mainGlobals "list" = some none)
    (z_tuple : PySem.W.nsIn K mainGlobals "tuple" = some none)
    (z_set : PySem.W.nsIn K mainGlobals "set" = some none)
    (z_all : PySem.W.nsIn K mainGlobals "all" = some none)
    (z_max : PySem.W.nsIn K mainGlobals "max" = some none)
    (z_min : PySem.W.nsIn K mainGlobals "min" = some none)
    (z_sum : PySem.W.nsIn K mainGlobals "sum" = some none)
    (z_range : PySem.W.nsIn K mainGlobals "range" = some none)
    (z_enumerate : PySem.W.nsIn K mainGlobals "enumerate" = some none)
    (z_ValueError : PySem.W.nsIn K mainGlobals "ValueError" = some none)
    (z_super : PySem.W.nsIn K mainGlobals "super" = some none)
    (z_sorted : PySem.W.nsIn K mainGlobals "sorted" = some none)
    (z_any : PySem.W.nsIn K mainGlobals "any" = some none)
    (z_reversed : PySem.W.nsIn K mainGlobals "reversed" = some none)
    (most0 : PySem.W.nsIn K mainGlobals "MOST_PLACES" = some (some (.int 40 tk0)))
    (g_BadGame : PySem.W.nsIn K mainGlobals "BadGame" = some (some (.ref aBadGame)))
    (g_BadSteps : PySem.W.nsIn K mainGlobals "BadSteps" = some (some (.ref aBadSteps)))
    (g_BadPlace : PySem.W.nsIn K mainGlobals "BadPlace" = some (some (.ref aBadPlace)))
    (g_BadPlayer : PySem.W.nsIn K mainGlobals "BadPlayer" = some (some (.ref aBadPlayer)))
    (g_TooMany : PySem.W.nsIn K mainGlobals "TooMany" = some (some (.ref aTooMany)))
    (g_GongError : PySem.W.nsIn K mainGlobals "GongError" = some (some (.ref aGongError)))
    (xG : K.lookup aGongError = some (excClassObj nmG qG aGongError NG bsG [.type "ValueError", .type "Exception", .type "BaseException", .type "object"] true snG subG abG colG ddG mG0 mG1 mG2 mG3 mG5 newG))
    (iG : PySem.W.findIn K (.ref aGongError) "__init__" = some (some (.builtin "ValueError.__init__")))
    (opq : PySem.W.nsIn K cStatics "thirdparty.any" = some none)
    (xBG : K.lookup aBadGame = some (excClassObj nmBG qBG aBadGame NBG bsBG (.ref aGongError :: [.type "ValueError", .type "Exception", .type "BaseException", .type "object"]) true snBG subBG abBG colBG ddBG mBG0 mBG1 mBG2 mBG3 mBG5 "ValueError.__new__"))
    (saBG : PySem.W.findIn K (.ref aBadGame) "__setattr__" = some (some (.builtin "object.__setattr__")))
    (noBG : PySem.W.findIn K (.ref aBadGame) "at" = some none)
    (iiBG : PySem.W.findIn K (.ref aBadGame) "__init__" = some (some (.ref fBG)))
    (tiBG : PySem.W.typeIn K (.ref fBG) = some (.type "function"))
    (liBG : K.lookup fBG = some ⟨ocBG, odBG, .func (PySem.W.ksFn "__init__" "BadGame.__init__" (PySem.BadX.iA ⟨6, 17, 6, 21⟩ ⟨6, 23, 6, 25⟩) (PySem.BadX.iB "no game (at: " ")" ⟨⟨7, 8, 7, 13⟩, ⟨7, 8, 7, 15⟩, ⟨7, 8, 7, 24⟩, ⟨7, 27, 7, 40⟩, ⟨7, 41, 7, 43⟩, ⟨7, 40, 7, 44⟩, ⟨7, 44, 7, 45⟩, ⟨7, 25, 7, 46⟩, ⟨7, 8, 7, 47⟩, ⟨7, 8, 7, 47⟩, ⟨8, 8, 8, 12⟩, ⟨8, 8, 8, 15⟩, ⟨8, 18, 8, 20⟩, ⟨8, 8, 8, 20⟩⟩) PySem.BadX.iS .none .none dcBG pmBG anBG (.ref cdaBG) ctBG ccBG), slBG⟩)
    (ciBG : PySem.W.codeIn K (.ref cdaBG) "BadGame.__init__" = true)
    (diBG : K.lookup cdaBG = some ⟨cclBG, cddBG, .fields vsBG, ccsBG⟩)
    (viBG : vsBG[2]? = some (.str fileBG tfBG))
    (fiBG : ((P0.main.file : Str) == fileBG) = true)
    (ceBG : K.lookup ccBG = some ⟨clBG, cldBG, .cell (some (.ref aBadGame)), cslBG⟩)
    (veBG : PySem.W.subIn K (.ref aBadGame) (.type "ValueError") = some true)
    (moBG : PySem.W.mroIn K aBadGame (.ref aBadGame) = some true)
    (xBS : K.lookup aBadSteps = some (excClassObj nmBS qBS aBadSteps NBS bsBS (.ref aGongError :: [.type "ValueError", .type "Exception", .type "BaseException", .type "object"]) true snBS subBS abBS colBS ddBS mBS0 mBS1 mBS2 mBS3 mBS5 "ValueError.__new__"))
    (saBS : PySem.W.findIn K (.ref aBadSteps) "__setattr__" = some (some (.builtin "object.__setattr__")))
    (noBS : PySem.W.findIn K (.ref aBadSteps) "at" = some none)
    (iiBS : PySem.W.findIn K (.ref aBadSteps) "__init__" = some (some (.ref fBS)))
    (tiBS : PySem.W.typeIn K (.ref fBS) = some (.type "function"))
    (liBS : K.lookup fBS = some ⟨ocBS, odBS, .func (PySem.W.ksFn "__init__" "BadSteps.__init__" (PySem.BadX.iA ⟨11, 17, 11, 21⟩ ⟨11, 23, 11, 25⟩) (PySem.BadX.iB "no steps for this game (at: " ")" ⟨⟨12, 8, 12, 13⟩, ⟨12, 8, 12, 15⟩, ⟨12, 8, 12, 24⟩, ⟨12, 27, 12, 55⟩, ⟨12, 56, 12, 58⟩, ⟨12, 55, 12, 59⟩, ⟨12, 59, 12, 60⟩, ⟨12, 25, 12, 61⟩, ⟨12, 8, 12, 62⟩, ⟨12, 8, 12, 62⟩, ⟨13, 8, 13, 12⟩, ⟨13, 8, 13, 15⟩, ⟨13, 18, 13, 20⟩, ⟨13, 8, 13, 20⟩⟩) PySem.BadX.iS .none .none dcBS pmBS anBS (.ref cdaBS) ctBS ccBS), slBS⟩)
    (ciBS : PySem.W.codeIn K (.ref cdaBS) "BadSteps.__init__" = true)
    (diBS : K.lookup cdaBS = some ⟨cclBS, cddBS, .fields vsBS, ccsBS⟩)
    (viBS : vsBS[2]? = some (.str fileBS tfBS))
    (fiBS : ((P0.main.file : Str) == fileBS) = true)
    (ceBS : K.lookup ccBS = some ⟨clBS, cldBS, .cell (some (.ref aBadSteps)), cslBS⟩)
    (veBS : PySem.W.subIn K (.ref aBadSteps) (.type "ValueError") = some true)
    (moBS : PySem.W.mroIn K aBadSteps (.ref aBadSteps) = some true)
    (kcBG : PySem.W.keepIn K (.ref aBadGame) = true)
    (exBG : PySem.W.subIn K (.ref aBadGame) (.type "BaseException") = some true)
    (tyBG : PySem.W.typeIn K (.ref aBadGame) = some (.type "type"))
    (kcBS : PySem.W.keepIn K (.ref aBadSteps) = true)
    (exBS : PySem.W.subIn K (.ref aBadSteps) (.type "BaseException") = some true)
    (tyBS : PySem.W.typeIn K (.ref aBadSteps) = some (.type "type"))
    (kcBP : PySem.W.keepIn K (.ref aBadPlace) = true)
    (exBP : PySem.W.subIn K (.ref aBadPlace) (.type "BaseException") = some true)
    (tyBP : PySem.W.typeIn K (.ref aBadPlace) = some (.type "type"))
    (kcBY : PySem.W.keepIn K (.ref aBadPlayer) = true)
    (exBY : PySem.W.subIn K (.ref aBadPlayer) (.type "BaseException") = some true)
    (tyBY : PySem.W.typeIn K (.ref aBadPlayer) = some (.type "type"))
    (kcTM : PySem.W.keepIn K (.ref aTooMany) = true)
    (exTM : PySem.W.subIn K (.ref aTooMany) (.type "BaseException") = some true)
    (tyTM : PySem.W.typeIn K (.ref aTooMany) = some (.type "type"))
    (xcBP : PySem.W.excIn K aBadPlace [.type "ValueError", .type "Exception", .type "BaseException", .type "object"] "ValueError.__new__" = true)
    (xcBY : PySem.W.excIn K aBadPlayer [.type "ValueError", .type "Exception", .type "BaseException", .type "object"] "ValueError.__new__" = true)
    (xcTM : PySem.W.excIn K aTooMany [.type "ValueError", .type "Exception", .type "BaseException", .type "object"] "ValueError.__new__" = true)
    (gaBG : PySem.W.findIn K (.ref aBadGame) "__getattribute__" = some (some (.builtin "BaseException.__getattribute__")))
    (ggBG : PySem.W.findIn K (.ref aBadGame) "__getattr__" = some none)
    (hdBG : PySem.W.hasDictIn K aBadGame = true)
    (haBG : PySem.W.findIn K (.ref aBadGame) "__class__" = some (some (.builtin "object.__class__")))
    (obBG : PySem.W.mroIn K aBadGame (.type "object") = some true)
    (koBG0 : PySem.W.kitOne K (.ref aBadGame) (.ref aBadGame) = some true)
    (koBG1 : PySem.W.kitOne K (.ref aBadGame) (.ref aBadPlayer) = some false)
    (koBG2 : PySem.W.kitOne K (.ref aBadGame) (.ref aBadPlace) = some false)
    (koBG3 : PySem.W.kitOne K (.ref aBadGame) (.ref aBadSteps) = some false)
    (koBG4 : PySem.W.kitOne K (.ref aBadGame) (.ref aTooMany) = some false)
    (kvBG : PySem.W.kitOne K (.ref aBadGame) (.type "ValueError") = some true)
    (sgBG : PySem.W.subIn K (.ref aBadGame) (.ref aGongError) = some true)
    (gaBS : PySem.W.findIn K (.ref aBadSteps) "__getattribute__" = some (some (.builtin "BaseException.__getattribute__")))
    (ggBS : PySem.W.findIn K (.ref aBadSteps) "__getattr__" = some none)
    (hdBS : PySem.W.hasDictIn K aBadSteps = true)
    (haBS : PySem.W.findIn K (.ref aBadSteps) "__class__" = some (some (.builtin "object.__class__")))
    (obBS : PySem.W.mroIn K aBadSteps (.type "object") = some true)
    (koBS0 : PySem.W.kitOne K (.ref aBadSteps) (.ref aBadGame) = some false)
    (koBS1 : PySem.W.kitOne K (.ref aBadSteps) (.ref aBadPlayer) = some false)
    (koBS2 : PySem.W.kitOne K (.ref aBadSteps) (.ref aBadPlace) = some false)
    (koBS3 : PySem.W.kitOne K (.ref aBadSteps) (.ref aBadSteps) = some true)
    (koBS4 : PySem.W.kitOne K (.ref aBadSteps) (.ref aTooMany) = some false)
    (kvBS : PySem.W.kitOne K (.ref aBadSteps) (.type "ValueError") = some true)
    (sgBS : PySem.W.subIn K (.ref aBadSteps) (.ref aGongError) = some true)
    (gaBP : PySem.W.findIn K (.ref aBadPlace) "__getattribute__" = some (some (.builtin "BaseException.__getattribute__")))
    (ggBP : PySem.W.findIn K (.ref aBadPlace) "__getattr__" = some none)
    (hdBP : PySem.W.hasDictIn K aBadPlace = true)
    (haBP : PySem.W.findIn K (.ref aBadPlace) "__class__" = some (some (.builtin "object.__class__")))
    (obBP : PySem.W.mroIn K aBadPlace (.type "object") = some true)
    (koBP0 : PySem.W.kitOne K (.ref aBadPlace) (.ref aBadGame) = some false)
    (koBP1 : PySem.W.kitOne K (.ref aBadPlace) (.ref aBadPlayer) = some false)
    (koBP2 : PySem.W.kitOne K (.ref aBadPlace) (.ref aBadPlace) = some true)
    (koBP3 : PySem.W.kitOne K (.ref aBadPlace) (.ref aBadSteps) = some false)
    (koBP4 : PySem.W.kitOne K (.ref aBadPlace) (.ref aTooMany) = some false)
    (kvBP : PySem.W.kitOne K (.ref aBadPlace) (.type "ValueError") = some true)
    (sgBP : PySem.W.subIn K (.ref aBadPlace) (.ref aGongError) = some true)
    (gaBY : PySem.W.findIn K (.ref aBadPlayer) "__getattribute__" = some (some (.builtin "BaseException.__getattribute__")))
    (ggBY : PySem.W.findIn K (.ref aBadPlayer) "__getattr__" = some none)
    (hdBY : PySem.W.hasDictIn K aBadPlayer = true)
    (haBY : PySem.W.findIn K (.ref aBadPlayer) "__class__" = some (some (.builtin "object.__class__")))
    (obBY : PySem.W.mroIn K aBadPlayer (.type "object") = some true)
    (koBY0 : PySem.W.kitOne K (.ref aBadPlayer) (.ref aBadGame) = some false)
    (koBY1 : PySem.W.kitOne K (.ref aBadPlayer) (.ref aBadPlayer) = some true)
    (koBY2 : PySem.W.kitOne K (.ref aBadPlayer) (.ref aBadPlace) = some false)
    (koBY3 : PySem.W.kitOne K (.ref aBadPlayer) (.ref aBadSteps) = some false)
    (koBY4 : PySem.W.kitOne K (.ref aBadPlayer) (.ref aTooMany) = some false)
    (kvBY : PySem.W.kitOne K (.ref aBadPlayer) (.type "ValueError") = some true)
    (sgBY : PySem.W.subIn K (.ref aBadPlayer) (.ref aGongError) = some true)
    (gaTM : PySem.W.findIn K (.ref aTooMany) "__getattribute__" = some (some (.builtin "BaseException.__getattribute__")))
    (ggTM : PySem.W.findIn K (.ref aTooMany) "__getattr__" = some none)
    (hdTM : PySem.W.hasDictIn K aTooMany = true)
    (haTM : PySem.W.findIn K (.ref aTooMany) "__class__" = some (some (.builtin "object.__class__")))
    (obTM : PySem.W.mroIn K aTooMany (.type "object") = some true)
    (koTM0 : PySem.W.kitOne K (.ref aTooMany) (.ref aBadGame) = some false)
    (koTM1 : PySem.W.kitOne K (.ref aTooMany) (.ref aBadPlayer) = some false)
    (koTM2 : PySem.W.kitOne K (.ref aTooMany) (.ref aBadPlace) = some false)
    (koTM3 : PySem.W.kitOne K (.ref aTooMany) (.ref aBadSteps) = some false)
    (koTM4 : PySem.W.kitOne K (.ref aTooMany) (.ref aTooMany) = some true)
    (kvTM : PySem.W.kitOne K (.ref aTooMany) (.type "ValueError") = some true)
    (sgTM : PySem.W.subIn K (.ref aTooMany) (.ref aGongError) = some true)
    (hn : PySem.W.specialIn K (.builtin "object.__class__") "__get__" = some (some (.builtin "getset_descriptor.__get__")))
    (ht : PySem.W.takesIn K (.builtin "object.__class__") = some true)
    (exG : PySem.W.subIn K (.ref aGongError) (.type "BaseException") = some true)
    (hdG : PySem.W.hasDictIn K aGongError = true)
    (tyG : PySem.W.typeIn K (.ref aGongError) = some (.type "type"))
    (init_done : True)
    : ∃ fd : FuncData, (∀ (s : Shared) (v : Value), BindsTo s fd ⟨[v], []⟩ [("_law_script", v)]) ∧ ∀ base : Heap, K.In base → base.Ns mainGlobals mg → FnOk P0 w K mg base (L2.CX P0 w) 12 fa fd ["_law_script"] (spLaw K) := by
  have e := hfa.symm.trans (PySem.W.mg_of X Gn a22)
  cases e
  let A : Ads := ⟨aBadGame, aBadSteps, aBadPlace, aBadPlayer, aTooMany, aGongError⟩
  have B : Bt mg := ⟨PySem.W.mg_none_of X Gn z_len, PySem.W.mg_none_of X Gn z_isinstance, PySem.W.mg_none_of X Gn z_int, PySem.W.mg_none_of X Gn z_bool, PySem.W.mg_none_of X Gn z_list, PySem.W.mg_none_of X Gn z_tuple, PySem.W.mg_none_of X Gn z_set, PySem.W.mg_none_of X Gn z_all, PySem.W.mg_none_of X Gn z_max, PySem.W.mg_none_of X Gn z_min, PySem.W.mg_none_of X Gn z_sum, PySem.W.mg_none_of X Gn z_range, PySem.W.mg_none_of X Gn z_enumerate, PySem.W.mg_none_of X Gn z_ValueError, PySem.W.mg_none_of X Gn z_super, PySem.W.mg_none_of X Gn z_sorted, PySem.W.mg_none_of X Gn z_any, PySem.W.mg_none_of X Gn z_reversed⟩
  have T_BadGame := PySem.W.mg_of X Gn g_BadGame
  have T_BadSteps := PySem.W.mg_of X Gn g_BadSteps
  have T_BadPlace := PySem.W.mg_of X Gn g_BadPlace
  have T_BadPlayer := PySem.W.mg_of X Gn g_BadPlayer
  have T_TooMany := PySem.W.mg_of X Gn g_TooMany
  have T_GongError := PySem.W.mg_of X Gn g_GongError
  have T : Tx K mg A := ⟨T_BadGame, T_BadSteps, T_BadPlace, T_BadPlayer, T_TooMany, T_GongError⟩
  have M_MOST_PLACES := PySem.W.mg_of X Gn most0
  have tBG : PySem.BadX.BadTxt P0 K mg "BadGame" "BadGame.__init__" "no game (at: " ")" A.BadGame fBG := ⟨T_BadGame, ⟨nmBG, qBG, NBG, bsBG, _, snBG, subBG, abBG, colBG, ddBG, mBG0, mBG1, mBG2, mBG3, mBG5, xBG, rfl, along_of xG iG⟩, saBG, noBG, iiBG, tiBG, kcBG, exBG, veBG, tyBG, moBG, opq, B.super_, (by decide +kernel), ⟨_, _, _, _, _, _, _, _, _, _, _, _, _, _, _, _, _, _, _, _, _, liBG, ciBG, diBG, viBG, fiBG, ceBG, fun L => ⟨_, rfl⟩⟩, by decide, by decide⟩
  have tBS : PySem.BadX.BadTxt P0 K mg "BadSteps" "BadSteps.__init__" "no steps for this game (at: " ")" A.BadSteps fBS := ⟨T_BadSteps, ⟨nmBS, qBS, NBS, bsBS, _, snBS, subBS, abBS, colBS, ddBS, mBS0, mBS1, mBS2, mBS3, mBS5, xBS, rfl, along_of xG iG⟩, saBS, noBS, iiBS, tiBS, kcBS, exBS, veBS, tyBS, moBS, opq, B.super_, (by decide +kernel), ⟨_, _, _, _, _, _, _, _, _, _, _, _, _, _, _, _, _, _, _, _, _, liBS, ciBS, diBS, viBS, fiBS, ceBS, fun L => ⟨_, rfl⟩⟩, by decide, by decide⟩
  have xBP : PlainX K mg "BadPlace" A.BadPlace := ⟨T_BadPlace, xcBP, kcBP, exBP, tyBP⟩
  have xBY : PlainX K mg "BadPlayer" A.BadPlayer := ⟨T_BadPlayer, xcBY, kcBY, exBY, tyBY⟩
  have xTM : PlainX K mg "TooMany" A.TooMany := ⟨T_TooMany, xcTM, kcTM, exTM, tyTM⟩
  have cBG : Caught K A A.BadGame 0 := ⟨⟨⟨gaBG, ggBG, exBG, hdBG, haBG, hn, ht, obBG⟩, koBG0, koBG1, koBG2, koBG3, koBG4, kvBG⟩, PySem.W.exm_ref exG hdG tyG sgBG⟩
  have rBG : Read K A.BadGame := ⟨⟨gaBG, ggBG, exBG, hdBG⟩, noBG⟩
  have cBS : Caught K A A.BadSteps 3 := ⟨⟨⟨gaBS, ggBS, exBS, hdBS, haBS, hn, ht, obBS⟩, koBS0, koBS1, koBS2, koBS3, koBS4, kvBS⟩, PySem.W.exm_ref exG hdG tyG sgBS⟩
  have rBS : Read K A.BadSteps := ⟨⟨gaBS, ggBS, exBS, hdBS⟩, noBS⟩
  have cBP : Caught K A A.BadPlace 2 := ⟨⟨⟨gaBP, ggBP, exBP, hdBP, haBP, hn, ht, obBP⟩, koBP0, koBP1, koBP2, koBP3, koBP4, kvBP⟩, PySem.W.exm_ref exG hdG tyG sgBP⟩
  have cBY : Caught K A A.BadPlayer 1 := ⟨⟨⟨gaBY, ggBY, exBY, hdBY, haBY, hn, ht, obBY⟩, koBY0, koBY1, koBY2, koBY3, koBY4, kvBY⟩, PySem.W.exm_ref exG hdG tyG sgBY⟩
  have cTM : Caught K A A.TooMany 4 := ⟨⟨⟨gaTM, ggTM, exTM, hdTM, haTM, hn, ht, obTM⟩, koTM0, koTM1, koTM2, koTM3, koTM4, kvTM⟩, PySem.W.exm_ref exG hdG tyG sgTM⟩
  have F_is_number := fun_mk (st := s_is_number) l0 c0 k0
  have b_is_number := F_is_number.binds (ps := ["value"]) fun _ _ _ _ _ _ us hl => match us, hl with | [_], _ => rfl
  have F_is_player := fun_mk (st := s_is_player) l1 c1 k1
  have b_is_player := F_is_player.binds (ps := ["value"]) fun _ _ _ _ _ _ us hl => match us, hl with | [_], _ => rfl
  have F_is_place := fun_mk (st := s_is_place) l2 c2 k2
  have b_is_place := F_is_place.binds (ps := ["value", "many"]) fun _ _ _ _ _ _ us hl => match us, hl with | [_, _], _ => rfl
  have F_is_places := fun_mk (st := s_is_places) l3 c3 k3
  have b_is_places := F_is_places.binds (ps := ["value", "many"]) fun _ _ _ _ _ _ us hl => match us, hl with | [_, _], _ => rfl
  have F_is_ways := fun_mk (st := s_is_ways) l4 c4 k4
  have b_is_ways := F_is_ways.binds (ps := ["value", "many"]) fun _ _ _ _ _ _ us hl => match us, hl with | [_, _], _ => rfl
  have F_is_row := fun_mk (st := s_is_row) l5 c5 k5
  have b_is_row := F_is_row.binds (ps := ["value", "many"]) fun _ _ _ _ _ _ us hl => match us, hl with | [_, _], _ => rfl
  have F_is_step := fun_mk (st := s_is_step) l6 c6 k6
  have b_is_step := F_is_step.binds (ps := ["value", "row"]) fun _ _ _ _ _ _ us hl => match us, hl with | [_, _], _ => rfl
  have F_check_game := fun_mk (st := s_check_game) l7 c7 k7
  have b_check_game := F_check_game.binds (ps := ["game"]) fun _ _ _ _ _ _ us hl => match us, hl with | [_], _ => rfl
  have F_check_place := fun_mk (st := s_check_place) l8 c8 k8
  have b_check_place := F_check_place.binds (ps := ["game", "place"]) fun _ _ _ _ _ _ us hl => match us, hl with | [_, _], _ => rfl
  have F_check_many_steps := fun_mk (st := s_check_many_steps) l9 c9 k9
  have b_check_many_steps := F_check_many_steps.binds (ps := ["game", "steps"]) fun _ _ _ _ _ _ us hl => match us, hl with | [_, _], _ => rfl
  have F_check_steps := fun_mk (st := s_check_steps) l10 c10 k10
  have b_check_steps := F_check_steps.binds (ps := ["game", "steps"]) fun _ _ _ _ _ _ us hl => match us, hl with | [_, _], _ => rfl
  have F_walk := fun_mk (st := s_walk) l11 c11 k11
  have b_walk := F_walk.binds (ps := ["game", "steps", "place"]) fun _ _ _ _ _ _ us hl => match us, hl with | [_, _, _], _ => rfl
  have F_heard := fun_mk (st := s_heard) l12 c12 k12
  have b_heard := F_heard.binds (ps := ["game", "steps", "place"]) fun _ _ _ _ _ _ us hl => match us, hl with | [_, _, _], _ => rfl
  have F_winner := fun_mk (st := s_winner) l13 c13 k13
  have b_winner := F_winner.binds (ps := ["game", "steps", "place"]) fun _ _ _ _ _ _ us hl => match us, hl with | [_, _, _], _ => rfl
  have F__law_mixed := fun_mk (st := s__law_mixed) l14 c14 k14
  have b__law_mixed := F__law_mixed.binds (ps := ["_law_number", "_law_k"]) fun _ _ _ _ _ _ us hl => match us, hl with | [_, _], _ => rfl
  have F__law_game := fun_mk (st := s__law_game) l15 c15 k15
  have b__law_game := F__law_game.binds (ps := ["_law_script", "_law_most"]) fun _ _ _ _ _ _ us hl => match us, hl with | [_, _], _ => rfl
  have F__law_copied := fun_mk (st := s__law_copied) l16 c16 k16
  have b__law_copied := F__law_copied.binds (ps := ["_law_game_here"]) fun _ _ _ _ _ _ us hl => match us, hl with | [_], _ => rfl
  have F__law_word := fun_mk (st := s__law_word) l17 c17 k17
  have b__law_word := F__law_word.binds (ps := ["_law_e"]) fun _ _ _ _ _ _ us hl => match us, hl with | [_], _ => rfl
  have F__law_ring := fun_mk (st := s__law_ring) l18 c18 k18
  have b__law_ring := F__law_ring.binds (ps := ["_law_nexts", "_law_place"]) fun _ _ _ _ _ _ us hl => match us, hl with | [_, _], _ => rfl
  have F__law_refused := fun_mk (st := s__law_refused) l19 c19 k19
  have b__law_refused := F__law_refused.binds (ps := ["_law_way", "_law_game_here", "_law_steps", "_law_place"]) fun _ _ _ _ _ _ us hl => match us, hl with | [_, _, _, _], _ => rfl
  have F__law_wrong := fun_mk (st := s__law_wrong) l20 c20 k20
  have b__law_wrong := F__law_wrong.binds (ps := ["_law_game_here", "_law_at", "_law_number"]) fun _ _ _ _ _ _ us hl => match us, hl with | [_, _, _], _ => rfl
  have F__law_refused_right := fun_mk (st := s__law_refused_right) l21 c21 k21
  have b__law_refused_right := F__law_refused_right.binds (ps := ["_law_game_here", "_law_steps", "_law_more"]) fun _ _ _ _ _ _ us hl => match us, hl with | [_, _, _], _ => rfl
  have F_law := fun_mk (st := s_law) l22 c22 k22
  refine ⟨PySem.W.fnOf "law" "law" (defArgs s_law) (defBody s_law) (defScope s_law) .none kV22 dc22 pm22 an22 cd22 ct22, fun s v => .of_eq rfl, fun base _ _ => ?_⟩
  have C_is_number : Cal P0 w K mg base 1 "is_number" (spIsNumber K) := ⟨_, _, _, ok_is_number B F_is_number, PySem.W.mg_of X Gn a0, k0, b_is_number⟩
  have C_is_player : Cal P0 w K mg base 2 "is_player" (spIsPlayer K) := ⟨_, _, _, ok_is_player F_is_player C_is_number, PySem.W.mg_of X Gn a1, k1, b_is_player⟩
  have C_is_place : Cal P0 w K mg base 2 "is_place" (spIsPlace K) := ⟨_, _, _, ok_is_place F_is_place C_is_number, PySem.W.mg_of X Gn a2, k2, b_is_place⟩
  have C_is_places : Cal P0 w K mg base 3 "is_places" (spIsPlaces K) := ⟨_, _, _, ok_is_places B F_is_places C_is_place, PySem.W.mg_of X Gn a3, k3, b_is_places⟩
  have C_is_ways : Cal P0 w K mg base 4 "is_ways" (spIsWays K) := ⟨_, _, _, ok_is_ways B F_is_ways C_is_places, PySem.W.mg_of X Gn a4, k4, b_is_ways⟩
  have C_is_row : Cal P0 w K mg base 5 "is_row" (spIsRow K) := ⟨_, _, _, ok_is_row B F_is_row C_is_number C_is_player C_is_ways, PySem.W.mg_of X Gn a5, k5, b_is_row⟩
  have C_is_step : Cal P0 w K mg base 2 "is_step" (spIsStep K) := ⟨_, _, _, ok_is_step F_is_step C_is_number, PySem.W.mg_of X Gn a6, k6, b_is_step⟩
  have C_check_game : Cal P0 w K mg base 6 "check_game" (spCheckGame K A.BadGame) := ⟨_, _, _, ok_check_game B tBG M_MOST_PLACES F_check_game C_is_row, PySem.W.mg_of X Gn a7, k7, b_check_game⟩
  have C_check_many_steps : Cal P0 w K mg base 5 "check_many_steps" (spManySteps K A.BadSteps) := ⟨_, _, _, ok_check_many_steps B tBS F_check_many_steps, PySem.W.mg_of X Gn a9, k9, b_check_many_steps⟩
  have C_check_steps : Cal P0 w K mg base 6 "check_steps" (spCheckSteps K A.BadSteps) := ⟨_, _, _, ok_check_steps B tBS F_check_steps C_check_many_steps C_is_step, PySem.W.mg_of X Gn a10, k10, b_check_steps⟩
  have C_check_place : Cal P0 w K mg base 3 "check_place" (spCheckPlace K A.BadPlace) := ⟨_, _, _, ok_check_place B xBP F_check_place C_is_place, PySem.W.mg_of X Gn a8, k8, b_check_place⟩
  have C_walk : Cal P0 w K mg base 7 "walk" (spW K A okWalk) := ⟨_, _, _, ok_walk (A := A) F_walk C_check_game C_check_steps C_check_place, PySem.W.mg_of X Gn a11, k11, b_walk⟩
  have C_heard : Cal P0 w K mg base 8 "heard" (spW K A okHeard) := ⟨_, _, _, ok_heard (A := A) B F_heard C_walk, PySem.W.mg_of X Gn a12, k12, b_heard⟩
  have C_winner : Cal P0 w K mg base 9 "winner" (spW K A okWinner) := ⟨_, _, _, ok_winner (A := A) F_winner C_heard, PySem.W.mg_of X Gn a13, k13, b_winner⟩
  have C__law_mixed : Cal P0 w K mg base 1 "_law_mixed" (spMixed) := ⟨_, _, _, ok_mixed F__law_mixed, PySem.W.mg_of X Gn a14, k14, b__law_mixed⟩
  have C__law_game : Cal P0 w K mg base 2 "_law_game" (spLawGame K) := ⟨_, _, _, ok_law_game B F__law_game C__law_mixed, PySem.W.mg_of X Gn a15, k15, b__law_game⟩
  have C__law_copied : Cal P0 w K mg base 1 "_law_copied" (spCopied K) := ⟨_, _, _, ok_law_copied B F__law_copied, PySem.W.mg_of X Gn a16, k16, b__law_copied⟩
  have C__law_ring : Cal P0 w K mg base 1 "_law_ring" (spRing K) := ⟨_, _, _, ok_law_ring F__law_ring, PySem.W.mg_of X Gn a18, k18, b__law_ring⟩
  have C__law_word : Cal P0 w K mg base 1 "_law_word" (spWord K A) := ⟨_, _, _, ok_law_word (A := A) B T F__law_word, PySem.W.mg_of X Gn a17, k17, b__law_word⟩
  have C__law_refused : Cal P0 w K mg base 10 "_law_refused" (spRefused K) := ⟨_, _, _, ok_law_refused (A := A) T cBS cBP rBS F__law_refused C__law_word C_walk C_heard C_winner, PySem.W.mg_of X Gn a19, k19, b__law_refused⟩
  have C__law_wrong : Cal P0 w K mg base 1 "_law_wrong" (spWrong K) := ⟨_, _, _, ok_law_wrong B F__law_wrong, PySem.W.mg_of X Gn a20, k20, b__law_wrong⟩
  have C__law_refused_right : Cal P0 w K mg base 11 "_law_refused_right" (spRefusedRight K) := ⟨_, _, _, ok_law_refused_right B F__law_refused_right C__law_wrong C__law_refused, PySem.W.mg_of X Gn a21, k21, b__law_refused_right⟩
  exact ok_law (A := A) B F_law C__law_game C__law_mixed C__law_copied C__law_ring C_walk C_heard C_winner C__law_refused_right
end G
open PySem PySem.W PyProof.Rows
set_option maxRecDepth 100000 in
set_option maxHeartbeats 0 in
theorem PySem.Challenge.cw_gongpath_k02_walks_and_rings_holds : PySem.Challenge.rw_gongpath_k02_walks_and_rings.Holds := by
  w_on; o_law; k_head; (case hw => w_witness2)
  k_fill
  refine L2.walk_of (l := PySem.Challenge.rw_gongpath_k02_walks_and_rings) (n := 63) (k := 12) (x := "_law_script") (CX := fun w => L2.CX PySem.Challenge.pw_gongpath_k02_walks_and_rings w) (sp := fun w => G.spLaw _) rfl (by decide) rfl ⟨rfl, by decide, by decide⟩ (fun w h Y => PySem.W.kIn_of Y) ?F (fun _ _ a ns hl _ hS => ⟨a, ns, rfl, hS, hl, fun _ => rfl⟩) (fun _ _ _ _ _ z => by obtain ⟨_, _, _, _, _, _, _, _, _, _, _, _, z⟩ := z; exact z)
  case F =>
    intro w mg fa h KX Gn hmg
    refine' G.all_mk KX Gn hmg ?a0 ?l0 ?c0 ?k0 ?a1 ?l1 ?c1 ?k1 ?a2 ?l2 ?c2 ?k2 ?a3 ?l3 ?c3 ?k3 ?a4 ?l4 ?c4 ?k4 ?a5 ?l5 ?c5 ?k5 ?a6 ?l6 ?c6 ?k6 ?a7 ?l7 ?c7 ?k7 ?a8 ?l8 ?c8 ?k8 ?a9 ?l9 ?c9 ?k9 ?a10 ?l10 ?c10 ?k10 ?a11 ?l11 ?c11 ?k11 ?a12 ?l12 ?c12 ?k12 ?a13 ?l13 ?c13 ?k13 ?a14 ?l14 ?c14 ?k14 ?a15 ?l15 ?c15 ?k15 ?a16 ?l16 ?c16 ?k16 ?a17 ?l17 ?c17 ?k17 ?a18 ?l18 ?c18 ?k18 ?a19 ?l19 ?c19 ?k19 ?a20 ?l20 ?c20 ?k20 ?a21 ?l21 ?c21 ?k21 ?a22 ?l22 ?c22 ?k22 ?z_len ?z_isinstance ?z_int ?z_bool ?z_list ?z_tuple ?z_set ?z_all ?z_max ?z_min ?z_sum ?z_range ?z_enumerate ?z_ValueError ?z_super ?z_sorted ?z_any ?z_reversed ?most0 ?g_BadGame ?g_BadSteps ?g_BadPlace ?g_BadPlayer ?g_TooMany ?g_GongError ?xG ?iG ?opq ?xBG ?saBG ?noBG ?iiBG ?tiBG ?liBG ?ciBG ?diBG ?viBG ?fiBG ?ceBG ?veBG ?moBG ?xBS ?saBS ?noBS ?iiBS ?tiBS ?liBS ?ciBS ?diBS ?viBS ?fiBS ?ceBS ?veBS ?moBS ?kcBG ?exBG ?tyBG ?kcBS ?exBS ?tyBS ?kcBP ?exBP ?tyBP ?kcBY ?exBY ?tyBY ?kcTM ?exTM ?tyTM ?xcBP ?xcBY ?xcTM ?gaBG ?ggBG ?hdBG ?haBG ?obBG ?koBG0 ?koBG1 ?koBG2 ?koBG3 ?koBG4 ?kvBG ?sgBG ?gaBS ?ggBS ?hdBS ?haBS ?obBS ?koBS0 ?koBS1 ?koBS2 ?koBS3 ?koBS4 ?kvBS ?sgBS ?gaBP ?ggBP ?hdBP ?haBP ?obBP ?koBP0 ?koBP1 ?koBP2 ?koBP3 ?koBP4 ?kvBP ?sgBP ?gaBY ?ggBY ?hdBY ?haBY ?obBY ?koBY0 ?koBY1 ?koBY2 ?koBY3 ?koBY4 ?kvBY ?sgBY ?gaTM ?ggTM ?hdTM ?haTM ?obTM ?koTM0 ?koTM1 ?koTM2 ?koTM3 ?koTM4 ?kvTM ?sgTM ?hn ?ht ?exG ?hdG ?tyG ?init_done
    (case a0 => k_is)
    (case l0 => k_is)
    (case c0 => k_is)
    (case k0 => k_is)
    (case a1 => k_is)
    (case l1 => k_is)
    (case c1 => k_is)
    (case k1 => k_is)
    (case a2 => k_is)
    (case l2 => k_is)
    (case c2 => k_is)
    (case k2 => k_is)
    (case a3 => k_is)
    (case l3 => k_is)
    (case c3 => k_is)
    (case k3 => k_is)
    (case a4 => k_is)
    (case l4 => k_is)
    (case c4 => k_is)
    (case k4 => k_is)
    (case a5 => k_is)
    (case l5 => k_is)
    (case c5 => k_is)
    (case k5 => k_is)
    (case a6 => k_is)
    (case l6 => k_is)
    (case c6 => k_is)
    (case k6 => k_is)
    (case a7 => k_is)
    (case l7 => k_is)
    (case c7 => k_is)
    (case k7 => k_is)
    (case a8 => k_is)
    (case l8 => k_is)
    (case c8 => k_is)
    (case k8 => k_is)
    (case a9 => k_is)
    (case l9 => k_is)
    (case c9 => k_is)
    (case k9 => k_is)
    (case a10 => k_is)
    (case l10 => k_is)
    (case c10 => k_is)
    (case k10 => k_is)
    (case a11 => k_is)
    (case l11 => k_is)
    (case c11 => k_is)
    (case k11 => k_is)
    (case a12 => k_is)
    (case l12 => k_is)
    (case c12 => k_is)
    (case k12 => k_is)
    (case a13 => k_is)
    (case l13 => k_is)
    (case c13 => k_is)
    (case k13 => k_is)
    (case a14 => k_is)
    (case l14 => k_is)
    (case c14 => k_is)
    (case k14 => k_is)
    (case a15 => k_is)
    (case l15 => k_is)
    (case c15 => k_is)
    (case k15 => k_is)
    (case a16 => k_is)
    (case l16 => k_is)
    (case c16 => k_is)
    (case k16 => k_is)
    (case a17 => k_is)
    (case l17 => k_is)
    (case c17 => k_is)
    (case k17 => k_is)
    (case a18 => k_is)
    (case l18 => k_is)
    (case c18 => k_is)
    (case k18 => k_is)
    (case a19 => k_is)
    (case l19 => k_is)
    (case c19 => k_is)
    (case k19 => k_is)
    (case a20 => k_is)
    (case l20 => k_is)
    (case c20 => k_is)
    (case k20 => k_is)
    (case a21 => k_is)
    (case l21 => k_is)
    (case c21 => k_is)
    (case k21 => k_is)
    (case a22 => k_is)
    (case l22 => k_is)
    (case c22 => k_is)
    (case k22 => k_is)
    (case z_len => k_is)
    (case z_isinstance => k_is)
    (case z_int => k_is)
    (case z_bool => k_is)
    (case z_list => k_is)
    (case z_tuple => k_is)
    (case z_set => k_is)
    (case z_all => k_is)
    (case z_max => k_is)
    (case z_min => k_is)
    (case z_sum => k_is)
    (case z_range => k_is)
    (case z_enumerate => k_is)
    (case z_ValueError => k_is)
    (case z_super => k_is)
    (case z_sorted => k_is)
    (case z_any => k_is)
    (case z_reversed => k_is)
    (case most0 => k_is)
    (case g_BadGame => k_is)
    (case g_BadSteps => k_is)
    (case g_BadPlace => k_is)
    (case g_BadPlayer => k_is)
    (case g_TooMany => k_is)
    (case g_GongError => k_is)
    (case xG => k_is)
    (case iG => k_is)
    (case opq => k_is)
    (case xBG => k_is)
    (case saBG => k_is)
    (case noBG => k_is)
    (case iiBG => k_is)
    (case tiBG => k_is)
    (case liBG => k_is)
    (case ciBG => k_is)
    (case diBG => k_is)
    (case viBG => rfl)
    (case fiBG => decide +kernel)
    (case ceBG => k_is)
    (case veBG => k_is)
    (case moBG => k_is)
    (case xBS => k_is)
    (case saBS => k_is)
    (case noBS => k_is)
    (case iiBS => k_is)
    (case tiBS => k_is)
    (case liBS => k_is)
    (case ciBS => k_is)
    (case diBS => k_is)
    (case viBS => rfl)
    (case fiBS => decide +kernel)
    (case ceBS => k_is)
    (case veBS => k_is)
    (case moBS => k_is)
    (case kcBG => k_is)
    (case exBG => k_is)
    (case tyBG => k_is)
    (case kcBS => k_is)
    (case exBS => k_is)
    (case tyBS => k_is)
    (case kcBP => k_is)
    (case exBP => k_is)
    (case tyBP => k_is)
    (case kcBY => k_is)
    (case exBY => k_is)
    (case tyBY => k_is)
    (case kcTM => k_is)
    (case exTM => k_is)
    (case tyTM => k_is)
    (case xcBP => k_exc)
    (case xcBY => k_exc)
    (case xcTM => k_exc)
    (case gaBG => k_is)
    (case ggBG => k_is)
    (case hdBG => k_is)
    (case haBG => k_is)
    (case obBG => k_is)
    (case koBG0 => kit_is)
    (case koBG1 => kit_is)
    (case koBG2 => kit_is)
    (case koBG3 => kit_is)
    (case koBG4 => kit_is)
    (case kvBG => kit_is)
    (case sgBG => k_is)
    (case gaBS => k_is)
    (case ggBS => k_is)
    (case hdBS => k_is)
    (case haBS => k_is)
    (case obBS => k_is)
    (case koBS0 => kit_is)
    (case koBS1 => kit_is)
    (case koBS2 => kit_is)
    (case koBS3 => kit_is)
    (case koBS4 => kit_is)
    (case kvBS => kit_is)
    (case sgBS => k_is)
    (case gaBP => k_is)
    (case ggBP => k_is)
    (case hdBP => k_is)
    (case haBP => k_is)
    (case obBP => k_is)
    (case koBP0 => kit_is)
    (case koBP1 => kit_is)
    (case koBP2 => kit_is)
    (case koBP3 => kit_is)
    (case koBP4 => kit_is)
    (case kvBP => kit_is)
    (case sgBP => k_is)
    (case gaBY => k_is)
    (case ggBY => k_is)
    (case hdBY => k_is)
    (case haBY => k_is)
    (case obBY => k_is)
    (case koBY0 => kit_is)
    (case koBY1 => kit_is)
    (case koBY2 => kit_is)
    (case koBY3 => kit_is)
    (case koBY4 => kit_is)
    (case kvBY => kit_is)
    (case sgBY => k_is)
    (case gaTM => k_is)
    (case ggTM => k_is)
    (case hdTM => k_is)
    (case haTM => k_is)
    (case obTM => k_is)
    (case koTM0 => kit_is)
    (case koTM1 => kit_is)
    (case koTM2 => kit_is)
    (case koTM3 => kit_is)
    (case koTM4 => kit_is)
    (case kvTM => kit_is)
    (case sgTM => k_is)
    (case hn => k_is)
    (case ht => k_is)
    (case exG => k_is)
    (case hdG => k_is)
    (case tyG => k_is)
    (case init_done => trivial)
