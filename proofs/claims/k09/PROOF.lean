import PyProof.Rows.All
import Wide.All
import OpenK.AllK
import Wide.FinOn
import PyProof.EqAt
import PyProof.EqKinds
import PyProof.TupleCall
import HandS.ForMost
import HandS.ForExc
import HandS.IsInst
import HandS.SortKw
import HandS.SortRule
import HandS.SetFor
import HandS.Flow
import HandS.Zip
import HandS.Walk
import HandS.Bytes
import HandS.BytesMake
import HandS.ToBytes
import HandS.Defaults
import KE.KBytesHexOf
import HandS.WideBits
import KE.KExcSuper
import HandS.ExcInit
import HandS.FStr
import PyProof.FString2
import HandS.HotCalls
import KE.KBytesFind
import KE.GoesMore
import KE.DataMinMax
import HandS.Iter
import HandS.Comp
import HandS.Style
import HandS.RevRange
import HandS.Conv
import HandS.Sort
import HandS.SortOrd
import KE.SortData
import KE.BytesMake
import PySem.Challenge.RW_presshouse_k09_whole_differences
set_option Elab.async false
set_option linter.all false
set_option maxRecDepth 100000
set_option maxHeartbeats 4100000
namespace K9
open PySem PySem.Spec PyProof.Rows L2
def topS (i : Nat) : Stmt := PySem.Challenge.pw_presshouse_k09_whole_differences.main.body.getD i (.Pass ⟨0, 0, 0, 0⟩)
abbrev sWhole : Stmt := topS 9
abbrev sIsNum : Stmt := topS 10
abbrev sOfHex : Stmt := topS 12
abbrev sAreBytes : Stmt := topS 11
abbrev sCosts : Stmt := topS 38
abbrev sAreCosts : Stmt := topS 15
abbrev sNone : Stmt := topS 40
abbrev sCell : Stmt := topS 48
abbrev sNums : Stmt := topS 49
abbrev sHex : Stmt := topS 50
abbrev sData : Stmt := topS 51
abbrev sSpoilt : Stmt := topS 60
abbrev sAll : Stmt := topS 61
abbrev sLaw : Stmt := topS 62
abbrev sMarkOf : Stmt := topS 25
abbrev sIsMark : Stmt := topS 26
abbrev sIsDif : Stmt := topS 27
abbrev sTellsM : Stmt := topS 28
abbrev sManyOf : Stmt := topS 29
abbrev sOrig : Stmt := topS 31
abbrev sPutTo : Stmt := topS 32
abbrev sLongN : Stmt := topS 35
abbrev sLongO : Stmt := topS 36
abbrev sMostAt : Stmt := topS 37
abbrev sCostsR : Stmt := topS 38
abbrev sLeastR : Stmt := topS 39
abbrev sDiff : Stmt := topS 42
abbrev sPutOn : Stmt := topS 44
abbrev sRefB : Stmt := topS 45
abbrev sRefD : Stmt := topS 46
abbrev sRowBits : Stmt := topS 30
abbrev sShown : Stmt := topS 43
abbrev sLDCost : Stmt := topS 53
abbrev sLCopies : Stmt := topS 55
abbrev sLDSearch : Stmt := topS 56
abbrev sLShown : Stmt := topS 59
abbrev sLMark : Stmt := topS 52
abbrev sLWide : Stmt := topS 54
abbrev sLOrig : Stmt := topS 57
abbrev sLPair : Stmt := topS 58
abbrev sReInit : Stmt := inClass (topS 34) 0
abbrev sReAt : Stmt := inClass (topS 34) 1
abbrev sReOne : Stmt := inClass (topS 34) 2
theorem scIsNum : FnScope ["told", "least", "most"] ["told", "least", "most"] (defScope sIsNum) := ⟨rfl, rfl, rfl, by decide +kernel, rfl, by decide +kernel, by decide +kernel⟩
theorem same_upd {H : Hp} {p : Addr} {o : HO} (h : H p = none) : Same H (upd H p o) := fun b x e => by
  rw [upd_ne (ne_of_none e h)]
  exact e
theorem same_put {H H' : Hp} {D : Addr} {o : HO} (h : Same H H') (n : H D = none) : Same H (upd H' D o) := fun b x e => by
  rw [upd_ne (ne_of_none e n)]
  exact h _ _ e
theorem none_back {H H' : Hp} {D : Addr} (h : Same H H') (n : H' D = none) : H D = none := by
  cases e : H D with
  | none => rfl
  | some o => (rw [h _ _ e] at n); (cases n)
theorem int_of {xs : List Int} {i : Nat} {v : V} (h : (xs.map V.int)[i]? = some v) : ∃ x, v = .int x ∧ xs[i]? = some x := by
  rw [List.getElem?_map] at h
  cases e : xs[i]? with
  | none => (rw [e] at h); (cases h)
  | some y => rw [e] at h; exact ⟨y, (Option.some.inj h).symm, rfl⟩
theorem yes {σ : L2.St} {H : Hp} {A B : Hp → Prop} (h : A H) : tYes σ H fun b H3 => if b = true then A H3 else B H3 := by simpa [tYes] using h
section
variable {P : Program} {w : World} {K : PySem.W.Frag} {mg : Str → Option Value} {base : Heap}
def spWhole : Sp := fun vs H Q _ => ∃ v, vs = [v] ∧ ((∃ x : Int, v = .int x ∧ Q (.bl true) H) ∨ (∃ (p : Addr) (xs : List V), v = .ref p ∧ H p = some (.lst xs) ∧ Q (.bl false) H) ∨ (v = .non ∧ Q (.bl false) H))
theorem scWhole : FnScope ["told"] ["told"] (defScope sWhole) := ⟨rfl, rfl, rfl, by decide +kernel, rfl, by decide +kernel, by decide +kernel⟩
theorem ok_whole {f : Addr} {fd : FuncData} {k : Nat} (F : Fun K "is_whole" "is_whole" sWhole f fd) (m1 : mg "isinstance" = none) (m2 : mg "bool" = none) (m3 : mg "int" = none) : FnOk P w K mg base CX0 (k + 1) f fd ["told"] spWhole := by
  refine F.ok scWhole (fun vs H Q E h => ?_) (fun cdv A outer s H vs Q E hr h => ?_)
  · obtain ⟨v, rfl, _⟩ := h
    rfl
  · obtain ⟨v, rfl, h⟩ := h
    refine ⟨_, pss_one (ps_ret (pe_and (pe_callB call_isi (by rfl) m1 (by decide +kernel) (pa_cons (pv 0) (pa_cons (pe_bltn (v := .ty "int") (by rfl) m3 (by decide +kernel) rfl) pa_nil)))
      (pe_one (pe_not (pe_callB call_isi (by rfl) m1 (by decide +kernel) (pa_cons (pv 0) (pa_cons (pe_bltn (v := .ty "bool") (by rfl) m2 (by decide +kernel) rfl) pa_nil))))))), ?_⟩
    rcases h with ⟨x, rfl, q⟩ | ⟨p, xs, rfl, hp, q⟩ | ⟨rfl, q⟩
    · refine ⟨_, rfl, _, _, _, _, _, rfl, .ty "int", .base (.int _), kit_ty (a := "int") (r := true) (by decide +kernel), _, rfl, iteT ?_⟩
      exact ⟨_, rfl, _, _, _, _, _, rfl, .ty "bool", .base (.int _), kit_ty (a := "int") (r := false) (by decide +kernel), _, rfl, q⟩
    · exact ⟨_, rfl, _, _, _, _, _, rfl, .ty "int", .base (.lst hp), kit_ty (a := "list") (r := false) (by decide +kernel), _, rfl, iteF q⟩
    · exact ⟨_, rfl, _, _, _, _, _, rfl, .ty "int", .base .non, kit_ty (a := "NoneType") (r := false) (by decide +kernel), _, rfl, iteF q⟩
def spIsNum : Sp := fun vs H Q _ => ∃ (v : V) (a b : Int), vs = [v, .int a, .int b] ∧ ((∃ x : Int, v = .int x ∧ Q (.bl (decide (a ≤ x ∧ x ≤ b))) H) ∨ (∃ (p : Addr) (xs : List V), v = .ref p ∧ H p = some (.lst xs) ∧ Q (.bl false) H) ∨ (v = .non ∧ Q (.bl false) H))
theorem ok_isNum {f f0 : Addr} {fd fd0 : FuncData} {k : Nat} (F : Fun K "is_number" "is_number" sIsNum f fd) (F0 : Fun K "is_whole" "is_whole" sWhole f0 fd0) (G0 : FnOk P w K mg base CX0 (k + 1) f0 fd0 ["told"] spWhole) (b0 : Binds K fd0 ["told"] []) (g0 : mg "is_whole" = some (.ref f0)) :
    FnOk P w K mg base CX0 (k + 2) f fd ["told", "least", "most"] spIsNum := by
  refine F.ok scIsNum (fun vs H Q E h => ?_) (fun cdv A outer s H vs Q E hr h => ?_)
  · obtain ⟨v, a, b, rfl, _⟩ := h
    rfl
  · obtain ⟨v, a, b, rfl, h⟩ := h
    refine ⟨_, pss_one (ps_ret (pe_and (pe_call G0 hr (by rfl) g0 F0.kp b0 .nil pass0 (pa_cons (pv 0) pa_nil)) (pe_one (pe_chain op_le op_le (pv 1) (pv 0) (pv 2))))), ?_⟩
    rcases h with ⟨x, rfl, q⟩ | ⟨p, xs, rfl, hp, q⟩ | ⟨rfl, q⟩
    · refine ⟨_, rfl, _, rfl, .inl ⟨x, rfl, _, rfl, iteT ?_⟩⟩
      refine ⟨_, rfl, _, rfl, _, _, rfl, rfl, _, rfl, ?_⟩
      by_cases h1 : a ≤ x
      · rw [if_pos (decide_eq_true h1)]
        refine ⟨_, rfl, _, _, rfl, rfl, ?_⟩
        simpa [h1] using q
      · rw [if_neg (by simpa using h1)]
        simpa [h1] using q
    · exact ⟨_, rfl, _, rfl, .inr (.inl ⟨p, xs, rfl, hp, _, rfl, iteF q⟩)⟩
    · exact ⟨_, rfl, _, rfl, .inr (.inr ⟨rfl, _, rfl, iteF q⟩)⟩
/-- a list that is made beside all that was there -/
def spAreNum : Sp := fun vs H Q _ => ∃ (p : Addr) (xs : List Int) (a b : Int), vs = [.ref p, .int a, .int b] ∧ H p = some (.lst (xs.map V.int)) ∧ xs.length ≤ 1000 ∧ ∀ H', Same H H' → Q (.bl (xs.all fun x => decide (a ≤ x ∧ x ≤ b))) H'
end
end K9

namespace K9
open PySem PySem.Spec PyProof.Rows L2
/-! ### equal lists -/
theorem dp_ints {K : PySem.W.Frag} {H : Hp} : ∀ xs : List Int, DpAll K H (xs.map V.int) (xs.map PyData.int)
  | [] => .nil
  | x :: xs => .cons (.int x) (dp_ints xs)
theorem dp_bools {K : PySem.W.Frag} {H : Hp} : ∀ xs : List Bool, DpAll K H (xs.map V.bl) (xs.map PyData.bool)
  | [] => .nil
  | x :: xs => .cons (.bl x) (dp_bools xs)
theorem eqvA_ints : ∀ xs ys : List Int, PyData.eqvAll (xs.map .int) (ys.map .int) = decide (xs = ys)
  | [], [] => by simp [PyData.eqvAll]
  | [], _ :: _ => by simp [PyData.eqvAll]
  | _ :: _, [] => by simp [PyData.eqvAll]
  | x :: xs, y :: ys => by
    simp only [List.map_cons, PyData.eqvAll, PyData.eqv, eqvA_ints xs ys]
    by_cases h : x = y <;> simp [h]
theorem eqvA_bools : ∀ xs ys : List Bool, PyData.eqvAll (xs.map .bool) (ys.map .bool) = decide (xs = ys)
  | [], [] => by simp [PyData.eqvAll]
  | [], _ :: _ => by simp [PyData.eqvAll]
  | _ :: _, [] => by simp [PyData.eqvAll]
  | x :: xs, y :: ys => by
    simp only [List.map_cons, PyData.eqvAll, PyData.eqv, eqvA_bools xs ys]
    by_cases h : x = y <;> simp [h]
theorem eqv_ints (xs ys : List Int) : PyData.eqv (.list (xs.map .int)) (.list (ys.map .int)) = decide (xs = ys) := by rw [PyData.eqv, eqvA_ints]
theorem eqv_bools (xs ys : List Bool) : PyData.eqv (.list (xs.map .bool)) (.list (ys.map .bool)) = decide (xs = ys) := by rw [PyData.eqv, eqvA_bools]
theorem clA_ints : ∀ ns : List Int, PyData.canLayAll0 (ns.map PyData.int) = true
  | [] => by (simp [PyData.canLayAll0])
  | _ :: r => by simp [PyData.canLayAll0, PyData.canLay0, clA_ints r]
theorem dA_ints : ∀ ns : List Int, PyData.depthAll (ns.map PyData.int) = 0
  | [] => rfl
  | _ :: r => by simp [PyData.depthAll, PyData.depth, dA_ints r]
theorem shaped_intsQ (ns : List Int) : SeqAt.shaped (.list (ns.map PyData.int)) = true := by
  simp [SeqAt.shaped, PyData.canLay0, PyData.depth, clA_ints, dA_ints]
theorem clA_bools : ∀ ns : List Bool, PyData.canLayAll0 (ns.map PyData.bool) = true
  | [] => by (simp [PyData.canLayAll0])
  | _ :: r => by simp [PyData.canLayAll0, PyData.canLay0, clA_bools r]
theorem dA_bools : ∀ ns : List Bool, PyData.depthAll (ns.map PyData.bool) = 0
  | [] => rfl
  | _ :: r => by simp [PyData.depthAll, PyData.depth, dA_bools r]
theorem shaped_bools (ns : List Bool) : SeqAt.shaped (.list (ns.map PyData.bool)) = true := by
  simp [SeqAt.shaped, PyData.canLay0, PyData.depth, clA_bools, dA_bools]
def cellAt (xs : List Int) (k : Nat) : Int := if k < xs.length then xs.getD k 0 else if xs = [] then (k : Int) * 48271 else ((xs.getD (k % xs.length) 0 + k) * 48271).fmod 2147483647
theorem scCell : FnScope ["_law_script", "_law_k"] ["_law_script", "_law_k"] (defScope sCell) := ⟨rfl, rfl, rfl, by decide +kernel, rfl, by decide +kernel, by decide +kernel⟩
section
variable {P : Program} {w : World} {K : PySem.W.Frag} {mg : Str → Option Value} {base : Heap}
def spCell (K : PySem.W.Frag) : Sp := fun vs H Q _ => ∃ (p : Addr) (xs : List Int) (k : Nat), vs = [.ref p, .int (k : Int)] ∧ SqL K H p (xs.map V.int) ∧ k ≤ 100000 ∧ ∀ H', Same H H' → Q (.int (cellAt xs k)) H'
theorem ok_cell {f : Addr} {fd : FuncData} {j : Nat} (F : Fun K "_law_cell_at" "_law_cell_at" sCell f fd) (m1 : mg "len" = none) : FnOk P w K mg base CX0 (j + 1) f fd ["_law_script", "_law_k"] (K9.spCell K) := by
  refine F.ok scCell (fun vs H Q E h => ?_) (fun cdv A outer s H vs Q E hr h => ?_)
  · obtain ⟨p, xs, k, rfl, _⟩ := h
    rfl
  · obtain ⟨p, xs, k, rfl, hp, hk, q⟩ := h
    refine ⟨_, pss_cons (ps_if (pt_cmpR op_lt (pv 1) (pe_callB call_len_seq (by rfl) m1 PySem.boot_len (pa_cons (pv 0) pa_nil)) (nomark _)) (pss_one (ps_ret (pe_ix ix_list (pv 0) (pv 1) (fun _ _ => rfl)))) pss_nil)
      (pss_cons (ps_if (pt_cmpR (op_eqD hr.units) (pv 0) (pe_lst pa_nil) (nomark _)) (pss_one (ps_ret (pe_op op_mul (pv 1) pe_int))) pss_nil)
      (pss_one (ps_ret (pe_op op_modN (pe_op op_mul (pe_op op_add (pe_ix ix_list (pv 0) (pe_op op_modN (pv 1) (pe_callB call_len_seq (by rfl) m1 PySem.boot_len (pa_cons (pv 0) pa_nil))) (fun _ _ => rfl)) (pv 1)) pe_int) pe_int)))), ?_⟩
    refine ⟨_, rfl, _, rfl, p, _, rfl, .inl hp, _, _, rfl, rfl, _, rfl, ite2 (fun e => ?_) (fun e => ?_)⟩
    · have hlt : k < xs.length := by
        have := of_decide_eq_true e
        rw [List.length_map] at this
        omega
      have q' := q H (Same.refl H)
      rw [cellAt, if_pos hlt] at q'
      refine ⟨_, rfl, _, rfl, p, _, _, .int (xs.getD k 0), rfl, rfl, hp, atI_nat ?_, q'⟩
      rw [List.getElem?_map, List.getElem?_eq_getElem hlt, List.getD_eq_getElem?_getD, List.getElem?_eq_getElem hlt]
      rfl
    · have hge : ¬ k < xs.length := fun z => e (decide_eq_true (by rw [List.length_map]; omega))
      refine ⟨_, rfl, Nat.zero_le _, fun z nz => ?_⟩
      have sm : Same H (upd H z (.lst [])) := same_upd nz
      have q' := q _ sm
      rw [cellAt, if_neg hge] at q'
      refine ⟨_, _, .lst (sm.seq hp) (dp_ints xs), .lst (ds := []) (.inl (.inl upd_same)) .nil, shaped_intsQ xs, shaped_intsQ [], ?_⟩
      have ee : PyData.eqv (.list (xs.map .int)) (.list []) = decide (xs = []) := eqv_ints xs []
      rw [ee]
      refine ⟨_, rfl, ite2 (fun e2 => ?_) (fun e2 => ?_)⟩
      · have : xs = [] := of_decide_eq_true e2
        rw [if_pos this] at q'
        exact ⟨_, rfl, _, _, rfl, rfl, .inl ⟨by omega, by omega⟩, q'⟩
      · have hne : ¬ xs = [] := fun z => e2 (decide_eq_true z)
        rw [if_neg hne] at q'
        have hpos : 0 < xs.length := List.length_pos_iff.mpr hne
        have hm : k % xs.length < xs.length := Nat.mod_lt _ hpos
        have em : (k : Int).fmod ((xs.map V.int).length : Int) = ((k % xs.length : Nat) : Int) := by
          rw [List.length_map, Int.fmod_eq_emod_of_nonneg _ (by omega)]
          rfl
        refine ⟨_, rfl, _, rfl, _, rfl, p, _, rfl, .inl (sm.seq hp), _, _, rfl, rfl, by rw [List.length_map]; omega, p, _, _, .int (xs.getD (k % xs.length) 0), rfl, rfl, sm.seq hp, (by rw [em]; exact atI_nat (by
          rw [List.getElem?_map, List.getElem?_eq_getElem hm, List.getD_eq_getElem?_getD, List.getElem?_eq_getElem hm]
          rfl)), _, rfl, _, _, rfl, rfl, _, _, rfl, rfl, .inr ⟨by decide, by decide⟩, _, _, rfl, rfl, (by show (2147483647 : Int) ≠ 0; decide), q'⟩
end
/-! ### _law_numbers -/
def InLims (ds lims : List Int) : Prop := ds.length ≤ lims.length ∧ ∀ (j : Nat) (d l : Int), ds[j]? = some d → lims[j]? = some l → 0 ≤ d ∧ d < l
theorem fmod_in {a l : Int} (h : 0 < l) : 0 ≤ a.fmod l ∧ a.fmod l < l := by
  rw [Int.fmod_eq_emod_of_nonneg _ (Int.le_of_lt h)]
  exact ⟨Int.emod_nonneg _ (by omega), Int.emod_lt_of_pos _ h⟩
theorem InLims.snoc {ds lims : List Int} {d l : Int} (h : InLims ds lims) (hl : lims[ds.length]? = some l) (hd : 0 ≤ d ∧ d < l) : InLims (ds ++ [d]) lims := by
  refine ⟨by have := (List.getElem?_eq_some_iff.mp hl).1; simp; omega, fun j d' l' h1 h2 => ?_⟩
  by_cases q : j < ds.length
  · rw [List.getElem?_append_left q] at h1
    exact h.2 j d' l' h1 h2
  · have e : j = ds.length := by
      have := (List.getElem?_eq_some_iff.mp h1).1
      simp at this
      omega
    subst e
    rw [List.getElem?_append_right (Nat.le_refl _)] at h1
    simp at h1
    rw [hl] at h2
    cases h2
    rw [← h1]
    exact hd
theorem scNums : FnScope ["_law_cell", "_law_limits", "_law_rest", "_law_found"] ["_law_cell", "_law_limits"] (defScope sNums) := ⟨rfl, rfl, rfl, by decide +kernel, rfl, by decide +kernel, by decide +kernel⟩
section
variable {P : Program} {w : World} {K : PySem.W.Frag} {mg : Str → Option Value} {base : Heap}
def spNums : Sp := fun vs H Q _ => ∃ (p : Addr) (c : Int) (lims : List Int), vs = [.int c, .ref p] ∧ H p = some (.lst (lims.map V.int)) ∧ lims.length ≤ 1000 ∧ (∀ l ∈ lims, 0 < l ∧ l < 1000000) ∧
  ∀ H' q ds, Same H H' → H q = none → H' q = some (.lst (ds.map V.int)) → ds.length = lims.length → InLims ds lims → Q (.ref q) H'
theorem ok_nums {f : Addr} {fd : FuncData} {j : Nat} (F : Fun K "_law_numbers" "_law_numbers" sNums f fd) (m1 : mg "int" = none) : FnOk P w K mg base CX0 (j + 1) f fd ["_law_cell", "_law_limits"] spNums := by
  refine F.ok scNums (fun vs H Q E h => ?_) (fun cdv A outer s H vs Q E hr h => ?_)
  · obtain ⟨p, c, lims, rfl, _⟩ := h
    rfl
  · obtain ⟨p, c, lims, rfl, hp, hl, hpos, q⟩ := h
    refine ⟨_, pss_cons (ps_set (i := 2) scNums.nd rfl (.inl rfl) (pv 0))
      (pss_cons (ps_if (pt_cmpR op_lt (pv 0) (pe_op op_pow pe_int pe_int) (nomark _))
        (pss_one (ps_set (i := 2) scNums.nd rfl (.inl rfl) (pe_op op_fdivN (pe_op op_pow (pe_op op_add (pe_op op_mul (pe_op op_modN (pv 0) pe_int) pe_int) pe_int) pe_int) pe_int))) pss_nil)
      (pss_cons (ps_set (i := 3) scNums.nd rfl (.inl rfl) (pe_lst pa_nil))
      (pss_cons (ps_for PassesOwn.never rfl (pi_list (pv 1)) (pg_name (i := 1) scNums.nd rfl (.inl rfl))
        (pss_cons (ps_expr (pe_bm PySem.F.plainAttrs_list PySem.F.slot_list_append PySem.F.type_list_append mt_append (pv 3) (pa_cons (pe_op op_modN (pe_callTy call_int1 (by rfl) m1 (by decide +kernel) (pa_cons (pv 2) pa_nil)) (pv 1)) pa_nil)))
        (pss_one (ps_set (i := 2) scNums.nd rfl (.inl rfl) (pe_op op_fdivN (pv 2) (pv 1))))))
      (pss_one (ps_ret (pv 3)))))), ?_⟩
    refine ⟨_, rfl, _, rfl, _, _, rfl, rfl, ⟨by decide, by decide, by decide⟩, _, _, rfl, rfl, _, rfl, ite2 (fun e => ?_) (fun e => ?_)⟩
    · have hm := fmod_in (a := c) (l := 2147483647) (by decide)
      refine ⟨_, rfl, _, _, rfl, rfl, (by show (2147483647 : Int) ≠ 0; decide), _, _, rfl, rfl, .inr ⟨by decide, by decide⟩, _, _, rfl, rfl, _, _, rfl, rfl, ⟨by decide, by decide, by omega⟩, _, _, rfl, rfl, ⟨by decide, by decide⟩, ?_⟩
      refine ⟨Nat.zero_le _, fun D nD => ?_⟩
      have hpD : (upd H D (.lst [])) p = some (.lst (lims.map V.int)) := same_upd nD _ _ hp
      refine ⟨_, rfl, p, rfl, ⟨_, .inl (.inl hpD)⟩, ?_⟩
      refine for_list (K := K) (a := p) (xs := lims.map V.int) (fun i σ H' => ∃ (y1 : Option V) (r : Int) (ds : List Int), σ = [some (.int c), y1, some (.int r), some (.ref D)] ∧ Same H H' ∧ H' D = some (.lst (ds.map V.int)) ∧ ds.length = i ∧ InLims ds lims)
        ⟨_, _, [], rfl, same_upd nD, upd_same, rfl, Nat.zero_le _, fun j d l h => by simp at h⟩ (fun i σ H' _ h => ?_) (fun i x σ H' hx h => ?_) (fun σ H' h => ?_)
      · obtain ⟨_, _, _, _, sm, _⟩ := h
        exact .inl (.inl (sm _ _ hp))
      · obtain ⟨y1, r, ds, rfl, sm, hD, hdl, hin⟩ := h
        obtain ⟨x, rfl, hx'⟩ := int_of hx
        obtain ⟨hx0, hx1⟩ := hpos x (List.mem_of_getElem? hx')
        refine ⟨.ref D, rfl, .inl ⟨rfl, _, .inl (.inl hD)⟩, .int r, rfl, .inl ⟨r, rfl, .int x, rfl, _, _, rfl, rfl, (by omega), D, _, _, rfl, rfl, hD, ?_, ?_⟩⟩
        · rw [List.length_map]
          exact small1000 (by have := (List.getElem?_eq_some_iff.mp hx').1; omega)
        · refine ⟨.int r, rfl, .int x, rfl, _, _, rfl, rfl, ⟨(by omega), (by omega)⟩, some (.int x), r.fdiv x, ds ++ [r.fmod x], rfl, same_put sm nD, ?_, by simp [hdl], hin.snoc (by rw [hdl]; exact hx') (fmod_in hx0)⟩
          rw [upd_same, List.map_append]
          rfl
      · obtain ⟨y1, r, ds, rfl, sm, hD, hdl, hin⟩ := h
        rw [List.length_map] at hdl
        exact ⟨.ref D, rfl, q H' D ds sm nD hD hdl hin⟩
    · refine ⟨Nat.zero_le _, fun D nD => ?_⟩
      have hpD : (upd H D (.lst [])) p = some (.lst (lims.map V.int)) := same_upd nD _ _ hp
      refine ⟨_, rfl, p, rfl, ⟨_, .inl (.inl hpD)⟩, ?_⟩
      refine for_list (K := K) (a := p) (xs := lims.map V.int) (fun i σ H' => ∃ (y1 : Option V) (r : Int) (ds : List Int), σ = [some (.int c), y1, some (.int r), some (.ref D)] ∧ Same H H' ∧ H' D = some (.lst (ds.map V.int)) ∧ ds.length = i ∧ InLims ds lims)
        ⟨_, _, [], rfl, same_upd nD, upd_same, rfl, Nat.zero_le _, fun j d l h => by simp at h⟩ (fun i σ H' _ h => ?_) (fun i x σ H' hx h => ?_) (fun σ H' h => ?_)
      · obtain ⟨_, _, _, _, sm, _⟩ := h
        exact .inl (.inl (sm _ _ hp))
      · obtain ⟨y1, r, ds, rfl, sm, hD, hdl, hin⟩ := h
        obtain ⟨x, rfl, hx'⟩ := int_of hx
        obtain ⟨hx0, hx1⟩ := hpos x (List.mem_of_getElem? hx')
        refine ⟨.ref D, rfl, .inl ⟨rfl, _, .inl (.inl hD)⟩, .int r, rfl, .inl ⟨r, rfl, .int x, rfl, _, _, rfl, rfl, (by omega), D, _, _, rfl, rfl, hD, ?_, ?_⟩⟩
        · rw [List.length_map]
          exact small1000 (by have := (List.getElem?_eq_some_iff.mp hx').1; omega)
        · refine ⟨.int r, rfl, .int x, rfl, _, _, rfl, rfl, ⟨(by omega), (by omega)⟩, some (.int x), r.fdiv x, ds ++ [r.fmod x], rfl, same_put sm nD, ?_, by simp [hdl], hin.snoc (by rw [hdl]; exact hx') (fmod_in hx0)⟩
          rw [upd_same, List.map_append]
          rfl
      · obtain ⟨y1, r, ds, rfl, sm, hD, hdl, hin⟩ := h
        rw [List.length_map] at hdl
        exact ⟨.ref D, rfl, q H' D ds sm nD hD hdl hin⟩
end
end K9

namespace K9
open PySem PySem.Spec PyProof.Rows L2
open PySem.Calls
/-! ### bytes.fromhex(text) of a text that bytes have -/
abbrev dg : Nat → Nat := PySem.Builtin.Bytes.hexDigit
def sg (ks : List Nat) : List Nat := ks.flatMap fun k => [dg (k / 16), dg (k % 16)]
theorem hex_key {f : Nat → Nat → List Nat → Array UInt8 → Except Nat (Array UInt8)} (e0 : ∀ n i out, f n i [] out = .ok out)
    (e1 : ∀ (a b : Fin 16) n i rest out, f (n + 1) i (dg a.1 :: dg b.1 :: rest) out = f n (i + 2) rest (out.push (a.1 * 16 + b.1).toUInt8)) :
    ∀ (ks : List Nat) (n i : Nat) (out : Array UInt8), (∀ k ∈ ks, k < 256) → ks.length ≤ n → f n i (sg ks) out = .ok (out ++ (ks.map Nat.toUInt8).toArray)
  | [], n, i, out, _, _ => by
    show f n i [] out = _
    rw [e0]
    simp
  | k :: ks, 0, i, out, _, hn => by simp at hn
  | k :: ks, n + 1, i, out, hk, hn => by
    have k0 : k < 256 := hk k (by simp)
    have h1 : k / 16 < 16 := by omega
    have h2 : k % 16 < 16 := by omega
    show f (n + 1) i (dg (k / 16) :: dg (k % 16) :: sg ks) out = _
    rw [e1 ⟨k / 16, h1⟩ ⟨k % 16, h2⟩, hex_key e0 e1 ks n (i + 2) _ (fun k m => hk k (by simp [m])) (by simpa using hn)]
    have e : k / 16 * 16 + k % 16 = k := by omega
    simp [e]
theorem sg_len : ∀ ks : List Nat, (sg ks).length = 2 * ks.length
  | [] => rfl
  | k :: ks => by
    show ([dg (k / 16), dg (k % 16)] ++ sg ks).length = _
    rw [List.length_append, sg_len ks, List.length_cons]
    simp
    omega
theorem dg_lt (n : Nat) (h : n < 16) : dg n < 128 := by
  have : ∀ m : Fin 16, dg m.1 < 128 := by decide +kernel
  exact this ⟨n, h⟩
theorem sg_lt : ∀ {ks : List Nat}, (∀ k ∈ ks, k < 256) → ∀ c ∈ sg ks, c < 128
  | [], _, c, h => by (cases h)
  | k :: ks, hk, c, h => by
    have k0 : k < 256 := hk k (by simp)
    have h' : c ∈ [dg (k / 16), dg (k % 16)] ++ sg ks := h
    rcases (List.mem_append.mp h') with (q | q)
    · simp at q
      rcases q with rfl | rfl
      · exact dg_lt _ (by omega)
      · exact dg_lt _ (by omega)
    · exact sg_lt (fun k m => hk k (by simp [m])) c q
/-- a method of the class bytes, bound to it -/
def fhBound : Obj := { cls := .type "builtin_function_or_method", data := .fields #[.builtin "bytes.fromhex", .type "bytes"] }
def fhHO (u : Addr) : HO := .ext fun h => h.get? u = some fhBound
theorem fh_type : typeOf (.builtin "bytes.fromhex") = pure (.type "classmethod_descriptor") := by
  show builtinType _ = _
  rw [builtinType_eq_fast]
  kernel_rfl
theorem fh_entry : entryFor table "bytes.fromhex" = some Builtin.«bytes.fromhex» := entryFor_of_tree (by kernel_rfl)
theorem fh_quiet {as : Args} : (Code.builtin "bytes.fromhex" as).quiet = true := Code.quiet_builtin _ (by decide +kernel)
theorem fh_isType : isType (.type "bytes") = pure true := by first | rfl | kernel_rfl | (unfold isType; rw [isSubtype_type]; kernel_rfl)
theorem fh_sub : isSubtype (.type "bytes") (.type "bytes") = pure true := by
  rw [isSubtype_type]
  kernel_rfl
theorem fh_owner : (kfb_private% "ownerAndName") "bytes.fromhex" = ("bytes", "fromhex") := by first | decide +kernel | kernel_rfl
theorem fh_check {o : PySem.Str} {u : Tok} : checkBoundCall "bytes.fromhex" ⟨[.type "bytes", .str o u], []⟩ = pure () := by first | kernel_rfl | rfl
section
variable {prog : Program} {w : World} {M : Model} {E : Value → Shared → Prop} {s : Shared} {A : Around} {K : PySem.W.Frag}
theorem fh_run {R : Fin → Shared → Prop} (h : R (.done (.ret (.ref s.heap.objs.size))) { s with heap := s.heap.push fhBound }) :
    wpAny M A (Builtin.«classmethod_descriptor.__get__» ⟨[.builtin "bytes.fromhex", .none, .type "bytes"], []⟩) R E s := by
  unfold Builtin.«classmethod_descriptor.__get__»
  refine wpAny_bind (wpAny_of_eq (a := (.builtin "bytes.fromhex", none, some (.type "bytes"))) (by first | rfl | kernel_rfl) ?_)
  simp only [fh_owner]
  refine wpAny_bind (wpAny_of_eq (a := .type "bytes") rfl ?_)
  refine wpAny_bind (wpAny_of_eq (a := true) fh_isType ?_)
  refine PySem.W.KFB.if_not rfl ?_
  refine wpAny_bind (wpAny_of_eq (a := true) fh_sub ?_)
  refine PySem.W.KFB.if_not rfl ?_
  exact wpAny_bind (wpAny_newObj_type (wpAny_pure h))
theorem fh_tree {ks : List Nat} {u : Tok} {R : Fin → Shared → Prop} (hk : ∀ k ∈ ks, k < 256) (hl : ks.length ≤ 1000000)
    (h : R (.done (.ret (.bytes (ks.map Nat.toUInt8).toArray s.toks))) { s with toks := s.toks + 1 }) :
    wpAny M A (Builtin.«bytes.fromhex» ⟨[.type "bytes", .str ⟨(sg ks).toArray⟩ u], []⟩) R E s := by
  unfold Builtin.«bytes.fromhex» Builtin.Bytes.fromhexM
  dsimp only
  have hno : Array.findIdx? (fun x : Nat => decide (x ≥ 128)) (sg ks).toArray = none := by
    rw [Array.findIdx?_eq_none_iff]
    intro c hc
    have := sg_lt hk c (by simpa using hc)
    exact decide_eq_false (by omega)
  refine wpAny_bind (wpAny_of_eq (a := "bytes") (by first | rfl | kernel_rfl) ?_)
  refine PySem.W.KFB.if_not rfl ?_
  refine wpAny_bind (wpAny_of_eq (a := some ⟨(sg ks).toArray⟩) rfl ?_)
  dsimp only
  rw [hno]
  dsimp only
  split
  all_goals
    rename_i v heq
    have z := (hex_key (by intro n i out; cases n <;> rfl) (by
      intro a b n i rest out
      obtain ⟨a, ha⟩ := a
      obtain ⟨b, hb⟩ := b
      have ea : a = 0 ∨ a = 1 ∨ a = 2 ∨ a = 3 ∨ a = 4 ∨ a = 5 ∨ a = 6 ∨ a = 7 ∨ a = 8 ∨ a = 9 ∨ a = 10 ∨ a = 11 ∨ a = 12 ∨ a = 13 ∨ a = 14 ∨ a = 15 := by omega
      have eb : b = 0 ∨ b = 1 ∨ b = 2 ∨ b = 3 ∨ b = 4 ∨ b = 5 ∨ b = 6 ∨ b = 7 ∨ b = 8 ∨ b = 9 ∨ b = 10 ∨ b = 11 ∨ b = 12 ∨ b = 13 ∨ b = 14 ∨ b = 15 := by omega
      rcases ea with rfl | rfl | rfl | rfl | rfl | rfl | rfl | rfl | rfl | rfl | rfl | rfl | rfl | rfl | rfl | rfl <;>
        (rcases eb with rfl | rfl | rfl | rfl | rfl | rfl | rfl | rfl | rfl | rfl | rfl | rfl | rfl | rfl | rfl | rfl <;> rfl)) ks (sg ks).toArray.size 0 #[] hk (by simp [sg_len]; omega)).symm.trans heq
  · cases z
  · have e := Except.ok.inj z
    rw [← e]
    refine PySem.W.KFB.if_so (by decide +kernel) ?_
    refine wpAny_bind (wpAny_mkBytes ?_ ?_)
    · rw [Array.empty_append]
      exact wpAny_pure h
    · have hz := PySem.sizeLine_eq
      simp
      omega
theorem fh_call {x : Addr} {ks : List Nat} {u : Tok} {Q : Value → Shared → Prop} (ho : s.heap.get? x = some fhBound) (hk : ∀ k ∈ ks, k < 256) (hl : ks.length ≤ 1000000)
    (h : Q (.bytes (ks.map Nat.toUInt8).toArray s.toks) { s with toks := s.toks + 1 }) : wpAny (model prog w) A (call (.ref x) [.str ⟨(sg ks).toArray⟩ u]) Q E s := by
  refine wpAny_call (codeAny_of_tree ?_)
  show wpAny _ A.in1 (callAny (.ref x) ⟨[.str ⟨(sg ks).toArray⟩ u], []⟩) _ _ s
  simp only [callAny]
  refine wpAny_bind (wpAny_load ho ?_)
  simp only [fhBound, show (Value.type "builtin_function_or_method" == Value.type "method" || Value.type "builtin_function_or_method" == Value.type "builtin_function_or_method" || Value.type "builtin_function_or_method" == Value.type "method-wrapper") = true by decide, if_true]
  refine PySem.W.KFB.if_so (by decide) ?_
  refine wpAny_bind (wpAny_of_eq (a := ()) fh_check ?_)
  refine wpAny_bind (wpAny_pure (wpAny_pure ?_))
  exact ⟨fh_quiet, codeAny_builtin fh_entry (fh_tree hk hl h)⟩
theorem fh_fields {pos : Pos} {u : Addr} {first : List Value} {args : List (Bool × Sem Value)} {Q : Value → Shared → Prop} (hplain : args.any (·.1) = false)
    (h : wpAny M A (evalArgs (.ref u) true args []) (fun x s₁ => s₁.heap.get? u = some fhBound ∧ wpAny M A (call (.ref u) (first ++ x.pos) x.kw) Q E s₁) E s) :
    wpAny M A (callWith pos (.ref u) first args []) Q E s := by
  unfold callWith
  refine wpAny_bind (wpAny_holding (wpAny_mono h (fun x s₁ hx => ?_) fun _ _ z => z))
  refine wpAny_bind (wpAny_standAt ?_)
  simp only [hplain, List.any_nil, Bool.or_false]
  refine wpAny_bind (m := keeperOf (.ref u)) ?_
  unfold keeperOf
  refine wpAny_bind (wpAny_load hx.1 ?_)
  simp only [fhBound, show (Value.type "builtin_function_or_method" != Value.type "method") = true by decide, show (Value.type "builtin_function_or_method" == Value.type "builtin_function_or_method" || Value.type "builtin_function_or_method" == Value.type "method-wrapper") = true by decide, if_true]
  refine wpAny_pure ?_
  exact wpAny_bind (wpAny_mono hx.2 (fun r s₂ hr => wpAny_bind (wpAny_holding (wpAny_point (wpAny_pure hr)))) fun _ _ z => z)
theorem fh_with {pos : Pos} {u : Addr} {first : List Value} {env : Env} {e : Expr} {rest : List Expr} {Q : Value → Shared → Prop}
    (h : wpAny M A (spliced (backTo pos (starEach (e :: rest) env))) (fun vs s₁ => s₁.heap.get? u = some fhBound ∧ wpAny M A (call (.ref u) (first ++ vs)) Q E s₁) E s)
    (he : starEach (e :: rest) env = (false, eval e env) :: starEach rest env := by rfl) (hplain : (backTo pos (starEach rest env)).any (·.1) = false := by rfl) :
    wpAny M A (callWith pos (.ref u) first (backTo pos (starEach (e :: rest) env)) []) Q E s := by
  rw [he] at h ⊢
  exact fh_fields (by show (false || (backTo pos (starEach rest env)).any (·.1)) = false; rw [hplain]; rfl) (Calls.evalArgs_plain h)
theorem fh_find (K : PySem.W.Frag) : PySem.W.findCls K (.type "bytes") (.type "type") (PySem.Str.ofString "fromhex") = some (.get (.builtin "classmethod_descriptor.__get__") (.builtin "bytes.fromhex") .none (.type "bytes")) := by first | rfl | kernel_rfl
theorem fh_get {pl : Sem Bool} {Q : Value × List Value → Shared → Prop} (X : K.In s.heap)
    (h : Q (.ref s.heap.objs.size, []) { s with heap := s.heap.push fhBound, toks := s.toks + 1 }) : wpAny (model prog w) A (getMethod (.type "bytes") (PySem.Str.ofString "fromhex") pl) Q E s := by
  have L0 : PySem.W.Looks (model prog w) s.heap (typeOf (.type "bytes")) (.type "type") := PySem.W.Looks.of_pure (by first | rfl | kernel_rfl)
  have LO : PySem.W.Looks (model prog w) s.heap (opaqueClassAbove (.type "bytes")) none := PySem.W.Looks.of_pure (by
    unfold opaqueClassAbove
    dsimp only
    rw [show Manifest.isStub "bytes" = false by decide +kernel]
    rfl)
  have hg : PySem.W.findIn K (.type "type") "__getattribute__" = some (some (.builtin "type.__getattribute__")) := PySem.W.type_tga
  unfold getMethod specialOf
  refine wpAny_bind (wpAny_bind (L0.here ((PySem.W.looks_findIn X hg).here ?_)))
  dsimp only
  rw [if_pos PySem.W.canon_tga]
  refine wpAny_bind (wpAny_mono (E := E) (Q := fun v => Q (v, [])) ?_ (fun _ _ z => wpAny_pure z) fun _ _ z => z)
  refine PySem.W.cls_open X LO L0 hg (PySem.W.looks_hook X (r := none) (by rfl)) (by show PySem.W.subIn K _ _ = _; rfl) (fh_find K) ?_
  show wpAny _ _ (holding [.builtin "bytes.fromhex"] (call (.builtin "classmethod_descriptor.__get__") [.builtin "bytes.fromhex", .none, .type "bytes"]) >>= fun v => ret v) _ _ _
  exact wpAny_bind (wpAny_holding (wpAny_call_entry PySem.W.KFB.slot_get fh_type PySem.W.KFB.entry_get (fh_run ⟨_, rfl, wpAny_pure (wpAny_pure h)⟩) (PySem.W.KFB.args_get _ _ _)))
end
def rFh : List V → Hp → VK → Prop := fun vs H Q => ∃ ks : List Nat, vs = [.str ⟨(sg ks).toArray⟩] ∧ (∀ k ∈ ks, k < 256) ∧ ks.length ≤ 1000000 ∧ Q (.byt (ks.map Nat.toUInt8).toArray) H
def tFh (to : TE) (t : TA) : TE := fun σ H Q => to σ H fun x H1 => x = .ty "bytes" ∧ ∀ u, H1 u = none → t σ (upd H1 u (fhHO u)) fun vs H2 => H2 u = some (fhHO u) ∧ rFh vs H2 Q
theorem fh_at {X : Cx} {pins : List (Addr × Obj)} {s : Shared} {σ : L2.St} {H : Hp} {u : Addr} (I : Inv X pins σ H s) (hu : H u = some (fhHO u)) : s.heap.get? u = some fhBound := by
  have x : ObjOk X.prog X.w H s.heap u (.ext fun h => h.get? u = some fhBound) := I.hok u _ hu
  exact x.1
section
variable {X : Cx} {o e : Expr} {es : List Expr} {to : TE} {t : TA} {apos pos : Pos}
theorem pe_fromhex {pl : Sem Bool} (ho : PE X o to) (ha : PA X (e :: es) t) (hst : starEach (e :: es) X.env = (false, eval e X.env) :: starEach es X.env := by rfl) (hpl : (backTo pos (starEach es X.env)).any (·.1) = false := by rfl)
    (ht : eval (.Call (.Attribute o "fromhex" apos) (e :: es) [] pos) X.env = (do
      let own ← eval o X.env
      standAt apos.atName
      let (f, first) ← holding [own] (getMethod own "fromhex" pl)
      callWith pos f first (backTo pos (starEach (e :: es) X.env)) (backToKw pos (keywordEach [] X.env))) := by rfl) :
    PE X (.Call (.Attribute o "fromhex" apos) (e :: es) [] pos) (tFh to t) := by
  constructor
  intro pins s σ H Q I h
  refine PySem.W.methodCall_KW (pl := pl) (thn (ho.run pins s σ H _ I h) fun v s1 ⟨x, H1, I1, rx, ex, q⟩ => ?_) ht
  subst ex
  obtain rfl : v = Value.type "bytes" := rx
  refine fh_get I1.kIn ?_
  have eb : (s1.heap.push fhBound).get? s1.heap.objs.size = some fhBound := Heap.get?_push_size _ rfl
  have I2 := I1.laid (t' := s1.toks + 1) (a := s1.heap.objs.size) (o := fhHO s1.heap.objs.size) (h' := s1.heap.push fhBound) (fun b u q => Heap.get?_push_of_some _ q) (Nat.le_refl _) ⟨eb, ⟨_, eb⟩, fun h1 h2 f k => k _ f⟩
  show wpAny _ _ (callWith pos (.ref s1.heap.objs.size) [] (backTo pos (starEach (e :: es) X.env)) []) _ _ _
  refine fh_with (thn (ha.run pos pins _ σ _ _ I2 (q _ (I1.hok.fresh (Nat.le_refl _)))) fun us s2 ⟨vs, H2, I3, rv, hu, ks, ev, hk, hl, qq⟩ => ⟨fh_at I3 hu, ?_⟩) hst hpl
  subst ev
  obtain ⟨u1, rfl, ru1⟩ := (vals1 rv)
  obtain ⟨t1, rfl⟩ := ru1
  exact fh_call (fh_at I3 hu) hk hl ⟨.byt _, H2, I3.tok _, ⟨_, rfl⟩, qq⟩
/-! ### b.hex() -/
theorem mt_hex : MtR X "bytes.hex" (fun x vs H Q => ∃ ks : List Nat, x = .byt (ks.map Nat.toUInt8).toArray ∧ vs = [] ∧ (∀ k ∈ ks, k < 256) ∧ ks.length ≤ 1000000 ∧ Q (.str ⟨(sg ks).toArray⟩) H) := by
  intro pins s σ H x vs v us Q I rx rv h
  obtain ⟨ks, rfl, rfl, hk, hl, q⟩ := h
  obtain ⟨t, rfl⟩ := rx
  cases rv
  have hb : PySem.W.KBw.bInts (ks.map Nat.toUInt8).toArray = ks.map fun (k : Nat) => (k : Int) := by
    unfold PySem.W.KBw.bInts
    show ((ks.map Nat.toUInt8).map fun c : UInt8 => ((c.toNat : Nat) : Int)) = _
    rw [List.map_map]
    refine (List.map_congr_left fun n hn => ?_)
    show (((n.toUInt8).toNat : Nat) : Int) = n
    have := hk n hn
    simp [Nat.toUInt8]
    omega
  have ht : PySem.W.KBhx.text (ks.map fun (k : Nat) => (k : Int)) = ⟨(sg ks).toArray⟩ := by
    unfold PySem.W.KBhx.text PySem.W.KBhx.signs sg
    rw [List.flatMap_map]
    rfl
  refine PySem.W.KBhx.hex_K hb (by rw [List.length_map]; omega) fun t' k _ => ?_
  rw [ht]
  exact ⟨.str _, H, I.tok _, ⟨_, rfl⟩, q⟩
end
end K9

namespace K9
open PySem PySem.Spec PyProof.Rows L2
/-! ### of_hex, hex_of -/
def sgS (ks : List Nat) : Str := ⟨(sg ks).toArray⟩
def byB (ks : List Nat) : Array UInt8 := (ks.map Nat.toUInt8).toArray
def hexTab : Str := "0123456789abcdef"
theorem dg_in {n : Nat} (h : n < 16) : dg n ∈ hexTab.cps.toList := by
  have : ∀ m : Fin 16, dg m.1 ∈ hexTab.cps.toList := by decide +kernel
  exact this ⟨n, h⟩
theorem sg_in : ∀ {ks : List Nat}, (∀ k ∈ ks, k < 256) → ∀ c ∈ sg ks, c ∈ hexTab.cps.toList
  | [], _, c, h => by (cases h)
  | k :: ks, hk, c, h => by
    have k0 : k < 256 := hk k (by simp)
    have h' : c ∈ [dg (k / 16), dg (k % 16)] ++ sg ks := h
    rcases (List.mem_append.mp h') with (q | q)
    · simp at q
      rcases q with rfl | rfl
      · exact dg_in (by omega)
      · exact dg_in (by omega)
    · exact sg_in (fun k m => hk k (by simp [m])) c q
theorem scOfHex : FnScope ["text", "sign"] ["text"] (defScope sOfHex) := ⟨rfl, rfl, rfl, by decide +kernel, rfl, by decide +kernel, by decide +kernel⟩
section
variable {P : Program} {w : World} {K : PySem.W.Frag} {mg : Str → Option Value} {base : Heap}
def spOfHex : Sp := fun vs H Q _ => ∃ ks : List Nat, vs = [.str (sgS ks)] ∧ (∀ k ∈ ks, k < 256) ∧ ks.length ≤ 100000 ∧ ∀ H', Same H H' → Q (.byt (byB ks)) H'
theorem ok_ofHex {f : Addr} {fd : FuncData} {j : Nat} {t : Tok} (F : Fun K "of_hex" "of_hex" sOfHex f fd) (m1 : mg "isinstance" = none) (m2 : mg "str" = none) (m3 : mg "len" = none) (m4 : mg "all" = none) (m5 : mg "bytes" = none) (c1 : mg "SIGNS" = some (.str hexTab t)) :
    FnOk P w K mg base CX0 (j + 1) f fd ["text"] spOfHex := by
  refine F.ok scOfHex (fun vs H Q E h => ?_) (fun cdv A outer s H vs Q E hr h => ?_)
  · obtain ⟨ks, rfl, _⟩ := h
    rfl
  · obtain ⟨ks, rfl, hk, hl, q⟩ := h
    refine ⟨_, pss_cons (ps_if (PW.pt (pw_or (pt_not (pt_val (pe_callB call_isi (by rfl) m1 (by decide +kernel) (pa_cons (pv 0) (pa_cons (pe_bltn (v := .ty "str") (by rfl) m2 (by decide +kernel) rfl) pa_nil)))))
        (pw_or (pt_truth (pe_op op_and (pe_callB call_len_str (by rfl) m3 PySem.boot_len (pa_cons (pv 0) pa_nil)) pe_int) (by intro _; rfl))
        (pw_or1 (pt_not (pt_val (pe_callB (cr_all rfl) (by rfl) m4 (by decide +kernel) (pa_cons (pe_lc (own := [("sign", 1)]) (g := gName 1) (tt := tYes) rfl scOfHex.nd (pi_str (pv 0)) (blkOk_by (N := ["text", "sign"]) (sc := defScope sOfHex) (by decide +kernel))
          (fun _ _ _ _ _ => pg_name (i := 1) scOfHex.nd rfl (Or.inl rfl)) (fun _ _ _ _ _ => pts_nil)
          (fun _ _ _ _ _ => pe_cmpR op_in_sign (pv 1) (pe_glob (v := .str hexTab) rfl c1 ⟨_, rfl⟩) (by with_unfolding_all rfl))) pa_nil))))))))
        (pss_one ps_never) pss_nil)
      (pss_one (ps_ret (pe_fromhex (pe_bltn (v := .ty "bytes") (by rfl) m5 (by decide +kernel) rfl) (pa_cons (pv 0) pa_nil)))), ?_⟩
    have hsz : (sgS ks).length = 2 * ks.length := sg_len ks
    have hz := PySem.sizeLine_eq
    refine ⟨_, rfl, _, _, _, _, _, rfl, .ty "str", .base (.str _), kit_ty (a := "str") (r := true) (by decide +kernel), _, rfl, ?_⟩
    refine iteF ?_
    refine ⟨_, rfl, _, rfl, by rw [hsz, hz]; omega, _, _, rfl, rfl, _, rfl, ?_⟩
    have hev : Builtin.bitAnd (((sgS ks).length : Nat) : Int) 1 = 0 := by
      rw [PyProof.Rows.bitAnd_m1, hsz]
      omega
    rw [hev]
    refine iteF ?_
    refine ⟨_, rfl, _, rfl, fun D nD => ?_⟩
    refine lc_it (walk_str (z := sgS ks)) (fun i H' => Same H H' ∧ H' D = some (.lst (List.replicate i (.bl true)))) ⟨same_upd nD, upd_same⟩ (fun _ _ _ _ => trivial) (fun i x H1 H2 hi h y => ?_) (fun H' h => ?_)
    · obtain ⟨rfl, c, hc, rfl⟩ := y
      refine ⟨rfl, yes ?_⟩
      have hcs : c ∈ sg ks := by
        have := Array.mem_of_getElem? hc
        simpa [sgS] using this
      refine ⟨_, rfl, c, hexTab, rfl, rfl, _, h.2, ?_, same_put h.1 nD, ?_⟩
      · rw [List.length_replicate]
        have : (sgS ks).cps.size = 2 * ks.length := hsz
        omega
      · rw [upd_same, decide_eq_true (sg_in hk c hcs), List.replicate_succ']
    · have hall : (List.replicate (sgS ks).cps.size true).all id = true := by simp
      refine ⟨D, List.replicate (sgS ks).cps.size true, rfl, .inl (.inl (by rw [h.2, List.map_replicate])), _, rfl, ?_⟩
      rw [hall]
      refine iteF ?_
      refine ⟨rfl, fun u nu => ⟨_, rfl, upd_same, ks, rfl, hk, by omega, ?_⟩⟩
      exact q _ (same_put h.1 (none_back h.1 nu))
end
end K9

namespace K9
open PySem PySem.Spec PyProof.Rows L2 TL
section
variable {X : Cx} {o : Expr} {to : TE}
def tB0 (r : V → List V → Hp → VK → Prop) (to : TE) : TE := fun σ H Q => to σ H fun x H1 => (∃ b, x = .byt b) ∧ r x [] H1 Q
theorem pe_b0 {id : String} {name : Str} {apos pos : Pos} {r : V → List V → Hp → VK → Prop} (slot : Slot "bytes" name id) (ty : typeOf (.builtin id) = pure (.type "method_descriptor")) (rule : MtR X id r) (ho : PE X o to)
    (hbase : attributeBase o name X.env (eval o X.env) = eval o X.env := by rfl) (hline : (apos.endLine == pos.line) = true := by rfl) : PE X (.Call (.Attribute o name apos) [] [] pos) (tB0 r to) := by
  constructor
  intro pins s σ H Q I h
  refine PySem.Call_method0 hbase hline (thn (ho.run pins s σ H _ I h) fun v s1 ⟨x, H1, I1, r1, ⟨b, eb⟩, q1⟩ => ?_)
  subst eb
  obtain ⟨t, rfl⟩ := _root_.id r1
  exact ⟨"bytes", _, PySem.W.FB.plainAttrs_bytes, slot, ty, PySem.W.typeIs_bytes _ _ _, (fun _ e => nomatch e), Calls.callWith_builtin rfl (PySem.evalArgs_none (rule pins s1 σ H1 _ [] _ [] Q I1 r1 .nil q1))⟩
end
section
variable {P : Program} {w : World} {K : PySem.W.Frag} {mg : Str → Option Value} {base : Heap}
/-! ### _law_hex -/
theorem scHex : FnScope ["_law_numbers_here", "_law_one"] ["_law_numbers_here"] (defScope sHex) := ⟨rfl, rfl, rfl, by decide +kernel, rfl, by decide +kernel, by decide +kernel⟩
theorem tab_at {n : Nat} (h : n < 16) : atI hexTab.cps.toList ((n : Nat) : Int) = some (dg n) := by
  have : ∀ m : Fin 16, hexTab.cps.toList[m.1]? = some (dg m.1) := by decide +kernel
  exact atI_nat (this ⟨n, h⟩)
def two (k : Nat) : Str := ⟨#[dg (k / 16)]⟩ ++ ⟨#[dg (k % 16)]⟩
theorem joinL_nil : ∀ ls : List (List Nat), joinL [] ls = ls.flatten
  | [] => rfl
  | [p] => by simp [joinL]
  | p :: q :: r => by
    show p ++ ([] ++ joinL [] (q :: r)) = _
    rw [joinL_nil (q :: r)]
    rfl
theorem join_two (ks : List Nat) : Txt.join "" (ks.map two) = sgS ks := by
  refine (List.cons.inj (map_tl_inj (l := [_]) (m := [_]) ?_)).1
  rw [List.map_singleton, List.map_singleton, join_eq, tl_join]
  show [joinL [] ((ks.map two).map tl)] = [(sg ks)]
  rw [joinL_nil, List.map_map]
  congr 1
def spHex : Sp := fun vs H Q _ => ∃ (p : Addr) (ks : List Nat), vs = [.ref p] ∧ H p = some (.lst (ks.map fun (k : Nat) => V.int (k : Int))) ∧ (∀ k ∈ ks, k < 256) ∧ ks.length ≤ 100000 ∧ ∀ H', Same H H' → Q (.str (sgS ks)) H'
theorem ok_hex {f : Addr} {fd : FuncData} {j : Nat} (F : Fun K "_law_hex" "_law_hex" sHex f fd) (m1 : mg "int" = none) : FnOk P w K mg base CX0 (j + 1) f fd ["_law_numbers_here"] spHex := by
  refine F.ok scHex (fun vs H Q E h => ?_) (fun cdv A outer s H vs Q E hr h => ?_)
  · obtain ⟨p, ks, rfl, _⟩ := h
    rfl
  · obtain ⟨p, ks, rfl, hp, hk, hl, q⟩ := h
    refine ⟨_, pss_one (ps_ret (pe_join pe_str (pe_lc (own := [("_law_one", 1)]) (g := gName 1) (tt := tYes) rfl scHex.nd (pi_list (pv 0)) (blkOk_by (N := ["_law_numbers_here", "_law_one"]) (sc := defScope sHex) (by decide +kernel))
        (fun _ _ _ _ _ => pg_name (i := 1) scHex.nd rfl (Or.inl rfl)) (fun _ _ _ _ _ => pts_nil)
        (fun _ _ _ _ _ => pe_op op_add_str (pe_ix ix_str pe_str (pe_op op_fdivN (pv 1) pe_int) (fun _ _ => rfl)) (pe_ix ix_str pe_str (pe_op op_modN (pe_callTy call_int1 (by rfl) m1 (by decide +kernel) (pa_cons (pv 1) pa_nil)) pe_int) (fun _ _ => rfl)))))), ?_⟩
    refine ⟨⟨_, rfl⟩, _, rfl, p, rfl, ⟨_, .inl (.inl hp)⟩, fun D nD => ?_⟩
    have hz := PySem.sizeLine_eq
    refine lc_list (K := K) (a := p) (xs := ks.map fun (k : Nat) => V.int (k : Int)) (fun i H' => Same H H' ∧ H' D = some (.lst (((ks.take i).map two).map V.str))) ⟨same_upd nD, upd_same⟩ (fun i H' _ h => .inl (.inl (h.1 _ _ hp))) (fun i x H1 hx h => ?_) (fun H1 h => ?_)
    · obtain ⟨k, hk', rfl⟩ : ∃ k, ks[i]? = some k ∧ x = V.int (k : Int) := by
        rw [List.getElem?_map] at hx
        cases e : ks[i]? with
        | none => (rw [e] at hx); (cases hx)
        | some k => rw [e] at hx; exact ⟨k, rfl, (Option.some.inj hx).symm⟩
      have k0 := hk k (List.mem_of_getElem? hk')
      have e1 : ((k : Nat) : Int).fdiv 16 = ((k / 16 : Nat) : Int) := by
        rw [Int.fdiv_eq_ediv_of_nonneg _ (by decide)]
        rfl
      have e2 : ((k : Nat) : Int).fmod 16 = ((k % 16 : Nat) : Int) := by
        rw [Int.fmod_eq_emod_of_nonneg _ (by decide)]
        rfl
      refine ⟨rfl, yes ?_⟩
      refine ⟨_, rfl, _, _, rfl, rfl, ⟨by decide, by decide⟩, hexTab, _, dg (k / 16), rfl, rfl, (by rw [hz]; decide), (by rw [e1]; exact tab_at (by omega)), ?_⟩
      refine ⟨_, rfl, .inl ⟨_, rfl, _, _, rfl, rfl, (by show (16 : Int) ≠ 0; decide), hexTab, _, dg (k % 16), rfl, rfl, (by rw [hz]; decide), (by rw [e2]; exact tab_at (by omega)), ?_⟩⟩
      refine ⟨_, _, rfl, rfl, (by rw [hz]; show 1 + 1 ≤ 16777216; decide), _, h.2, ?_, same_put h.1 nD, ?_⟩
      · rw [List.length_map, List.length_map, List.length_take]
        omega
      · rw [upd_same, List.take_add_one, hk', List.map_append, List.map_append]
        rfl
    · have e : ks.take (ks.map fun (k : Nat) => V.int (k : Int)).length = ks := by rw [List.length_map, List.take_length]
      rw [e] at h
      have hsum : ((ks.map two).map (·.length)).sum = 2 * ks.length := by
        rw [List.map_map]
        have : ((fun x : Str => x.length) ∘ two) = fun _ => 2 := by
          funext k
          rfl
        rw [this]
        clear this h e hp hk q hl
        induction ks with
        | nil => rfl
        | cons k ks ih =>
          rw [List.map_cons, List.sum_cons, ih, List.length_cons]
          omega
      refine ⟨_, D, ks.map two, rfl, rfl, .inl (.inl (.inl h.2)), ?_, ?_⟩
      · rw [hsum, List.length_map]
        show 2 * ks.length + ks.length * 0 ≤ _
        omega
      · rw [join_two]
        exact q H1 h.1
end
end K9

namespace K9
open PySem PySem.Spec PyProof.Rows L2
/-! ### _law_back -/
section
variable {P : Program} {w : World} {K : PySem.W.Frag} {mg : Str → Option Value} {base : Heap}
def spBack : Sp := fun vs H Q _ => ∃ b : Nat, vs = [.int (b : Int)] ∧ 1 ≤ b ∧ b ≤ 5000 ∧ Q (.int ((Nat.log2 b : Nat) : Int)) H
end
end K9

namespace K9
open PySem PySem.Spec PyProof.Rows L2
/-! ### _law_told_lengths -/
def toldL : List Int := List.replicate 239 8 ++ List.replicate 34 9
def toldB : List Int := List.replicate 6 4 ++ List.replicate 5 3
theorem rep_flat (n : Nat) (x : V) : (List.replicate n [x]).flatten = List.replicate n x := by
  induction n with
  | zero => rfl
  | succ n ih => rw [List.replicate_succ, List.flatten_cons, ih, List.replicate_succ]; rfl
theorem half {σ : L2.St} {H : Hp} {Q : VK} (x1 x2 : V) (n1 n2 : Nat) (h1 : n1 ≤ 1000) (h2 : n2 ≤ 1000)
    (h : ∀ H' p, Same H H' → H p = none → H' p = some (.lst (List.replicate n1 x1 ++ List.replicate n2 x2)) → Q (.ref p) H') :
    tOp rCat (tOp rRep (tLst (tCons (tC x1) tNil)) (tC (V.int (n1 : Int)))) (tOp rRep (tLst (tCons (tC x2) tNil)) (tC (V.int (n2 : Int)))) σ H Q := by
  have hz := PySem.sizeLine_eq
  refine ⟨by show 1 ≤ sizeLine; rw [hz]; decide, fun a na => ⟨_, _, _, rfl, rfl, upd_same, by omega, by omega, by rw [hz]; simp; omega, fun b nb => ⟨by show 1 ≤ sizeLine; rw [hz]; decide, fun a2 na2 => ⟨_, _, _, rfl, rfl, upd_same, by omega, by omega, by rw [hz]; simp; omega, fun b2 nb2 => ?_⟩⟩⟩⟩
  rw [Int.toNat_natCast, Int.toNat_natCast, rep_flat, rep_flat] at *
  have s1 : Same H (upd H a (.lst [x1])) := same_upd na
  generalize upd H a (.lst [x1]) = H1 at *
  have s2 : Same H1 (upd H1 b (.lst (List.replicate n1 x1))) := same_upd nb
  have e2 : (upd H1 b (.lst (List.replicate n1 x1))) b = some (.lst (List.replicate n1 x1)) := upd_same
  generalize upd H1 b (.lst (List.replicate n1 x1)) = H2 at *
  have s3 : Same H2 (upd H2 a2 (.lst [x2])) := same_upd na2
  generalize upd H2 a2 (.lst [x2]) = H3 at *
  have s4 : Same H3 (upd H3 b2 (.lst (List.replicate n2 x2))) := same_upd nb2
  have e4 : (upd H3 b2 (.lst (List.replicate n2 x2))) b2 = some (.lst (List.replicate n2 x2)) := upd_same
  generalize upd H3 b2 (.lst (List.replicate n2 x2)) = H4 at *
  have s14 := ((s1.trans s2).trans s3).trans s4
  refine ⟨_, _, _, _, rfl, rfl, s4 _ _ (s3 _ _ e2), e4, by rw [List.length_replicate, List.length_replicate, hz]; omega, fun p np => ?_⟩
  exact h _ p (s14.trans (same_upd np)) (none_back s14 np) upd_same
section
variable {P : Program} {w : World} {K : PySem.W.Frag} {mg : Str → Option Value} {base : Heap}
def spTold : Sp := fun vs H Q _ => vs = [] ∧ ∀ H' t p q, Same H H' → H' t = some (.tup [.ref p, .ref q]) → H' p = some (.lst (toldL.map V.int)) → H' q = some (.lst (toldB.map V.int)) → H t = none → H p = none → H q = none → Q (.ref t) H'
end
end K9

namespace K9
open PySem PySem.Spec PyProof.Rows L2
/-! ### items and _law_cost -/
inductive Itm where
  | b (k : Nat)
  | c (many back : Nat)
def ItmAt (H : Hp) : Itm → V → Prop
  | .b k, v => v = .int (k : Int)
  | .c m r, v => ∃ t, v = .ref t ∧ H t = some (.tup [.int (m : Int), .int (r : Int)])
def ItmOk : Itm → Prop
  | .b k => k < 256
  | .c m r => 3 ≤ m ∧ m ≤ 18 ∧ 1 ≤ r ∧ r ≤ 1024
theorem ItmAt.same {H H' : Hp} {it : Itm} {v : V} (h : ItmAt H it v) (s : Same H H') : ItmAt H' it v := by
  cases it with
  | b k => exact h
  | c m r =>
    obtain ⟨t, e, ht⟩ := h
    exact ⟨t, e, s _ _ ht⟩
def costO (L B : List Int) : Itm → Option Int
  | .b k => if 0 < L.getD k 0 then some (L.getD k 0) else none
  | .c m r => if L.getD (254 + m) 0 = 0 ∨ B.getD (Nat.log2 r) 0 = 0 then none else some (L.getD (254 + m) 0 + B.getD (Nat.log2 r) 0 + (Nat.log2 r : Nat))
def optV : Option Int → V
  | none => .non
  | some i => .int i
theorem at_getD {L : List Int} {k : Nat} (h : k < L.length) : atI (L.map V.int) (k : Int) = some (.int (L.getD k 0)) := by
  refine atI_nat ?_
  rw [List.getElem?_map, List.getElem?_eq_getElem h, List.getD_eq_getElem?_getD, List.getElem?_eq_getElem h]
  rfl
section
variable {P : Program} {w : World} {K : PySem.W.Frag} {mg : Str → Option Value} {base : Heap}
def spCost : Sp := fun vs H Q _ => ∃ (v : V) (it : Itm) (pL pB : Addr) (L B : List Int), vs = [v, .ref pL, .ref pB] ∧ ItmAt H it v ∧ ItmOk it ∧ H pL = some (.lst (L.map V.int)) ∧ H pB = some (.lst (B.map V.int)) ∧ L.length = 273 ∧ B.length = 11 ∧ Q (optV (costO L B it)) H
end
end K9

namespace K9
open PySem PySem.Spec PyProof.Rows L2
/-! ### prices: good lengths, drawn out runs -/
def usedL (xs : List Int) : List Int := xs.filter fun x => decide (0 < x)
def goodP (xs : List Int) : Bool := if (usedL xs).length < 2 then decide (usedL xs = []) || decide (usedL xs = [1]) else decide (((usedL xs).map fun x => (1 : Int) * 2 ^ (12 - x).toNat).sum = 4096)
theorem used_succ {xs : List Int} {i : Nat} {x : Int} (h : xs[i]? = some x) : usedL (xs.take (i + 1)) = usedL (xs.take i) ++ (if 0 < x then [x] else []) := by
  rw [List.take_add_one, h]
  unfold usedL
  rw [List.filter_append]
  congr 1
  by_cases q : 0 < x <;> simp [q]
theorem used_le (xs : List Int) : (usedL xs).length ≤ xs.length := List.length_filter_le _ _
theorem same_tupK {K : PySem.W.Frag} {H H' : Hp} {a : Addr} {xs : List V} (e : Same H H') (h : SqT K H a xs) : SqT K H' a xs := by
  rcases h with (h | ⟨o, h⟩) | h
  · exact .inl (.inl (e _ _ h))
  · exact .inl (.inr ⟨o, e _ _ h⟩)
  · exact .inr h
theorem iteC {A B : Prop} {c : Bool} (hc : c = true) (h : A) : if c = true then A else B := by
  rw [if_pos hc]
  exact h
section
variable {P : Program} {w : World} {K : PySem.W.Frag} {mg : Str → Option Value} {base : Heap}
def spAreGood : Sp := fun vs H Q _ => ∃ (p : Addr) (xs : List Int), vs = [.ref p] ∧ H p = some (.lst (xs.map V.int)) ∧ xs.length ≤ 1000 ∧ (∀ x ∈ xs, x ≤ 12) ∧ ∀ H', Same H H' → Q (.bl (goodP xs)) H'
/-- of what is good -/
def PrL (n : Nat) (xs : List Int) : Prop := xs.length = n ∧ (∀ x ∈ xs, 0 ≤ x ∧ x ≤ 12) ∧ goodP xs = true
def spAreP : Sp := fun vs H Q _ => ∃ (p : Addr) (xs : List Int) (n : Nat), vs = [.ref p, .int (n : Int)] ∧ H p = some (.lst (xs.map V.int)) ∧ n ≤ 1000 ∧ PrL n xs ∧ ∀ H', Same H H' → Q (.bl true) H'
/-! ### back_of -/
def spBackOf : Sp := fun vs H Q _ => ∃ b : Nat, vs = [.int (b : Int)] ∧ 1 ≤ b ∧ b ≤ 5000 ∧ Q (.int ((Nat.log2 b : Nat) : Int)) H
end
end K9

namespace K9
open PySem PySem.Spec PyProof.Rows L2
/-! ### Prices -/
def prF (p q : Addr) : List (Str × V) := [(("_letters" : Str), V.ref p), (("_backs" : Str), V.ref q)]
theorem lkH {k : Str} {v : V} {r : List (Str × V)} : List.lookup k ((k, v) :: r) = some v := by
  rw [List.lookup, beq_self_eq_true]
theorem lkP {k g : Str} {v : V} {r : List (Str × V)} (h : (k == g) = false) : List.lookup k ((g, v) :: r) = List.lookup k r := by
  rw [List.lookup, h]
theorem prF_l (p q : Addr) : (prF p q).lookup ("_letters" : Str) = some (.ref p) := lkH
theorem prF_b (p q : Addr) : (prF p q).lookup ("_backs" : Str) = some (.ref q) := (lkP (by decide +kernel)).trans lkH
theorem prF_m (p q : Addr) : (prF p q).lookup ("letters" : Str) = none := (lkP (by decide +kernel)).trans ((lkP (by decide +kernel)).trans rfl)
theorem prF_n (p q : Addr) : (prF p q).lookup ("backs" : Str) = none := (lkP (by decide +kernel)).trans ((lkP (by decide +kernel)).trans rfl)
theorem prF_put (p q : Addr) : putF "_backs" (.ref q) (putF "_letters" (.ref p) []) = prF p q := (if_neg (by decide +kernel)).trans rfl
def PcAt (C : Addr) (H : Hp) (a : Addr) (L B : List Int) : Prop := ∃ dx p q, H a = some (.ins C dx (prF p q)) ∧ H p = some (.lst (L.map V.int)) ∧ H q = some (.lst (B.map V.int))
theorem PcAt.same {C a : Addr} {H H' : Hp} {L B : List Int} (h : PcAt C H a L B) (s : Same H H') : PcAt C H' a L B := by
  obtain ⟨dx, p, q, h1, h2, h3⟩ := h
  exact ⟨dx, p, q, s _ _ h1, s _ _ h2, s _ _ h3⟩
/-- what the written part says of Prices -/
structure PrTxt (K : PySem.W.Frag) (mg : Str → Option Value) (C fI fL fB : Addr) : Prop where
  cl : Cls K C
  nL : NoAttr K C "_letters"
  nB : NoAttr K C "_backs"
  gC : mg "Prices" = some (.ref C)
  made : Mk K C fI
  mL : Meth K C "letters" fL
  mB : Meth K C "backs" fB
  ity : ∀ {H : Hp} {a dx : Addr} {fs : List (Str × V)}, H a = some (.ins C dx fs) → TyOf K H (.ref a) (.ref C)
  isC : PySem.W.kitOne K (.ref C) (.ref C) = some true
section
variable {P : Program} {w : World} {K : PySem.W.Frag} {mg : Str → Option Value} {base : Heap} {C fI fL fB : Addr}
def spPInit (C : Addr) : Sp := fun vs H Q _ => ∃ (a dx pl pb : Addr) (L B : List Int), vs = [.ref a, .ref pl, .ref pb] ∧ H a = some (.ins C dx []) ∧ H pl = some (.lst (L.map V.int)) ∧ H pb = some (.lst (B.map V.int)) ∧ PrL 273 L ∧ PrL 11 B ∧
  ∀ H', (∀ b o, b ≠ a → H b = some o → H' b = some o) → PcAt C H' a L B → Q .non H'
def spPLet (C : Addr) : Sp := fun vs H Q _ => ∃ (a : Addr) (L B : List Int), vs = [.ref a] ∧ PcAt C H a L B ∧ ∀ H' p, Same H H' → H p = none → H' p = some (.lst (L.map V.int)) → Q (.ref p) H'
def spPBk (C : Addr) : Sp := fun vs H Q _ => ∃ (a : Addr) (L B : List Int), vs = [.ref a] ∧ PcAt C H a L B ∧ ∀ H' p, Same H H' → H p = none → H' p = some (.lst (B.map V.int)) → Q (.ref p) H'
theorem told_good : PrL 273 toldL ∧ PrL 11 toldB := by
  refine ⟨⟨by decide +kernel, ?_, by decide +kernel⟩, ⟨by decide +kernel, ?_, by decide +kernel⟩⟩
  · intro x hx
    rcases List.mem_append.mp hx with h | h
    · rw [(List.mem_replicate.mp h).2]; decide
    · rw [(List.mem_replicate.mp h).2]; decide
  · intro x hx
    rcases List.mem_append.mp hx with h | h
    · rw [(List.mem_replicate.mp h).2]; decide
    · rw [(List.mem_replicate.mp h).2]; decide
end
end K9

namespace K9
open PySem PySem.Spec PyProof.Rows L2
theorem ixL {X : Cx} (K : PySem.W.Frag) (h : X.K = K := by rfl) : IxR X (rIxL K) := by subst h; exact ix_list
/-! ### _law_data -/
abbrev NDa : List Str := ["_law_script", "_law_at", "_law_most", "_law_found", "_law_many", "_law_k", "_law_digits", "_law_begin", "_law_turn"]
theorem scData : FnScope NDa ["_law_script", "_law_at", "_law_most"] (defScope sData) := ⟨rfl, rfl, rfl, by decide +kernel, rfl, by decide +kernel, by decide +kernel⟩
def bys (ks : List Nat) : List V := (ks.map fun (k : Nat) => (k : Int)).map V.int
theorem bys_eq (ks : List Nat) : bys ks = ks.map fun (k : Nat) => V.int (k : Int) := by
  unfold bys
  rw [List.map_map]
  rfl
theorem bys_len (ks : List Nat) : (bys ks).length = ks.length := by
  unfold bys
  rw [List.length_map, List.length_map]
theorem bys_app (a b : List Nat) : bys a ++ bys b = bys (a ++ b) := by
  unfold bys
  rw [List.map_append, List.map_append]
theorem bys_one (k : Nat) : [V.int (k : Int)] = bys [k] := rfl
theorem bys_cut (ks : List Nat) (a b : Nat) : cutV (bys ks) (some (a : Int)) (some (b : Int)) = bys ((ks.drop (min a ks.length)).take (min b ks.length - min a ks.length)) := by
  unfold cutV
  rw [HT.sIx_nat, HT.sIx_nat, bys_len]
  unfold bys
  rw [← List.map_drop, ← List.map_drop, ← List.map_take, ← List.map_take]
theorem bys_to (ks : List Nat) (b : Nat) : cutV (bys ks) none (some (b : Int)) = bys (ks.take b) := by
  unfold cutV
  rw [HT.sIx_nat, HT.sIx_none, bys_len, List.drop_zero, Nat.sub_zero]
  unfold bys
  rw [← List.map_take, ← List.map_take]
  congr 2
  by_cases h : b ≤ ks.length
  · rw [Nat.min_eq_left h]
  · rw [Nat.min_eq_right (by omega), List.take_length, List.take_of_length_le (by omega)]
theorem nat_of {x : Int} (h : 0 ≤ x) : ∃ k : Nat, x = (k : Int) := ⟨x.toNat, by omega⟩
theorem item_in {d1 d2 : Int} (h1 : 0 ≤ d1 ∧ d1 < 256) : ∃ v : Nat, v < 256 ∧ atI [V.int 97, V.int 98, V.int 32, V.int 0, V.int 255, V.int d1, V.int (d1.fmod 4), V.int 200] (d2.fmod 8) = some (.int (v : Int)) := by
  have a1 := fmod_in (a := d1) (l := 4) (by decide)
  have a2 := fmod_in (a := d2) (l := 8) (by decide)
  obtain ⟨k1, rfl⟩ := nat_of h1.1
  obtain ⟨k4, e4⟩ := nat_of a1.1
  rw [e4] at a1 ⊢
  obtain ⟨n, en⟩ := nat_of a2.1
  rw [en] at a2 ⊢
  have hn : n = 0 ∨ n = 1 ∨ n = 2 ∨ n = 3 ∨ n = 4 ∨ n = 5 ∨ n = 6 ∨ n = 7 := by omega
  rcases hn with rfl | rfl | rfl | rfl | rfl | rfl | rfl | rfl
  · exact ⟨97, by decide, rfl⟩
  · exact ⟨98, by decide, rfl⟩
  · exact ⟨32, by decide, rfl⟩
  · exact ⟨0, by decide, rfl⟩
  · exact ⟨255, by decide, rfl⟩
  · exact ⟨k1, by omega, rfl⟩
  · exact ⟨k4, by omega, rfl⟩
  · exact ⟨200, by decide, rfl⟩
section
variable {P : Program} {w : World} {K : PySem.W.Frag} {mg : Str → Option Value} {base : Heap}
def spData (K : PySem.W.Frag) : Sp := fun vs H Q _ => ∃ (p : Addr) (xs : List Int) (a n : Nat), vs = [.ref p, .int (a : Int), .int (n : Int)] ∧ SqL K H p (xs.map V.int) ∧ a ≤ 50000 ∧ n ≤ 1000 ∧
  ∀ H' r ks, Same H H' → H r = none → H' r = some (.lst (bys ks)) → (∀ k ∈ ks, k < 256) → ks.length ≤ n → Q (.ref r) H'
theorem ok_data {f fC fN : Addr} {fd fdC fdN : FuncData} {j : Nat} (F : Fun K "_law_data" "_law_data" sData f fd) (GC : FnOk P w K mg base CX0 (j + 1) fC fdC ["_law_script", "_law_k"] (K9.spCell K)) (bC : Binds K fdC ["_law_script", "_law_k"] []) (kC : PySem.W.keepIn K (.ref fC) = true) (gC : mg "_law_cell_at" = some (.ref fC))
    (GN : FnOk P w K mg base CX0 (j + 1) fN fdN ["_law_cell", "_law_limits"] spNums) (bN : Binds K fdN ["_law_cell", "_law_limits"] []) (kN : PySem.W.keepIn K (.ref fN) = true) (gN : mg "_law_numbers" = some (.ref fN))
    (m1 : mg "len" = none) (m2 : mg "int" = none) (m3 : mg "range" = none) : FnOk P w K mg base CX0 (j + 2) f fd ["_law_script", "_law_at", "_law_most"] (spData K) := by
  refine F.ok scData (fun vs H Q E h => ?_) (fun cdv A outer s H vs Q E hr h => ?_)
  · obtain ⟨p, xs, a, n, rfl, _⟩ := h
    rfl
  · obtain ⟨p, xs, a, n, rfl, hp, ha, hn, q⟩ := h
    refine ⟨_, pss_cons (ps_par (i := 3) (j := 4) rfl scData.nd rfl rfl (by decide) rfl rfl (pa_cons (pe_lst pa_nil) (pa_cons (pe_op op_modN (pe_call GC hr (by rfl) gC kC bC .nil pass0 (pa_cons (pv 0) (pa_cons (pv 1) pa_nil))) (pe_op op_add (pv 2) pe_int)) pa_nil)) (by rfl))
      (pss_cons (ps_for PassesOwn.never rfl (pi_range1 (by rfl) m3 (pa_cons pe_int pa_nil)) (pg_name (i := 5) scData.nd rfl (.inl rfl))
        (pss_cons (ps_set (i := 6) scData.nd rfl (.inr rfl) (pe_call GN hr (by rfl) gN kN bN .nil pass0 (pa_cons (pe_call GC hr (by rfl) gC kC bC .nil pass0 (pa_cons (pv 0) (pa_cons (pe_op op_add (pe_op op_add (pv 1) pe_int) (pv 5)) pa_nil))) (pa_cons (pe_lst (pa_cons pe_int (pa_cons pe_int (pa_cons pe_int (pa_cons pe_int pa_nil))))) pa_nil))))
        (pss_one (ps_if (pt_cmpR op_eq (pe_ix ix_list (pv 6) pe_int (fun _ _ => rfl)) pe_int (nomark _))
          (pss_one (ps_set (i := 3) scData.nd rfl (.inl rfl) (pe_op op_cat (pv 3) (pe_op op_rep (pe_lst (pa_cons (pe_ix ix_list (pv 6) pe_int (fun _ _ => rfl)) pa_nil)) (pe_op op_add pe_int (pe_ix ix_list (pv 6) pe_int (fun _ _ => rfl)))))))
          (pss_one (ps_if (PW.pt (pw_and (pt_cmpR op_lt (pe_ix ix_list (pv 6) pe_int (fun _ _ => rfl)) pe_int (nomark _)) (pw_and1 (pt_cmpR (op_neD hr.units) (pv 3) (pe_lst pa_nil) (nomark _)))))
            (pss_cons (ps_set (i := 7) scData.nd rfl (.inl rfl) (pe_op op_modN (pe_callTy call_int1 (by rfl) m2 (by decide +kernel) (pa_cons (pe_ix ix_list (pv 6) pe_int (fun _ _ => rfl)) pa_nil)) (pe_callB call_len_seq (by rfl) m1 PySem.boot_len (pa_cons (pv 3) pa_nil))))
            (pss_one (ps_set (i := 3) scData.nd rfl (.inl rfl) (pe_op op_cat (pv 3) (pe_slice sl_list (pv 3) (po_some (pv 7)) (po_some (pe_op op_add (pe_op op_add (pv 7) pe_int) (pe_op op_modN (pe_callTy call_int1 (by rfl) m2 (by decide +kernel) (pa_cons (pe_ix ix_list (pv 6) pe_int (fun _ _ => rfl)) pa_nil)) pe_int))))))))
            (pss_one (ps_if (pt_cmpR op_eq (pe_ix ix_list (pv 6) pe_int (fun _ _ => rfl)) pe_int (nomark _))
              (pss_one (ps_set (i := 3) scData.nd rfl (.inl rfl) (pe_op op_cat (pv 3) (pe_lc (own := [("_law_turn", 8)]) (g := gName 8) (tt := tYes) rfl scData.nd (pi_range1 (by rfl) m3 (pa_cons pe_int pa_nil)) (blkOk_by (N := NDa) (sc := defScope sData) (by decide +kernel))
                (fun _ _ _ _ _ => pg_name (i := 8) scData.nd rfl (.inl rfl)) (fun _ _ _ _ _ => pts_nil) (fun _ _ _ _ _ => pe_op op_add pe_int (pe_op op_and (pe_op op_shr (pe_ix (ixL K) (pv 6) pe_int (fun _ _ => rfl)) (pv 8)) pe_int))))))
              (pss_one (ps_expr (pe_bm PySem.F.plainAttrs_list PySem.F.slot_list_append PySem.F.type_list_append mt_append (pv 3) (pa_cons (pe_ix ix_list (pe_lst (pa_cons pe_int (pa_cons pe_int (pa_cons pe_int (pa_cons pe_int (pa_cons pe_int (pa_cons (pe_ix ix_list (pv 6) pe_int (fun _ _ => rfl)) (pa_cons (pe_op op_modN (pe_callTy call_int1 (by rfl) m2 (by decide +kernel) (pa_cons (pe_ix ix_list (pv 6) pe_int (fun _ _ => rfl)) pa_nil)) pe_int) (pa_cons pe_int pa_nil)))))))))
                (pe_op op_modN (pe_callTy call_int1 (by rfl) m2 (by decide +kernel) (pa_cons (pe_ix ix_list (pv 6) pe_int (fun _ _ => rfl)) pa_nil)) pe_int) (fun _ _ => rfl)) pa_nil))))))))))))
      (pss_one (ps_ret (pe_slice sl_list (pv 3) po_none (po_some (pv 4)))))), ?_⟩
    refine ⟨Nat.zero_le _, fun D nD => ?_⟩
    have sm0 : Same H (upd H D (.lst [])) := same_upd nD
    have hD0 : (upd H D (.lst [])) D = some (.lst (bys [])) := upd_same
    generalize upd H D (.lst []) = H0 at *
    refine ⟨_, rfl, _, rfl, p, xs, a, rfl, sm0.seq hp, by omega, fun H1 sm1 => ?_⟩
    refine ⟨_, rfl, _, _, rfl, rfl, _, _, rfl, rfl, (by omega), _, _, rfl, ?_⟩
    have hm := fmod_in (a := cellAt xs a) (l := (n : Int) + 1) (by omega)
    obtain ⟨many, em⟩ := nat_of hm.1
    rw [em] at hm
    have sm01 := sm0.trans sm1
    refine ⟨24, rfl, by decide, by decide, ?_⟩
    refine for_range (lo := 0) (n := 24) (fun i σ H' => ∃ (y5 y6 y7 : Option V) (D : Addr) (ks : List Nat), σ = [some (.ref p), some (.int (a : Int)), some (.int (n : Int)), some (.ref D), some (.int ((cellAt xs a).fmod ((n : Int) + 1))), y5, y6, y7, none] ∧ Same H H' ∧ H D = none ∧ H' D = some (.lst (bys ks)) ∧ (∀ k ∈ ks, k < 256) ∧ ks.length ≤ 40 * i)
      ⟨none, none, none, D, [], rfl, sm01, nD, sm1 _ _ hD0, fun k h => by (cases h), by simp⟩ (fun i σ H' hi h => ?_) (fun σ H' h => ?_)
    · obtain ⟨y5, y6, y7, D, ks0, rfl, sm, nD, hD, hk, hl⟩ := h
      refine ⟨_, rfl, _, rfl, _, _, rfl, rfl, _, rfl, _, _, rfl, rfl, p, xs, a + 1 + i, ?_, sm.seq hp, by omega, fun H5 sm5 => ?_⟩
      · show [V.ref p, V.int ((a : Int) + 1 + (0 + (i : Int)))] = _
        rw [show (a : Int) + 1 + (0 + (i : Int)) = ((a + 1 + i : Nat) : Int) by omega]
      · refine ⟨(by show 4 ≤ sizeLine; decide), fun z nz => ?_⟩
        refine ⟨z, cellAt xs (a + 1 + i), [6, 256, 40, 300], rfl, upd_same, by decide, by decide, fun H6 dg ds sm6 nq hdg hdl hin => ?_⟩
        obtain ⟨d0, d1, d2, d3, rfl⟩ : ∃ d0 d1 d2 d3, ds = [d0, d1, d2, d3] := by
          match ds, hdl with
          | [a, b, c, d], _ => exact ⟨a, b, c, d, rfl⟩
        have hd0 := hin.2 0 d0 6 rfl rfl
        have hd1 := hin.2 1 d1 256 rfl rfl
        have hd2 := hin.2 2 d2 40 rfl rfl
        have hd3 := hin.2 3 d3 300 rfl rfl
        have sm46 : Same H' H6 := (sm5.trans (same_upd nz)).trans sm6
        have sm06 : Same H H6 := sm.trans sm46
        have hD6 := sm46 _ _ hD
        have hdgS : SqL K H6 dg [.int d0, .int d1, .int d2, .int d3] := .inl (.inl hdg)
        clear nq hin hdl hdg hm em
        have hz := PySem.sizeLine_eq
        have fin : ∀ (H9 : Hp) (r : Addr) (ks2 : List Nat) (y7 : Option V), Same H H9 → H9 r = none → (∀ k ∈ ks2, k < 256) → ks2.length ≤ 40 →
            ∃ (y5' y6' y7' : Option V) (D : Addr) (ks : List Nat), [some (.ref p), some (.int (a : Int)), some (.int (n : Int)), some (.ref r), some (.int ((cellAt xs a).fmod ((n : Int) + 1))), some (.int (0 + (i : Int))), some (.ref dg), y7, none] = [some (.ref p), some (.int (a : Int)), some (.int (n : Int)), some (.ref D), some (.int ((cellAt xs a).fmod ((n : Int) + 1))), y5', y6', y7', none] ∧ Same H (upd H9 r (.lst (bys ks0 ++ bys ks2))) ∧ H D = none ∧ (upd H9 r (.lst (bys ks0 ++ bys ks2))) D = some (.lst (bys ks)) ∧ (∀ k ∈ ks, k < 256) ∧ ks.length ≤ 40 * (i + 1) := by
          intro H9 r ks2 y7 sm9 nr h2 hl2
          refine ⟨_, _, y7, r, ks0 ++ ks2, rfl, sm9.trans (same_upd nr), none_back sm9 nr, by rw [upd_same, bys_app], fun k m => ?_, by rw [List.length_append]; omega⟩
          rcases (List.mem_append.mp m) with (m | m)
          · exact hk k m
          · exact h2 k m
        obtain ⟨k1, rfl⟩ := nat_of hd1.1
        refine ⟨_, rfl, dg, _, 0, _, rfl, rfl, hdgS, rfl, rfl, _, rfl, ite2 (fun e => ?_) (fun e => ?_)⟩
        · refine ⟨_, rfl, _, rfl, dg, _, 1, _, rfl, rfl, hdgS, rfl, (by show 1 ≤ sizeLine; rw [hz]; decide), fun z1 nz1 => ?_⟩
          have s1 : Same H6 (upd H6 z1 (.lst [.int (k1 : Int)])) := same_upd nz1
          have e1 : (upd H6 z1 (.lst [.int (k1 : Int)])) z1 = some (.lst [.int (k1 : Int)]) := upd_same
          refine ⟨_, rfl, dg, _, 2, _, rfl, rfl, s1.seq hdgS, rfl, _, _, rfl, rfl, z1, 1 + d2, _, rfl, rfl, e1, by omega, by omega, (by rw [hz]; simp; omega), fun r1 nr1 => ?_⟩
          rw [rep_flat]
          have s2 := same_upd (o := .lst (List.replicate (1 + d2).toNat (V.int (k1 : Int)))) nr1
          have e2 : (upd (upd H6 z1 (.lst [.int (k1 : Int)])) r1 (.lst (List.replicate (1 + d2).toNat (V.int (k1 : Int))))) r1 = some (.lst (List.replicate (1 + d2).toNat (V.int (k1 : Int)))) := upd_same
          have eb : List.replicate (1 + d2).toNat (V.int (k1 : Int)) = bys (List.replicate (1 + d2).toNat k1) := by simp [bys]
          rw [eb] at s2 e2 ⊢
          refine ⟨D, r1, _, _, rfl, rfl, s2 _ _ (s1 _ _ hD6), e2, (by rw [bys_len, bys_len, List.length_replicate, hz]; omega), fun r2 nr2 => ?_⟩
          exact fin _ r2 _ y7 ((sm06.trans s1).trans s2) nr2 (fun k m => by rw [List.eq_of_mem_replicate m]; omega) (by rw [List.length_replicate]; omega)
        · refine ⟨_, rfl, dg, _, 0, _, rfl, rfl, hdgS, rfl, _, _, rfl, rfl, _, rfl, ite2 (fun e3 => ?ltYes) (fun e3 => ?ltNo)⟩
          case' ltYes =>
            refine ⟨_, rfl, Nat.zero_le _, fun z2 nz2 => ?_⟩
            have sm67 : Same H6 (upd H6 z2 (.lst [])) := same_upd nz2
            have hz2 : (upd H6 z2 (.lst [])) z2 = some (.lst []) := upd_same
            generalize upd H6 z2 (.lst []) = H7 at *
            have hD7 := sm67 _ _ hD6
            refine ⟨_, _, .lst (.inl (.inl hD7)) (dp_ints _), .lst (ds := []) (.inl (.inl hz2)) .nil, shaped_intsQ _, shaped_intsQ [], _, rfl, ite2 (fun e4 => ?good) (fun e4 => ?_)⟩
            case good =>
              have hne : ks0 ≠ [] := by
                intro z
                subst z
                cases e4
              have hpos : 0 < ks0.length := List.length_pos_iff.mpr hne
              have hb := fmod_in (a := d3) (l := (ks0.length : Int)) (by omega)
              have hc := fmod_in (a := d2) (l := 20) (by decide)
              obtain ⟨b, eb⟩ := nat_of hb.1
              obtain ⟨c, ec⟩ := nat_of hc.1
              have hdg7 := sm67.seq hdgS
              refine ⟨_, rfl, dg, _, 3, _, rfl, rfl, hdg7, rfl, .inl ⟨_, rfl, _, rfl, D, _, rfl, .inl (.inl (.inl hD7)), _, _, rfl, rfl, (by rw [bys_len]; omega), ?_⟩⟩
              refine ⟨_, rfl, _, rfl, _, rfl, _, rfl, _, rfl, _, _, rfl, rfl, _, rfl, dg, _, 2, _, rfl, rfl, hdg7, rfl, .inl ⟨_, rfl, _, _, rfl, rfl, (by show (20 : Int) ≠ 0; decide), _, _, rfl, rfl, _, rfl, D, _, rfl, .inl (.inl hD7), fun r nr => ?_⟩⟩
              have ecut : cutV (bys ks0) (some (d3.fmod ((bys ks0).length : Int))) (some (d3.fmod ((bys ks0).length : Int) + 3 + d2.fmod 20)) = bys ((ks0.drop (min b ks0.length)).take (min (b + 3 + c) ks0.length - min b ks0.length)) := by
                rw [bys_len, eb, ec]
                exact bys_cut ks0 b (b + 3 + c)
              rw [ecut]
              have s2 := same_upd (o := .lst (bys ((ks0.drop (min b ks0.length)).take (min (b + 3 + c) ks0.length - min b ks0.length)))) nr
              have hlen : ((ks0.drop (min b ks0.length)).take (min (b + 3 + c) ks0.length - min b ks0.length)).length ≤ 40 := by
                rw [List.length_take]
                omega
              refine ⟨D, r, _, _, rfl, rfl, s2 _ _ hD7, upd_same, (by rw [bys_len, bys_len, hz]; omega), fun r2 nr2 => ?_⟩
              exact fin _ r2 _ _ ((sm06.trans sm67).trans s2) nr2 (fun k m => hk k (List.mem_of_mem_drop (List.mem_of_mem_take m))) hlen
          case' ltNo =>
            obtain ⟨H7, eH, sm67, hD7⟩ : ∃ H7, H7 = H6 ∧ Same H6 H7 ∧ H7 D = some (.lst (bys ks0)) := ⟨H6, rfl, Same.refl H6, hD6⟩
            rw [← eH]
          all_goals
            have hdg7 := sm67.seq hdgS
            have sm07 := sm06.trans sm67
            refine ⟨_, rfl, dg, _, 0, _, rfl, rfl, hdg7, rfl, rfl, _, rfl, ite2 (fun e5 => ?_) (fun e5 => ?_)⟩
            · refine ⟨_, rfl, 8, rfl, by decide, by decide, fun C nC => ?_⟩
              have s8 : Same H7 (upd H7 C (.lst [])) := same_upd nC
              refine lc_range (lo := 0) (n := 8) (fun i H' => ∃ ks2 : List Nat, Same H7 H' ∧ H' C = some (.lst (bys ks2)) ∧ ks2.length = i ∧ ∀ k ∈ ks2, k < 256) ⟨[], s8, upd_same, rfl, fun k m => by (cases m)⟩ (fun i8 H8 hi8 h => ?_) (fun H8 h => ?_)
              · obtain ⟨ks2, sm78, hC, hl2, hk2⟩ := h
                refine ⟨rfl, yes ?_⟩
                refine ⟨_, rfl, dg, _, 1, _, rfl, rfl, sm78.seq hdg7, rfl, _, rfl, _, _, rfl, rfl, (by omega), _, _, rfl, rfl, _, _, rfl, rfl, _, hC, ?_, ?_⟩
                · rw [bys_len, hz]
                  omega
                · refine ⟨ks2 ++ [97 + (k1 / 2 ^ i8) % 2], same_put sm78 nC, ?_, by simp [hl2], fun k m => ?_⟩
                  · have ev : (97 : Int) + Builtin.bitAnd ((k1 : Int) / 2 ^ (0 + (i8 : Int)).toNat) 1 = ((97 + (k1 / 2 ^ i8) % 2 : Nat) : Int) := by
                      rw [PyProof.Rows.bitAnd_m1, Int.zero_add, Int.toNat_natCast]
                      push_cast
                      rfl
                    rw [upd_same]
                    show some (HO.lst (bys ks2 ++ [V.int (97 + Builtin.bitAnd ((k1 : Int) / 2 ^ (0 + (i8 : Int)).toNat) 1)])) = _
                    rw [ev, ← bys_app]
                    rfl
                  · rcases (List.mem_append.mp m) with (m | m)
                    · exact hk2 k m
                    · rw [List.mem_singleton.mp m]
                      omega
              · obtain ⟨ks2, sm78, hC, hl2, hk2⟩ := h
                refine ⟨D, C, _, _, rfl, rfl, sm78 _ _ hD7, hC, (by rw [bys_len, bys_len, hz]; omega), fun r2 nr2 => ?_⟩
                exact fin _ r2 _ _ (sm07.trans sm78) nr2 hk2 (by omega)
            · refine ⟨_, rfl, .inl ⟨rfl, _, .inl (.inl hD7)⟩, ?_⟩
              refine ⟨_, rfl, dg, _, 1, _, rfl, rfl, hdg7, rfl, _, rfl, dg, _, 1, _, rfl, rfl, hdg7, rfl, .inl ⟨_, rfl, _, _, rfl, rfl, (by show (4 : Int) ≠ 0; decide), (by show 8 ≤ sizeLine; rw [hz]; decide), fun z3 nz3 => ?_⟩⟩
              obtain ⟨v, hv, ev⟩ := item_in (d1 := (k1 : Int)) (d2 := d2) hd1
              have s3 := same_upd (o := .lst [V.int 97, V.int 98, V.int 32, V.int 0, V.int 255, V.int (k1 : Int), V.int ((k1 : Int).fmod 4), V.int 200]) nz3
              have e3' : (upd H7 z3 (.lst [V.int 97, V.int 98, V.int 32, V.int 0, V.int 255, V.int (k1 : Int), V.int ((k1 : Int).fmod 4), V.int 200])) z3 = some (.lst [V.int 97, V.int 98, V.int 32, V.int 0, V.int 255, V.int (k1 : Int), V.int ((k1 : Int).fmod 4), V.int 200]) := upd_same
              refine ⟨_, rfl, dg, _, 2, _, rfl, rfl, s3.seq hdg7, rfl, .inl ⟨_, rfl, _, _, rfl, rfl, (by show (8 : Int) ≠ 0; decide), z3, _, _, _, rfl, rfl, .inl (.inl e3'), ev, D, _, _, rfl, rfl, s3 _ _ hD7, (by rw [bys_len, hz]; omega), ?_⟩⟩
              refine ⟨_, _, y7, D, ks0 ++ [v], rfl, same_put (sm07.trans s3) nD, nD, by rw [upd_same, ← bys_app]; rfl, fun k m => ?_, by simp; omega⟩
              rcases (List.mem_append.mp m) with (m | m)
              · exact hk k m
              · rw [List.mem_singleton.mp m]
                exact hv
    · obtain ⟨y5, y6, y7, D, ks, rfl, sm, nD, hD, hk, hl⟩ := h
      refine ⟨_, rfl, _, rfl, _, rfl, D, _, rfl, .inl (.inl hD), fun r nr => ?_⟩
      refine q _ r (ks.take many) (sm.trans (same_upd nr)) (none_back sm nr) ?_ (fun k m => hk k (List.mem_of_mem_take m)) ?_
      · rw [upd_same, em, bys_to]
      · rw [List.length_take]
        omega
end
end K9

namespace K9
open PySem PySem.Spec PyProof.Rows L2
/-! ### what a row tells -/
def copyN (every : List Nat) (b : Nat) : Nat → List Nat
  | 0 => every
  | m + 1 => copyN (every ++ [every.getD (every.length - b) 0]) b m
def tells : List Nat → List Itm → Option (List Nat)
  | every, [] => some every
  | every, .b k :: r => tells (every ++ [k]) r
  | every, .c m b :: r => if b ≤ every.length then tells (copyN every b m) r else none
theorem tells_app : ∀ (a b : List Itm) (every : List Nat), tells every (a ++ b) = (tells every a).bind fun e => tells e b
  | [], b, every => rfl
  | .b k :: a, b, every => by
    show tells (every ++ [k]) (a ++ b) = (tells (every ++ [k]) a).bind _
    exact tells_app a b _
  | .c m r :: a, b, every => by
    show (if r ≤ every.length then tells (copyN every r m) (a ++ b) else none) = (if r ≤ every.length then tells (copyN every r m) a else none).bind _
    by_cases h : r ≤ every.length
    · rw [if_pos h, if_pos h]
      exact tells_app a b _
    · rw [if_neg h, if_neg h]
      rfl
theorem copyN_succ (b : Nat) : ∀ (m : Nat) (every : List Nat), copyN every b (m + 1) = copyN every b m ++ [(copyN every b m).getD ((copyN every b m).length - b) 0]
  | 0, every => rfl
  | m + 1, every => by
    show copyN (every ++ [every.getD (every.length - b) 0]) b (m + 1) = _
    rw [copyN_succ b m]
    rfl
theorem copyN_len (b : Nat) : ∀ (m : Nat) (every : List Nat), (copyN every b m).length = every.length + m
  | 0, every => rfl
  | m + 1, every => by
    show (copyN (every ++ _) b m).length = _
    rw [copyN_len b m, List.length_append, List.length_singleton]
    omega
theorem copyN_lt (b : Nat) : ∀ (m : Nat) {every : List Nat}, (∀ k ∈ every, k < 256) → ∀ k ∈ copyN every b m, k < 256
  | 0, every, h => h
  | m + 1, every, h => by
    refine copyN_lt b m (every := every ++ [every.getD (every.length - b) 0]) fun k q => ?_
    rcases (List.mem_append.mp q) with (q | q)
    · exact h k q
    · rw [List.mem_singleton.mp q, List.getD_eq_getElem?_getD]
      cases e : every[every.length - b]? with
      | none => decide
      | some x => exact h x (List.mem_of_getElem? e)
theorem copyN_pre (b : Nat) : ∀ (m : Nat) (every : List Nat), ∃ r, copyN every b m = every ++ r
  | 0, every => ⟨[], by simp [copyN]⟩
  | m + 1, every => by
    obtain ⟨r, e⟩ := copyN_pre b m (every ++ [every.getD (every.length - b) 0])
    exact ⟨[every.getD (every.length - b) 0] ++ r, by show copyN (every ++ _) b m = _; rw [e, List.append_assoc]⟩
abbrev RowAt (H : Hp) : List Itm → List V → Prop := Paired (ItmAt H)
theorem ItmAt.put {H : Hp} {it : Itm} {v : V} {D : Addr} {xs ys : List V} (h : ItmAt H it v) (hD : H D = some (.lst xs)) : ItmAt (upd H D (.lst ys)) it v := by
  cases it with
  | b k => exact h
  | c m r =>
    obtain ⟨t, e, ht⟩ := h
    refine ⟨t, e, ?_⟩
    rw [upd_ne (ne_of ht hD (fun z => nomatch z))]
    exact ht
end K9

namespace K9
open PySem PySem.Spec PyProof.Rows L2
/-! ### items of any kind -/
inductive Any where
  | num (n : Int)
  | tup (l : List Int)
  | lst (l : List Int)
def AnyAt (H : Hp) : Any → V → Prop
  | .num n, v => v = .int n
  | .tup l, v => ∃ t, v = .ref t ∧ H t = some (.tup (l.map V.int))
  | .lst l, v => ∃ t, v = .ref t ∧ H t = some (.lst (l.map V.int))
theorem AnyAt.same {H H' : Hp} {x : Any} {v : V} (h : AnyAt H x v) (s : Same H H') : AnyAt H' x v := by
  cases x with
  | num n => exact h
  | tup l =>
    obtain ⟨t, e, ht⟩ := h
    exact ⟨t, e, s _ _ ht⟩
  | lst l =>
    obtain ⟨t, e, ht⟩ := h
    exact ⟨t, e, s _ _ ht⟩
def stepA (size : Int) : Any → Option Int
  | .num n => if 0 ≤ n ∧ n ≤ 255 then some (size + 1) else none
  | .tup [m, b] => if 3 ≤ m ∧ m ≤ 18 ∧ 1 ≤ b ∧ b ≤ 1024 ∧ b ≤ size then some (size + m) else none
  | _ => none
def firstBad (size : Int) (i : Nat) : List Any → Option Nat
  | [] => none
  | x :: r => match stepA size x with
    | some s => firstBad s (i + 1) r
    | none => some i
theorem firstBad_yes {size s : Int} {i : Nat} {x : Any} {r : List Any} (h : stepA size x = some s) : firstBad size i (x :: r) = firstBad s (i + 1) r := by
  show (match stepA size x with
    | some s => firstBad s (i + 1) r
    | none => some i) = _
  rw [h]
theorem firstBad_no {size : Int} {i : Nat} {x : Any} {r : List Any} (h : stepA size x = none) : firstBad size i (x :: r) = some i := by
  show (match stepA size x with
    | some s => firstBad s (i + 1) r
    | none => some i) = _
  rw [h]
theorem stepA_ne {size : Int} : ∀ {l : List Int}, l.length ≠ 2 → stepA size (.tup l) = none
  | [], _ => rfl
  | [_], _ => rfl
  | [_, _], h => absurd rfl h
  | _ :: _ :: _ :: _, _ => rfl
def optN : Option Nat → V
  | none => .non
  | some i => .int (i : Int)
end K9

namespace K9
open PySem PySem.Spec PyProof.Rows L2
theorem back_at {ks : List Nat} {b : Nat} (h1 : 1 ≤ b) (h2 : b ≤ ks.length) : atI (bys ks) (-(b : Int)) = some (.int ((ks.getD (ks.length - b) 0 : Nat) : Int)) := by
  unfold atI ixN
  rw [if_neg (by omega), bys_len, if_pos (by omega)]
  show (bys ks)[(-(b : Int) + (ks.length : Int)).toNat]? = _
  have e : (-(b : Int) + (ks.length : Int)).toNat = ks.length - b := by omega
  have hi : ks.length > ks.length - b := by omega
  rw [e, bys_eq, List.getElem?_map, List.getElem?_eq_getElem hi, List.getD_eq_getElem?_getD, List.getElem?_eq_getElem hi]
  rfl
theorem back_at' {ks : List Nat} {b : Nat} {bv : Int} (e : bv = (b : Int)) (h1 : 1 ≤ b) (h2 : b ≤ ks.length) : atI (bys ks) (-bv) = some (.int ((ks.getD (ks.length - b) 0 : Nat) : Int)) := by
  subst e
  exact back_at h1 h2
end K9

namespace K9
open PySem PySem.Spec PyProof.Rows L2
/-! ### items of rows: is_item, copy_behind, item_bits, are_bytes -/
def itemB : Any → Bool
  | .num n => decide (0 ≤ n ∧ n ≤ 255)
  | .tup [m, b] => decide (3 ≤ m ∧ m ≤ 18) && decide (1 ≤ b ∧ b ≤ 1024)
  | _ => false
theorem itemB_ne : ∀ {l : List Int}, l.length ≠ 2 → itemB (.tup l) = false
  | [], _ => rfl
  | [_], _ => rfl
  | [_, _], h => absurd rfl h
  | _ :: _ :: _ :: _, _ => rfl
theorem scAreBytes : FnScope ["told", "most"] ["told", "most"] (defScope sAreBytes) := ⟨rfl, rfl, rfl, by decide +kernel, rfl, by decide +kernel, by decide +kernel⟩
section
variable {P : Program} {w : World} {K : PySem.W.Frag} {mg : Str → Option Value} {base : Heap}
def spIsItem : Sp := fun vs H Q _ => ∃ (v : V) (x : Any), vs = [v] ∧ AnyAt H x v ∧ Q (.bl (itemB x)) H
def spCopyB : Sp := fun vs H Q _ => ∃ (W t : Addr) (every : List Nat) (m b : Nat), vs = [.ref W, .ref t] ∧ H W = some (.lst (bys every)) ∧ H t = some (.tup [.int (m : Int), .int (b : Int)]) ∧ 1 ≤ b ∧ b ≤ every.length ∧ m ≤ 18 ∧ every.length ≤ 100000 ∧
  ∀ H', (∀ a, a ≠ W → H' a = H a) → H' W = some (.lst (bys (copyN every b m))) → Q .non H'
def spItemB : Sp := fun vs H Q _ => ∃ (v : V) (it : Itm) (pL pB : Addr) (L B : List Int), vs = [v, .ref pL, .ref pB] ∧ ItmAt H it v ∧ ItmOk it ∧ H pL = some (.lst (L.map V.int)) ∧ H pB = some (.lst (B.map V.int)) ∧ PrL 273 L ∧ PrL 11 B ∧ Q (optV (costO L B it)) H
def spAreBytes : Sp := fun vs H Q _ => ∃ (b : Array UInt8) (n : Nat), vs = [.byt b, .int (n : Int)] ∧ b.size ≤ 1000000 ∧ Q (.bl (decide (b.size ≤ n))) H
theorem ok_areBytes {f : Addr} {fd : FuncData} {j : Nat} (F : Fun K "are_bytes" "are_bytes" sAreBytes f fd) (m1 : mg "isinstance" = none) (m2 : mg "bytes" = none) (m3 : mg "len" = none) : FnOk P w K mg base CX0 (j + 1) f fd ["told", "most"] spAreBytes := by
  refine F.ok scAreBytes (fun vs H Q E h => ?_) (fun cdv A outer s H vs Q E hr h => ?_)
  · obtain ⟨b, n, rfl, _⟩ := h
    rfl
  · obtain ⟨b, n, rfl, hb, q⟩ := h
    have hz := PySem.sizeLine_eq
    refine ⟨_, pss_one (ps_ret (pe_and (pe_callB call_isi (by rfl) m1 (by decide +kernel) (pa_cons (pv 0) (pa_cons (pe_bltn (v := .ty "bytes") (by rfl) m2 (by decide +kernel) rfl) pa_nil)))
      (pe_one (pe_cmpR op_le (pe_callB call_len (by rfl) m3 PySem.boot_len (pa_cons (pv 0) pa_nil)) (pv 1) (nomark _))))), ?_⟩
    refine ⟨_, rfl, _, _, _, _, _, rfl, .ty "bytes", .byt _, kit_ty (a := "bytes") (r := true) (by decide +kernel), _, rfl, iteT ?_⟩
    refine ⟨_, rfl, _, b.size, rfl, ⟨by omega, rfl⟩, _, rfl, _, _, rfl, rfl, ?_⟩
    have e : decide (((b.size : Nat) : Int) ≤ (n : Int)) = decide (b.size ≤ n) := by simp
    show Q (.bl (decide (((b.size : Nat) : Int) ≤ (n : Int)))) H
    rw [e]
    exact q
end
end K9

/-! ### own exceptions that say super().__init__(f"..{x}") and then self.x = x -/
namespace SX
open PySem PySem.W PySem.Calls PyProof.Rows PySem.HandSPX
def sxA (f : Str) (p1 p2 : Pos) : Arguments := { posonlyargs := [], args := [⟨"self", none, p1⟩, ⟨f, none, p2⟩], vararg := none, kwonlyargs := [], kw_defaults := [], kwarg := none, defaults := [] }
def sxB (f pre : Str) (k : Nat) (q : Nat → Pos) : List Stmt :=
  [.Expr (.Call (.Attribute (.Call (.Name "super" (q 0)) [] [] (q 1)) "__init__" (q 2)) [.JoinedStr [.Constant (.str pre) k (q 3), .FormattedValue (.Name f (q 4)) (-1) none (q 5)] (q 6)] [] (q 7)) (q 8),
   .Assign [.Attribute (.Name "self" (q 9)) f (q 10)] (.Name f (q 11)) (q 12)]
def sxS (f : Str) : Scope := { kind := .function, names := [("self", .local), (f, .local), ("__class__", .free), ("super", .globalImplicit)], isGenerator := false, isCoroutine := false, more := [] }
/-- the call's places stand so that nothing of its row is asked -/
def SxPos (q : Nat → Pos) : Prop := ∀ (env : Env) (o : Expr) (es : List Expr) (pe : Pos), ∃ pl : Sem Bool, eval (.Call (.Attribute o "__init__" (q 2)) [.JoinedStr es pe] [] (q 7)) env = (do
  let ov ← attributeBase o "__init__" env (eval o env)
  standAt (q 2).atName
  let (g, first) ← holding [ov] (getMethod ov "__init__" pl)
  callWith (q 7) g first (backTo (q 7) (starEach [.JoinedStr es pe] env)) [])
/-- what the written part says of such a class -/
structure SxTxt (prog : Program) (K : Frag) (mg : Str → Option Value) (C fI : Addr) (cn f pre qual : Str) : Prop where
  gC : mg cn = some (.ref C)
  cls : ∃ nm q N bs bm sn sub ab col dd k0 k1 k2 k3 k5, K.lookup C = some (excClassObj nm q C N bs bm true sn sub ab col dd k0 k1 k2 k3 k5 "ValueError.__new__") ∧ refsVE bm = true ∧ alongIn K "__init__" bm = some (some (.builtin "ValueError.__init__"))
  sa : findIn K (.ref C) "__setattr__" = some (some (.builtin "object.__setattr__"))
  ga : findIn K (.ref C) "__getattribute__" = some (some (.builtin "BaseException.__getattribute__"))
  gg : findIn K (.ref C) "__getattr__" = some none
  noN : findIn K (.ref C) f = some none
  iC : findIn K (.ref C) "__init__" = some (some (.ref fI))
  tI : typeIn K (.ref fI) = some (.type "function")
  kC : keepIn K (.ref C) = true
  exC : subIn K (.ref C) (.type "BaseException") = some true
  veC : subIn K (.ref C) (.type "ValueError") = some true
  seC : subIn K (.ref C) (.ref C) = some true
  tyC : typeIn K (.ref C) = some (.type "type")
  hdC : hasDictIn K C = true
  op : nsIn K cStatics "thirdparty.any" = some none
  sup : mg "super" = none
  top : (prog.main.scope.names.lookup ("super" : Str)).isSome = false
  fn : ∃ (oc : Value) (od : Option Addr) (doc pm : Value) (an : Option Addr) (ct : Value) (osl : Array (Option Value)) (p1 p2 : Pos) (k : Nat) (q : Nat → Pos) (cda cc : Addr) (ccl : Value) (cdd : Option Addr) (vs : Array Value) (ccs : Array (Option Value)) (file : Str) (tf : Tok) (cl : Value) (cld : Option Addr) (csl : Array (Option Value)),
    K.lookup fI = some ⟨oc, od, .func (ksFn "__init__" qual (sxA f p1 p2) (sxB f pre k q) (sxS f) .none .none doc pm an (.ref cda) ct cc), osl⟩ ∧ codeIn K (.ref cda) qual = true ∧
    K.lookup cda = some ⟨ccl, cdd, .fields vs, ccs⟩ ∧ vs[2]? = some (.str file tf) ∧ ((prog.main.file : Str) == file) = true ∧ K.lookup cc = some ⟨cl, cld, .cell (some (.ref C)), csl⟩ ∧ SxPos q
  fBind : ∀ (doc pm : Value) (an : Option Addr) (cdv ct : Value) (cc : Addr) (p1 p2 : Pos) (k : Nat) (q : Nat → Pos) (a v : Value), bindArgs (ksFn "__init__" qual (sxA f p1 p2) (sxB f pre k q) (sxS f) .none .none doc pm an cdv ct cc) ⟨[a, v], []⟩ = pure [(("self" : Str), a), (f, v)]
  preS : pre.length ≤ 1000
  fSelf : (("self" : Str) == f) = false
  fDbg : (f == ("__debug__" : Str)) = false
  fLoc : (sxS f).names.lookup f = some .local
  fSup : (sxS f).names.lookup ("super" : Str) = some .globalImplicit
  fCls : (sxS f).names.lookup ("__class__" : Str) = some .free
/-- what such an __init__ leaves of a new exception at x -/
structure SxEnd (h h' : Heap) (x C dx : Addr) (f : Str) (v : Value) : Prop where
  keep : ∀ b o, b ≠ x → h.get? b = some o → h'.get? b = some o
  obj : ∃ t1, h'.get? x = some { cls := .ref C, dict := some dx, data := .fields #[.ref t1, .none, .none, .none, .bool false, .none] }
  dbig : h.objs.size ≤ dx
  dne : dx ≠ x
  ns : h'.Ns1 dx (fun y => if y = f then some v else none)
theorem boot_super : bootBuiltins "super" = some (.type "super") := by decide +kernel
theorem drop_first (C : Addr) (l : List Value) : ((Value.ref C :: l).dropWhile fun y => y != .ref C).drop 1 = l := by simp [List.dropWhile_cons]
section
variable {prog : Program} {w : World} {A : Around} {E : Value → Shared → Prop} {R : Result → Shared → Prop} {K : Frag} {mg : Str → Option Value} {C fI : Addr} {cn f pre qual : Str}
/-- a built-in __init__ that is bound to x, called -/
theorem call_mw {h : Heap} {g : Array GenState} {d : Drawn} {t : Nat} {os : OsState} {u x t0 : Addr} {rest : List Value} {Q : Value → Shared → Prop} {nm q : Str} {N : Addr} {bs bm : List Value} {hdct : Bool} {sn : List Str} {sub : List Value} {ab : Bool} {col : Option Bool} {dd : Option Addr} {k0 k1 k2 k3 k5 : Option Value}
    (hC : h.get? C = some (excClassObj nm q C N bs bm hdct sn sub ab col dd k0 k1 k2 k3 k5 "ValueError.__new__")) (hx : h.get? x = some (excO C t0)) (hu : h.get? u = some (kxs_mw "ValueError.__init__" x)) (hr : rest.length ≤ sizeLine)
    (hq : ∀ h' t1, (∀ b o, b ≠ x → h.get? b = some o → h'.get? b = some o) → h'.get? x = some (excO C t1) → Q .none ⟨h', g, d, t, os⟩) : wpAny (model prog w) A (call (.ref u) rest) Q E ⟨h, g, d, t, os⟩ := by
  refine' wpAny_call (codeAny_of_tree _)
  show wpAny (model prog w) A.in1 (callAny (.ref u) ⟨rest, []⟩) _ _ _
  (simp only [callAny]); (refine wpAny_bind (wpAny_load hu ?_))
  have c1 : (Value.type "method-wrapper" == Value.type "method" || Value.type "method-wrapper" == Value.type "builtin_function_or_method" || Value.type "method-wrapper" == Value.type "method-wrapper") = true := by decide
  simp only [kxs_mw, c1, if_true]
  refine W.KFB.if_so (by decide) (wpAny_bind (check_bound_init F.excBase_ValueError.toExcCallFacts hC hx rfl ?_))
  refine wpAny_bind (wpAny_pure (wpAny_pure ⟨plainId_quiet F.excBase_ValueError.init.plain _, codeAny_builtin F.excBase_ValueError.initEntry ?_⟩))
  exact exc_init_tree (cls := .ref C) (t0 := t0) (dv := none) (c2 := .none) (c3 := .none) (b4 := .bool false) hx hr fun h' k hx' _ => hq h' _ k hx'
abbrev sxE (f pre qual : Str) (p1 p2 : Pos) (kk : Nat) (q : Nat → Pos) (doc pm : Value) (an : Option Addr) (cda : Addr) (ct : Value) (cc L fI : Addr) : Env :=
  callEnv (ksFn "__init__" qual (sxA f p1 p2) (sxB f pre kk q) (sxS f) .none .none doc pm an (.ref cda) ct cc) L fI
/-- from the bound __init__'s call on -/
theorem sx_rest (T : SxTxt prog K mg C fI cn f pre qual) {s : Shared} {x t0 u cda cc : Addr} {v : Value} {oc : Value} {od : Option Addr} {doc pm ct : Value} {an : Option Addr} {osl : Array (Option Value)} {p1 p2 : Pos} {kk : Nat} {q : Nat → Pos} {nm qn : Str} {N : Addr} {bs bm : List Value} {sn : List Str} {sub : List Value} {ab : Bool} {col : Option Bool} {dd : Option Addr} {k0 k1 k2 k3 k5 : Option Value}
    {h₀ h₂ h₃ : Heap} {y : Str} {tk tk2 : Nat}
    (ho : K.lookup fI = some ⟨oc, od, .func (ksFn "__init__" qual (sxA f p1 p2) (sxB f pre kk q) (sxS f) .none .none doc pm an (.ref cda) ct cc), osl⟩)
    (hcl : clsIn K C = some { name := nm, bases := bs, mro := .ref C :: bm, ns := N, qualname := qn, hasDict := true, slotNames := sn, subclasses := sub, abstract := ab, collection := col, hasDel := false })
    (hC : K.lookup C = some (excClassObj nm qn C N bs bm true sn sub ab col dd k0 k1 k2 k3 k5 "ValueError.__new__")) (hbm : refsVE bm = true) (X : K.In s.heap) (hx : s.heap.get? x = some (excO C t0)) (hnx : K.lookup x = none)
    (k : ∀ b o, s.heap.get? b = some o → h₀.get? b = some o) (k2' : ∀ b o, h₀.get? b = some o → h₂.get? b = some o) (k3' : ∀ b o, h₂.get? b = some o → h₃.get? b = some o)
    (hu : h₃.get? u = some (kxs_mw "ValueError.__init__" x)) (hns : h₃.Ns s.heap.objs.size fun y => List.lookup y [(("self" : Str), Value.ref x), (f, v)].reverse)
    (vself : List.lookup ("self" : Str) ([(("self" : Str), Value.ref x), (f, v)].reverse) = some (.ref x)) (vfld : List.lookup f ([(("self" : Str), Value.ref x), (f, v)].reverse) = some v)
    (hq : ∀ h' tk dx, SxEnd s.heap h' x C dx f v → R (.ok (.ret .none)) { s with heap := h', toks := tk }) :
    wpAny (model prog w) (A.deeper (sxE f pre qual p1 p2 kk q doc pm an cda ct cc s.heap.objs.size fI)) (call (.ref u) [.str y tk])
      (fun _ s' => PySem.wpAt (model prog w) (A.deeper (sxE f pre qual p1 p2 kk q doc pm an cda ct cc s.heap.objs.size fI)) (.func (sxB f pre kk q) (sxE f pre qual p1 p2 kk q doc pm an cda ct cc s.heap.objs.size fI))
        (execs [.Assign [.Attribute (.Name "self" (q 9)) f (q 10)] (.Name f (q 11)) (q 12)] (sxE f pre qual p1 p2 kk q doc pm an cda ct cc s.heap.objs.size fI))
        (fun fl s' => R (Except.ok (Flow.ret (match fl with | Flow.ret v => v | _ => Value.none))) s')
        (fun e s' => wpAny (model prog w) (A.deeper (sxE f pre qual p1 p2 kk q doc pm an cda ct cc s.heap.objs.size fI)) (leaving (sxE f pre qual p1 p2 kk q doc pm an cda ct cc s.heap.objs.size fI) e) (fun _ s'' => R (.error e) s'') (fun e' s'' => R (.error e') s'') s') s')
      (fun e s' => wpAny (model prog w) (A.deeper (sxE f pre qual p1 p2 kk q doc pm an cda ct cc s.heap.objs.size fI)) (leaving (sxE f pre qual p1 p2 kk q doc pm an cda ct cc s.heap.objs.size fI) e) (fun _ s'' => R (.error e) s'') (fun e' s'' => R (.error e') s'') s')
      { s with heap := h₃, toks := tk2 } := by
  have X₃ : K.In h₃ := ((X.keeps k).keeps k2').keeps k3'
  have hx₃ := k3' _ _ (k2' _ _ (k _ _ hx))
  refine call_mw (X₃ _ _ hC) hx₃ hu (by rw [sizeLine_eq]; show 1 ≤ 16777216; decide) fun h' t1 k' hx' => ?_
  have X' : K.In h' := fun a o e => by
    by_cases ha : a = x
    · rw [ha, hnx] at e; cases e
    · exact k' a o ha (X₃ a o e)
  have hxL : s.heap.objs.size ≠ x := Nat.ne_of_gt (Heap.lt_size hx)
  have hns' := hns.at fun o e => k' _ o hxL e
  refine wpAt_of_wpAny (wpAny_execs_cons (plainObj_wpAny_Assign_Attribute ?_))
  refine wpAny_Name (wpAny_loadName_local rfl T.fLoc hns' vfld (wpAny_Name (wpAny_loadName_local rfl rfl hns' vself ?_) (by decide))) T.fDbg
  refine set_plain X' (ox := excO C t1) (od := none) ⟨hx', rfl, rfl, trivial⟩ T.sa (exc_osa X' hx' hcl (show refsVE (.ref C :: bm) = true from hbm) rfl T.noN (fun h₅ tk₅ dx k₅ dn dne hx₅ hn₅ => ?_))
  obtain ⟨oL, _, _, hL, _⟩ := hns'
  have z : s.heap.objs.size < h'.objs.size := Heap.lt_size hL
  refine wpAny_execs_nil (hq h₅ tk₅ dx ⟨fun b o hb e => k₅ b o hb (k' b o hb (k3' _ _ (k2' _ _ (k b o e)))), ⟨_, hx₅⟩, Nat.le_of_lt (Nat.lt_of_lt_of_le z dn), dne, hn₅⟩)
theorem sx_init (T : SxTxt prog K mg C fI cn f pre qual) {s : Shared} {x t0 : Addr} {v : Value} (X : K.In s.heap) (hlim : s.heap.NoLimit) (G : s.heap.Ns mainGlobals mg) (B : ∃ mb, s.heap.Ns builtinsNs mb ∧ ∀ y : Str, y ≠ "__name__" → mb y = bootBuiltins y)
    (hx : s.heap.get? x = some (excO C t0)) (hnx : K.lookup x = none) (hroom : A.depth < recursionLimit) (hv : (∃ (i : Int) (t : Tok), v = .int i t ∧ i.natAbs.log2 < 1920) ∨ v = .none)
    (hq : ∀ h' tk dx, SxEnd s.heap h' x C dx f v → R (.ok (.ret .none)) { s with heap := h', toks := tk }) :
    codeAny (model prog w) A (.call (.ref fI) ⟨[.ref x, v], []⟩) R s := by
  obtain ⟨oc, od, doc, pm, an, ct, osl, p1, p2, kk, q, cda, cc, ccl, cdd, vs, ccs, file, tf, cl, cld, csl, ho, hcd, hcode, hvs, hfile, hcell, hpos⟩ := T.fn
  obtain ⟨nm, qn, N, bs, bm, sn, sub, ab, col, dd, k0, k1, k2, k3, k5, hC, hbm, hal⟩ := T.cls
  obtain ⟨mb, Bn, Bb⟩ := B
  have hcl : clsIn K C = some { name := nm, bases := bs, mro := .ref C :: bm, ns := N, qualname := qn, hasDict := true, slotNames := sn, subclasses := sub, abstract := ab, collection := col, hasDel := false } := by unfold clsIn; rw [hC] <;> rfl
  have hxC : x ≠ C := fun z => by rw [z, hC] at hnx; cases hnx
  refine ks_codeAny_call_defAt (fd := ksFn "__init__" qual (sxA f p1 p2) (sxB f pre kk q) (sxS f) .none .none doc pm an (.ref cda) ct cc) (body := sxB f pre kk q) (binds := [("self", .ref x), (f, v)]) hroom (X _ _ ho) rfl hlim (codeRec_of X hcd) rfl (BindsTo.of_eq ?_) ?_ ?_ (fun h₀ hns k => ?_) rfl rfl rfl
  · exact T.fBind _ _ _ _ _ _ _ _ _ _ _ _
  · intro y hy
    rcases List.mem_cons.mp hy with rfl | hy
    · exact fun z => by cases z
    rcases List.mem_cons.mp hy with rfl | hy
    · exact fun z => by cases z
    rcases List.mem_cons.mp hy with rfl | hy
    · exact fun z => by cases z
    rcases List.mem_cons.mp hy with rfl | hy
    · exact fun z => by cases z
    · cases hy
  · intro y hy
    rcases List.mem_cons.mp hy with rfl | hy
    · rfl
    rcases List.mem_cons.mp hy with rfl | hy
    · exact T.fLoc
    · cases hy
  have hxL : s.heap.objs.size ≠ x := Nat.ne_of_gt (Heap.lt_size hx)
  have X₁ : K.In h₀ := X.keeps k
  have hx₁ := k _ _ hx
  have vself : List.lookup ("self" : Str) ([(("self" : Str), Value.ref x), (f, v)].reverse) = some (.ref x) := by
    show List.lookup ("self" : Str) [(f, v), (("self" : Str), Value.ref x)] = some (.ref x)
    rw [List.lookup, T.fSelf] <;> rfl
  have vfld : List.lookup f ([(("self" : Str), Value.ref x), (f, v)].reverse) = some v := by
    show List.lookup f [(f, v), (("self" : Str), Value.ref x)] = some v
    rw [List.lookup, beq_self_eq_true]
  obtain ⟨pl, hpl⟩ := hpos (callEnv (ksFn "__init__" qual (sxA f p1 p2) (sxB f pre kk q) (sxS f) .none .none doc pm an (.ref cda) ct cc) s.heap.objs.size fI) (.Call (.Name "super" (q 0)) [] [] (q 1)) [.Constant (.str pre) kk (q 3), .FormattedValue (.Name f (q 4)) (-1) none (q 5)] (q 6)
  refine ks_wpAt_execs_cons (ks_wpAt_Expr_any (ks_wpAt_MethodCall ?_ hpl))
  refine ks_wpAt_super_base T.fSup T.fCls (by decide) rfl (k _ _ (X _ _ ho)) rfl rfl rfl (k _ _ (X _ _ hcode)) rfl hvs hfile T.top ?_
  refine ks_loadName_global rfl T.fSup (loadGlobal_builtin (mg := mg) (mb := mb) (G.keeps k) T.sup (Bn.keeps k) ((Bb _ (by decide)).trans boot_super) ⟨rfl, ?_⟩)
  refine wpAny_loadName_free rfl T.fCls (c := cc) (v := .ref C) rfl ⟨_, k _ _ (X _ _ hcell), rfl⟩ ?_
  refine wpAny_loadName_local rfl rfl hns vself ?_
  refine ks_wpAny_isType_cls (X₁ _ _ hC) rfl ⟨rfl, ?_⟩
  refine ks_wpAny_call_super (X₁ _ _ hC) rfl hx₁ rfl (fun c e => by cases e) (looks_subIn X₁ T.seC) (fun h₂ e₂ k₂ => ?_)
  have X₂ : K.In h₂ := X₁.keeps k₂
  have hx₂ := k₂ _ _ hx₁
  have I₂ : InstAt h₂ x (excO C t0) C none := ⟨hx₂, rfl, rfl, trivial⟩
  refine kxs_getMethod kxs_ValueError e₂ (looks_opaque X₂ T.op) (l₀ := .ref C :: bm) ((looks_clsIn X₂ hcl).andThen .now) (drop_first C bm) X₂ hal (I₂.type.andThen (looks_subIn X₂ T.veC)) hxC rfl ?_
  have e₃ : (h₂.push (kxs_mw "ValueError.__init__" x)).get? h₂.objs.size = some (kxs_mw "ValueError.__init__" x) := Heap.get?_push_at rfl rfl
  have k₃ : ∀ b o, h₂.get? b = some o → (h₂.push (kxs_mw "ValueError.__init__" x)).get? b = some o := fun b o e => Heap.get?_push_of_some _ e
  have hns₃ := (hns.keeps k₂).keeps k₃
  generalize h₂.push (kxs_mw "ValueError.__init__" x) = h₃ at e₃ k₃ hns₃ ⊢
  refine kxs_callWith (i := "ValueError.__init__") (x := x) rfl (evalArgs_plain ?_)
  have hlen : ∀ i : Int, i.natAbs.log2 < 1920 → (Str.empty ++ pre ++ Str.ofString (toString i)).length ≤ sizeLine := fun i hi => by
    have e := int_text_length_le (k := 1920) (by decide) hi
    have := T.preS
    rw [strLen_append, strLen_append, PySem.ofString_length, sizeLine_eq]
    show 0 + pre.length + (toString i).length ≤ 16777216
    omega
  have hpre : (Str.empty ++ pre).length ≤ sizeLine := by
    have := T.preS
    rw [strLen_append, sizeLine_eq]
    show 0 + pre.length ≤ 16777216
    omega
  rcases hv with ⟨i, ti, rfl, hi⟩ | rfl
  · refine Calls.spliced_cons (wpAny_JoinedStr (v₁ := .Constant (.str pre) kk (q 3)) (v₂ := .FormattedValue (.Name f (q 4)) (-1) none (q 5)) (rest := []) (pos := q 6) (wpAny_Constant_str ⟨pre, _, rfl, hpre, ?_⟩))
    refine wpAny_FormattedValue_plain (wpAny_Name (wpAny_loadName_local rfl T.fLoc hns₃ vfld (wpAny_formatField_int hi ⟨_, _, rfl, hlen i hi, hlen i hi, ?_⟩)) T.fDbg)
    refine Calls.spliced_nil ⟨e₃, ?_⟩
    exact sx_rest T ho hcl hC hbm X hx hnx k k₂ k₃ e₃ hns₃ vself vfld hq
  · refine Calls.spliced_cons (wpAny_JoinedStr (v₁ := .Constant (.str pre) kk (q 3)) (v₂ := .FormattedValue (.Name f (q 4)) (-1) none (q 5)) (rest := []) (pos := q 6) (wpAny_Constant_str ⟨pre, _, rfl, hpre, ?_⟩))
    have hn4 : (Str.empty ++ pre ++ Str.ofString "None").length ≤ sizeLine := by
      have := T.preS
      rw [strLen_append, strLen_append, sizeLine_eq]
      show 0 + pre.length + 4 ≤ 16777216
      omega
    refine wpAny_FormattedValue_plain (wpAny_Name (wpAny_loadName_local rfl T.fLoc hns₃ vfld (wpAny_formatField_none ⟨_, _, rfl, hn4, hn4, ?_⟩)) T.fDbg)
    exact Calls.spliced_nil ⟨e₃, sx_rest T ho hcl hC hbm X hx hnx k k₂ k₃ e₃ hns₃ vself vfld hq⟩
/-- a made one: e new, its dict d new -/
structure SxMade (h h' : Heap) (e C d : Addr) (f : Str) (v : Value) : Prop where
  keep : ∀ b o, h.get? b = some o → h'.get? b = some o
  new : h.objs.size ≤ e
  obj : ∃ oe fs, h'.get? e = some oe ∧ oe.cls = .ref C ∧ oe.dict = some d ∧ oe.data = .fields fs ∧ fs[1]? = some .none ∧ fs[2]? = some .none
  dbig : h.objs.size ≤ d
  dne : d ≠ e
  ns : h'.Ns1 d (fun y => if y = f then some v else none)
theorem sx_made (T : SxTxt prog K mg C fI cn f pre qual) {s : Shared} {v : Value} (X : K.In s.heap) (hlim : s.heap.NoLimit) (G : s.heap.Ns mainGlobals mg) (B : ∃ mb, s.heap.Ns builtinsNs mb ∧ ∀ y : Str, y ≠ "__name__" → mb y = bootBuiltins y)
    (hroom : A.depth + 1 < recursionLimit) (hv : (∃ (i : Int) (t : Tok), v = .int i t ∧ i.natAbs.log2 < 1920) ∨ v = .none)
    (hq : ∀ h' tk e d, SxMade s.heap h' e C d f v → R (.ok (.ret (.ref e))) { s with heap := h', toks := tk }) : codeAny (model prog w) A (.call (.ref C) ⟨[v], []⟩) R s := by
  obtain ⟨nm, qn, N, bs, bm, sn, sub, ab, col, dd, k0, k1, k2, k3, k5, hC, hbm, hal⟩ := T.cls
  obtain ⟨hp, g, dr, tk, os⟩ := s
  obtain ⟨mb, Bn, Bb⟩ := B
  have kp : ∀ b o, hp.get? b = some o → ((hp.push (kdv_tup [v])).push (excO C hp.objs.size)).get? b = some o := fun b o z => Heap.get?_push_of_some _ (Heap.get?_push_of_some _ z)
  have atE : ((hp.push (kdv_tup [v])).push (excO C hp.objs.size)).get? (hp.objs.size + 1) = some (excO C hp.objs.size) := by heap_get
  have notK : K.lookup (hp.objs.size + 1) = none := by
    cases z : K.lookup (hp.objs.size + 1) with
    | none => rfl
    | some o => exact absurd (Nat.lt_of_succ_lt (Heap.lt_size (X _ _ z))) (Nat.lt_irrefl _)
  have hone : ([v] : List Value).length ≤ sizeLine := by
    rw [sizeLine_eq]
    show 1 ≤ 16777216
    decide
  refine call_own F.excBase_ValueError (fun Y => refsVE_contains Y bm hbm) (X _ _ hC) (looks_findIn X T.iC) (fun self => bind_fn X self T.tI) hone (sx_init (s := ⟨(hp.push (kdv_tup [v])).push (excO C hp.objs.size), g, dr, tk, os⟩) T (X.keeps kp) (hlim.keeps kp) (G.keeps kp) ⟨mb, Bn.keeps kp, Bb⟩ atE notK ?_ hv fun h' tk' dx M => ?_)
  · show A.depth + 1 < recursionLimit
    exact hroom
  · have z : hp.objs.size + 1 + 1 ≤ dx := by
      have zz := M.dbig
      rw [Heap.size_push, Heap.size_push] at zz
      exact zz
    obtain ⟨t1, ho⟩ := M.obj
    exact ⟨rfl, hq h' tk' (hp.objs.size + 1) dx ⟨fun b o zb => M.keep b o (Nat.ne_of_lt (Nat.lt_succ_of_lt (Heap.lt_size zb))) (kp b o zb), Nat.le_succ _, ⟨_, _, ho, rfl, rfl, rfl, rfl, rfl⟩, (by show hp.objs.size ≤ dx; omega), M.dne, M.ns⟩⟩
end
end SX
namespace L2
open PySem PySem.Spec PyProof.Rows
section
variable {X : Cx} {C fI : Addr} {cn f pre qual : Str}
/-- C(e), C with such an __init__: an int or None -/
def tMkSx (C : Addr) (f : Str) (ta : TA) : St → Hp → XK → Prop := fun σ H Q => ta σ H fun vs H1 => ∃ v, vs = [v] ∧ ((∃ i : Int, v = .int i ∧ i.natAbs.log2 < 1920) ∨ v = .non) ∧ ∀ d, H1 d = none → Q (.ref C) (some d) (upd H1 d (.xd [(f, v)]))
theorem relO_sx {f : Str} {v : V} {u : Value} (r : RelV v u) (g : Str) : RelO (List.lookup g [(f, v)]) (if g = f then some u else none) := by
  by_cases hg : g = f
  · rw [if_pos hg, hg, List.lookup, beq_self_eq_true]
    exact r
  · have e : (g == f) = false := by simpa using hg
    rw [if_neg hg, List.lookup, e]
    trivial
theorem pmk_sx {a : Expr} {ta : TA} {p pos : Pos} {k : Nat} (T : SX.SxTxt X.prog X.K X.mg C fI cn f pre qual) (hr : Room k X.A) (ha : PA X [a] ta) (hg : Gl X cn) (hdb : (cn == ("__debug__" : Str)) = false := by decide)
    (he : starEach (a :: []) X.env = (false, eval a X.env) :: starEach [] X.env := by rfl) (hpl : (backTo pos (starEach [] X.env)).any (·.1) = false := by rfl) : L2N.PMk X (.Call (.Name cn p) [a] [] pos) (tMkSx C f ta) := by
  intro pins s σ H Q I h
  refine wpAny_Call_Name_kw (ld_glob I hg T.gC ?_ hdb)
  refine PySem.W.callWith_K (h₀ := X.base) I.ok.mod.kin T.kC (thn (ha.run pos pins s σ H _ I h) fun us s1 ⟨vs, H1, I1, r1, v, ev, hv, q1⟩ => ?_) he hpl
  subst ev
  refine ⟨I1.kIn, ?_⟩
  cases r1 with
  | @cons _ u _ us' rv rn =>
    cases rn
    show wpAny (model X.prog X.w) X.A (call (.ref C) [u]) _ _ _
    have hu : (∃ (i : Int) (t : Tok), u = .int i t ∧ i.natAbs.log2 < 1920) ∨ u = .none := by
      rcases hv with ⟨i, rfl, hi⟩ | rfl
      · obtain ⟨t, rfl⟩ := rv
        exact .inl ⟨i, t, rfl, hi⟩
      · exact .inr rv
    have hlim := I1.nolimit
    have hG := I1.mod.glob.keeps I1.bk
    obtain ⟨mb, hB, hBb⟩ := I1.mod.blt
    obtain ⟨hp, g, dr, tk, os⟩ := s1
    refine wpAny_call (SX.sx_made T I1.kIn hlim hG ⟨mb, hB.keeps I1.bk, hBb⟩ (by have := hr.dp; omega) hu fun h' tk' e d M => ?_)
    show L2N.MkP X pins σ Q (.ref e) ⟨h', g, dr, tk', os⟩
    obtain ⟨oe, fv, hoe, hc, hd, hdat, h1, h2⟩ := M.obj
    obtain ⟨Gh, gg, ge'⟩ := restrict h' fun b => decide (b ≠ e)
    have gk : ∀ b, b ≠ e → Gh.get? b = h'.get? b := fun b hb => gg b (decide_eq_true hb)
    have ge : Gh.get? e = none := ge' e (by simp)
    have J : Inv X pins σ (upd H1 d (.xd [(f, v)])) ⟨Gh, g, dr, tk', os⟩ := I1.laid (t' := tk') (fun b o z => (gk b (Nat.ne_of_lt (Nat.lt_of_lt_of_le (Heap.lt_size z) M.new))).trans (M.keep b o z)) M.dbig ⟨_, M.ns.at (fun o z => (gk d M.dne).trans z), fun y => relO_sx rv y⟩
    refine ⟨e, oe, fv, ⟨Gh, g, dr, tk', os⟩, _, .ref C, some d, rfl, J, fun b o z => ?_, ge, hoe, ⟨hc, hd, fun vs z => (by rw [hdat] at z; cases z; exact h2)⟩, hdat, h1, ?_, rfl, I1.bare, raises_own T.exC T.tyC, q1 d (I1.hok.fresh M.dbig)⟩
    · by_cases hb : b = e
      · rw [hb] at z
        have z' : Gh.get? e = some o := z
        rw [ge] at z'
        cases z'
      · exact (gk b hb).symm.trans z
    · rw [upd_ne (Ne.symm M.dne)]
      exact I1.hok.fresh M.new
/-- raise C(e) -/
def tRaiseSx (C : Addr) (f : Str) (W : WX) (ta : TA) : TS := fun _ σ H => tMkSx C f ta σ H fun cls d H' => W cls d σ H'
theorem ps_raiseSx {a : Expr} {ta : TA} {W : WX} {p pos pos2 : Pos} {k : Nat} (hc : X.calm = true) (T : SX.SxTxt X.prog X.K X.mg C fI cn f pre qual) (hr : Room k X.A) (tk : L2N.Takes X W) (ha : PA X [a] ta) (hg : Gl X cn) (hdb : (cn == ("__debug__" : Str)) = false := by decide)
    (he : starEach (a :: []) X.env = (false, eval a X.env) :: starEach [] X.env := by rfl) (hpl : (backTo pos (starEach [] X.env)).any (·.1) = false := by rfl) :
    PS X (.Raise (some (.Call (.Name cn p) [a] [] pos)) none pos2) (tRaiseSx C f W ta) := L2N.ps_raise hc tk (pmk_sx T hr ha hg hdb he hpl)
/-- a def that may raise, its exception's context being None -/
theorem okN {P : Program} {w : World} {K : PySem.W.Frag} {mg : Str → Option Value} {base : Heap} {x qual : Str} {st : Stmt} {f : Addr} {fd : FuncData} {N ps : List Str} {k : Nat} {sp : Sp} (F : Fun K x qual st f fd) (S : FnScope N ps (defScope st)) (len : ∀ vs H Q E, sp vs H Q E → vs.length = ps.length)
    (body : ∀ (cdv : Value) (A : Around) (outer : List Env) (s : Shared) (H : Hp) (vs : List V) (Q : VK) (E : XK), Room k (A.deeper (envOfC qual (defScope st) s.heap.objs.size f cdv)) → sp vs H Q E →
      ∃ t, PSs (cxOf (L2N.CX P w) P w K mg base N qual (defScope st) f cdv A outer s H E) (defBody st) t ∧ t { nx := fun _ H' => Q .non H', rt := Q } (start N vs) H) : FnOk P w K mg base (L2N.CX P w) (k + 1) f fd ps sp := by
  obtain ⟨oc, od, kV, doc, pm, an, cdv, ct, osl, rfl, lk, hcd⟩ := F.ex
  exact fn_of lk hcd S len fun A outer s H vs Q E => body cdv A outer s H vs Q E
/-- a def called while an exception is handled -/
theorem okH {P : Program} {w : World} {K : PySem.W.Frag} {mg : Str → Option Value} {base : Heap} {x qual : Str} {st : Stmt} {f : Addr} {fd : FuncData} {N ps : List Str} {k : Nat} {sp : Sp} (F : Fun K x qual st f fd) (S : FnScope N ps (defScope st)) (len : ∀ vs H Q E, sp vs H Q E → vs.length = ps.length)
    (body : ∀ (cdv : Value) (A : Around) (outer : List Env) (s : Shared) (H : Hp) (vs : List V) (Q : VK) (E : XK) (p : Addr × Obj), L2H.Hot1 A p → L2H.RoomH k (A.deeper (envOfC qual (defScope st) s.heap.objs.size f cdv)) → sp vs H Q E →
      ∃ t, PSs (L2H.cxH CX0 P w K mg base N qual (defScope st) f cdv A outer s H E p) (defBody st) t ∧ t { nx := fun _ H' => Q .non H', rt := Q } (start N vs) H) : L2H.FnH P w K mg base CX0 (k + 1) f fd ps sp := by
  obtain ⟨oc, od, kV, doc, pm, an, cdv, ct, osl, rfl, lk, hcd⟩ := F.ex
  exact L2H.fn_ofH lk hcd S len fun A outer s H vs Q E p => body cdv A outer s H vs Q E p
/-- x.f, x the exception that the suite holds -/
def tSxF (C : Addr) (f : Str) (a : Addr) (cls : Value) (d : Option Addr) (te : TE) : TE := fun σ H Q => te σ H fun x H1 => x = .ref a ∧ cls = .ref C ∧ ∃ (dd : Addr) (v : V), d = some dd ∧ H1 dd = some (.xd [(f, v)]) ∧ Q v H1
theorem pe_sxF {prog : Program} {a : Addr} {oe : Obj} {cls : Value} {d : Option Addr} {pn : List (Addr × Obj)} {e : Expr} {te : TE} {pos : Pos} (T : SX.SxTxt prog X.K X.mg C fI cn f pre qual) (hz : Zc cls d oe) (hf : ∃ vs, oe.data = .fields vs) (he : PE (X.suite a ((a, oe) :: pn)) e te)
    (hb : attributeBase e f X.env (eval e X.env) = eval e X.env := by rfl) : PE (X.suite a ((a, oe) :: pn)) (.Attribute e f pos) (tSxF C f a cls d te) := by
  refine ⟨fun pins s σ H Q I h => ?_⟩
  refine attr_of hb (thn (he.run pins s σ H _ I h) fun u s1 ⟨x, H1, I1, rx, ex, ec, dd, v, ed, ea, q⟩ => ?_)
  subst ex
  obtain rfl : u = Value.ref a := rx
  subst ec
  subst ed
  obtain ⟨ha, _⟩ := I1.pin (a, oe) (List.mem_append_left _ List.mem_cons_self)
  obtain ⟨vs, hd⟩ := hf
  have hx : ObjOk X.prog X.w H1 s1.heap dd (.xd [(f, v)]) := I1.hok dd _ ea
  obtain ⟨mA, hns, hr⟩ := hx
  obtain ⟨od, ho, hl⟩ := lookIn_ns hns
  have l : List.lookup f [(f, v)] = some v := by rw [List.lookup, beq_self_eq_true]
  obtain ⟨u, hu, ru⟩ := RelO.some_of (v := v) (o := mA f) (by rw [← l]; exact hr f)
  have J : PySem.W.InstAt s1.heap a oe C (some od) := ⟨ha, hz.1, by unfold PySem.W.notCls; rw [hd] <;> rfl, by rw [hz.2]; exact ho⟩
  exact HandSPX.exc_get I1.kIn J T.ga T.gg T.exC (PySem.W.findObj_own T.hdC T.noN rfl (by rw [hl, hu])) (handed_of ru) ⟨v, H1, I1.tok _, ru, q⟩
end
end L2

namespace K9
open PySem PySem.Spec PyProof.Rows L2
/-! ### bytes_behind, told -/
def asIt : Any → Itm
  | .num n => .b n.toNat
  | .tup [m, b] => .c m.toNat b.toNat
  | _ => .b 0
theorem step_bad {size : Int} : ∀ {x : Any}, itemB x = false → stepA size x = none
  | .num n, h => if_neg (of_decide_eq_false h)
  | .lst _, _ => rfl
  | .tup [], _ => rfl
  | .tup [_], _ => rfl
  | .tup (_ :: _ :: _ :: _), _ => rfl
  | .tup [m, b], h => by
    have h' : (decide (3 ≤ m ∧ m ≤ 18) && decide (1 ≤ b ∧ b ≤ 1024)) = false := h
    refine if_neg fun z => ?_
    rw [decide_eq_true (show 3 ≤ m ∧ m ≤ 18 by omega), decide_eq_true (show 1 ≤ b ∧ b ≤ 1024 by omega)] at h'
    cases h'
theorem log_small {n : Nat} (h : n ≤ 100000) : ((n : Int)).natAbs.log2 < 1920 := by
  rw [Int.natAbs_natCast]
  by_cases hn : n = 0
  · subst hn; decide
  · exact (Nat.log2_lt hn).mpr (Nat.lt_of_le_of_lt h (by decide +kernel))
theorem bi_byB {ks : List Nat} (h : ∀ k ∈ ks, k < 256) : (bi (byB ks)).map V.int = bys ks := by
  unfold bys byB
  congr 1
  show (List.map Nat.toUInt8 ks).toArray.toList.map (fun c => (c.toNat : Int)) = ks.map fun (k : Nat) => (k : Int)
  rw [List.map_map]
  refine List.map_congr_left fun k m => ?_
  show ((k.toUInt8.toNat : Nat) : Int) = k
  have := h k m
  have e : k.toUInt8.toNat = k := by
    rw [Nat.toUInt8_eq, UInt8.toNat_ofNat']
    exact Nat.mod_eq_of_lt this
  rw [e]
theorem byB_of (ks : List Nat) : byteArr (ks.map fun (k : Nat) => (k : Int)) = byB ks := by
  unfold byteArr byB
  rw [List.map_map]
  rfl
theorem byB_size (ks : List Nat) : (byB ks).size = ks.length := by
  unfold byB
  simp
abbrev NBh : List Str := ["items", "ahead", "whole", "at", "item"]
section
variable {P : Program} {w : World} {K : PySem.W.Frag} {mg : Str → Option Value} {base : Heap} {CI fE : Addr}
abbrev BadIt (P : Program) (K : PySem.W.Frag) (mg : Str → Option Value) (CI fE : Addr) : Prop := SX.SxTxt P K mg CI fE "BadItems" "at" "no row of items, seen at " "BadItems.__init__"
def spBehind (C : Addr) : Sp := fun vs H Q E => ∃ (pr : Addr) (us : List V) (any : List Any) (lead : List Nat), vs = [.ref pr, .byt (byB lead)] ∧ H pr = some (.lst us) ∧ Paired (AnyAt H) any us ∧ (∀ k ∈ lead, k < 256) ∧ lead.length ≤ 5000 ∧ any.length ≤ 1000 ∧
  (∀ n : Nat, firstBad (lead.length : Int) 0 any = some n → ∀ H' d, Same H H' → H' d = some (.xd [("at", .int (n : Int))]) → E (.ref C) (some d) H') ∧
  (firstBad (lead.length : Int) 0 any = none → ∀ H' due, Same H H' → tells lead (any.map asIt) = some (lead ++ due) → (∀ k ∈ due, k < 256) → due.length ≤ 18 * any.length → Q (.byt (byB due)) H')
end
end K9

namespace BFX
open PySem PySem.Spec PySem.Calls PyProof.Rows PySem.W PySem.Builtin
theorem args_find4 (a b c d : Value) : argsOk "bytes.find" ⟨[a, b, c, d], []⟩ := by
  unfold argsOk; rw [signature?_of (id := "bytes.find") (n := ['d', 'n', 'i', 'f']) (o := ['s', 'e', 't', 'y', 'b']) (by kernel_rfl) FB.owner_bytes]; kernel_rfl
theorem args_rfind4 (a b c d : Value) : argsOk "bytes.rfind" ⟨[a, b, c, d], []⟩ := by
  unfold argsOk; rw [signature?_of (id := "bytes.rfind") (n := ['d', 'n', 'i', 'f', 'r']) (o := ['s', 'e', 't', 'y', 'b']) (by kernel_rfl) FB.owner_bytes]; kernel_rfl
def winN (n m : Nat) (lo hi : Int) : Option (Nat × Nat) := if min (n : Int) hi - lo < (m : Int) then none else some (lo.toNat, (min (n : Int) hi).toNat)
theorem wp_bound {M : Model} {A : Around} {E : Value → Shared → Prop} {s : Shared} {n : Int} {u : Tok} {Q : Option Int → Shared → Prop} (h : Q (some n) s) : wpAny M A (Bytes.bound? (some (.int n u))) Q E s := by
  unfold Bytes.bound?
  refine wpAny_bind (wpAny_specialOf (T := "int") (typeIs_int s n u) F.slot_int_index.lookup ?_)
  try dsimp only
  rw [if_neg (show ¬ (Option.isNone (some (Value.builtin "int.__index__")) = true) from Bool.false_ne_true)]
  refine wpAny_bind (wpAny_of_eq (a := n) rfl ?_)
  exact wpAny_pure h
theorem window_nn {n : Nat} {lo hi : Int} (h1 : 0 ≤ lo) (h2 : 0 ≤ hi) : Bytes.window n (some lo) (some hi) = (lo, min (n : Int) hi) := by
  show ((if lo < 0 then max 0 (lo + n) else lo), min (n : Int) (if hi < 0 then max 0 (hi + n) else hi)) = _
  rw [if_neg (by omega), if_neg (by omega)]
theorem wp_args4 {M : Model} {A : Around} {E : Value → Shared → Prop} {s : Shared} {b c : Array UInt8} {t u v w : Tok} {lo hi : Int} {name : String} {Q : Array UInt8 × Array UInt8 × Option (Nat × Nat) → Shared → Prop} (h1 : 0 ≤ lo) (h2 : 0 ≤ hi) (h : Q (b, c, winN b.size c.size lo hi) s) :
    wpAny M A (Bytes.searchArgs .bytes name ⟨[.bytes b t, .bytes c u, .int lo v, .int hi w], []⟩) Q E s := by
  unfold Bytes.searchArgs
  refine wpAny_bind (wpAny_of_eq (a := (Value.bytes b t, [Value.bytes c u, Value.int lo v, Value.int hi w])) rfl ?_)
  refine wpAny_bind (wp_bound ?_)
  refine wpAny_bind (wp_bound ?_)
  try dsimp only [List.headD]
  refine wpAny_bind (wpAny_of_eq KBy.buffer_eq ?_)
  first
    | refine wpAny_bind (wpAny_pure ?_)
    | (dsimp only; refine wpAny_bind (wpAny_pure ?_))
    | skip
  refine wpAny_bind (wpAny_of_eq (a := b) rfl ?_)
  try dsimp only
  rw [window_nn h1 h2]
  exact wpAny_pure h
def fnd (b c : Array UInt8) (lo hi : Int) : Option Nat := (winN b.size c.size lo hi).bind fun p => Bytes.find? b c p.1 p.2
def rfnd (b c : Array UInt8) (lo hi : Int) : Option Nat := (winN b.size c.size lo hi).bind fun p => Bytes.rfind? b c p.1 p.2
theorem gives_find4 {b c : Array UInt8} {t u v w : Tok} {lo hi : Int} (h1 : 0 ≤ lo) (h2 : 0 ≤ hi) : Gives («bytes.find» ⟨[.bytes b t, .bytes c u, .int lo v, .int hi w], []⟩) (.int (KBf.told (fnd b c lo hi))) := by
  refine .of_wp fun M A E s Q hq => ?_
  show wpAny M A (Bytes.searchArgs .bytes "find" ⟨[.bytes b t, .bytes c u, .int lo v, .int hi w], []⟩ >>= fun r => _) _ E s
  refine wpAny_bind (wp_args4 h1 h2 ?_)
  show wpAny M A (match fnd b c lo hi with | some i => retInt (i : Int) | none => rule _ >>= fun _ => retInt (-1)) _ E s
  cases e : fnd b c lo hi with
  | none =>
    rw [e] at hq
    exact wpAny_bind (wpAny_rule (wpAny_bind (wpAny_mkInt (wpAny_pure ⟨_, rfl, hq⟩))))
  | some i =>
    rw [e] at hq
    exact wpAny_bind (wpAny_mkInt (wpAny_pure ⟨_, rfl, hq⟩))
theorem gives_rfind4 {b c : Array UInt8} {t u v w : Tok} {lo hi : Int} (h1 : 0 ≤ lo) (h2 : 0 ≤ hi) : Gives («bytes.rfind» ⟨[.bytes b t, .bytes c u, .int lo v, .int hi w], []⟩) (.int (KBf.told (rfnd b c lo hi))) := by
  refine .of_wp fun M A E s Q hq => ?_
  show wpAny M A (Bytes.searchArgs .bytes "rfind" ⟨[.bytes b t, .bytes c u, .int lo v, .int hi w], []⟩ >>= fun r => _) _ E s
  refine wpAny_bind (wp_args4 h1 h2 ?_)
  show wpAny M A (match rfnd b c lo hi with | some i => retInt (i : Int) | none => rule _ >>= fun _ => retInt (-1)) _ E s
  cases e : rfnd b c lo hi with
  | none =>
    rw [e] at hq
    exact wpAny_bind (wpAny_rule (wpAny_bind (wpAny_mkInt (wpAny_pure ⟨_, rfl, hq⟩))))
  | some i =>
    rw [e] at hq
    exact wpAny_bind (wpAny_mkInt (wpAny_pure ⟨_, rfl, hq⟩))
end BFX
namespace L2
open PySem PySem.Spec PySem.Calls PyProof.Rows
section
variable {X : Cx} {o e : Expr} {es : List Expr} {to : TE} {t : TA} {name : Str} {apos cpos : Pos} {id : String} {r : V → List V → Hp → VK → Prop}
def tBMB (r : V → List V → Hp → VK → Prop) (to : TE) (t : TA) : TE := fun σ H Q => to σ H fun x H1 => (∃ b, x = .byt b) ∧ t σ H1 fun xs H2 => r x xs H2 Q
/-- a method of bytes with arguments -/
theorem pe_bmB (slot : Slot "bytes" name id) (hty : typeOf (.builtin id) = pure (.type "method_descriptor")) (hm : MtR X id r) (ho : PE X o to) (ha : PA X (e :: es) t)
    (hbase : attributeBase o name X.env (eval o X.env) = eval o X.env := by rfl)
    (hfew : ((backTo cpos (starEach (e :: es) X.env)).all (fun x => !x.1) && (backToKw cpos (keywordEach [] X.env)).all (fun x => x.1.isSome)
      && decide ((e :: es).length + ([] : List Keyword).length + (if ([] : List Keyword).isEmpty then 0 else 1) < 30)) = true := by rfl)
    (hline : (apos.endLine == cpos.line) = true := by rfl) (hs : starEach (e :: es) X.env = (false, eval e X.env) :: starEach es X.env := by rfl) (hplain : (backTo cpos (starEach es X.env)).any (·.1) = false := by rfl) :
    PE X (.Call (.Attribute o name apos) (e :: es) [] cpos) (tBMB r to t) := by
  refine ⟨fun pins s σ H Q I h => ?_⟩
  refine wpAny_Call_method_late hbase hfew hline rfl (thn (ho.run pins s σ H _ I h) fun v s1 ⟨x, H1, I1, r1, ⟨b, eb⟩, q1⟩ => ?_)
  subst eb
  obtain ⟨tk, rfl⟩ := _root_.id r1
  refine ⟨"bytes", id, PySem.W.FB.plainAttrs_bytes, slot, hty, PySem.W.typeIs_bytes _ _ _, (fun _ e => nomatch e), ?_⟩
  have hA := ha.run cpos pins s1 σ H1 _ I1 q1
  rw [hs] at hA ⊢
  refine Calls.callWith_builtin (by show (false || (backTo cpos (starEach es X.env)).any (·.1)) = false; rw [hplain] <;> rfl) (Calls.evalArgs_plain ?_)
  exact thn hA fun us s2 ⟨vs, H2, I2, r2, q2⟩ => hm pins s2 σ H2 (.byt b) vs _ us Q I2 ⟨tk, rfl⟩ r2 q2
end
theorem mt_bfind4 {X : Cx} : MtR X "bytes.find" (fun x xs H Q => ∃ (a b : Array UInt8) (i j : Int), x = .byt a ∧ xs = [.byt b, .int i, .int j] ∧ 0 ≤ i ∧ 0 ≤ j ∧ Q (.int (PySem.W.KBf.told (BFX.fnd a b i j))) H) := by
  intro pins s σ H x xs v us Q I rx rs h
  obtain ⟨a, b, i, j, rfl, rfl, h1, h2, h⟩ := h
  obtain ⟨t, rfl⟩ := rx
  cases rs with
  | cons r1 rs =>
    cases rs with
    | cons r2 rs =>
      cases rs with
      | cons r3 rs =>
        cases rs
        obtain ⟨u, rfl⟩ := r1
        obtain ⟨z, rfl⟩ := r2
        obtain ⟨y, rfl⟩ := r3
        exact call_gives PySem.W.KBf.slot_find (PySem.W.typeIs_bytes _ _ _) PySem.W.KBf.entry_find (BFX.args_find4 _ _ _ _) (BFX.gives_find4 h1 h2) ⟨V.int _, H, I.tok (s.toks + 1), ⟨_, rfl⟩, h⟩
theorem mt_brfind4 {X : Cx} : MtR X "bytes.rfind" (fun x xs H Q => ∃ (a b : Array UInt8) (i j : Int), x = .byt a ∧ xs = [.byt b, .int i, .int j] ∧ 0 ≤ i ∧ 0 ≤ j ∧ Q (.int (PySem.W.KBf.told (BFX.rfnd a b i j))) H) := by
  intro pins s σ H x xs v us Q I rx rs h
  obtain ⟨a, b, i, j, rfl, rfl, h1, h2, h⟩ := h
  obtain ⟨t, rfl⟩ := rx
  cases rs with
  | cons r1 rs =>
    cases rs with
    | cons r2 rs =>
      cases rs with
      | cons r3 rs =>
        cases rs
        obtain ⟨u, rfl⟩ := r1
        obtain ⟨z, rfl⟩ := r2
        obtain ⟨y, rfl⟩ := r3
        exact call_gives PySem.W.KBf.slot_rfind (PySem.W.typeIs_bytes _ _ _) PySem.W.KBf.entry_rfind (BFX.args_rfind4 _ _ _ _) (BFX.gives_rfind4 h1 h2) ⟨V.int _, H, I.tok (s.toks + 1), ⟨_, rfl⟩, h⟩
end L2

namespace K9
open PySem PySem.Spec PyProof.Rows L2
/-! ### differences, pure -/
inductive Di | b (n : Nat) | c (nw : Bool) (m p : Nat)
  deriving DecidableEq
inductive Og | b (n : Nat) | o (p : Nat)
  deriving DecidableEq
def wideI : Di → Nat
  | .b _ => 1
  | .c _ m _ => m
def fitI (old there : Nat) : Di → Bool
  | .b n => decide (n < 256)
  | .c true m p => decide (3 ≤ m ∧ m ≤ 255 ∧ 1 ≤ p ∧ p ≤ min 2000 there)
  | .c false m p => decide (1 ≤ m ∧ m ≤ 255 ∧ p + m ≤ old)
def fitR (old : Nat) : Nat → List Di → Option Nat
  | t, [] => some t
  | t, i :: r => if fitI old t i = true then fitR old (t + wideI i) r else none
theorem fitR_app (old : Nat) : ∀ (a b : List Di) (t : Nat), fitR old t (a ++ b) = (fitR old t a).bind fun u => fitR old u b
  | [], b, t => rfl
  | i :: a, b, t => by
    show (if fitI old t i = true then fitR old (t + wideI i) (a ++ b) else none) = ((if fitI old t i = true then fitR old (t + wideI i) a else none).bind fun u => fitR old u b)
    split
    · exact fitR_app old a b _
    · rfl
theorem fit_wide {old t : Nat} : ∀ {i : Di}, fitI old t i = true → 1 ≤ wideI i ∧ wideI i ≤ 255
  | .b n, _ => ⟨Nat.le_refl 1, (by decide : 1 ≤ 255)⟩
  | .c true m p, h => by have := of_decide_eq_true h; exact ⟨by show 1 ≤ m; omega, this.2.1⟩
  | .c false m p, h => by have := of_decide_eq_true h; exact ⟨this.1, this.2.1⟩
theorem fitR_le {old : Nat} : ∀ {r : List Di} {t n : Nat}, fitR old t r = some n → t + r.length ≤ n
  | [], t, n, h => by
    have := Option.some.inj h
    show t + 0 ≤ n
    omega
  | i :: r, t, n, h => by
    have h : (if fitI old t i = true then fitR old (t + wideI i) r else none) = some n := h
    split at h
    · rename_i hf
      have := fitR_le h
      have := (fit_wide hf).1
      rw [List.length_cons]
      omega
    · cases h
def ogD : Og := .b 0
def copyO (p : Nat) : Nat → List Og → List Og
  | 0, acc => acc
  | m + 1, acc => copyO p m (acc ++ [acc.getD (acc.length - p) ogD])
def origS (acc : List Og) : Di → List Og
  | .b n => acc ++ [.b n]
  | .c true m p => copyO p m acc
  | .c false m p => acc ++ (List.range m).map fun t => .o (p + t)
def orig (row : List Di) : List Og := row.foldl origS []
def OgOk (old : Nat) : Og → Prop
  | .b n => n < 256
  | .o p => p < old
theorem copyO_len (p : Nat) : ∀ (m : Nat) (acc : List Og), (copyO p m acc).length = acc.length + m
  | 0, _ => rfl
  | m + 1, acc => by
    show (copyO p m _).length = _
    rw [copyO_len p m, List.length_append]
    show acc.length + 1 + m = acc.length + (m + 1)
    omega
theorem copyO_succ (p : Nat) : ∀ (m : Nat) (acc : List Og), copyO p (m + 1) acc = copyO p m acc ++ [(copyO p m acc).getD ((copyO p m acc).length - p) ogD]
  | 0, _ => rfl
  | m + 1, acc => copyO_succ p m (acc ++ [acc.getD (acc.length - p) ogD])
theorem getD_mem' {α : Type} {l : List α} {i : Nat} {d : α} (h : i < l.length) : l.getD i d ∈ l := by
  rw [List.getD_eq_getElem?_getD, List.getElem?_eq_getElem h]
  exact List.getElem_mem h
theorem copyO_ok {old p : Nat} (hp : 1 ≤ p) : ∀ (m : Nat) (acc : List Og), p ≤ acc.length → (∀ o ∈ acc, OgOk old o) → ∀ o ∈ copyO p m acc, OgOk old o
  | 0, _, _, h => h
  | m + 1, acc, hl, h => copyO_ok hp m _ (by rw [List.length_append]; omega) fun o ho => by
    rcases List.mem_append.mp ho with ho | ho
    · exact h o ho
    · rw [List.mem_singleton.mp ho]
      exact h _ (getD_mem' (by omega))
theorem orig_step {old : Nat} {acc : List Og} (ha : ∀ o ∈ acc, OgOk old o) : ∀ {i : Di}, fitI old acc.length i = true → (origS acc i).length = acc.length + wideI i ∧ ∀ o ∈ origS acc i, OgOk old o
  | .b n, h => by
    refine ⟨List.length_append, fun o ho => ?_⟩
    rcases List.mem_append.mp ho with ho | ho
    · exact ha o ho
    · rw [List.mem_singleton.mp ho]
      have h : decide (n < 256) = true := h
      show n < 256
      exact of_decide_eq_true h
  | .c true m p, h => by
    have := of_decide_eq_true h
    exact ⟨copyO_len p m acc, copyO_ok this.2.2.1 m acc (by omega) ha⟩
  | .c false m p, h => by
    have := of_decide_eq_true h
    refine ⟨by show (acc ++ _).length = acc.length + m; rw [List.length_append, List.length_map, List.length_range], fun o ho => ?_⟩
    rcases List.mem_append.mp ho with ho | ho
    · exact ha o ho
    · obtain ⟨t, ht, rfl⟩ := List.mem_map.mp ho
      have := List.mem_range.mp ht
      show p + t < old
      omega
theorem orig_ok {old : Nat} : ∀ {row : List Di} {acc : List Og} {n : Nat}, (∀ o ∈ acc, OgOk old o) → fitR old acc.length row = some n → (row.foldl origS acc).length = n ∧ ∀ o ∈ row.foldl origS acc, OgOk old o
  | [], acc, n, ha, h => ⟨Option.some.inj h, ha⟩
  | i :: r, acc, n, ha, h => by
    have h : (if fitI old acc.length i = true then fitR old (acc.length + wideI i) r else none) = some n := h
    split at h
    · rename_i hf
      obtain ⟨e, k⟩ := orig_step ha hf
      exact orig_ok (row := r) k (by rw [e]; exact h)
    · cases h
/-! ### flat rows -/
def flatO (acc : List Di) (q : Nat) : Option Di → List Di
  | some (.c _ m p) => if m < 255 ∧ p + m = q then acc.dropLast ++ [.c false (m + 1) p] else acc ++ [.c false 1 q]
  | _ => acc ++ [.c false 1 q]
def flatS (acc : List Di) : Og → List Di
  | .b n => acc ++ [.b n]
  | .o q => flatO acc q acc.getLast?
def flatF (os : List Og) : List Di := os.foldl flatS []
def FlI (old : Nat) : Di → Prop
  | .b n => n < 256
  | .c nw m p => nw = false ∧ 1 ≤ m ∧ m ≤ 255 ∧ p + m ≤ old
def og1 : Di → List Og
  | .b n => [.b n]
  | .c _ m p => (List.range m).map fun t => .o (p + t)
theorem og1_len : ∀ i, (og1 i).length = wideI i
  | .b _ => rfl
  | .c _ m p => by show ((List.range m).map _).length = m; rw [List.length_map, List.length_range]
theorem fl_fit {old : Nat} : ∀ {row : List Di} {t : Nat}, (∀ i ∈ row, FlI old i) → fitR old t row = some (t + (row.flatMap og1).length)
  | [], t, _ => rfl
  | i :: r, t, h => by
    have hi := h i (List.mem_cons_self ..)
    have hf : fitI old t i = true := by
      cases i with
      | b n => exact decide_eq_true hi
      | c nw m p =>
        obtain ⟨rfl, h1, h2, h3⟩ := hi
        exact decide_eq_true ⟨h1, h2, h3⟩
    show (if fitI old t i = true then fitR old (t + wideI i) r else none) = _
    rw [if_pos hf, fl_fit fun j hj => h j (List.mem_cons_of_mem _ hj), List.flatMap_cons, List.length_append, og1_len]
    congr 1
    omega
theorem fl_orig {old : Nat} : ∀ {row : List Di} {acc : List Og}, (∀ i ∈ row, FlI old i) → row.foldl origS acc = acc ++ row.flatMap og1
  | [], acc, _ => by simp
  | i :: r, acc, h => by
    have hi := h i (List.mem_cons_self ..)
    have e : origS acc i = acc ++ og1 i := by
      cases i with
      | b n => rfl
      | c nw m p =>
        obtain ⟨rfl, _⟩ := hi
        rfl
    show r.foldl origS (origS acc i) = _
    rw [e, fl_orig fun j hj => h j (List.mem_cons_of_mem _ hj), List.flatMap_cons, List.append_assoc]
theorem last_split {α : Type} {l : List α} {a : α} (h : l.getLast? = some a) : l = l.dropLast ++ [a] := by
  obtain ⟨ys, rfl⟩ := List.getLast?_eq_some_iff.mp h
  rw [List.dropLast_concat]
theorem flatS_ok {old : Nat} {acc : List Di} {o : Og} (ha : ∀ i ∈ acc, FlI old i) (ho : OgOk old o) : (∀ i ∈ flatS acc o, FlI old i) ∧ (flatS acc o).flatMap og1 = acc.flatMap og1 ++ [o] := by
  cases o with
  | b n =>
    refine ⟨fun i hi => ?_, by show (acc ++ [Di.b n]).flatMap og1 = _; rw [List.flatMap_append]; rfl⟩
    rcases List.mem_append.mp hi with hi | hi
    · exact ha i hi
    · rw [List.mem_singleton.mp hi]
      exact ho
  | o q =>
    have hq : q < old := ho
    have plain : (∀ i ∈ acc ++ [Di.c false 1 q], FlI old i) ∧ (acc ++ [Di.c false 1 q]).flatMap og1 = acc.flatMap og1 ++ [.o q] := by
      refine ⟨fun i hi => ?_, by rw [List.flatMap_append]; rfl⟩
      rcases List.mem_append.mp hi with hi | hi
      · exact ha i hi
      · rw [List.mem_singleton.mp hi]
        exact ⟨rfl, Nat.le_refl _, by decide, by omega⟩
    show (∀ i ∈ flatO acc q acc.getLast?, FlI old i) ∧ (flatO acc q acc.getLast?).flatMap og1 = _
    rcases e : acc.getLast? with _ | ⟨n⟩ | ⟨x, m, p⟩
    · exact plain
    · exact plain
    · show (∀ i ∈ (if m < 255 ∧ p + m = q then acc.dropLast ++ [Di.c false (m + 1) p] else acc ++ [Di.c false 1 q]), FlI old i) ∧ (if m < 255 ∧ p + m = q then acc.dropLast ++ [Di.c false (m + 1) p] else acc ++ [Di.c false 1 q]).flatMap og1 = _
      split
      · rename_i hc
        have es := last_split e
        have hm := ha _ (by rw [es]; exact List.mem_append_right _ (List.mem_singleton.mpr rfl) : Di.c x m p ∈ acc)
        obtain ⟨rfl, h1, h2, h3⟩ := hm
        refine ⟨fun i hi => ?_, ?_⟩
        · rcases List.mem_append.mp hi with hi | hi
          · exact ha i (by rw [es]; exact List.mem_append_left _ hi)
          · rw [List.mem_singleton.mp hi]
            exact ⟨rfl, by omega, by omega, by omega⟩
        · have e2 : acc.flatMap og1 = acc.dropLast.flatMap og1 ++ (List.range m).map fun t => Og.o (p + t) := by
            conv => lhs; rw [es]
            rw [List.flatMap_append]
            show _ ++ (og1 (Di.c false m p) ++ []) = _
            rw [List.append_nil]
            rfl
          rw [List.flatMap_append, e2]
          show _ ++ (((List.range (m + 1)).map fun t => Og.o (p + t)) ++ []) = _
          rw [List.append_nil, List.range_succ, List.map_append, ← hc.2, List.append_assoc]
          rfl
      · exact plain
theorem flat_ok {old : Nat} : ∀ {os : List Og} {acc : List Di}, (∀ i ∈ acc, FlI old i) → (∀ o ∈ os, OgOk old o) → (∀ i ∈ os.foldl flatS acc, FlI old i) ∧ (os.foldl flatS acc).flatMap og1 = acc.flatMap og1 ++ os
  | [], acc, ha, _ => ⟨ha, by simp⟩
  | o :: os, acc, ha, h => by
    obtain ⟨k, e⟩ := flatS_ok ha (h o (List.mem_cons_self ..))
    obtain ⟨k2, e2⟩ := flat_ok (os := os) k fun o ho => h o (List.mem_cons_of_mem _ ho)
    exact ⟨k2, by show (os.foldl flatS (flatS acc o)).flatMap og1 = _; rw [e2, e, List.append_assoc]; rfl⟩
theorem flat_orig {old : Nat} {os : List Og} (h : ∀ o ∈ os, OgOk old o) : orig (flatF os) = os := by
  obtain ⟨k, e⟩ := flat_ok (acc := []) (fun i hi => by cases hi) h
  unfold orig flatF
  rw [fl_orig k]
  show [] ++ (os.foldl flatS []).flatMap og1 = os
  rw [e]
  rfl
theorem flat_fit {old : Nat} {os : List Og} (h : ∀ o ∈ os, OgOk old o) : fitR old 0 (flatF os) = some os.length := by
  obtain ⟨k, e⟩ := flat_ok (acc := []) (fun i hi => by cases hi) h
  unfold flatF
  rw [fl_fit k, e]
  simp
/-! ### the bytes that are made -/
def byteO (old : List Nat) : Og → Nat
  | .b n => n
  | .o p => old.getD p 0
def makeB (os : List Og) (old : List Nat) : List Nat := os.map (byteO old)
def joinO (os1 : List Og) : Og → Og
  | .b n => .b n
  | .o p => os1.getD p ogD
theorem makeB_len (os : List Og) (old : List Nat) : (makeB os old).length = os.length := List.length_map _
theorem byteO_lt {old : List Nat} (hk : ∀ k ∈ old, k < 256) : ∀ {o : Og}, OgOk old.length o → byteO old o < 256
  | .b n, h => h
  | .o p, h => hk _ (getD_mem' h)
theorem makeB_lt {old : List Nat} {os : List Og} (hk : ∀ k ∈ old, k < 256) (ho : ∀ o ∈ os, OgOk old.length o) : ∀ k ∈ makeB os old, k < 256 := fun k hm => by
  obtain ⟨o, h1, rfl⟩ := List.mem_map.mp hm
  exact byteO_lt hk (ho o h1)
theorem join_ok {old n : Nat} {os1 os2 : List Og} (h1 : ∀ o ∈ os1, OgOk old o) (hn : os1.length = n) (h2 : ∀ o ∈ os2, OgOk n o) : ∀ o ∈ os2.map (joinO os1), OgOk old o := fun o hm => by
  obtain ⟨q, hq, rfl⟩ := List.mem_map.mp hm
  cases q with
  | b k => exact h2 _ hq
  | o p =>
    have : p < n := h2 _ hq
    exact h1 _ (getD_mem' (by omega))
theorem join_make {old : List Nat} {os1 os2 : List Og} (h2 : ∀ o ∈ os2, OgOk os1.length o) : makeB (os2.map (joinO os1)) old = makeB os2 (makeB os1 old) := by
  unfold makeB
  rw [List.map_map]
  refine List.map_congr_left fun q hq => ?_
  cases q with
  | b k => rfl
  | o p =>
    have hp : p < os1.length := h2 _ hq
    show byteO old (os1.getD p ogD) = (os1.map (byteO old)).getD p 0
    rw [List.getD_eq_getElem?_getD, List.getD_eq_getElem?_getD, List.getElem?_map, List.getElem?_eq_getElem hp]
    rfl
def mrkG : Nat → List Nat → Nat
  | _, [] => 0
  | i, k :: ks => (i + 1) * k + mrkG (i + 1) ks
def mrk (ks : List Nat) : Nat := mrkG 0 ks % 65521
theorem mrk_lt (ks : List Nat) : mrk ks < 65521 := Nat.mod_lt _ (by decide)
/-! ### in the heap -/
def wdN (nw : Bool) : Str := if nw = true then "new" else "old"
def DiAt (H : Hp) : Di → V → Prop
  | .b n, v => v = .int (n : Int)
  | .c nw m p, v => ∃ t, v = .ref t ∧ H t = some (.tup [.str (wdN nw), .int (m : Int), .int (p : Int)])
def OgAt (H : Hp) : Og → V → Prop
  | .b n, v => v = .int (n : Int)
  | .o p, v => ∃ t, v = .ref t ∧ H t = some (.tup [.int (p : Int)])
theorem DiAt.keep {H H' : Hp} {i : Di} {v : V} (h : DiAt H i v) (k : ∀ b xs, H b = some (.tup xs) → H' b = some (.tup xs)) : DiAt H' i v := by
  cases i with
  | b n => exact h
  | c nw m p =>
    obtain ⟨t, e, ht⟩ := h
    exact ⟨t, e, k _ _ ht⟩
theorem OgAt.keep {H H' : Hp} {i : Og} {v : V} (h : OgAt H i v) (k : ∀ b xs, H b = some (.tup xs) → H' b = some (.tup xs)) : OgAt H' i v := by
  cases i with
  | b n => exact h
  | o p =>
    obtain ⟨t, e, ht⟩ := h
    exact ⟨t, e, k _ _ ht⟩
theorem DiAt.same {H H' : Hp} {i : Di} {v : V} (h : DiAt H i v) (s : Same H H') : DiAt H' i v := h.keep fun b xs e => s _ _ e
theorem OgAt.same {H H' : Hp} {i : Og} {v : V} (h : OgAt H i v) (s : Same H H') : OgAt H' i v := h.keep fun b xs e => s _ _ e
theorem tup_put {H : Hp} {D : Addr} {xs ys : List V} (hD : H D = some (.lst xs)) : ∀ b zs, H b = some (.tup zs) → (upd H D (.lst ys)) b = some (.tup zs) := fun b zs e => by
  rw [upd_ne (ne_of e hD (fun z => nomatch z))]
  exact e
theorem DiAt.put {H : Hp} {i : Di} {v : V} {D : Addr} {xs ys : List V} (h : DiAt H i v) (hD : H D = some (.lst xs)) : DiAt (upd H D (.lst ys)) i v := h.keep (tup_put hD)
theorem OgAt.put {H : Hp} {i : Og} {v : V} {D : Addr} {xs ys : List V} (h : OgAt H i v) (hD : H D = some (.lst xs)) : OgAt (upd H D (.lst ys)) i v := h.keep (tup_put hD)
/-- a list of items -/
def RwAt (H : Hp) (r : Addr) (row : List Di) : Prop := ∃ us, H r = some (.lst us) ∧ Paired (DiAt H) row us
theorem RwAt.same {H H' : Hp} {r : Addr} {row : List Di} (h : RwAt H r row) (s : Same H H') : RwAt H' r row := by
  obtain ⟨us, h1, h2⟩ := h
  exact ⟨us, s _ _ h1, h2.mono fun _ _ z => z.same s⟩
/-- a list of origins -/
def OsAt (H : Hp) (r : Addr) (os : List Og) : Prop := ∃ us, H r = some (.lst us) ∧ Paired (OgAt H) os us
theorem OsAt.same {H H' : Hp} {r : Addr} {row : List Og} (h : OsAt H r row) (s : Same H H') : OsAt H' r row := by
  obtain ⟨us, h1, h2⟩ := h
  exact ⟨us, s _ _ h1, h2.mono fun _ _ z => z.same s⟩
def MkAt (H : Hp) (a : Addr) (m : Nat × Nat) : Prop := H a = some (.tup [.int (m.1 : Int), .int (m.2 : Int)])
structure Dfv where
  old : Nat × Nat
  new : Nat × Nat
  row : List Di
structure DfA where
  a : Addr
  b : Addr
  r : Addr
def DfAt (H : Hp) (t : Addr) (x : DfA) (d : Dfv) : Prop := H t = some (.tup [.ref x.a, .ref x.b, .ref x.r]) ∧ MkAt H x.a d.old ∧ MkAt H x.b d.new ∧ RwAt H x.r d.row
theorem DfAt.same {H H' : Hp} {t : Addr} {x : DfA} {d : Dfv} (h : DfAt H t x d) (s : Same H H') : DfAt H' t x d := ⟨s _ _ h.1, s _ _ h.2.1, s _ _ h.2.2.1, h.2.2.2.same s⟩
/-- its marks can be marks -/
def Dfv.Low (d : Dfv) : Prop := d.old.1 ≤ 2000 ∧ d.old.2 < 65521 ∧ d.new.1 ≤ 2000 ∧ d.new.2 < 65521 ∧ d.row.length ≤ 2000
def Dfv.ok (d : Dfv) : Bool := decide (fitR d.old.1 0 d.row = some d.new.1)
end K9


namespace K9
open PySem PySem.Spec PyProof.Rows L2
theorem u8_inj : ∀ {a b : List Nat}, (∀ k ∈ a, k < 256) → (∀ k ∈ b, k < 256) → a.map Nat.toUInt8 = b.map Nat.toUInt8 → a = b
  | [], [], _, _, _ => rfl
  | [], _ :: _, _, _, h => by cases h
  | _ :: _, [], _, _, h => by cases h
  | x :: a, y :: b, ha, hb, h => by
    have h1 : x.toUInt8 :: a.map Nat.toUInt8 = y.toUInt8 :: b.map Nat.toUInt8 := h
    injection h1 with h1 h2
    have hx := ha x (List.mem_cons_self ..)
    have hy := hb y (List.mem_cons_self ..)
    have e1 := congrArg UInt8.toNat h1
    have e2 : x = y := by
      have ex : x.toUInt8.toNat = x % 256 := UInt8.toNat_ofNat'
      have ey : y.toUInt8.toNat = y % 256 := UInt8.toNat_ofNat'
      omega
    rw [e2, u8_inj (fun k m => ha k (List.mem_cons_of_mem _ m)) (fun k m => hb k (List.mem_cons_of_mem _ m)) h2]
theorem byB_inj {a b : List Nat} (ha : ∀ k ∈ a, k < 256) (hb : ∀ k ∈ b, k < 256) (h : byB a = byB b) : a = b := u8_inj ha hb (congrArg Array.toList h)
def sliceN (e : List Nat) (i m : Nat) : List Nat := (e.drop i).take m
theorem slice_len (e : List Nat) (i m : Nat) : (sliceN e i m).length = min m (e.length - i) := by
  unfold sliceN
  rw [List.length_take, List.length_drop]
theorem picked_slice (e : List Nat) (i m : Nat) (h : i ≤ e.length) : PySem.W.KBy.picked (byB e) (some (i : Int)) (some ((i + m : Nat) : Int)) = byB (sliceN e i m) := by
  rw [PySem.W.KBc.picked_eq]
  show (((byB e).toList.drop (clipAt (byB e).size (i : Int))).take (clipAt (byB e).size ((i + m : Nat) : Int) - clipAt (byB e).size (i : Int))).toArray = _
  rw [clipAt_nat, clipAt_nat, byB_size, Nat.min_eq_left h]
  unfold byB sliceN
  show (((e.map Nat.toUInt8).drop i).take (min (i + m) e.length - i)).toArray = (((e.drop i).take m).map Nat.toUInt8).toArray
  rw [← List.map_drop, ← List.map_take]
  congr 2
  by_cases q : i + m ≤ e.length
  · rw [Nat.min_eq_left q, Nat.add_sub_cancel_left]
  · rw [Nat.min_eq_right (by omega), List.take_of_length_le (by rw [List.length_drop]; exact Nat.le_refl _), List.take_of_length_le (by rw [List.length_drop]; omega)]
theorem slice_lt {e : List Nat} (hk : ∀ k ∈ e, k < 256) {i m : Nat} : ∀ k ∈ sliceN e i m, k < 256 := fun k h => hk k (List.mem_of_mem_drop (List.mem_of_mem_take h))
theorem byB_get {e : List Nat} (hk : ∀ k ∈ e, k < 256) (i : Nat) : ((e.map Nat.toUInt8).getD i 0).toNat = e.getD i 0 := by
  rw [List.getD_eq_getElem?_getD, List.getD_eq_getElem?_getD, List.getElem?_map]
  cases q : e[i]? with
  | none => rfl
  | some x =>
    have := hk x (List.mem_of_getElem? q)
    show (x.toUInt8).toNat = x
    have ex : x.toUInt8.toNat = x % 256 := UInt8.toNat_ofNat'
    omega
theorem byB_ext (e : List Nat) (i m : Nat) : (byB e).extract i (i + m) = byB (sliceN e i m) := by
  unfold byB sliceN
  apply Array.ext'
  rw [Array.toList_extract]
  show (e.map Nat.toUInt8).extract i (i + m) = ((e.drop i).take m).map Nat.toUInt8
  rw [List.extract_eq_take_drop, Nat.add_sub_cancel_left, List.map_take, List.map_drop]
theorem ext_is {e s : List Nat} (hk : ∀ k ∈ e, k < 256) (hs : ∀ k ∈ s, k < 256) (i : Nat) : ((byB e).extract i (i + (byB s).size) == byB s) = decide (sliceN e i s.length = s) := by
  rw [byB_size, byB_ext]
  by_cases q : sliceN e i s.length = s
  · rw [q, decide_eq_true rfl]
    exact beq_self_eq_true _
  · rw [decide_eq_false q]
    refine Bool.eq_false_iff.mpr fun z => q (byB_inj (slice_lt hk) hs ?_)
    exact eq_of_beq z
/-- what find tells -/
structure FndIs (e s : List Nat) (lo hi : Nat) (o : Option Nat) : Prop where
  no : o = none → ∀ i, lo ≤ i → i + s.length ≤ min e.length hi → sliceN e i s.length ≠ s
  yes : ∀ i, o = some i → lo ≤ i ∧ i + s.length ≤ min e.length hi ∧ sliceN e i s.length = s ∧ ∀ j, lo ≤ j → j < i → sliceN e j s.length ≠ s
structure RfndIs (e s : List Nat) (lo hi : Nat) (o : Option Nat) : Prop where
  no : o = none → ∀ i, lo ≤ i → i + s.length ≤ min e.length hi → sliceN e i s.length ≠ s
  yes : ∀ i, o = some i → lo ≤ i ∧ i + s.length ≤ min e.length hi ∧ sliceN e i s.length = s ∧ ∀ j, i < j → j + s.length ≤ min e.length hi → sliceN e j s.length ≠ s
theorem win_cases (n m lo hi : Nat) : (n.min hi < lo + m ∧ BFX.winN n m (lo : Int) (hi : Int) = none) ∨ (lo + m ≤ n.min hi ∧ BFX.winN n m (lo : Int) (hi : Int) = some (lo, n.min hi)) := by
  unfold BFX.winN
  have e1 : min (n : Int) (hi : Int) = ((n.min hi : Nat) : Int) := by
    show min (n : Int) (hi : Int) = ((min n hi : Nat) : Int)
    omega
  rw [e1]
  by_cases q : n.min hi < lo + m
  · exact .inl ⟨q, if_pos (by omega)⟩
  · refine .inr ⟨by omega, ?_⟩
    rw [if_neg (by omega)]
    rfl
theorem fnd_is {e s : List Nat} (hk : ∀ k ∈ e, k < 256) (hs : ∀ k ∈ s, k < 256) (lo hi : Nat) : FndIs e s lo hi (BFX.fnd (byB e) (byB s) (lo : Int) (hi : Int)) := by
  unfold BFX.fnd
  rw [byB_size, byB_size]
  rcases win_cases e.length s.length lo hi with ⟨h1, h2⟩ | ⟨h1, h2⟩
  · rw [h2]
    refine ⟨fun _ i a b => ?_, fun i z => by cases z⟩
    have b : i + s.length ≤ e.length.min hi := b
    omega
  · rw [h2]
    show FndIs e s lo hi ((((List.range (e.length.min hi + 1 - (lo + (byB s).size))).map (· + lo)).find? fun i => (byB e).extract i (i + (byB s).size) == byB s))
    have hp : (fun i => (byB e).extract i (i + (byB s).size) == byB s) = fun i => decide (sliceN e i s.length = s) := funext fun i => ext_is hk hs i
    rw [hp, byB_size]
    refine ⟨fun z i a b => ?_, fun i z => ?_⟩
    · have b : i + s.length ≤ e.length.min hi := b
      have := List.find?_eq_none.mp z i (List.mem_map.mpr ⟨i - lo, List.mem_range.mpr (by omega), by omega⟩)
      simpa using this
    · obtain ⟨h3, as, bs, h4, h5⟩ := List.find?_eq_some_iff_append.mp z
      have hm : i ∈ (List.range (e.length.min hi + 1 - (lo + s.length))).map (· + lo) := by rw [h4]; simp
      obtain ⟨t, ht, rfl⟩ := List.mem_map.mp hm
      have ht := List.mem_range.mp ht
      refine ⟨by omega, ?_, of_decide_eq_true h3, fun j a b => ?_⟩
      · show t + lo + s.length ≤ e.length.min hi
        omega
      · have hj : j ∈ as := by
          have hso : ((List.range (e.length.min hi + 1 - (lo + s.length))).map (· + lo)).Pairwise (· < ·) := List.pairwise_map.mpr (List.pairwise_lt_range.imp fun {a b} h => by omega)
          have hjm : j ∈ (List.range (e.length.min hi + 1 - (lo + s.length))).map (· + lo) := List.mem_map.mpr ⟨j - lo, List.mem_range.mpr (by omega), by omega⟩
          rw [h4] at hjm hso
          rcases List.mem_append.mp hjm with q | q
          · exact q
          · rcases List.mem_cons.mp q with q | q
            · omega
            · have := (List.pairwise_cons.mp (List.pairwise_append.mp hso).2.1).1 j q
              omega
        have := h5 j hj
        simpa using this
theorem rfnd_is {e s : List Nat} (hk : ∀ k ∈ e, k < 256) (hs : ∀ k ∈ s, k < 256) (lo hi : Nat) : RfndIs e s lo hi (BFX.rfnd (byB e) (byB s) (lo : Int) (hi : Int)) := by
  unfold BFX.rfnd
  rw [byB_size, byB_size]
  rcases win_cases e.length s.length lo hi with ⟨h1, h2⟩ | ⟨h1, h2⟩
  · rw [h2]
    refine ⟨fun _ i a b => ?_, fun i z => by cases z⟩
    have b : i + s.length ≤ e.length.min hi := b
    omega
  · rw [h2]
    show RfndIs e s lo hi ((((List.range (e.length.min hi + 1 - (lo + (byB s).size))).map (· + lo)).reverse.find? fun i => (byB e).extract i (i + (byB s).size) == byB s))
    have hp : (fun i => (byB e).extract i (i + (byB s).size) == byB s) = fun i => decide (sliceN e i s.length = s) := funext fun i => ext_is hk hs i
    rw [hp, byB_size]
    refine ⟨fun z i a b => ?_, fun i z => ?_⟩
    · have b : i + s.length ≤ e.length.min hi := b
      have := List.find?_eq_none.mp z i (List.mem_reverse.mpr (List.mem_map.mpr ⟨i - lo, List.mem_range.mpr (by omega), by omega⟩))
      simpa using this
    · obtain ⟨h3, as, bs, h4, h5⟩ := List.find?_eq_some_iff_append.mp z
      have hm : i ∈ ((List.range (e.length.min hi + 1 - (lo + s.length))).map (· + lo)).reverse := by rw [h4]; simp
      obtain ⟨t, ht, rfl⟩ := List.mem_map.mp (List.mem_reverse.mp hm)
      have ht := List.mem_range.mp ht
      refine ⟨by omega, ?_, of_decide_eq_true h3, fun j a b => ?_⟩
      · show t + lo + s.length ≤ e.length.min hi
        omega
      · have b : j + s.length ≤ e.length.min hi := b
        have hj : j ∈ as := by
          have hso : ((List.range (e.length.min hi + 1 - (lo + s.length))).map (· + lo)).reverse.Pairwise (fun a b => b < a) := List.pairwise_reverse.mpr (List.pairwise_map.mpr (List.pairwise_lt_range.imp fun {a b} h => by omega))
          have hjm : j ∈ ((List.range (e.length.min hi + 1 - (lo + s.length))).map (· + lo)).reverse := List.mem_reverse.mpr (List.mem_map.mpr ⟨j - lo, List.mem_range.mpr (by omega), by omega⟩)
          rw [h4] at hjm hso
          rcases List.mem_append.mp hjm with q | q
          · exact q
          · rcases List.mem_cons.mp q with q | q
            · omega
            · have := (List.pairwise_cons.mp (List.pairwise_append.mp hso).2.1).1 j q
              omega
        have := h5 j hj
        simpa using this
theorem told_lt {o : Option Nat} : PySem.W.KBf.told o < 0 ↔ o = none := by
  cases o with
  | none => exact ⟨fun _ => rfl, fun _ => (by decide : (-1 : Int) < 0)⟩
  | some i => exact ⟨fun z => absurd z (by show ¬ ((i : Int) < 0); omega), fun z => by cases z⟩
/-! what a letter of backs reaches, step by step -/
end K9

namespace ETX
open PySem PySem.Spec PyProof.Rows
open Sem (wp)
open AutoSeq1 (wpAny_loadPart')
/-! ### enumerate(tuple) -/
theorem meets_enumT (l : Addr) (items : Array Value) (n : Nat) (dct : Option Addr) (sl : Array (Option Value)) :
    Meets (Builtin.«enumerate.__new__» ⟨[.type "enumerate", .ref l], []⟩) (fun _ R s => s.heap.get? l = some { cls := .type "tuple", dict := dct, data := .seq items n, slots := sl } ∧
      R (.ok (.ret (.ref (s.heap.push { cls := .type "tuple_iterator", data := .fields #[.ref l, .int 0 0] }).objs.size)))
        { s with heap := (s.heap.push { cls := .type "tuple_iterator", data := .fields #[.ref l, .int 0 0] }).push { cls := .type "enumerate", data := .fields #[.none, .bool false, .ref s.heap.objs.size, rawInt 0, .none, .none] } }) :=
  .of_wp fun prog w A R s h => by
    obtain ⟨hp, g, d, tk, os⟩ := s; obtain ⟨hl, h⟩ := h
    have hsub := sub_enumerate
    have hL : Heap.IsTuple (Shared.heap ⟨hp, g, d, tk, os⟩) l items := ⟨_, hl, rfl, n, rfl⟩
    wp_walk using wpAny_loadPart' hl
    refine wpAny_stack_any fun st => wpAny_pure ?_
    split
    · rename_i c _ _ _ _ _
      cases (c == Value.type "enumerate")
      · wp_walk using wpAny_loadPart' hl, wpAny_pyIter_tuple hL
        exact ⟨_, rfl, h⟩
      · wp_walk using wpAny_loadPart' hl, wpAny_pyIter_tuple hL
        exact ⟨_, rfl, h⟩
    · wp_walk using wpAny_loadPart' hl, wpAny_pyIter_tuple hL
      exact ⟨_, rfl, h⟩
section
variable {prog : Program} {w : World} {A : Around} {E : Value → Shared → Prop} {s : Shared}
theorem call_enumT {l : Addr} {items : Array Value} {Q : Value → Shared → Prop} (hL : s.heap.IsTuple l items)
    (h : ∀ h', IsEnum h' (s.heap.objs.size + 1) s.heap.objs.size 0 .none → h'.IsTupleIter s.heap.objs.size l 0 → h'.objs.size = s.heap.objs.size + 2 →
      (∀ b o, s.heap.get? b = some o → h'.get? b = some o) → Q (.ref (s.heap.objs.size + 1)) { s with heap := h' }) :
    wpAny (model prog w) A (call (.type "enumerate") [.ref l]) Q E s := by
  obtain ⟨⟨c, dct, dt, sl⟩, hl, hc, n, hd⟩ := hL
  replace hc : c = .type "tuple" := hc
  replace hd : dt = .seq items n := hd
  subst hc hd
  refine callType_new F.called_enumerate (by decide) (F.typeCall_enumerate_1 _) (F.newCall_enumerate_1 _) (fun obj => F.args_object_init_2 obj _) F.entry_enumerate_new
    (meets_enumT l items n dct sl) ⟨hl, ?_⟩
  have hz : (s.heap.push { cls := .type "tuple_iterator", data := .fields #[.ref l, .int 0 0] }).objs.size = s.heap.objs.size + 1 := Heap.size_push ..
  show _ ∧ _
  rw [hz]
  have he : IsEnum ((s.heap.push { cls := .type "tuple_iterator", data := .fields #[.ref l, .int 0 0] }).push
      { cls := .type "enumerate", data := .fields #[.none, .bool false, .ref s.heap.objs.size, rawInt 0, .none, .none] }) (s.heap.objs.size + 1) s.heap.objs.size 0 .none := by
    have := Heap.get?_push_size (s.heap.push { cls := .type "tuple_iterator", data := .fields #[.ref l, .int 0 0] })
      (o := { cls := .type "enumerate", data := .fields #[.none, .bool false, .ref s.heap.objs.size, rawInt 0, .none, .none] }) rfl
    rw [hz] at this; exact this
  refine ⟨⟨_, he, rfl⟩, h _ he ⟨_, Heap.get?_push_of_some _ (Heap.get?_push_size _ rfl), rfl, rfl⟩ (by rw [Heap.size_push, hz]) fun b o x => Heap.get?_push_of_some _ (Heap.get?_push_of_some _ x)⟩
end
end ETX
namespace L2
open PySem PySem.Spec PyProof.Rows
/-- the tuple at a, each item in a new pair -/
def ItE (K : PySem.W.Frag) (a : Addr) : It :=
  ⟨fun i H => ∃ (xs : List V) (x : V), SqT K H a xs ∧ xs[i]? = some x, fun i H v H' => ∃ T x, v = .ref T ∧ H T = none ∧ H' = upd H T (.tup [.int (i : Nat), x]) ∧ ∀ xs, SqT K H a xs → xs[i]? = some x, fun i H => ∃ xs : List V, SqT K H a xs ∧ xs.length = i⟩
theorem turn_enumT {P : Program} {w : World} {K : PySem.W.Frag} {elts : List Expr} {kk : Nat} {tpos : Pos} (a e it : Addr) :
    Turn P w K (.Tuple elts kk tpos) (ItE K a) [e, it] e (fun i h => (∃ old, IsEnum h e it ((i : Nat) : Int) old) ∧ h.IsTupleIter it a i ∧ e ≠ it ∧ e ≠ a ∧ a ≠ it) where
  mem := by simp
  obj := fun i h st b hb => by
    obtain ⟨⟨old, he⟩, ⟨o, ho, hc, hd⟩, _⟩ := st
    have e' : b = e ∨ b = it := by simpa using hb
    rcases e' with z | z
    · rw [z]; exact ⟨_, he, fun v q => nomatch q⟩
    · rw [z]; exact ⟨o, ho, fun v q => by rw [hd] at q; cases q⟩
  keep := fun i h h' st k => let ⟨⟨old, he⟩, hi, hne⟩ := st; ⟨⟨old, k e (by simp) _ he⟩, hi.at fun o q => k it (by simp) o q, hne⟩
  item := by
    intro X hP hw hK hc i pins s σ H E I hf st hg
    subst hP hw hK
    obtain ⟨⟨old, he⟩, hit, hne, hea, hai⟩ := st
    obtain ⟨xs, x, hq, hx⟩ := hg
    obtain ⟨its, rv, p, hz⟩ := I.tuple hq
    have p : s.heap.IsTuple a its.toArray := p
    obtain ⟨u, hu, ru⟩ := rv.get hx
    have hel : e < s.heap.objs.size := Heap.lt_size he
    have hil : it < s.heap.objs.size := by obtain ⟨_, q, _⟩ := hit; exact Heap.lt_size q
    have hlt : i < its.toArray.size := by
      have := (List.getElem?_eq_some_iff.mp hu).1
      simpa using this
    refine wpAny_pyNext_enum_itemD (Draws.tuple (A := X.A.in1) (I.ok.hd hc) it a hai its.toArray) he ⟨hit, p⟩ hlt hne (by simp [hne, hea]) fun u' h' tk hP ho hst' hT hsz hk => ?_
    obtain rfl : u' = u := by
      have h1 : its[i]? = some u' := by simpa using hP
      exact Option.some.inj (h1.symm.trans hu)
    refine ⟨_, rfl, wpAny_letOwnedTupleGo_enum (s := { s with heap := h', toks := tk + 1 }) ho fun h'' he' sb => ?_⟩
    have hT2 : h''.get? s.heap.objs.size = some { cls := .type "tuple", data := .seq #[.int i tk, u'] } := (sb.2 _ (Nat.ne_of_gt hel)).trans hT
    have new : ObjOk X.prog X.w (upd H s.heap.objs.size (.tup [.int (i : Nat), x])) h'' s.heap.objs.size (.tup [.int (i : Nat), x]) :=
      ⟨by show 2 ≤ sizeLine; decide, [.int i tk, u'], .cons ⟨_, rfl⟩ (.cons ru .nil), ⟨_, hT2, rfl, _, rfl⟩⟩
    have I1 : Inv X pins σ (upd H s.heap.objs.size (.tup [.int (i : Nat), x])) { s with heap := h'', toks := tk + 1 } :=
      I.turnedNew (ch := [e, it]) (fun b ob hb q => (sb.2 b (fun z => hb (by simp [z]))).trans (hk b ob (fun z => hb (by simp [z])) (fun z => hb (by simp [z])) q)) hf (Nat.le_refl _) new
    refine ⟨.ref s.heap.objs.size, _, I1, rfl, ⟨_, x, rfl, I.hok.fresh (Nat.le_refl _), rfl, fun ys hy => by rw [I.tuple_inj hy hq]; exact hx⟩, ⟨⟨u', ?_⟩, hst'.1.at fun o q => (sb.2 it (Ne.symm hne)).trans q, hne, hea, hai⟩, fun b hb => ?_⟩
    · have e1 : ((i + 1 : Nat) : Int) = (i : Int) + 1 := by omega
      rw [e1]; exact he'
    · have hb' : b < s.heap.objs.size := by
        have e' : b = e ∨ b = it := by simpa using hb
        rcases e' with z | z
        · rw [z]; exact hel
        · rw [z]; exact hil
      rw [upd_ne (Nat.ne_of_lt hb')]
      exact (hf b hb).1
  done := by
    intro X hP hw hK hc i pins s σ H E I hf st hg
    subst hP hw hK
    obtain ⟨⟨old, he⟩, hit, hne, hea, hai⟩ := st
    obtain ⟨xs, hq, hx⟩ := hg
    obtain ⟨its, rv, p, hz⟩ := I.tuple hq
    have p : s.heap.IsTuple a its.toArray := p
    obtain ⟨f0, f1, f2, f3, f4, f5⟩ := hf it (by simp)
    have hl := rv.length
    have hn : its.toArray.size = i := by simp; omega
    refine wpAny_pyNext_enum_endD (Draws.tuple (A := X.A.in1) (I.ok.hd hc) it a hai its.toArray) he ⟨by rw [hn]; exact hit, p⟩ fun h' eb => ⟨rfl, I.turned (t' := s.toks) (fun b o hb q => eb b o hb q) f0 f1 f3 f4 f5⟩
  self := fun A i s Q E st h => let ⟨⟨_, he⟩, _⟩ := st; wpAny_pyIter_enum he h
def iEnumT (K : PySem.W.Frag) (ta : TA) : TI := fun σ H R => ta σ H fun vs H1 => ∃ a xs, vs = [.ref a] ∧ SqT K H1 a xs ∧ R (ItE K a) H1
theorem pi_enumT {X : Cx} {e : Expr} {ta : TA} {p pos tpos : Pos} {elts : List Expr} {kk : Nat} (hg : Gl X "enumerate") (hm : X.mg "enumerate" = none) (ha : PA X [e] ta) (hs : starEach [e] X.env = [(false, eval e X.env)] := by rfl) :
    PI X (.Tuple elts kk tpos) (.Call (.Name "enumerate" p) [e] [] pos) (iEnumT X.K ta) := by
  refine ⟨fun pins s σ H R I h => ?_⟩
  refine Call_ (ld_blt I hg hm boot_enumerate (PyProof.Rows.callWith_type1 (thn (ha.run pos pins s σ H _ I h) fun us s1 ⟨vs, H1, I1, r1, q1⟩ => ?_) hs rfl))
  obtain ⟨a, xs, ex, hq, q⟩ := q1
  subst ex
  cases r1 with
  | cons r rr =>
    cases rr
    cases r
    obtain ⟨its, rv, p', hz⟩ := I1.tuple hq
    have p' : s1.heap.IsTuple a its.toArray := p'
    have hal : a < s1.heap.objs.size := by obtain ⟨o, e, _⟩ := p'; exact Heap.lt_size e
    refine ETX.call_enumT p' fun h' he hit hsz hk => wpAny_pyIter_enum he ?_
    have I2 : Inv X pins σ H1 { s1 with heap := h' } := I1.kept (t' := s1.toks) hk
    refine ⟨s1.heap.objs.size + 1, [s1.heap.objs.size + 1, s1.heap.objs.size], _, _, H1, rfl, I2, turn_enumT a (s1.heap.objs.size + 1) s1.heap.objs.size, ⟨⟨.none, he⟩, hit, Nat.succ_ne_self _, Ne.symm (Nat.ne_of_lt (Nat.lt_succ_of_lt hal)), Nat.ne_of_lt hal⟩, fun b hb => ?_, q⟩
    have e' : b = s1.heap.objs.size + 1 ∨ b = s1.heap.objs.size := by simpa using hb
    have hle : s1.heap.objs.size ≤ b := by
      rcases e' with z | z
      · rw [z]; exact Nat.le_add_right _ _
      · rw [z]; exact Nat.le_refl _
    exact I1.fpOk hle (I1.hok.fresh hle)
theorem walk_enumT {K : PySem.W.Frag} {a : Addr} {xs : List V} : Walk (ItE K a) xs.length (fun H => SqT K H a xs) (YPair (fun i => some (.int (i : Nat))) (fun i => xs[i]?)) := by
  refine ⟨fun i _ hi q => ⟨xs, xs[i], q, by simp [hi]⟩, fun _ q => ⟨xs, q, rfl⟩, fun i H v H' _ q y => ?_⟩
  obtain ⟨T, x, h1, h2, h3, h4⟩ := y
  exact ⟨T, .int (i : Nat), x, h1, h2, h3, rfl, h4 xs q⟩
/-! ### max(tuple of ints) -/
def rMaxT (K : PySem.W.Frag) : List V → Hp → VK → Prop := fun vs H Q => ∃ (a : Addr) (ns : List Int), vs = [V.ref a] ∧ SqT K H a (ns.map V.int) ∧ 0 < ns.length ∧ ∀ m, m ∈ ns → (∀ y, y ∈ ns → y ≤ m) → Q (.int m) H
theorem reads_ints {h : Heap} : ∀ {its : List Value} {ns : List Int}, Vals (ns.map V.int) its → ∃ as, ReadsAll h its (ns.map PyData.int) as
  | _, [], .nil => ⟨_, .nil⟩
  | _, n :: ns, .cons r rs => by
    obtain ⟨as, h1⟩ := reads_ints (h := h) rs
    obtain ⟨t, rfl⟩ := r
    exact ⟨_, .cons (.int ..) h1⟩
theorem depth_ints : ∀ ns : List Int, PyData.depthAll (ns.map PyData.int) = 0
  | [] => rfl
  | n :: r => by
    have ih := depth_ints r
    show max (PyData.int n).depth (PyData.depthAll (r.map PyData.int)) = 0
    rw [ih]
    rfl
theorem fold_max : ∀ (ns : List Int) (n : Int), ns.foldl max n ∈ n :: ns ∧ ∀ y ∈ n :: ns, y ≤ ns.foldl max n
  | [], n => ⟨List.mem_singleton_self _, fun y m => by rw [List.mem_singleton.mp m]; exact Int.le_refl _⟩
  | k :: r, n => by
    obtain ⟨h1, h2⟩ := fold_max r (max n k)
    show r.foldl max (max n k) ∈ _ ∧ ∀ y ∈ n :: k :: r, y ≤ r.foldl max (max n k)
    constructor
    · rcases List.mem_cons.mp h1 with q | q
      · rw [q]
        by_cases z : n ≤ k
        · rw [show max n k = k by omega]
          simp
        · rw [show max n k = n by omega]
          simp
      · exact List.mem_cons_of_mem _ (List.mem_cons_of_mem _ q)
    · intro y m
      have h3 := h2 (max n k) (List.mem_cons_self ..)
      rcases List.mem_cons.mp m with q | q
      · omega
      · rcases List.mem_cons.mp q with q | q
        · omega
        · exact h2 y (List.mem_cons_of_mem _ q)
theorem cr_maxT {X : Cx} (hc : X.calm = true) {j : Nat} (hr : Room j X.A) : CallR X (.builtin "max") (rMaxT X.K) := by
  intro pins s σ H vs us Q I r h
  obtain ⟨a, ns, rfl, hs, hne, q⟩ := h
  obtain ⟨its, rv, hl, _⟩ := I.tuple hs
  rw [Vals.ref1 r]
  cases ns with
  | nil => exact absurd hne (Nat.lt_irrefl 0)
  | cons n ns =>
    obtain ⟨as, hra⟩ := reads_ints (h := s.heap) rv
    have hu := hr.un
    refine PySem.W.max_tuple_data (x := .int n) (xs := ns.map PyData.int) (I.ok.hd hc) (show s.heap.IsTuple a its.toArray from hl) (by simpa using hra) ⟨fun x hx y hy => ?_, fun x hx z => ?_⟩ ?_ fun i v h' tk bs hv hrd hk => ?_
    · have hx : x ∈ (n :: ns).map PyData.int := hx
      have hy : y ∈ (n :: ns).map PyData.int := hy
      obtain ⟨a1, _, rfl⟩ := List.mem_map.mp hx
      obtain ⟨a2, _, rfl⟩ := List.mem_map.mp hy
      rfl
    · have hx : x ∈ (n :: ns).map PyData.int := hx
      obtain ⟨a1, _, rfl⟩ := List.mem_map.mp hx
      cases z
    · show X.A.units + 1 + PyData.depthAll ((n :: ns).map PyData.int) < cLine
      rw [depth_ints]
      omega
    · rw [PySem.W.maxD_ints] at hrd
      cases hrd
      obtain ⟨h1, h2⟩ := fold_max ns n
      exact ⟨.int _, H, I.kept hk, ⟨_, rfl⟩, q _ h1 h2⟩
end L2

/-! ### iterators that end while an exception is handled -/
namespace HY
open PySem PySem.Spec PyProof.Rows HotX
section
variable {prog : Program} {w : World} {A : Around} {E : Value → Shared → Prop} {s : Shared} {x1 : Addr}
theorem hotUp {h h' : Heap} (x : HotAt A x1 h) (k : ∀ o, h.get? x1 = some o → h'.get? x1 = some o) : HotAt A x1 h' := by
  obtain ⟨hh, o, vs, e1, e2, e3⟩ := x
  exact ⟨hh, o, vs, k _ e1, e2, e3⟩
theorem hotLt {h : Heap} (x : HotAt A x1 h) : x1 < h.objs.size := by
  obtain ⟨_, o, _, e1, _⟩ := x
  exact Heap.lt_size e1
/-- a StopIteration is made and raised -/
theorem stop_hot {α : Type} {Q : α → Shared → Prop} (hot : HotAt A x1 s.heap)
    (hE : ∀ h' e, (∀ b o, s.heap.get? b = some o → h'.get? b = some o) → (∃ o, h'.get? e = some o ∧ o.cls = .type "StopIteration") → E (.ref e) { s with heap := h' }) :
    wpAny (model prog w) A (newExc (.type "StopIteration") [] >>= fun e => (raiseNew e : Sem α)) Q E s := by
  (refine wpAny_bind ?_); (simp only [newExc, newTuple]); (refine wpAny_bind (wpAny_newObj_type ?_ (by size_fits)))
  refine wpAny_bind (m := firstArgMember _ _) (wpAny_of_eq (a := Value.none) (by first | rfl | (simp only [firstArgMember]; rfl)) (wpAny_newObj_type ?_ (by size_fits)))
  refine raiseNew_hot (x1 := x1) (hotUp hot fun o e => Heap.get?_push_of_some _ (Heap.get?_push_of_some _ e)) (Nat.ne_of_lt (by rw [Heap.size_push]; exact Nat.lt_succ_of_lt (hotLt hot))) (Heap.get?_push_size _ rfl) rfl (by first | (simp; done) | (simp; omega)) (hE _ _ (fun b o e => ?_) ⟨_, Heap.get?_update_self _ (Heap.get?_push_size _ rfl) rfl, rfl⟩)
  rw [Heap.get?_update_other _ _ (Nat.ne_of_gt (Heap.lt_size (Heap.get?_push_of_some _ e)))]
  exact Heap.get?_push_of_some _ (Heap.get?_push_of_some _ e)
theorem tup_end_hot {it t : Addr} {i : Nat} {items : Array Value} {Q : Option Value → Shared → Prop} (hot : HotAt A x1 s.heap) (nx : x1 ≠ it) (hit : s.heap.IsTupleIter it t i) (ht : s.heap.IsTuple t items) (hx : items[i]? = none)
    (hQ : ∀ h', Heap.ExtBut it s.heap h' → Q none { s with heap := h' }) : wpAny (model prog w) A (pyNext (.ref it)) Q E s := by
  obtain ⟨o, ho, hc, hd⟩ := id hit
  obtain ⟨ot, hot', _, nt, hdt⟩ := ht
  unfold pyNext
  refine wpAny_bind (wpAny_attempt (wpAny_callSpecial?_slot (name := Str.ofString "__next__") hit.typeIs F.slot_tuple_iterator_next (wpAny_call_entry F.slot_tuple_iterator_next hit.typeIs F.entry_tuple_iterator_next ?_ (F.args_tuple_iterator_next_1 _))))
  show wpAny _ _ (field (.ref it) 0 >>= _) _ _ s; refine wpAny_bind (wpAny_field ho hd (x := .ref t) rfl ?_)
  show wpAny _ _ (if (Value.ref t == Value.none) = true then _ else _) _ _ s; rw [if_neg (show ¬ ((Value.ref t == Value.none) = true) from Bool.false_ne_true)]
  show wpAny _ _ (field (.ref it) 1 >>= _) _ _ s; refine wpAny_bind (wpAny_field ho hd (x := .int i 0) rfl ?_)
  show wpAny _ _ (seqItems? (.ref t) >>= _) _ _ s; refine wpAny_bind (wpAny_seqItems hot' hdt ?_)
  simp only [Int.toNat_natCast, hx]
  refine wpAny_bind (wpAny_rule (wpAny_bind (wpAny_setField ho hd (by simp) ?_)))
  refine stop_hot (x1 := x1) (A := A.in1) (hotUp hot fun u e => (Heap.get?_update_other _ _ (Ne.symm nx)).trans e) fun h' e k ⟨oe, he, hce⟩ => ?_
  refine wpAny_bind (wpAny_isInstance (T := "StopIteration") (b := true) ⟨oe, he, hce⟩ isSubtype_stop (wpAny_pure (hQ _ fun b u hb eb => k b u ((Heap.get?_update_other _ _ (Ne.symm hb)).trans eb))))
theorem list_end_hot {it l : Addr} {i : Nat} {items : Array Value} {Q : Value → Shared → Prop} (hot : HotAt A x1 s.heap) (nx : x1 ≠ it) (hit : s.heap.IsListIter it l i) (hl : s.heap.IsList l items) (hx : items[i]? = none)
    (hE : ∀ h' e, Heap.ExtBut it s.heap h' → (∃ o, h'.get? e = some o ∧ o.cls = .type "StopIteration") → E (.ref e) { s with heap := h' }) : wpAny (model prog w) A (Builtin.SmallTypes.nextOf (.ref it)) Q E s := by
  obtain ⟨o, ho, hc, hd⟩ := id hit
  obtain ⟨ot, hot', _, nt, hdt⟩ := hl
  unfold Builtin.SmallTypes.nextOf
  refine wpAny_bind (wpAny_callSpecial?_slot (name := Str.ofString "__next__") hit.typeIs slot_listiter_next (wpAny_call_entry slot_listiter_next hit.typeIs entry_listiter_next ?_ (args_listiter_next _)))
  show wpAny _ _ (field (.ref it) 0 >>= _) _ _ s; refine wpAny_bind (wpAny_field ho hd (x := .ref l) rfl ?_)
  show wpAny _ _ (if (Value.ref l == Value.none) = true then _ else _) _ _ s; rw [if_neg (show ¬ ((Value.ref l == Value.none) = true) from Bool.false_ne_true)]
  show wpAny _ _ (field (.ref it) 1 >>= _) _ _ s; refine wpAny_bind (wpAny_field ho hd (x := .int i 0) rfl ?_)
  show wpAny _ _ (seqItems? (.ref l) >>= _) _ _ s; refine wpAny_bind (wpAny_seqItems hot' hdt ?_)
  simp only [Int.toNat_natCast, hx]
  refine wpAny_bind (wpAny_rule (wpAny_bind (wpAny_setField ho hd (by simp) ?_)))
  exact stop_hot (x1 := x1) (A := A.in1) (hotUp hot fun u e => (Heap.get?_update_other _ _ (Ne.symm nx)).trans e) fun h' e k he => hE _ _ (fun b u hb eb => k b u ((Heap.get?_update_other _ _ (Ne.symm hb)).trans eb)) he
theorem enum_end_hot {e it l : Addr} {i : Nat} {items : Array Value} {old : Value} {Q : Option Value → Shared → Prop} (hot : HotAt A x1 s.heap) (nx : x1 ≠ it) (he : IsEnum s.heap e it i old) (hit : s.heap.IsListIter it l i) (hl : s.heap.IsList l items) (hx : items[i]? = none)
    (hQ : ∀ h', Heap.ExtBut it s.heap h' → Q none { s with heap := h' }) : wpAny (model prog w) A (pyNext (.ref e)) Q E s := by
  have hT : s.TypeIs (.ref e) "enumerate" := ⟨_, he, rfl⟩
  unfold pyNext
  refine wpAny_bind (wpAny_attempt (wpAny_callSpecial?_slot (name := Str.ofString "__next__") hT F.slot_enumerate_next (wpAny_call_entry F.slot_enumerate_next hT F.entry_enumerate_next ?_ (F.args_enumerate_next_1 _))))
  show wpAny _ _ (field (.ref e) 2 >>= _) _ _ _
  refine wpAny_bind (wpAny_field he rfl (x := .ref it) rfl (wpAny_bind (list_end_hot (x1 := x1) (A := A.in1) hot nx hit hl hx fun h' x eb ⟨o, ho, hc⟩ => ?_)))
  exact wpAny_bind (wpAny_isInstance (T := "StopIteration") (b := true) ⟨o, ho, hc⟩ isSubtype_stop (wpAny_pure (hQ _ eb)))
theorem items_hot {t : Addr} {items : Array Value} {Q : List Value → Shared → Prop} (hot : HotAt A x1 s.heap) (ht : IsTup s.heap t items)
    (hQ : ∀ h', Heap.ExtBut s.heap.objs.size s.heap h' → Q items.toList { s with heap := h' }) : wpAny (model prog w) A (unpackItems (.ref t) items.size none) Q E s := by
  have hlt : t ≠ s.heap.objs.size := by obtain ⟨o, ho, _⟩ := ht; exact Nat.ne_of_lt (Heap.lt_size ho)
  have hxl : x1 ≠ s.heap.objs.size := Nat.ne_of_lt (hotLt hot)
  unfold unpackItems
  refine wpAny_bind ?_
  unfold notIterableAtAll
  refine wpAny_bind (wpAny_specialOf ht.typeIs slot_tuple_iter.lookup (wpAny_pure ?_))
  simp only [Bool.false_eq_true, if_false]
  refine wpAny_bind (wpAny_holding (iter_tuple ht (wpAny_bind (wpAny_holding (draw_tuple hlt items.size 0 _ _ ⟨_, Heap.get?_push_size _ rfl, rfl, rfl⟩ (ht.push _) (by omega) fun h₁ hit₁ hs₁ => ?_)))))
  have hall : List.take items.size (List.drop 0 items.toList) = items.toList := by
    rw [List.drop_zero]; exact List.take_of_length_le (by simp)
  rw [hall, if_neg (by simp)]
  have ht₁ : IsTup h₁ t items := (ht.push _).extBut hs₁.extBut hlt
  have hot₁ : HotAt A x1 h₁ := hotUp hot fun o e => hs₁.extBut x1 o hxl (Heap.get?_push_of_some _ e)
  refine wpAny_bind (wpAny_holding (tup_end_hot (x1 := x1) (t := t) (i := 0 + items.size) hot₁ hxl hit₁ ht₁ (by simp) fun h₂ he₂ => ?_))
  simp only [Option.isSome_none, Bool.false_eq_true, if_false]
  exact wpAny_pure (hQ h₂ fun b o hb e => he₂ b o hb (hs₁.extBut b o hb (Heap.get?_push_of_some _ e)))
theorem tup_asg_hot {env : Env} {elts : List Expr} {k : Nat} {pos : Pos} {t : Addr} {items : Array Value} {Q : Unit → Shared → Prop} (hot : HotAt A x1 s.heap) (ht : IsTup s.heap t items)
    (hn : (assignEach elts env).length = items.size) (hstar : (assignEach elts env).findIdx? (·.1) = none)
    (h : ∀ h', Heap.ExtBut s.heap.objs.size s.heap h' → wpAny (model prog w) A (assignInOrder ((assignEach elts env).map (·.2)) items.toList) Q E { s with heap := h' }) : wpAny (model prog w) A (assign (.Tuple elts k pos) env (.ref t)) Q E s := by
  rw [assign_Tuple]
  refine wpAny_bind (wpAny_standAt ?_)
  unfold unpack
  rw [hn, hstar]
  exact wpAny_bind (wpAny_holding (items_hot (x1 := x1) hot ht h))
theorem walks_hot {I ax : Addr} {items : Array Value} (hne : ax ≠ I) (nx : x1 ≠ I) :
    Walks prog w A I [I, ax, x1] [I] items.size (fun i v => items[i]? = some v) (fun i h => h.IsTupleIter I ax i ∧ h.IsTuple ax items ∧ HotAt A x1 h) where
  sub := fun b hb => by
    rw [List.mem_singleton.mp hb]
    exact List.mem_cons_self ..
  frame := fun _ _ _ st hk => ⟨st.1.at fun o e => hk I (by simp) o e, st.2.1.at fun o e => hk ax (by simp) o e, hotUp st.2.2 fun o e => hk x1 (by simp) o e⟩
  item := fun i s Q E hi st hQ => by
    refine wpAny_pyNext_tuple_item st.1 st.2.1 (x := items[i]) (by simp [hi]) fun h' hi' hs' => hQ _ h' s.toks (by simp [hi]) ⟨hi', st.2.1.extBut hs'.extBut hne, hotUp st.2.2 fun o e => hs'.extBut x1 o nx e⟩ fun b o hb e => hs'.extBut b o (fun z => hb (by simp [z])) e
  done := fun s Q E st hQ => tup_end_hot (x1 := x1) st.2.2 nx st.1 st.2.1 (by simp) fun h' he' => hQ h' s.toks fun b o hb e => he' b o (fun z => hb (by simp [z])) e
  self := fun _ _ _ _ st hQ => wpAny_pyIter_tupleiter st.1 hQ
theorem min_hot {a b : Int} {t u : Tok} {Q : Value → Shared → Prop} (hot : HotAt A x1 s.heap)
    (h : ∀ h' tk, (∀ c o, s.heap.get? c = some o → h'.get? c = some o) → Q (if b < a then .int b u else .int a t) { s with heap := h', toks := tk }) : wpAny (model prog w) A (call (.builtin "min") [.int a t, .int b u]) Q E s := by
  have hT : (s.heap.push { cls := .type "tuple", data := .seq #[.int a t, .int b u] }).IsTuple s.heap.objs.size (intItems #[(a, t), (b, u)]) := ⟨_, Heap.get?_push_size _ rfl, rfl, 0, by simp [intItems]⟩
  have sz : (s.heap.push { cls := .type "tuple", data := .seq #[.int a t, .int b u] }).objs.size = s.heap.objs.size + 1 := Heap.size_push ..
  have hx := hotLt hot
  refine call_min_two (wpAny_pyIter_tuple hT ⟨_, [_, s.heap.objs.size, x1], [_], _, _, _, _, rfl, walks_hot (A := A.in1) (x1 := x1) (ax := s.heap.objs.size) (items := intItems #[(a, t), (b, u)]) (by rw [sz]; exact Nat.ne_of_lt (Nat.lt_succ_self _)) (by rw [sz]; exact Nat.ne_of_lt (Nat.lt_succ_of_lt hx)),
    ⟨⟨_, Heap.get?_push_size _ rfl, rfl, rfl⟩, hT.push _, hotUp hot fun o e => Heap.get?_push_of_some _ (Heap.get?_push_of_some _ e)⟩, fun c hc => ?_, by simp [intItems], CmpOf.ints_lt (numAt #[(a, t), (b, u)]) (fun _ _ => intItems_at), fun v h' tk hP hk => ?_⟩)
  · show c < ((s.heap.push _).push _).objs.size; rw [Heap.size_push, sz]
    rcases List.mem_cons.mp hc with z | hc
    · rw [z, sz]; exact Nat.lt_succ_self _
    rcases List.mem_cons.mp hc with z | hc
    · rw [z]; exact Nat.lt_succ_of_lt (Nat.lt_succ_self _)
    · rw [List.mem_singleton.mp hc]; exact Nat.lt_succ_of_lt (Nat.lt_succ_of_lt hx)
  · have old : ∀ c o, s.heap.get? c = some o → h'.get? c = some o := fun c o e => by
      refine hk c o (fun hm => ?_) (Heap.get?_push_of_some _ (Heap.get?_push_of_some _ e))
      have z := Heap.lt_size e
      rw [List.mem_singleton.mp hm, sz] at z
      exact Nat.lt_irrefl _ (Nat.lt_of_succ_lt z)
    have q := h h' tk old
    have hv : v = if b < a then Value.int b u else Value.int a t := by
      have hP' : (intItems #[(a, t), (b, u)])[argBest (fun i j => decide (numAt #[(a, t), (b, u)] i < numAt #[(a, t), (b, u)] j)) 1]? = some v := by
        rw [show 1 = (intItems #[(a, t), (b, u)]).size - 1 by simp [intItems]]; exact hP
      by_cases hba : b < a
      · rw [show argBest (fun i j => decide (numAt #[(a, t), (b, u)] i < numAt #[(a, t), (b, u)] j)) 1 = 1 by simp [argBest, numAt, hba]] at hP'
        simpa [intItems, hba] using hP'.symm
      · rw [show argBest (fun i j => decide (numAt #[(a, t), (b, u)] i < numAt #[(a, t), (b, u)] j)) 1 = 0 by simp [argBest, numAt, hba]] at hP'
        simpa [intItems, hba] using hP'.symm
    rw [hv]; exact q
end
end HY
namespace L2H
open PySem PySem.Spec PyProof.Rows L2 HotX HY
section
variable {X : Cx} {pos : Pos}
theorem pg_tupH {es : List Expr} {k : Nat} {t : TGs} {n : Nat} (hc : HotC X) (h : PGs X es t)
    (hn : (assignEach es X.env).length = n := by rfl) (hst : (assignEach es X.env).findIdx? (·.1) = none := by rfl) : PG X (.Tuple es k pos) (gTup X.K n t) := by
  refine ⟨fun pins s σ H v u Q I r hw => ?_⟩
  obtain ⟨a, xs, e1, hq, hl, hw⟩ := hw
  subst e1
  cases r
  obtain ⟨its, rv, ht, hz⟩ := I.tuple hq
  obtain ⟨x1, hot⟩ := hc.at I
  refine tup_asg_hot (x1 := x1) hot ht (by simp [hn, ← hl, rv.length]) hst fun h' hx => ?_
  exact h.run pins _ σ H xs _ Q (I.kept (t' := s.toks) fun b o e => hx b o (Nat.ne_of_lt (Heap.lt_size e)) e) (by simpa using rv) hw
theorem call_min2H (hc : HotC X) : CallR X (.builtin "min") (fun xs H Q => ∃ i j, xs = [.int i, .int j] ∧ Q (.int (if j < i then j else i)) H) := by
  intro pins s σ H xs us Q I r h
  obtain ⟨i, j, rfl, q⟩ := h
  obtain ⟨u, w', rfl, ⟨t, rfl⟩, ⟨t', rfl⟩⟩ := vals2 r
  obtain ⟨x1, hot⟩ := hc.at I
  refine min_hot (x1 := x1) hot fun h' tk k => ⟨_, H, I.kept k, ?_, q⟩
  by_cases hj : j < i
  · (rw [if_pos hj, if_pos hj]); exact ⟨_, rfl⟩
  · (rw [if_neg hj, if_neg hj]); exact ⟨_, rfl⟩
theorem turn_enumH {P : Program} {w : World} {K : PySem.W.Frag} {elts : List Expr} {kk : Nat} {tpos : Pos} (a e it : Addr) :
    TurnH P w K (.Tuple elts kk tpos) (Ite K a) [e, it] e (fun i h => (∃ old, IsEnum h e it ((i : Nat) : Int) old) ∧ h.IsListIter it a i ∧ e ≠ it) where
  mem := (turn_enum (P := P) (w := w) (K := K) (elts := elts) (kk := kk) (tpos := tpos) a e it).mem
  obj := (turn_enum (P := P) (w := w) (K := K) (elts := elts) (kk := kk) (tpos := tpos) a e it).obj
  keep := (turn_enum (P := P) (w := w) (K := K) (elts := elts) (kk := kk) (tpos := tpos) a e it).keep
  self := (turn_enum (P := P) (w := w) (K := K) (elts := elts) (kk := kk) (tpos := tpos) a e it).self
  item := by
    intro X hP hw hK hc i pins s σ H E I hf st hg
    subst hP hw hK
    obtain ⟨⟨old, he⟩, hit, hne⟩ := st
    obtain ⟨xs, x, hq, hx⟩ := hg
    obtain ⟨its, rv, p, hz⟩ := I.list hq
    obtain ⟨u, hu, ru⟩ := rv.get hx
    have hel : e < s.heap.objs.size := Heap.lt_size he
    have hil : it < s.heap.objs.size := by (obtain ⟨_, q, _⟩ := hit); (exact Heap.lt_size q)
    refine wpAny_pyNext_enum_item he hit p.isList (x := u) (by simpa using hu) hne fun h' ho hit' hT hsz hk => ⟨_, rfl, wpAny_letOwnedTupleGo_enum (s := { s with heap := h', toks := s.toks + 1 }) ho fun h2 he2 sb => ?_⟩
    have hT2 : h2.get? s.heap.objs.size = some { cls := .type "tuple", data := .seq #[.int i s.toks, u] } := (sb.2 _ (Nat.ne_of_gt hel)).trans hT
    have new : ObjOk X.prog X.w (upd H s.heap.objs.size (.tup [.int (i : Nat), x])) h2 s.heap.objs.size (.tup [.int (i : Nat), x]) := ⟨(show 2 ≤ sizeLine by decide), [.int i s.toks, u], .cons ⟨_, rfl⟩ (.cons ru .nil), ⟨_, hT2, rfl, _, rfl⟩⟩
    have I1 : Inv X pins σ (upd H s.heap.objs.size (.tup [.int (i : Nat), x])) { s with heap := h2, toks := s.toks + 1 } := I.turnedNew (ch := [e, it]) (fun b ob hb q => (sb.2 b (fun z => hb (by simp [z]))).trans (hk b ob (fun z => hb (by simp [z])) (fun z => hb (by simp [z])) q)) hf (Nat.le_refl _) new
    refine ⟨.ref s.heap.objs.size, _, I1, rfl, ⟨_, x, rfl, I.hok.fresh (Nat.le_refl _), rfl, fun ys hy => by rw [I.list_inj hy hq]; exact hx⟩, ⟨⟨u, (by rw [show ((i + 1 : Nat) : Int) = (i : Int) + 1 by omega]; exact he2)⟩, hit'.at fun o q => (sb.2 it (Ne.symm hne)).trans q, hne⟩, fun b hb => ?_⟩
    have hb' : b < s.heap.objs.size := by
      rcases (show b = e ∨ b = it by simpa using hb) with z | z
      · (rw [z]); (exact hel)
      · (rw [z]); (exact hil)
    exact (upd_ne (Nat.ne_of_lt hb')).trans (hf b hb).1
  done := by
    intro X hP hw hK hc i pins s σ H E I hf st hg
    subst hP hw hK
    obtain ⟨⟨old, he⟩, hit, hne⟩ := st
    obtain ⟨xs, hq, hx⟩ := hg
    obtain ⟨its, rv, p, hz⟩ := I.list hq
    obtain ⟨f0, f1, f2, f3, f4, f5⟩ := hf it (by simp)
    have hl := rv.length
    obtain ⟨q, ⟨hh, v1, e1, c1⟩, hp⟩ := id hc
    have hpin := I.pin q (List.mem_append_left _ hp)
    have nx : q.1 ≠ it := fun z => by
      obtain ⟨o, ho, hco, hdo⟩ := hit
      rw [z, ho] at hpin
      have e2 := Option.some.inj hpin.1
      rw [← e2, hdo] at e1
      have e3 : v1 = _ := (Data.fields.inj e1).symm
      rw [e3] at c1
      cases c1
    exact enum_end_hot (x1 := q.1) ⟨hh, q.2, v1, hpin.1, e1, c1⟩ nx he hit p.isList (by simp; omega) fun h' eb => ⟨rfl, I.turned (t' := s.toks) (fun b o hb q => eb b o hb q) f0 f1 f3 f4 f5⟩
theorem pi_enumH {e : Expr} {ta : TA} {p pos tpos : Pos} {elts : List Expr} {kk : Nat} (hg : Gl X "enumerate") (hm : X.mg "enumerate" = none) (ha : PA X [e] ta) (hs : starEach [e] X.env = [(false, eval e X.env)] := by rfl) :
    PIH X (.Tuple elts kk tpos) (.Call (.Name "enumerate" p) [e] [] pos) (iEnum X.K ta) := by
  refine ⟨fun pins s σ H R I h => ?_⟩
  refine Call_ (ld_blt I hg hm boot_enumerate (PyProof.Rows.callWith_type1 (thn (ha.run pos pins s σ H _ I h) fun us s1 ⟨vs, H1, I1, r1, a, xs, ex, hq, q⟩ => ?_) hs rfl))
  subst ex
  cases r1 with
  | cons r rr =>
    cases rr
    cases r
    obtain ⟨its, rv, p', hz⟩ := I1.list hq
    refine call_enumerate_list p'.isList fun h' he hit hsz hk => wpAny_pyIter_enum he ⟨s1.heap.objs.size + 1, [s1.heap.objs.size + 1, s1.heap.objs.size], _, _, H1, rfl, I1.kept (t' := s1.toks) hk, turn_enumH a (s1.heap.objs.size + 1) s1.heap.objs.size, ⟨⟨.none, he⟩, hit, Nat.succ_ne_self _⟩, fun b hb => ?_, q⟩
    have hle : s1.heap.objs.size ≤ b := by
      rcases (show b = s1.heap.objs.size + 1 ∨ b = s1.heap.objs.size by simpa using hb) with z | z
      · (rw [z]); (exact Nat.le_add_right _ _)
      · (rw [z]); (exact Nat.le_refl _)
    exact I1.fpOk hle (I1.hok.fresh hle)
end
end L2H

/-! ### enumerate(bytes), also while an exception is handled -/
namespace EBX
open PySem PySem.Spec PyProof.Rows PySem.W.KBw
section
variable {prog : Program} {w : World} {A : Around} {E : Value → Shared → Prop} {s : Shared} {b : Array UInt8} {t : Tok}
theorem nx_item {it : Addr} {i : Nat} {c : UInt8} {Q : Value → Shared → Prop} (hit : IsBytesIter s.heap it b t i) (hx : b[i]? = some c)
    (hQ : ∀ h', IsBytesIter h' it b t (i + 1) → Heap.SameBut it s.heap h' → Q (.int (c.toNat : Int) s.toks) { s with heap := h', toks := s.toks + 1 }) : wpAny (model prog w) A (Builtin.SmallTypes.nextOf (.ref it)) Q E s := by
  obtain ⟨o, ho, hc, hd⟩ := id hit
  unfold Builtin.SmallTypes.nextOf
  refine wpAny_bind (wpAny_callSpecial?_slot (name := PySem.Str.ofString "__next__") (iter_typeIs hit) slot_next
    (wpAny_call_entry slot_next (iter_typeIs hit) entry_next ?_ (args_next _)))
  show wpAny _ _ (field (.ref it) 0 >>= _) _ _ s
  refine wpAny_bind (wpAny_field ho hd (x := .bytes b t) rfl ?_)
  show wpAny _ _ (if (Value.bytes b t == Value.none) = true then _ else _) _ _ s
  rw [if_neg (show ¬ ((Value.bytes b t == Value.none) = true) from Bool.false_ne_true)]
  show wpAny _ _ (field (.ref it) 1 >>= _) _ _ s
  refine wpAny_bind (wpAny_field ho hd (x := .int i 0) rfl ?_)
  refine wpAny_bind (wpAny_of_eq (a := b) rfl ?_)
  simp only [Int.toNat_natCast, hx]
  refine wpAny_bind (wpAny_setField ho hd (by simp) (wpAny_bind (wpAny_mkInt (wpAny_pure ⟨_, rfl, wpAny_pure (hQ _ ?_ (Heap.SameBut.update ..))⟩))))
  exact ⟨_, Heap.get?_update_self _ ho (Obj.isFreed_of_fields (Obj.data_mapFields hd _)), (Obj.cls_mapFields ..).trans hc, by
    rw [Obj.data_mapFields hd]; simp [rawInt]⟩
theorem nx_end {it : Addr} {i : Nat} {Q : Value → Shared → Prop} (hh : A.handled = none) (hit : IsBytesIter s.heap it b t i) (hx : b[i]? = none)
    (hE : ∀ h' e, Heap.ExtBut it s.heap h' → (∃ o, h'.get? e = some o ∧ o.cls = .type "StopIteration") → E (.ref e) { s with heap := h' }) : wpAny (model prog w) A (Builtin.SmallTypes.nextOf (.ref it)) Q E s := by
  obtain ⟨o, ho, hc, hd⟩ := id hit
  unfold Builtin.SmallTypes.nextOf
  refine wpAny_bind (wpAny_callSpecial?_slot (name := PySem.Str.ofString "__next__") (iter_typeIs hit) slot_next
    (wpAny_call_entry slot_next (iter_typeIs hit) entry_next ?_ (args_next _)))
  show wpAny _ _ (field (.ref it) 0 >>= _) _ _ s
  refine wpAny_bind (wpAny_field ho hd (x := .bytes b t) rfl ?_)
  show wpAny _ _ (if (Value.bytes b t == Value.none) = true then _ else _) _ _ s
  rw [if_neg (show ¬ ((Value.bytes b t == Value.none) = true) from Bool.false_ne_true)]
  show wpAny _ _ (field (.ref it) 1 >>= _) _ _ s
  refine wpAny_bind (wpAny_field ho hd (x := .int i 0) rfl ?_)
  refine wpAny_bind (wpAny_of_eq (a := b) rfl ?_)
  simp only [Int.toNat_natCast, hx]
  refine wpAny_bind (wpAny_rule (wpAny_bind (wpAny_setField ho hd (by simp) ?_)))
  show wpAny _ _ (newExc (.type "StopIteration") [] >>= _) _ _ _
  refine wpAny_bind ?_
  simp only [newExc, newTuple]
  refine wpAny_bind (wpAny_newObj_type ?_ (by size_fits))
  refine wpAny_bind (m := firstArgMember _ _) (wpAny_of_eq (a := Value.none) (by first | rfl | (simp only [firstArgMember]; rfl)) ?_)
  refine wpAny_newObj_type ?_ (by size_fits)
  simp only [raiseNew]
  refine wpAny_bind (wpAny_handled ?_)
  first | rw [show A.in1.handled = none from hh] | rw [hh]
  refine wpAny_bind (wpAny_pure (wpAny_throw ?_))
  exact hE _ _ (((Heap.SameBut.update ..).extBut.push _).push _) ⟨_, Heap.get?_push_size _ rfl, rfl⟩
theorem nx_end_hot {x1 it : Addr} {i : Nat} {Q : Value → Shared → Prop} (hot : HotX.HotAt A x1 s.heap) (nx : x1 ≠ it) (hit : IsBytesIter s.heap it b t i) (hx : b[i]? = none)
    (hE : ∀ h' e, Heap.ExtBut it s.heap h' → (∃ o, h'.get? e = some o ∧ o.cls = .type "StopIteration") → E (.ref e) { s with heap := h' }) : wpAny (model prog w) A (Builtin.SmallTypes.nextOf (.ref it)) Q E s := by
  obtain ⟨o, ho, hc, hd⟩ := id hit
  unfold Builtin.SmallTypes.nextOf
  refine wpAny_bind (wpAny_callSpecial?_slot (name := PySem.Str.ofString "__next__") (iter_typeIs hit) slot_next
    (wpAny_call_entry slot_next (iter_typeIs hit) entry_next ?_ (args_next _)))
  show wpAny _ _ (field (.ref it) 0 >>= _) _ _ s
  refine wpAny_bind (wpAny_field ho hd (x := .bytes b t) rfl ?_)
  show wpAny _ _ (if (Value.bytes b t == Value.none) = true then _ else _) _ _ s
  rw [if_neg (show ¬ ((Value.bytes b t == Value.none) = true) from Bool.false_ne_true)]
  show wpAny _ _ (field (.ref it) 1 >>= _) _ _ s
  refine wpAny_bind (wpAny_field ho hd (x := .int i 0) rfl ?_)
  refine wpAny_bind (wpAny_of_eq (a := b) rfl ?_)
  simp only [Int.toNat_natCast, hx]
  refine wpAny_bind (wpAny_rule (wpAny_bind (wpAny_setField ho hd (by simp) ?_)))
  exact HY.stop_hot (x1 := x1) (A := A.in1) (HY.hotUp hot fun u e => (Heap.get?_update_other _ _ (Ne.symm nx)).trans e) fun h' e k he => hE _ _ (fun b u hb eb => k b u ((Heap.get?_update_other _ _ (Ne.symm hb)).trans eb)) he
theorem begins_byt (b : Array UInt8) (t : Tok) : Begins (.bytes b t) { cls := .type "bytes_iterator", data := .fields #[.bytes b t, .int 0 0] } fun _ => True where
  iter := fun prog w A E s Q _ h => pyIter_bytes h
  keeps := fun _ _ _ _ => trivial
  free := rfl
theorem draws_byt (hh : A.handled = none) (it : Addr) (b : Array UInt8) (t : Tok) : Draws prog w A it [it] b.size (fun i v => ∃ c u, b[i]? = some c ∧ v = .int (c.toNat : Int) u) (fun i h => IsBytesIter h it b t i) where
  live := fun _ _ st => let ⟨o, ho, _⟩ := st; ⟨o, ho⟩
  frame := fun _ _ _ st hk => let ⟨o, ho, r⟩ := st; ⟨o, hk it (by simp) o ho, r⟩
  item := fun i s Q E hi st hQ => nx_item st (c := b[i]) (by simp [hi]) fun h' hit' hs' => hQ _ h' (s.toks + 1) ⟨_, _, by simp [hi], rfl⟩ hit' hs'
  done := fun s Q E st hE => nx_end hh st (by simp) hE
theorem draws_bytH {x1 : Addr} (it : Addr) (nx : x1 ≠ it) (b : Array UInt8) (t : Tok) : Draws prog w A it [it, x1] b.size (fun i v => ∃ c u, b[i]? = some c ∧ v = .int (c.toNat : Int) u) (fun i h => IsBytesIter h it b t i ∧ HotX.HotAt A x1 h) where
  live := fun _ _ st => let ⟨o, ho, _⟩ := st.1; ⟨o, ho⟩
  frame := fun _ _ _ st hk => ⟨let ⟨o, ho, r⟩ := st.1; ⟨o, hk it (by simp) o ho, r⟩, HY.hotUp st.2 fun o e => hk x1 (by simp) o e⟩
  item := fun i s Q E hi st hQ => nx_item st.1 (c := b[i]) (by simp [hi]) fun h' hit' hs' => hQ _ h' (s.toks + 1) ⟨_, _, by simp [hi], rfl⟩ ⟨hit', HY.hotUp st.2 fun o e => (hs'.2 x1 nx).trans e⟩ hs'
  done := fun s Q E st hE => nx_end_hot (x1 := x1) st.2 nx st.1 (by simp) hE
theorem call_enumB {Q : Value → Shared → Prop}
    (h : ∀ h', IsEnum h' (s.heap.objs.size + 1) s.heap.objs.size 0 .none → IsBytesIter h' s.heap.objs.size b t 0 → h'.objs.size = s.heap.objs.size + 2 →
      (∀ b o, s.heap.get? b = some o → h'.get? b = some o) → Q (.ref (s.heap.objs.size + 1)) { s with heap := h' }) :
    wpAny (model prog w) A (call (.type "enumerate") [.bytes b t]) Q E s := by
  have M : Meets (Builtin.«enumerate.__new__» ⟨[.type "enumerate", .bytes b t], []⟩) (fun _ R s =>
      R (.ok (.ret (.ref (s.heap.push { cls := .type "bytes_iterator", data := .fields #[.bytes b t, .int 0 0] }).objs.size)))
        { s with heap := (s.heap.push { cls := .type "bytes_iterator", data := .fields #[.bytes b t, .int 0 0] }).push { cls := .type "enumerate", data := .fields #[.none, .bool false, .ref s.heap.objs.size, rawInt 0, .none, .none] } }) :=
    .of_wp fun prog w A R s h => by
      obtain ⟨hp, g, d, tk, os⟩ := s
      have hsub := sub_enumerate
      have q1 : ∀ {A' : Around} {E : Value → Shared → Prop} {Q : Value → Shared → Prop}, Q (.ref hp.objs.size) ⟨(hp.push { cls := .type "bytes_iterator", data := .fields #[.bytes b t, .int 0 0] }), g, d, tk, os⟩ → wpAny (model prog w) A' (pyIter (.bytes b t)) Q E ⟨hp, g, d, tk, os⟩ :=
        fun q => pyIter_bytes (s := ⟨hp, g, d, tk, os⟩) q
      wp_walk using q1
      refine wpAny_stack_any fun st => wpAny_pure ?_
      split
      · rename_i c _ _ _ _ _
        cases (c == Value.type "enumerate")
        · wp_walk using q1
          exact ⟨_, rfl, h⟩
        · wp_walk using q1
          exact ⟨_, rfl, h⟩
      · wp_walk using q1
        exact ⟨_, rfl, h⟩
  refine callType_new F.called_enumerate (by decide) (F.typeCall_enumerate_1 _) (F.newCall_enumerate_1 _) (fun obj => F.args_object_init_2 obj _) F.entry_enumerate_new M ?_
  have hz : (s.heap.push { cls := .type "bytes_iterator", data := .fields #[.bytes b t, .int 0 0] }).objs.size = s.heap.objs.size + 1 := Heap.size_push ..
  show _ ∧ _
  rw [hz]
  have he : IsEnum ((s.heap.push { cls := .type "bytes_iterator", data := .fields #[.bytes b t, .int 0 0] }).push
      { cls := .type "enumerate", data := .fields #[.none, .bool false, .ref s.heap.objs.size, rawInt 0, .none, .none] }) (s.heap.objs.size + 1) s.heap.objs.size 0 .none := by
    have := Heap.get?_push_size (s.heap.push { cls := .type "bytes_iterator", data := .fields #[.bytes b t, .int 0 0] })
      (o := { cls := .type "enumerate", data := .fields #[.none, .bool false, .ref s.heap.objs.size, rawInt 0, .none, .none] }) rfl
    rw [hz] at this; exact this
  refine ⟨⟨_, he, rfl⟩, h _ he ⟨_, Heap.get?_push_of_some _ (Heap.get?_push_size _ rfl), rfl, rfl⟩ (by rw [Heap.size_push, hz]) fun b o x => Heap.get?_push_of_some _ (Heap.get?_push_of_some _ x)⟩
end
end EBX
namespace L2
open PySem PySem.Spec PyProof.Rows
/-- bytes, each in a new pair -/
def ItEB (b : Array UInt8) : It :=
  ⟨fun i _ => i < b.size, fun i H v H' => ∃ T c, v = .ref T ∧ H T = none ∧ H' = upd H T (.tup [.int (i : Nat), .int ((c : UInt8).toNat : Int)]) ∧ b[i]? = some c, fun i _ => b.size ≤ i⟩
theorem enumB_obj {a e it : Addr} {i : Nat} {x : Array UInt8} {t : Tok} {h : Heap} (st : (∃ old, IsEnum h e it ((i : Nat) : Int) old) ∧ PySem.W.KBw.IsBytesIter h it x t i ∧ e ≠ it) : ∀ b ∈ [e, it], ∃ o, h.get? b = some o ∧ ∀ v, o.data ≠ .cell v := fun b hb => by
  obtain ⟨⟨old, he⟩, ⟨o, ho, hc, hd⟩, _⟩ := st
  have e' : b = e ∨ b = it := by simpa using hb
  rcases e' with z | z
  · rw [z]; exact ⟨_, he, fun v q => nomatch q⟩
  · rw [z]; exact ⟨o, ho, fun v q => by rw [hd] at q; cases q⟩
theorem enumB_keep {e it : Addr} {i : Nat} {x : Array UInt8} {t : Tok} {h h' : Heap} (st : (∃ old, IsEnum h e it ((i : Nat) : Int) old) ∧ PySem.W.KBw.IsBytesIter h it x t i ∧ e ≠ it) (k : ∀ b ∈ [e, it], ∀ o, h.get? b = some o → h'.get? b = some o) :
    (∃ old, IsEnum h' e it ((i : Nat) : Int) old) ∧ PySem.W.KBw.IsBytesIter h' it x t i ∧ e ≠ it := by
  obtain ⟨⟨old, he⟩, ⟨o, ho, r⟩, hne⟩ := st
  exact ⟨⟨old, k e (by simp) _ he⟩, ⟨o, k it (by simp) o ho, r⟩, hne⟩
theorem enumB_item {X : Cx} {elts : List Expr} {kk : Nat} {tpos : Pos} {fp' : List Addr} {e it : Addr} {i : Nat} {x : Array UInt8} {t : Tok} {St : Nat → Heap → Prop} {pins : List (Addr × Obj)} {s : Shared} {σ : L2.St} {H : Hp} {E : Value → Shared → Prop}
    (D : Draws X.prog X.w X.A.in1 it fp' x.size (fun i v => ∃ c u, x[i]? = some c ∧ v = .int (c.toNat : Int) u) St) (hSt : ∀ h, St (i + 1) h → PySem.W.KBw.IsBytesIter h it x t (i + 1)) (h0 : St i s.heap) (hef : e ∉ fp') (I : Inv X pins σ H s) (hf : ∀ b ∈ [e, it], FpOk X pins H b)
    (st : (∃ old, IsEnum s.heap e it ((i : Nat) : Int) old) ∧ PySem.W.KBw.IsBytesIter s.heap it x t i ∧ e ≠ it) (hg : i < x.size) :
    wpAny (model X.prog X.w) X.A (pyNext (.ref e)) (fun r s1 => ∃ u, r = some u ∧
      wpAny (model X.prog X.w) X.A (letOwnedTupleGo (.Tuple elts kk tpos) (.ref e) u) (fun _ s2 => ∃ y H', Inv X pins σ H' s2 ∧ RelV y u ∧ (ItEB x).yld i H y H' ∧ ((∃ old, IsEnum s2.heap e it ((i + 1 : Nat) : Int) old) ∧ PySem.W.KBw.IsBytesIter s2.heap it x t (i + 1) ∧ e ≠ it) ∧ ∀ b ∈ [e, it], H' b = none) E s1) E s := by
  obtain ⟨⟨old, he⟩, hit, hne⟩ := st
  have hel : e < s.heap.objs.size := Heap.lt_size he
  have hil : it < s.heap.objs.size := by obtain ⟨_, q, _⟩ := hit; exact Heap.lt_size q
  refine wpAny_pyNext_enum_itemD D he h0 hg hne hef fun u' h' tk hP ho hst' hT hsz hk => ?_
  obtain ⟨c, tu, hc, rfl⟩ := hP
  refine ⟨_, rfl, wpAny_letOwnedTupleGo_enum (s := { s with heap := h', toks := tk + 1 }) ho fun h'' he' sb => ?_⟩
  have hT2 : h''.get? s.heap.objs.size = some { cls := .type "tuple", data := .seq #[.int i tk, .int (c.toNat : Int) tu] } := (sb.2 _ (Nat.ne_of_gt hel)).trans hT
  have new : ObjOk X.prog X.w (upd H s.heap.objs.size (.tup [.int (i : Nat), .int (c.toNat : Int)])) h'' s.heap.objs.size (.tup [.int (i : Nat), .int (c.toNat : Int)]) :=
    ⟨by show 2 ≤ sizeLine; decide, [.int i tk, .int (c.toNat : Int) tu], .cons ⟨_, rfl⟩ (.cons ⟨_, rfl⟩ .nil), ⟨_, hT2, rfl, _, rfl⟩⟩
  have I1 : Inv X pins σ (upd H s.heap.objs.size (.tup [.int (i : Nat), .int (c.toNat : Int)])) { s with heap := h'', toks := tk + 1 } :=
    I.turnedNew (ch := [e, it]) (fun b ob hb q => (sb.2 b (fun z => hb (by simp [z]))).trans (hk b ob (fun z => hb (by simp [z])) (fun z => hb (by simp [z])) q)) hf (Nat.le_refl _) new
  have hb2 := hSt _ hst'
  refine ⟨.ref s.heap.objs.size, _, I1, rfl, ⟨_, c, rfl, I.hok.fresh (Nat.le_refl _), rfl, hc⟩, ⟨⟨.int (c.toNat : Int) tu, ?_⟩, ?_, hne⟩, fun b hb => ?_⟩
  · have e1 : ((i + 1 : Nat) : Int) = (i : Int) + 1 := by omega
    rw [e1]; exact he'
  · obtain ⟨o, h1, h2⟩ := hb2
    exact ⟨o, (sb.2 it (Ne.symm hne)).trans h1, h2⟩
  · have hb' : b < s.heap.objs.size := by
      have e' : b = e ∨ b = it := by simpa using hb
      rcases e' with z | z
      · rw [z]; exact hel
      · rw [z]; exact hil
    rw [upd_ne (Nat.ne_of_lt hb')]
    exact (hf b hb).1
theorem turn_enumB {P : Program} {w : World} {K : PySem.W.Frag} {elts : List Expr} {kk : Nat} {tpos : Pos} (x : Array UInt8) (t : Tok) (e it : Addr) :
    Turn P w K (.Tuple elts kk tpos) (ItEB x) [e, it] e (fun i h => (∃ old, IsEnum h e it ((i : Nat) : Int) old) ∧ PySem.W.KBw.IsBytesIter h it x t i ∧ e ≠ it) where
  mem := by simp
  obj := fun i h st b hb => enumB_obj (a := e) st b hb
  keep := fun i h h' st k => enumB_keep st k
  item := by
    intro X hP hw hK hc i pins s σ H E I hf st hg
    subst hP hw hK
    exact enumB_item (EBX.draws_byt (A := X.A.in1) (I.ok.hd hc) it x t) (fun _ z => z) st.2.1 (by simp [st.2.2]) I hf st hg
  done := by
    intro X hP hw hK hc i pins s σ H E I hf st hg
    subst hP hw hK
    obtain ⟨⟨old, he⟩, hit, hne⟩ := st
    obtain ⟨f0, f1, f2, f3, f4, f5⟩ := hf it (by simp)
    have hg' : x.size ≤ i := hg
    have hst : ∀ b : Array UInt8, b.size ≤ i → PySem.W.KBw.IsBytesIter s.heap it b t i → True := fun _ _ _ => trivial
    have hT : s.TypeIs (.ref e) "enumerate" := ⟨_, he, rfl⟩
    unfold pyNext
    refine wpAny_bind (wpAny_attempt (wpAny_callSpecial?_slot (name := Str.ofString "__next__") hT F.slot_enumerate_next (wpAny_call_entry F.slot_enumerate_next hT F.entry_enumerate_next ?_ (F.args_enumerate_next_1 _))))
    show wpAny _ _ (field (.ref e) 2 >>= _) _ _ _
    refine wpAny_bind (wpAny_field he rfl (x := .ref it) rfl (wpAny_bind (EBX.nx_end (A := X.A.in1) (I.ok.hd hc) hit (Array.getElem?_eq_none hg') fun h' z eb ⟨o, ho, hcl⟩ => ?_)))
    exact wpAny_bind (wpAny_isInstance (T := "StopIteration") (b := true) ⟨o, ho, hcl⟩ isSubtype_stop (wpAny_pure ⟨rfl, I.turned (t' := s.toks) (fun b o hb q => eb b o hb q) f0 f1 f3 f4 f5⟩))
  self := fun A i s Q E st h => let ⟨⟨_, he⟩, _⟩ := st; wpAny_pyIter_enum he h
def iEnumB (ta : TA) : TI := fun σ H R => ta σ H fun vs H1 => ∃ x, vs = [.byt x] ∧ R (ItEB x) H1
theorem pi_enumB {X : Cx} {e : Expr} {ta : TA} {p pos tpos : Pos} {elts : List Expr} {kk : Nat} (hg : Gl X "enumerate") (hm : X.mg "enumerate" = none) (ha : PA X [e] ta) (hs : starEach [e] X.env = [(false, eval e X.env)] := by rfl) :
    PI X (.Tuple elts kk tpos) (.Call (.Name "enumerate" p) [e] [] pos) (iEnumB ta) := by
  refine ⟨fun pins s σ H R I h => ?_⟩
  refine Call_ (ld_blt I hg hm boot_enumerate (PyProof.Rows.callWith_type1 (thn (ha.run pos pins s σ H _ I h) fun us s1 ⟨vs, H1, I1, r1, q1⟩ => ?_) hs rfl))
  obtain ⟨x, ex, q⟩ := q1
  subst ex
  cases r1 with
  | cons r rr =>
    cases rr
    obtain ⟨t, rfl⟩ := r
    refine EBX.call_enumB fun h' he hit hsz hk => wpAny_pyIter_enum he ?_
    have I2 : Inv X pins σ H1 { s1 with heap := h' } := I1.kept (t' := s1.toks) hk
    refine ⟨s1.heap.objs.size + 1, [s1.heap.objs.size + 1, s1.heap.objs.size], _, _, H1, rfl, I2, turn_enumB x t (s1.heap.objs.size + 1) s1.heap.objs.size, ⟨⟨.none, he⟩, hit, Nat.succ_ne_self _⟩, fun b hb => ?_, q⟩
    have e' : b = s1.heap.objs.size + 1 ∨ b = s1.heap.objs.size := by simpa using hb
    have hle : s1.heap.objs.size ≤ b := by
      rcases e' with z | z
      · rw [z]; exact Nat.le_add_right _ _
      · rw [z]; exact Nat.le_refl _
    exact I1.fpOk hle (I1.hok.fresh hle)
theorem walk_enumB {b : Array UInt8} : Walk (ItEB b) b.size (fun _ => True) (YPair (fun i => some (.int (i : Nat))) (fun i => b[i]?.map fun c => .int (c.toNat : Int))) := by
  refine ⟨fun i _ hi _ => hi, fun _ _ => Nat.le_refl _, fun i H v H' _ q y => ?_⟩
  obtain ⟨T, c, h1, h2, h3, h4⟩ := y
  exact ⟨T, .int (i : Nat), .int (c.toNat : Int), h1, h2, h3, rfl, by show (b[i]?).map _ = _; rw [h4]; rfl⟩
end L2
namespace L2H
open PySem PySem.Spec PyProof.Rows L2 HotX HY
theorem turn_enumBH {P : Program} {w : World} {K : PySem.W.Frag} {elts : List Expr} {kk : Nat} {tpos : Pos} (x : Array UInt8) (t : Tok) (e it : Addr) :
    TurnH P w K (.Tuple elts kk tpos) (ItEB x) [e, it] e (fun i h => (∃ old, IsEnum h e it ((i : Nat) : Int) old) ∧ PySem.W.KBw.IsBytesIter h it x t i ∧ e ≠ it) where
  mem := by simp
  obj := fun i h st b hb => enumB_obj (a := e) st b hb
  keep := fun i h h' st k => enumB_keep st k
  item := by
    intro X hP hw hK hc i pins s σ H E I hf st hg
    subst hP hw hK
    obtain ⟨q, ⟨hh, v1, e1, c1⟩, hp⟩ := id hc
    have hpin := I.pin q (List.mem_append_left _ hp)
    have nx : q.1 ≠ it := (hf it (by simp)).2.2.2.2.2 q (List.mem_append_left _ hp)
    have nx2 : e ≠ q.1 := Ne.symm ((hf e (by simp)).2.2.2.2.2 q (List.mem_append_left _ hp))
    exact enumB_item (EBX.draws_bytH (A := X.A.in1) (x1 := q.1) it nx x t) (fun _ z => z.1) ⟨st.2.1, ⟨hh, q.2, v1, hpin.1, e1, c1⟩⟩ (by simp [st.2.2, nx2]) I hf st hg
  done := by
    intro X hP hw hK hc i pins s σ H E I hf st hg
    subst hP hw hK
    obtain ⟨⟨old, he⟩, hit, hne⟩ := st
    obtain ⟨f0, f1, f2, f3, f4, f5⟩ := hf it (by simp)
    obtain ⟨q, ⟨hh, v1, e1, c1⟩, hp⟩ := id hc
    have hpin := I.pin q (List.mem_append_left _ hp)
    have nx : q.1 ≠ it := f5 q (List.mem_append_left _ hp)
    have hg' : x.size ≤ i := hg
    have hT : s.TypeIs (.ref e) "enumerate" := ⟨_, he, rfl⟩
    unfold pyNext
    refine wpAny_bind (wpAny_attempt (wpAny_callSpecial?_slot (name := Str.ofString "__next__") hT F.slot_enumerate_next (wpAny_call_entry F.slot_enumerate_next hT F.entry_enumerate_next ?_ (F.args_enumerate_next_1 _))))
    show wpAny _ _ (field (.ref e) 2 >>= _) _ _ _
    refine wpAny_bind (wpAny_field he rfl (x := .ref it) rfl (wpAny_bind (EBX.nx_end_hot (A := X.A.in1) (x1 := q.1) ⟨hh, q.2, v1, hpin.1, e1, c1⟩ nx hit (Array.getElem?_eq_none hg') fun h' z eb ⟨o, ho, hcl⟩ => ?_)))
    exact wpAny_bind (wpAny_isInstance (T := "StopIteration") (b := true) ⟨o, ho, hcl⟩ isSubtype_stop (wpAny_pure ⟨rfl, I.turned (t' := s.toks) (fun b o hb q => eb b o hb q) f0 f1 f3 f4 f5⟩))
  self := fun A i s Q E st h => let ⟨⟨_, he⟩, _⟩ := st; wpAny_pyIter_enum he h
theorem pi_enumBH {X : Cx} {e : Expr} {ta : TA} {p pos tpos : Pos} {elts : List Expr} {kk : Nat} (hg : Gl X "enumerate") (hm : X.mg "enumerate" = none) (ha : PA X [e] ta) (hs : starEach [e] X.env = [(false, eval e X.env)] := by rfl) :
    PIH X (.Tuple elts kk tpos) (.Call (.Name "enumerate" p) [e] [] pos) (iEnumB ta) := by
  refine ⟨fun pins s σ H R I h => ?_⟩
  refine Call_ (ld_blt I hg hm boot_enumerate (PyProof.Rows.callWith_type1 (thn (ha.run pos pins s σ H _ I h) fun us s1 ⟨vs, H1, I1, r1, q1⟩ => ?_) hs rfl))
  obtain ⟨x, ex, q⟩ := q1
  subst ex
  cases r1 with
  | cons r rr =>
    cases rr
    obtain ⟨t, rfl⟩ := r
    refine EBX.call_enumB fun h' he hit hsz hk => wpAny_pyIter_enum he ?_
    have I2 : Inv X pins σ H1 { s1 with heap := h' } := I1.kept (t' := s1.toks) hk
    refine ⟨s1.heap.objs.size + 1, [s1.heap.objs.size + 1, s1.heap.objs.size], _, _, H1, rfl, I2, turn_enumBH x t (s1.heap.objs.size + 1) s1.heap.objs.size, ⟨⟨.none, he⟩, hit, Nat.succ_ne_self _⟩, fun b hb => ?_, q⟩
    have e' : b = s1.heap.objs.size + 1 ∨ b = s1.heap.objs.size := by simpa using hb
    have hle : s1.heap.objs.size ≤ b := by
      rcases e' with z | z
      · rw [z]; exact Nat.le_add_right _ _
      · rw [z]; exact Nat.le_refl _
    exact I1.fpOk hle (I1.hok.fresh hle)
end L2H

namespace K9
open PySem PySem.Spec PyProof.Rows L2
/-! ### marks, what a difference is -/
abbrev NMk : List Str := ["data", "at", "byte"]
theorem scMk : FnScope NMk ["data"] (defScope sMarkOf) := ⟨rfl, rfl, rfl, by decide +kernel, rfl, by decide +kernel, by decide +kernel⟩
theorem scIsMk : FnScope ["told"] ["told"] (defScope sIsMark) := ⟨rfl, rfl, rfl, by decide +kernel, rfl, by decide +kernel, by decide +kernel⟩
abbrev NMo : List Str := ["item", "old_many", "there", "word", "many", "place"]
theorem scMo : FnScope NMo ["item", "old_many", "there"] (defScope sManyOf) := ⟨rfl, rfl, rfl, by decide +kernel, rfl, by decide +kernel, by decide +kernel⟩
abbrev NTm : List Str := ["row", "old_many", "new_many", "there", "item", "many"]
theorem scTm : FnScope NTm ["row", "old_many", "new_many"] (defScope sTellsM) := ⟨rfl, rfl, rfl, by decide +kernel, rfl, by decide +kernel, by decide +kernel⟩
abbrev NId : List Str := ["told", "old", "new", "row"]
theorem scId : FnScope NId ["told"] (defScope sIsDif) := ⟨rfl, rfl, rfl, by decide +kernel, rfl, by decide +kernel, by decide +kernel⟩
theorem byB_at {ks : List Nat} (hk : ∀ k ∈ ks, k < 256) {i : Nat} {c : UInt8} (h : (byB ks)[i]? = some c) : ks[i]? = some c.toNat := by
  unfold byB at h
  rw [List.getElem?_toArray, List.getElem?_map] at h
  cases e : ks[i]? with
  | none => rw [e] at h; cases h
  | some k =>
    rw [e] at h
    have hk' := hk k (List.mem_of_getElem? e)
    have : k.toUInt8 = c := Option.some.inj h
    rw [← this]
    congr 1
    exact (UInt8.toNat_ofNat_of_lt' hk').symm
theorem mrkG_sum : ∀ (ks : List Nat) (j : Nat), ((ks.zipIdx j).map fun p => (((p.2 + 1) * p.1 : Nat) : Int)).sum = ((mrkG j ks : Nat) : Int)
  | [], _ => rfl
  | k :: ks, j => by
    show (((j + 1) * k : Nat) : Int) + ((ks.zipIdx (j + 1)).map fun p => (((p.2 + 1) * p.1 : Nat) : Int)).sum = (((j + 1) * k + mrkG (j + 1) ks : Nat) : Int)
    rw [mrkG_sum ks (j + 1)]
    push_cast
    rfl
def mrkL (ks : List Nat) : List Int := (ks.zipIdx 0).map fun p => (((p.2 + 1) * p.1 : Nat) : Int)
theorem mrkL_len (ks : List Nat) : (mrkL ks).length = ks.length := by simp [mrkL]
theorem mrkL_at {ks : List Nat} {i k : Nat} (h : ks[i]? = some k) : (mrkL ks)[i]? = some (((i + 1) * k : Nat) : Int) := by
  unfold mrkL
  rw [List.getElem?_map, List.getElem?_zipIdx, h]
  simp
theorem mrkL_sum (ks : List Nat) : ((mrkL ks).sum).fmod 65521 = ((mrk ks : Nat) : Int) := by
  have := mrkG_sum ks 0
  unfold mrkL mrk
  rw [this, Int.fmod_eq_emod_of_nonneg _ (by omega)]
  rfl
theorem take_snocG {α : Type} {l : List α} {i : Nat} {a : α} (h : l[i]? = some a) : l.take (i + 1) = l.take i ++ [a] := by
  rw [List.take_add_one, h]
  rfl
section
variable {P : Program} {w : World} {K : PySem.W.Frag} {mg : Str → Option Value} {base : Heap}
def spMark : Sp := fun vs H Q _ => ∃ ks : List Nat, vs = [.byt (byB ks)] ∧ (∀ k ∈ ks, k < 256) ∧ ks.length ≤ 2000 ∧ ∀ H' t, Same H H' → H t = none → MkAt H' t (ks.length, mrk ks) → Q (.ref t) H'
theorem ok_mark {f : Addr} {fd : FuncData} {j : Nat} {t1 : Tok} (F : Fun K "mark_of" "mark_of" sMarkOf f fd) (m1 : mg "len" = none) (m2 : mg "sum" = none) (m3 : mg "enumerate" = none) (c1 : mg "MODULUS" = some (.int 65521 t1)) :
    FnOk P w K mg base CX0 (j + 1) f fd ["data"] spMark := by
  refine F.ok scMk (fun vs H Q E h => ?_) (fun cdv A outer s H vs Q E hr h => ?_)
  · obtain ⟨ks, rfl, _⟩ := h
    rfl
  · obtain ⟨ks, rfl, hk, hl, q⟩ := h
    have hz := PySem.sizeLine_eq
    refine ⟨_, pss_one (ps_ret (pe_tup (pa_cons (pe_callB call_len (by rfl) m1 PySem.boot_len (pa_cons (pv 0) pa_nil)) (pa_cons (pe_op op_modN (pe_callB (cr_sum rfl) (by rfl) m2 (by decide +kernel) (pa_cons
      (pe_lc (own := [("at", 1), ("byte", 2)]) (g := gTup K 2 (gCons (gName 1) (gCons (gName 2) gNil))) (tt := tYes) rfl scMk.nd (pi_enumB (by rfl) m3 (pa_cons (pv 0) pa_nil)) (blkOk_by (N := NMk) (sc := defScope sMarkOf) (by decide +kernel))
        (fun _ _ _ _ _ => pg_tup rfl (pgs_cons (pg_name (i := 1) scMk.nd rfl (.inl rfl)) (pgs_cons (pg_name (i := 2) scMk.nd rfl (.inl rfl)) pgs_nil))) (fun _ _ _ _ _ => pts_nil)
        (fun _ _ _ _ _ => pe_op op_mul (pe_op op_add (pv 1) pe_int) (pv 2))) pa_nil)) (pe_glob (v := .int 65521) rfl c1 ⟨_, rfl⟩)) pa_nil)))), ?_⟩
    refine ⟨_, rfl, _, (byB ks).size, rfl, ⟨by rw [byB_size]; omega, rfl⟩, ?_⟩
    refine ⟨_, rfl, _, rfl, fun D nD => ?_⟩
    refine lc_it (walk_enumB (b := byB ks)) (fun i H' => Same H H' ∧ H' D = some (.lst (((mrkL ks).take i).map V.int))) ⟨same_upd nD, by rw [upd_same]; rfl⟩ (fun _ _ _ _ => trivial) (fun i x H2 H3 hi z y => ?_) (fun H2 z => ?_)
    · obtain ⟨sm, hD⟩ := z
      rw [byB_size] at hi
      obtain ⟨T0, x0, y0, rfl, nT0, rfl, e0, e1⟩ := y
      obtain rfl := Option.some.inj e0
      cases hc : (byB ks)[i]? with
      | none =>
        have e1 : ((byB ks)[i]?.map fun c => V.int (c.toNat : Int)) = some y0 := e1
        rw [hc] at e1
        cases e1
      | some c =>
        have e1 : ((byB ks)[i]?.map fun c => V.int (c.toNat : Int)) = some y0 := e1
        rw [hc] at e1
        obtain rfl := Option.some.inj e1
        have hc' := byB_at hk hc
        have sm2 : Same H2 (upd H2 T0 (.tup [.int (i : Nat), .int (c.toNat : Int)])) := same_upd nT0
        have hD2 := sm2 _ _ hD
        have hc2 : c.toNat < 256 := c.toNat_lt
        refine ⟨T0, _, rfl, .inl (.inl upd_same), rfl, _, _, rfl, _, _, rfl, rfl, rfl, yes ?_⟩
        refine ⟨_, rfl, _, _, rfl, rfl, _, rfl, _, _, rfl, rfl, .inl ⟨by omega, by omega⟩, _, hD2, ?_, same_put (sm.trans sm2) nD, ?_⟩
        · rw [List.length_map, List.length_take, mrkL_len, hz]
          omega
        · rw [upd_same, take_snocG (mrkL_at hc'), List.map_append]
          push_cast
          rfl
    · obtain ⟨sm, hD⟩ := z
      rw [byB_size, ← mrkL_len, List.take_length] at hD
      refine ⟨D, mrkL ks, rfl, .inl (.inl hD), _, _, rfl, rfl, (by show (65521 : Int) ≠ 0; decide), ?_⟩
      dsimp only
      rw [mrkL_sum]
      refine ⟨(by show 2 ≤ sizeLine; omega), fun t nt => ?_⟩
      rw [byB_size]
      exact q _ t (sm.trans (same_upd nt)) (none_back sm nt) upd_same
def spIsMk : Sp := fun vs H Q _ => ∃ (a : Addr) (m : Nat × Nat), vs = [.ref a] ∧ MkAt H a m ∧ m.1 ≤ 2000 ∧ m.2 < 65521 ∧ Q (.bl true) H
theorem ok_isMk {f fN : Addr} {fd fdN : FuncData} {j k1 : Nat} {t1 t2 : Tok} (F : Fun K "is_mark" "is_mark" sIsMark f fd) (GN : FnOk P w K mg base CX0 k1 fN fdN ["told", "least", "most"] spIsNum) (bN : Binds K fdN ["told", "least", "most"] []) (kN : PySem.W.keepIn K (.ref fN) = true) (gN : mg "is_number" = some (.ref fN)) (l1 : k1 ≤ j)
    (m1 : mg "isinstance" = none) (m2 : mg "tuple" = none) (m3 : mg "len" = none) (c1 : mg "MOST_BYTES" = some (.int 2000 t1)) (c2 : mg "MODULUS" = some (.int 65521 t2)) :
    FnOk P w K mg base CX0 (j + 1) f fd ["told"] spIsMk := by
  refine F.ok scIsMk (fun vs H Q E h => ?_) (fun cdv A outer s H vs Q E hr h => ?_)
  · obtain ⟨a, m, rfl, _⟩ := h
    rfl
  · obtain ⟨a, m, rfl, ha, h1, h2, q⟩ := h
    refine ⟨_, pss_cons (ps_if (PW.pt (pw_or (pt_not (pt_val (pe_callB call_isi (by rfl) m1 (by decide +kernel) (pa_cons (pv 0) (pa_cons (pe_bltn (v := .ty "tuple") (by rfl) m2 (by decide +kernel) rfl) pa_nil))))) (pw_or1 (pt_cmpR op_ne (pe_callB call_len_seq (by rfl) m3 PySem.boot_len (pa_cons (pv 0) pa_nil)) pe_int (nomark _))))) (pss_one (ps_ret pe_bl)) pss_nil)
      (pss_one (ps_ret (pe_and (pe_call GN (hr.mono l1) (by rfl) gN kN bN .nil pass0 (pa_cons (pe_ix ix_tup (pv 0) pe_int (fun _ _ => rfl)) (pa_cons pe_int (pa_cons (pe_glob (v := .int 2000) rfl c1 ⟨_, rfl⟩) pa_nil))))
        (pe_one (pe_call GN (hr.mono l1) (by rfl) gN kN bN .nil pass0 (pa_cons (pe_ix ix_tup (pv 0) pe_int (fun _ _ => rfl)) (pa_cons pe_int (pa_cons (pe_op op_sub (pe_glob (v := .int 65521) rfl c2 ⟨_, rfl⟩) pe_int) pa_nil)))))))), ?_⟩
    refine ⟨_, rfl, _, _, .type "tuple", _, _, rfl, .ty "tuple", .base (.tup ha), kit_ty (a := "tuple") (r := true) (by decide +kernel), _, rfl, iteF ?_⟩
    refine ⟨_, rfl, a, _, rfl, .inr (.inl (.inl ha)), rfl, _, rfl, iteF ?_⟩
    refine ⟨_, rfl, a, _, 0, _, rfl, rfl, .inl (.inl ha), rfl, _, 0, 2000, rfl, .inl ⟨_, rfl, _, rfl, iteC (decide_eq_true ⟨by omega, by omega⟩) ?_⟩⟩
    refine ⟨_, rfl, a, _, 1, _, rfl, rfl, .inl (.inl ha), rfl, _, _, rfl, rfl, _, 0, _, rfl, .inl ⟨_, rfl, ?_⟩⟩
    rw [decide_eq_true (by omega)]
    exact q
def spMo : Sp := fun vs H Q _ => ∃ (v : V) (i : Di) (old there : Nat), vs = [v, .int (old : Int), .int (there : Int)] ∧ DiAt H i v ∧ Q (.int (((if fitI old there i = true then wideI i else 0) : Nat) : Int)) H
theorem ok_mo {f fN : Addr} {fd fdN : FuncData} {j k1 : Nat} {t1 t2 t3 t4 t5 t6 : Tok} (F : Fun K "many_of" "many_of" sManyOf f fd) (GN : FnOk P w K mg base CX0 k1 fN fdN ["told", "least", "most"] spIsNum) (bN : Binds K fdN ["told", "least", "most"] []) (kN : PySem.W.keepIn K (.ref fN) = true) (gN : mg "is_number" = some (.ref fN)) (l1 : k1 ≤ j)
    (m1 : mg "isinstance" = none) (m2 : mg "tuple" = none) (m3 : mg "len" = none) (m4 : mg "min" = none) (c1 : mg "MOST_BYTES" = some (.int 2000 t1)) (c2 : mg "NEW" = some (.str "new" t2)) (c3 : mg "OLD" = some (.str "old" t3)) (c4 : mg "FEWEST_NEW" = some (.int 3 t4)) (c5 : mg "FEWEST_OLD" = some (.int 1 t5)) (c6 : mg "MOST_AT_ONCE" = some (.int 255 t6)) :
    FnOk P w K mg base CX0 (j + 1) f fd ["item", "old_many", "there"] spMo := by
  refine F.ok scMo (fun vs H Q E h => ?_) (fun cdv A outer s H vs Q E hr h => ?_)
  · obtain ⟨v, i, old, there, rfl, _⟩ := h
    rfl
  · obtain ⟨v, i, old, there, rfl, hi, q⟩ := h
    refine ⟨_, pss_cons (ps_if (pt_not (pt_val (pe_callB call_isi (by rfl) m1 (by decide +kernel) (pa_cons (pv 0) (pa_cons (pe_bltn (v := .ty "tuple") (by rfl) m2 (by decide +kernel) rfl) pa_nil)))))
        (pss_one (ps_ret (pe_ifExp (pt_val (pe_call GN (hr.mono l1) (by rfl) gN kN bN .nil pass0 (pa_cons (pv 0) (pa_cons pe_int (pa_cons pe_int pa_nil))))) pe_int pe_int))) pss_nil)
      (pss_cons (ps_if (pt_cmpR op_ne (pe_callB call_len_seq (by rfl) m3 PySem.boot_len (pa_cons (pv 0) pa_nil)) pe_int (nomark _)) (pss_one (ps_ret pe_int)) pss_nil)
      (pss_cons (ps_asg (pv 0) (pg_tup (by rfl) (pgs_cons (pg_name (i := 3) scMo.nd rfl (.inl rfl)) (pgs_cons (pg_name (i := 4) scMo.nd rfl (.inl rfl)) (pgs_cons (pg_name (i := 5) scMo.nd rfl (.inl rfl)) pgs_nil)))))
      (pss_cons (ps_if (PW.pt (pw_and (pt_cmpR op_eq (pv 3) (pe_glob (v := .str "new") rfl c2 ⟨_, rfl⟩) (nomark _))
          (pw_and (pt_val (pe_call GN (hr.mono l1) (by rfl) gN kN bN .nil pass0 (pa_cons (pv 4) (pa_cons (pe_glob (v := .int 3) rfl c4 ⟨_, rfl⟩) (pa_cons (pe_glob (v := .int 255) rfl c6 ⟨_, rfl⟩) pa_nil)))))
          (pw_and1 (pt_val (pe_call GN (hr.mono l1) (by rfl) gN kN bN .nil pass0 (pa_cons (pv 5) (pa_cons pe_int (pa_cons (pe_callB (call_min2 rfl) (by rfl) m4 (by decide +kernel) (pa_cons (pe_glob (v := .int 2000) rfl c1 ⟨_, rfl⟩) (pa_cons (pv 2) pa_nil))) pa_nil))))))))) (pss_one (ps_ret (pv 4))) pss_nil)
      (pss_cons (ps_if (PW.pt (pw_and (pt_cmpR op_eq (pv 3) (pe_glob (v := .str "old") rfl c3 ⟨_, rfl⟩) (nomark _))
          (pw_and (pt_val (pe_call GN (hr.mono l1) (by rfl) gN kN bN .nil pass0 (pa_cons (pv 4) (pa_cons (pe_glob (v := .int 1) rfl c5 ⟨_, rfl⟩) (pa_cons (pe_glob (v := .int 255) rfl c6 ⟨_, rfl⟩) pa_nil)))))
          (pw_and1 (pt_val (pe_call GN (hr.mono l1) (by rfl) gN kN bN .nil pass0 (pa_cons (pv 5) (pa_cons pe_int (pa_cons (pe_op op_sub (pv 1) (pv 4)) pa_nil))))))))) (pss_one (ps_ret (pv 4))) pss_nil)
      (pss_one (ps_ret pe_int)))))), ?_⟩
    cases i with
    | b n =>
      obtain rfl : v = .int (n : Int) := hi
      refine ⟨_, rfl, _, _, _, _, _, rfl, .ty "tuple", .base (.int _), kit_ty (a := "int") (r := false) (by decide +kernel), _, rfl, iteT ?_⟩
      refine ⟨_, rfl, _, 0, 255, rfl, .inl ⟨_, rfl, _, rfl, ?_⟩⟩
      have q : Q (.int (((if decide (n < 256) = true then 1 else 0) : Nat) : Int)) H := q
      refine ite2 (fun e => ?_) (fun e => ?_)
      · rw [if_pos (decide_eq_true (by have := of_decide_eq_true e; omega))] at q
        exact q
      · rw [if_neg (fun z => e (decide_eq_true (by have := of_decide_eq_true z; omega)))] at q
        exact q
    | c nw m p =>
      obtain ⟨t, rfl, ht⟩ := hi
      refine ⟨_, rfl, _, _, .type "tuple", _, _, rfl, .ty "tuple", .base (.tup ht), kit_ty (a := "tuple") (r := true) (by decide +kernel), _, rfl, iteF ?_⟩
      refine ⟨_, rfl, t, _, rfl, .inr (.inl (.inl ht)), rfl, _, rfl, iteF ?_⟩
      refine ⟨_, rfl, t, _, rfl, .inl (.inl ht), rfl, _, _, rfl, _, _, rfl, _, _, rfl, rfl, ?_⟩
      cases nw with
      | true =>
        have q : Q (.int (((if decide (3 ≤ m ∧ m ≤ 255 ∧ 1 ≤ p ∧ p ≤ min 2000 there) = true then m else 0) : Nat) : Int)) H := q
        have hno : ¬ (3 ≤ m ∧ m ≤ 255 ∧ 1 ≤ p ∧ p ≤ min 2000 there) → Q (.int 0) H := fun z => by
          rw [if_neg (fun y => z (of_decide_eq_true y))] at q
          exact q
        refine ⟨_, rfl, rfl, _, rfl, iteT ?_⟩
        have rest : Q (.int 0) H → ∀ R : Prop, (R = True) → True := fun _ _ _ => trivial
        refine ⟨_, rfl, _, 3, 255, rfl, .inl ⟨_, rfl, _, rfl, ite2 (fun e => ?_) (fun e => ?_)⟩⟩
        · have e := of_decide_eq_true e
          refine ⟨_, rfl, _, rfl, _, _, rfl, _, 1, _, rfl, .inl ⟨_, rfl, _, rfl, ite2 (fun e2 => ?_) (fun e2 => ?_)⟩⟩
          · have e2 := of_decide_eq_true e2
            rw [if_pos (decide_eq_true ⟨by omega, by omega, by omega, by have := e2.2; split at this <;> omega⟩)] at q
            exact ⟨_, rfl, q⟩
          · refine ⟨_, rfl, rfl, _, rfl, iteF (hno fun z => e2 (decide_eq_true ⟨by omega, by split <;> omega⟩))⟩
        · exact ⟨_, rfl, rfl, _, rfl, iteF (hno fun z => e (decide_eq_true ⟨by omega, by omega⟩))⟩
      | false =>
        have q : Q (.int (((if decide (1 ≤ m ∧ m ≤ 255 ∧ p + m ≤ old) = true then m else 0) : Nat) : Int)) H := q
        have hno : ¬ (1 ≤ m ∧ m ≤ 255 ∧ p + m ≤ old) → Q (.int 0) H := fun z => by
          rw [if_neg (fun y => z (of_decide_eq_true y))] at q
          exact q
        refine ⟨_, rfl, rfl, _, rfl, iteF ?_⟩
        refine ⟨_, rfl, rfl, _, rfl, iteT ?_⟩
        refine ⟨_, rfl, _, 1, 255, rfl, .inl ⟨_, rfl, _, rfl, ite2 (fun e => ?_) (fun e => ?_)⟩⟩
        · have e := of_decide_eq_true e
          refine ⟨_, rfl, _, rfl, _, rfl, _, _, rfl, rfl, _, 0, _, rfl, .inl ⟨_, rfl, _, rfl, ite2 (fun e2 => ?_) (fun e2 => ?_)⟩⟩
          · have e2 := of_decide_eq_true e2
            rw [if_pos (decide_eq_true ⟨by omega, by omega, by omega⟩)] at q
            exact ⟨_, rfl, q⟩
          · exact hno fun z => e2 (decide_eq_true ⟨by omega, by omega⟩)
        · exact hno fun z => e (decide_eq_true ⟨by omega, by omega⟩)
end
end K9

namespace K9
open PySem PySem.Spec PyProof.Rows L2
/-! ### tells_as_many, is_difference, refusals -/
theorem scRefD : FnScope ["told"] ["told"] (defScope sRefD) := ⟨rfl, rfl, rfl, by decide +kernel, rfl, by decide +kernel, by decide +kernel⟩
theorem scRefB : FnScope ["told"] ["told"] (defScope sRefB) := ⟨rfl, rfl, rfl, by decide +kernel, rfl, by decide +kernel, by decide +kernel⟩
/-- BadDifference as a class -/
structure BdTxt (K : PySem.W.Frag) (mg : Str → Option Value) (C : Addr) : Prop where
  gC : mg "BadDifference" = some (.ref C)
  x : PySem.W.excIn K C [.type "ValueError", .type "Exception", .type "BaseException", .type "object"] "ValueError.__new__" = true
  k : PySem.W.keepIn K (.ref C) = true
  b : PySem.W.subIn K (.ref C) (.type "BaseException") = some true
  t : PySem.W.typeIn K (.ref C) = some (.type "type")
section
variable {P : Program} {w : World} {K : PySem.W.Frag} {mg : Str → Option Value} {base : Heap}
def spTm : Sp := fun vs H Q _ => ∃ (r : Addr) (row : List Di) (old new : Nat), vs = [.ref r, .int (old : Int), .int (new : Int)] ∧ RwAt H r row ∧ row.length ≤ 2000 ∧ Q (.bl (decide (fitR old 0 row = some new))) H
theorem ok_tm {f fN : Addr} {fd fdN : FuncData} {j k1 : Nat} (F : Fun K "tells_as_many" "tells_as_many" sTellsM f fd) (GN : FnOk P w K mg base CX0 k1 fN fdN ["item", "old_many", "there"] spMo) (bN : Binds K fdN ["item", "old_many", "there"] []) (kN : PySem.W.keepIn K (.ref fN) = true) (gN : mg "many_of" = some (.ref fN)) (l1 : k1 ≤ j) :
    FnOk P w K mg base CX0 (j + 1) f fd ["row", "old_many", "new_many"] spTm := by
  refine F.ok scTm (fun vs H Q E h => ?_) (fun cdv A outer s H vs Q E hr h => ?_)
  · obtain ⟨r, row, old, new, rfl, _⟩ := h
    rfl
  · obtain ⟨r, row, old, new, rfl, ⟨us, hr0, hus⟩, hl, q⟩ := h
    have hz := PySem.sizeLine_eq
    refine ⟨_, pss_cons (ps_set (i := 3) scTm.nd rfl (.inl rfl) pe_int)
      (pss_cons (ps_for PassesOwn.never rfl (pi_list (pv 0)) (pg_name (i := 4) scTm.nd rfl (.inl rfl))
        (pss_cons (ps_set (i := 5) scTm.nd rfl (.inl rfl) (pe_call GN (hr.mono l1) (by rfl) gN kN bN .nil pass0 (pa_cons (pv 4) (pa_cons (pv 1) (pa_cons (pv 3) pa_nil)))))
        (pss_cons (ps_if (pt_cmpR op_eq (pv 5) pe_int (nomark _)) (pss_one (ps_ret pe_bl)) pss_nil)
        (pss_one (ps_aug (i := 3) scTm.nd rfl (.inl rfl) (pv 5) ip_add)))))
      (pss_one (ps_ret (pe_cmpR op_eq (pv 3) (pv 2) (nomark _))))), ?_⟩
    dsimp only [gName]
    have hlen := hus.length
    refine ⟨_, rfl, r, rfl, ⟨_, .inl (.inl hr0)⟩, ?_⟩
    refine for_list (K := K) (a := r) (xs := us) (fun i σ H' => H' = H ∧ ∃ (y4 y5 : Option V) (th : Nat), σ = [some (.ref r), some (.int (old : Int)), some (.int (new : Int)), some (.int (th : Int)), y4, y5] ∧ fitR old 0 row = fitR old th (row.drop i))
      ⟨rfl, _, _, 0, rfl, rfl⟩ (fun i σ H' _ h => ?_) (fun i x σ H' hx h => ?_) (fun σ H' h => ?_)
    · rw [h.1]
      exact .inl (.inl hr0)
    · obtain ⟨rfl, y4, y5, th, rfl, ef⟩ := h
      have hi : i < row.length := by have := (List.getElem?_eq_some_iff.mp hx).1; omega
      obtain ⟨x', e1, hd⟩ := paired_get hus (List.getElem?_eq_getElem hi)
      obtain rfl := Option.some.inj (e1.symm.trans hx)
      rw [List.drop_eq_getElem_cons hi] at ef
      generalize row[i] = it at *
      have ef : fitR old 0 row = if fitI old th it = true then fitR old (th + wideI it) (row.drop (i + 1)) else none := ef
      refine ⟨_, rfl, _, rfl, _, rfl, _, it, old, th, rfl, hd, ?_⟩
      dsimp only [gName]
      refine ⟨_, rfl, rfl, _, rfl, ?_⟩
      by_cases hf : fitI old th it = true
      · rw [if_pos hf] at ef ⊢
        have := (fit_wide hf).1
        refine ite2 (fun z => ?_) (fun _ => ?_)
        · have z : V.int (wideI it : Int) = V.int 0 := of_decide_eq_true z
          have := V.int.inj z
          omega
        · have ea : (th : Int) + (wideI it : Int) = ((th + wideI it : Nat) : Int) := by push_cast; rfl
          refine ⟨_, rfl, _, rfl, _, _, rfl, rfl, ?_⟩
          dsimp only
          rw [ea]
          exact ⟨rfl, _, _, th + wideI it, rfl, ef⟩
      · rw [if_neg hf] at ef ⊢
        refine iteC (decide_eq_true rfl) ?_
        rw [ef, decide_eq_false (fun z => by cases z)] at q
        exact q
    · obtain ⟨rfl, y4, y5, th, rfl, ef⟩ := h
      rw [← hlen, List.drop_length] at ef
      refine ⟨_, rfl, _, rfl, rfl, ?_⟩
      have e : decide (V.int (th : Int) = V.int (new : Int)) = decide (fitR old 0 row = some new) := by
        rw [ef]
        show _ = decide (some th = some new)
        by_cases z : th = new
        · rw [z, decide_eq_true rfl, decide_eq_true rfl]
        · rw [decide_eq_false (fun y => z (by have := V.int.inj y; omega)), decide_eq_false (fun y => z (Option.some.inj y))]
      rw [e]
      exact q
def spId : Sp := fun vs H Q _ => ∃ (t : Addr) (x : DfA) (d : Dfv), vs = [.ref t] ∧ DfAt H t x d ∧ d.Low ∧ Q (.bl d.ok) H
theorem ok_id {f fM fT : Addr} {fd fdM fdT : FuncData} {j k1 k2 : Nat} (F : Fun K "is_difference" "is_difference" sIsDif f fd) (GM : FnOk P w K mg base CX0 k1 fM fdM ["told"] spIsMk) (bM : Binds K fdM ["told"] []) (kM : PySem.W.keepIn K (.ref fM) = true) (gM : mg "is_mark" = some (.ref fM)) (l1 : k1 ≤ j)
    (GT : FnOk P w K mg base CX0 k2 fT fdT ["row", "old_many", "new_many"] spTm) (bT : Binds K fdT ["row", "old_many", "new_many"] []) (kT : PySem.W.keepIn K (.ref fT) = true) (gT : mg "tells_as_many" = some (.ref fT)) (l2 : k2 ≤ j)
    (m1 : mg "isinstance" = none) (m2 : mg "tuple" = none) (m3 : mg "len" = none) (m4 : mg "list" = none) :
    FnOk P w K mg base CX0 (j + 1) f fd ["told"] spId := by
  refine F.ok scId (fun vs H Q E h => ?_) (fun cdv A outer s H vs Q E hr h => ?_)
  · obtain ⟨t, x, d, rfl, _⟩ := h
    rfl
  · obtain ⟨t, x, d, rfl, ⟨ht, ha, hb, hrw⟩, ⟨l01, l02, l03, l04, l05⟩, q⟩ := h
    refine ⟨_, pss_cons (ps_if (PW.pt (pw_or (pt_not (pt_val (pe_callB call_isi (by rfl) m1 (by decide +kernel) (pa_cons (pv 0) (pa_cons (pe_bltn (v := .ty "tuple") (by rfl) m2 (by decide +kernel) rfl) pa_nil))))) (pw_or1 (pt_cmpR op_ne (pe_callB call_len_seq (by rfl) m3 PySem.boot_len (pa_cons (pv 0) pa_nil)) pe_int (nomark _))))) (pss_one (ps_ret pe_bl)) pss_nil)
      (pss_cons (ps_asg (pv 0) (pg_tup (by rfl) (pgs_cons (pg_name (i := 1) scId.nd rfl (.inl rfl)) (pgs_cons (pg_name (i := 2) scId.nd rfl (.inl rfl)) (pgs_cons (pg_name (i := 3) scId.nd rfl (.inl rfl)) pgs_nil)))))
      (pss_one (ps_ret (pe_and (pe_call GM (hr.mono l1) (by rfl) gM kM bM .nil pass0 (pa_cons (pv 1) pa_nil)) (pe_and (pe_call GM (hr.mono l1) (by rfl) gM kM bM .nil pass0 (pa_cons (pv 2) pa_nil))
        (pe_and (pe_callB call_isi (by rfl) m1 (by decide +kernel) (pa_cons (pv 3) (pa_cons (pe_bltn (v := .ty "list") (by rfl) m4 (by decide +kernel) rfl) pa_nil)))
        (pe_one (pe_call GT (hr.mono l2) (by rfl) gT kT bT .nil pass0 (pa_cons (pv 3) (pa_cons (pe_ix ix_tup (pv 1) pe_int (fun _ _ => rfl)) (pa_cons (pe_ix ix_tup (pv 2) pe_int (fun _ _ => rfl)) pa_nil))))))))))), ?_⟩
    refine ⟨_, rfl, _, _, .type "tuple", _, _, rfl, .ty "tuple", .base (.tup ht), kit_ty (a := "tuple") (r := true) (by decide +kernel), _, rfl, iteF ?_⟩
    refine ⟨_, rfl, t, _, rfl, .inr (.inl (.inl ht)), rfl, _, rfl, iteF ?_⟩
    refine ⟨_, rfl, t, _, rfl, .inl (.inl ht), rfl, _, _, rfl, _, _, rfl, _, _, rfl, rfl, ?_⟩
    refine ⟨_, rfl, _, d.old, rfl, ha, l01, l02, _, rfl, iteT ?_⟩
    refine ⟨_, rfl, _, d.new, rfl, hb, l03, l04, _, rfl, iteT ?_⟩
    obtain ⟨us, hu1, hu2⟩ := id hrw
    refine ⟨_, rfl, _, _, .type "list", _, _, rfl, .ty "list", .base (.lst hu1), kit_ty (a := "list") (r := true) (by decide +kernel), _, rfl, iteT ?_⟩
    exact ⟨_, rfl, _, rfl, _, _, 0, _, rfl, rfl, .inl (.inl ha), rfl, _, rfl, _, _, 0, _, rfl, rfl, .inl (.inl hb), rfl, _, d.row, d.old.1, d.new.1, rfl, hrw, l05, q⟩
def spRefD : Sp := fun vs H Q _ => ∃ (t : Addr) (x : DfA) (d : Dfv), vs = [.ref t] ∧ DfAt H t x d ∧ d.Low ∧ d.ok = true ∧ Q .non H
theorem ok_refD {f fI : Addr} {fd fdI : FuncData} {j k1 : Nat} (F : Fun K "refuse_difference" "refuse_difference" sRefD f fd) (GI : FnOk P w K mg base CX0 k1 fI fdI ["told"] spId) (bI : Binds K fdI ["told"] []) (kI : PySem.W.keepIn K (.ref fI) = true) (gI : mg "is_difference" = some (.ref fI)) (l1 : k1 ≤ j) :
    FnOk P w K mg base CX0 (j + 1) f fd ["told"] spRefD := by
  refine F.ok scRefD (fun vs H Q E h => ?_) (fun cdv A outer s H vs Q E hr h => ?_)
  · obtain ⟨t, x, d, rfl, _⟩ := h
    rfl
  · obtain ⟨t, x, d, rfl, hD, hL, ho, q⟩ := h
    refine ⟨_, pss_one (ps_if (pt_not (pt_val (pe_call GI (hr.mono l1) (by rfl) gI kI bI .nil pass0 (pa_cons (pv 0) pa_nil)))) (pss_one ps_never) pss_nil), ?_⟩
    refine ⟨_, rfl, t, x, d, rfl, hD, hL, _, rfl, ?_⟩
    rw [ho]
    exact iteF q
def spRefDN (C : Addr) : Sp := fun vs H Q E => ∃ (t : Addr) (x : DfA) (d : Dfv), vs = [.ref t] ∧ DfAt H t x d ∧ d.Low ∧ (d.ok = true → Q .non H) ∧ (d.ok = false → E (.ref C) none H)
theorem ok_refDN {C : Addr} (T : BdTxt K mg C) {f fI : Addr} {fd fdI : FuncData} {j k1 : Nat} (F : Fun K "refuse_difference" "refuse_difference" sRefD f fd) (GI : FnOk P w K mg base CX0 k1 fI fdI ["told"] spId) (bI : Binds K fdI ["told"] []) (kI : PySem.W.keepIn K (.ref fI) = true) (gI : mg "is_difference" = some (.ref fI)) (l1 : k1 ≤ j) :
    FnOk P w K mg base (L2N.CX P w) (j + 1) f fd ["told"] (spRefDN C) := by
  refine okN F scRefD (fun vs H Q E h => ?_) (fun cdv A outer s H vs Q E hr h => ?_)
  · obtain ⟨t, x, d, rfl, _⟩ := h
    rfl
  · obtain ⟨t, x, d, rfl, hD, hL, q, e⟩ := h
    refine ⟨_, pss_one (ps_if (pt_not (pt_val (pe_call GI (hr.mono l1) (by rfl) gI kI bI .nil pass0 (pa_cons (pv 0) pa_nil)))) (pss_one (L2N.ps_raise rfl (L2N.takes_of rfl rfl rfl rfl) (L2N.pmk_own PySem.F.excBase_ValueError T.x T.gC T.k (raises_own T.b T.t) rfl))) pss_nil), ?_⟩
    refine ⟨_, rfl, t, x, d, rfl, hD, hL, _, rfl, ?_⟩
    cases ho : d.ok with
    | true => exact iteF (q ho)
    | false => exact iteT (e ho)
def spRefB : Sp := fun vs H Q _ => ∃ ks : List Nat, vs = [.byt (byB ks)] ∧ ks.length ≤ 2000 ∧ Q .non H
theorem ok_refB {f fI : Addr} {fd fdI : FuncData} {j k1 : Nat} {t1 : Tok} (F : Fun K "refuse_bytes" "refuse_bytes" sRefB f fd) (GI : FnOk P w K mg base CX0 k1 fI fdI ["told", "most"] spAreBytes) (bI : Binds K fdI ["told", "most"] []) (kI : PySem.W.keepIn K (.ref fI) = true) (gI : mg "are_bytes" = some (.ref fI)) (l1 : k1 ≤ j) (c1 : mg "MOST_BYTES" = some (.int 2000 t1)) :
    FnOk P w K mg base CX0 (j + 1) f fd ["told"] spRefB := by
  refine F.ok scRefB (fun vs H Q E h => ?_) (fun cdv A outer s H vs Q E hr h => ?_)
  · obtain ⟨ks, rfl, _⟩ := h
    rfl
  · obtain ⟨ks, rfl, hl, q⟩ := h
    refine ⟨_, pss_one (ps_if (pt_not (pt_val (pe_call GI (hr.mono l1) (by rfl) gI kI bI .nil pass0 (pa_cons (pv 0) (pa_cons (pe_glob (v := .int 2000) rfl c1 ⟨_, rfl⟩) pa_nil))))) (pss_one ps_never) pss_nil), ?_⟩
    refine ⟨_, rfl, byB ks, 2000, rfl, (by rw [byB_size]; omega), _, rfl, ?_⟩
    rw [byB_size, decide_eq_true hl]
    exact iteF q
end
end K9

namespace K9
open PySem PySem.Spec PyProof.Rows L2
/-! ### origins_of, goes_on, row_from, put_together -/
abbrev NOr : List Str := ["row", "origins", "item", "word", "many", "place", "count"]
theorem scOr : FnScope NOr ["row"] (defScope sOrig) := ⟨rfl, rfl, rfl, by decide +kernel, rfl, by decide +kernel, by decide +kernel⟩
abbrev NRf : List Str := ["origins", "row", "origin", "_", "many", "place"]
abbrev NPt : List Str := ["origins", "old", "origin"]
theorem scPt : FnScope NPt ["origins", "old"] (defScope sPutTo) := ⟨rfl, rfl, rfl, by decide +kernel, rfl, by decide +kernel, by decide +kernel⟩
theorem atI_back {us : List V} {b : Nat} (h1 : 1 ≤ b) (h2 : b ≤ us.length) : atI us (-(b : Int)) = us[us.length - b]? := by
  unfold atI ixN
  rw [if_neg (by omega), if_pos (by omega)]
  show us[(-(b : Int) + (us.length : Int)).toNat]? = _
  have e : (-(b : Int) + (us.length : Int)).toNat = us.length - b := by omega
  rw [e]
theorem origS_len (acc : List Og) : ∀ i, (origS acc i).length = acc.length + wideI i
  | .b n => List.length_append
  | .c true m p => copyO_len p m acc
  | .c false m p => by
    show (acc ++ _).length = _
    rw [List.length_append, List.length_map, List.length_range]
    rfl
theorem paired_getD {H : Hp} {os : List Og} {us : List V} (h : Paired (OgAt H) os us) {i : Nat} (hi : i < os.length) : ∃ v, us[i]? = some v ∧ OgAt H (os.getD i ogD) v := by
  obtain ⟨v, e, r⟩ := paired_get h (List.getElem?_eq_getElem hi)
  refine ⟨v, e, ?_⟩
  rw [List.getD_eq_getElem?_getD, List.getElem?_eq_getElem hi]
  exact r
theorem fitR_cons {old t n : Nat} {i : Di} {r : List Di} (h : fitR old t (i :: r) = some n) : fitI old t i = true ∧ fitR old (t + wideI i) r = some n := by
  have h : (if fitI old t i = true then fitR old (t + wideI i) r else none) = some n := h
  split at h
  · exact ⟨by assumption, h⟩
  · cases h
theorem fit_top {old : Nat} : ∀ {r : List Di} {t n : Nat}, fitR old t r = some n → t ≤ n
  | [], t, n, h => by have := Option.some.inj h; omega
  | i :: r, t, n, h => by
    have := fit_top (fitR_cons h).2
    omega
section
variable {P : Program} {w : World} {K : PySem.W.Frag} {mg : Str → Option Value} {base : Heap}
def spOr : Sp := fun vs H Q _ => ∃ (r : Addr) (row : List Di) (old n : Nat), vs = [.ref r] ∧ RwAt H r row ∧ fitR old 0 row = some n ∧ n ≤ 2000 ∧ ∀ H' q, Same H H' → H q = none → OsAt H' q (orig row) → Q (.ref q) H'
theorem ok_or {f : Addr} {fd : FuncData} {j : Nat} {t1 : Tok} (F : Fun K "origins_of" "origins_of" sOrig f fd) (m1 : mg "isinstance" = none) (m2 : mg "tuple" = none) (m3 : mg "range" = none) (c1 : mg "NEW" = some (.str "new" t1)) :
    FnOk P w K mg base CX0 (j + 1) f fd ["row"] spOr := by
  refine F.ok scOr (fun vs H Q E h => ?_) (fun cdv A outer s H vs Q E hr h => ?_)
  · obtain ⟨r, row, old, n, rfl, _⟩ := h
    rfl
  · obtain ⟨r, row, old, n, rfl, ⟨us, hr0, hus⟩, hfit, hn, q⟩ := h
    have hz := PySem.sizeLine_eq
    refine ⟨_, pss_cons (ps_set (i := 1) scOr.nd rfl (.inl rfl) (pe_lst pa_nil))
      (pss_cons (ps_for PassesOwn.never rfl (pi_list (pv 0)) (pg_name (i := 2) scOr.nd rfl (.inl rfl))
        (pss_cons (ps_if (pt_not (pt_val (pe_callB call_isi (by rfl) m1 (by decide +kernel) (pa_cons (pv 2) (pa_cons (pe_bltn (v := .ty "tuple") (by rfl) m2 (by decide +kernel) rfl) pa_nil)))))
          (pss_cons (ps_expr (pe_bm PySem.F.plainAttrs_list PySem.F.slot_list_append PySem.F.type_list_append mt_append (pv 1) (pa_cons (pv 2) pa_nil))) (pss_one ps_continue)) pss_nil)
        (pss_cons (ps_asg (pv 2) (pg_tup (by rfl) (pgs_cons (pg_name (i := 3) scOr.nd rfl (.inl rfl)) (pgs_cons (pg_name (i := 4) scOr.nd rfl (.inl rfl)) (pgs_cons (pg_name (i := 5) scOr.nd rfl (.inl rfl)) pgs_nil)))))
        (pss_one (ps_for PassesOwn.never rfl (pi_range1 (by rfl) m3 (pa_cons (pv 4) pa_nil)) (pg_name (i := 6) scOr.nd rfl (.inl rfl))
          (pss_one (ps_expr (pe_bm PySem.F.plainAttrs_list PySem.F.slot_list_append PySem.F.type_list_append mt_append (pv 1) (pa_cons (pe_ifExp (pt_cmpR op_eq (pv 3) (pe_glob (v := .str "new") rfl c1 ⟨_, rfl⟩) (nomark _)) (pe_ix ix_list (pv 1) (pe_un un_neg (pv 5)) (fun _ _ => rfl)) (pe_tup (pa_cons (pe_op op_add (pv 5) (pv 6)) pa_nil))) pa_nil)))))))))
      (pss_one (ps_ret (pv 1)))), ?_⟩
    refine ⟨Nat.zero_le _, fun D nD => ?_⟩
    have hlen := hus.length
    have hrl : row.length ≤ 2000 := by have := fitR_le hfit; omega
    dsimp only [gName]
    refine ⟨_, rfl, r, rfl, ⟨_, .inl (.inl (same_upd nD _ _ hr0))⟩, ?_⟩
    refine for_list (K := K) (a := r) (xs := us) (fun i σ H' => ∃ (y2 y3 y4 y5 y6 : Option V) (os : List Og) (vs : List V), σ = [some (.ref r), some (.ref D), y2, y3, y4, y5, y6] ∧ Same H H' ∧ H' D = some (.lst vs) ∧ Paired (OgAt H') os vs ∧ os = (row.take i).foldl origS [] ∧ fitR old os.length (row.drop i) = some n)
      ⟨_, _, _, _, _, [], [], rfl, same_upd nD, upd_same, .nil, rfl, hfit⟩ (fun i σ H' _ h => ?_) (fun i x σ H' hx h => ?_) (fun σ H' h => ?_)
    · obtain ⟨_, _, _, _, _, _, _, _, sm, _⟩ := h
      exact .inl (.inl (sm _ _ hr0))
    · obtain ⟨y2, y3, y4, y5, y6, os, vs, rfl, sm, hD, hP, eos, ef⟩ := h
      have hi : i < row.length := by have := (List.getElem?_eq_some_iff.mp hx).1; omega
      obtain ⟨x', e1, hd0⟩ := paired_get hus (List.getElem?_eq_getElem hi)
      obtain rfl := Option.some.inj (e1.symm.trans hx)
      have hd := hd0.same sm
      rw [List.drop_eq_getElem_cons hi] at ef
      have et : (row.take (i + 1)).foldl origS [] = origS os row[i] := by
        rw [List.take_add_one, List.getElem?_eq_getElem hi, List.foldl_append, ← eos]
        rfl
      rw [et]
      clear eos et hd0
      generalize row[i] = it at *
      obtain ⟨hf, ef⟩ := fitR_cons ef
      have hvl := hP.length
      have htop := fit_top ef
      rw [← origS_len] at ef
      dsimp only [gName]
      cases it with
      | b k =>
        obtain rfl : x' = .int (k : Int) := hd
        refine ⟨_, rfl, _, _, _, _, _, rfl, .ty "tuple", .base (.int _), kit_ty (a := "int") (r := false) (by decide +kernel), _, rfl, iteT ?_⟩
        refine ⟨_, rfl, .inl ⟨rfl, _, .inl (.inl hD)⟩, _, rfl, D, _, _, rfl, rfl, hD, by omega, ?_⟩
        refine ⟨_, _, _, _, _, _, vs ++ [.int (k : Int)], rfl, same_put sm nD, upd_same, ?_, rfl, ef⟩
        exact (hP.mono fun _ _ h => h.put hD).snoc rfl
      | c nw m p =>
        obtain ⟨t, rfl, ht⟩ := hd
        refine ⟨_, rfl, _, _, .type "tuple", _, _, rfl, .ty "tuple", .base (.tup ht), kit_ty (a := "tuple") (r := true) (by decide +kernel), _, rfl, iteF ?_⟩
        refine ⟨_, rfl, t, _, rfl, .inl (.inl ht), rfl, _, _, rfl, _, _, rfl, _, _, rfl, rfl, ?_⟩
        have hm : m ≤ 255 := (fit_wide hf).2
        have htop : os.length + m ≤ n := htop
        refine ⟨_, rfl, m, rfl, by omega, by omega, ?_⟩
        cases nw with
        | true =>
          have hf := of_decide_eq_true (show decide (3 ≤ m ∧ m ≤ 255 ∧ 1 ≤ p ∧ p ≤ min 2000 os.length) = true from hf)
          refine for_range (lo := 0) (n := (m : Int).toNat) (fun k σ H3 => ∃ (y6 : Option V) (vs3 : List V), σ = [some (.ref r), some (.ref D), some (.ref t), some (.str (wdN true)), some (.int (m : Int)), some (.int (p : Int)), y6] ∧ Same H H3 ∧ H3 D = some (.lst vs3) ∧ Paired (OgAt H3) (copyO p k os) vs3) ⟨_, vs, rfl, sm, hD, hP⟩ (fun k σ H3 hk h => ?_) (fun σ H3 h => ?_)
          · obtain ⟨y6, vs3, rfl, sm3, hD3, hP3⟩ := h
            have hl3 := hP3.length
            rw [copyO_len] at hl3
            obtain ⟨v, e1, hv⟩ := paired_getD hP3 (i := (copyO p k os).length - p) (by rw [copyO_len]; omega)
            refine ⟨_, rfl, .inl ⟨rfl, _, .inl (.inl hD3)⟩, ?_⟩
            refine ⟨_, rfl, rfl, _, rfl, iteT ?_⟩
            refine ⟨_, rfl, _, rfl, _, rfl, D, _, _, v, rfl, rfl, .inl (.inl hD3), ?_, D, _, _, rfl, rfl, hD3, by omega, ?_⟩
            · rw [atI_back (by omega) (by omega), ← hl3, ← copyO_len p k os]
              exact e1
            · refine ⟨_, vs3 ++ [v], rfl, same_put sm3 nD, upd_same, ?_⟩
              rw [copyO_succ]
              exact (hP3.mono fun _ _ h => h.put hD3).snoc (hv.put hD3)
          · obtain ⟨y6, vs3, rfl, sm3, hD3, hP3⟩ := h
            rw [Int.toNat_natCast] at hP3
            exact ⟨_, _, _, _, _, _, vs3, rfl, sm3, hD3, hP3, rfl, ef⟩
        | false =>
          refine for_range (lo := 0) (n := (m : Int).toNat) (fun k σ H3 => ∃ (y6 : Option V) (vs3 : List V), σ = [some (.ref r), some (.ref D), some (.ref t), some (.str (wdN false)), some (.int (m : Int)), some (.int (p : Int)), y6] ∧ Same H H3 ∧ H3 D = some (.lst vs3) ∧ Paired (OgAt H3) (os ++ (List.range k).map fun t => Og.o (p + t)) vs3) ⟨_, vs, rfl, sm, hD, by rw [List.range_zero]; simpa using hP⟩ (fun k σ H3 hk h => ?_) (fun σ H3 h => ?_)
          · obtain ⟨y6, vs3, rfl, sm3, hD3, hP3⟩ := h
            have hl3 := hP3.length
            rw [List.length_append, List.length_map, List.length_range] at hl3
            refine ⟨_, rfl, .inl ⟨rfl, _, .inl (.inl hD3)⟩, ?_⟩
            refine ⟨_, rfl, rfl, _, rfl, iteF ?_⟩
            refine ⟨_, rfl, _, rfl, _, _, rfl, rfl, (by show 1 ≤ sizeLine; omega), fun tt ntt => ?_⟩
            have st := same_upd (o := .tup [.int ((p : Int) + (0 + (k : Int)))]) ntt
            refine ⟨D, _, _, rfl, rfl, st _ _ hD3, by omega, ?_⟩
            refine ⟨_, vs3 ++ [.ref tt], rfl, same_put (sm3.trans st) nD, upd_same, ?_⟩
            rw [List.range_succ, List.map_append, ← List.append_assoc]
            refine (hP3.mono fun _ _ h => (h.same st).put (st _ _ hD3)).snoc (OgAt.put (i := .o (p + k)) ⟨tt, rfl, ?_⟩ (st _ _ hD3))
            rw [upd_same]
            show some (HO.tup [V.int ((p : Int) + (0 + (k : Int)))]) = _
            rw [show (p : Int) + (0 + (k : Int)) = ((p + k : Nat) : Int) by push_cast; omega]
          · obtain ⟨y6, vs3, rfl, sm3, hD3, hP3⟩ := h
            rw [Int.toNat_natCast] at hP3
            exact ⟨_, _, _, _, _, _, vs3, rfl, sm3, hD3, hP3, rfl, ef⟩
    · obtain ⟨y2, y3, y4, y5, y6, os, vs, rfl, sm, hD, hP, eos, ef⟩ := h
      rw [← hlen, List.take_length] at eos
      refine ⟨_, rfl, q H' D sm nD ⟨vs, hD, ?_⟩⟩
      rw [show orig row = os from eos.symm]
      exact hP
def goesB : Di → Nat → Bool
  | .c _ m p, q => decide (m < 255 ∧ p + m = q)
  | .b _, _ => false
def spGo : Sp := fun vs H Q _ => ∃ (v : V) (i : Di) (q : Nat), vs = [v, .int (q : Int)] ∧ DiAt H i v ∧ Q (.bl (goesB i q)) H
end
end K9

namespace K9
open PySem PySem.Spec PyProof.Rows L2
theorem atI_lastV {us : List V} {v : V} : atI (us ++ [v]) (-1) = some v := by
  have := atI_back (us := us ++ [v]) (b := 1) (Nat.le_refl _) (by rw [List.length_append]; exact Nat.le_add_left _ _)
  rw [List.length_append] at this
  have h : atI (us ++ [v]) (-((1 : Nat) : Int)) = (us ++ [v])[us.length + 1 - 1]? := this
  rw [Nat.add_sub_cancel, List.getElem?_append_right (Nat.le_refl _), Nat.sub_self] at h
  exact h
theorem ixN_last {us : List V} {v : V} : ixN (us ++ [v]).length (-1) = some us.length := by
  have e9 : (us ++ [v]).length = us.length + 1 := by simp
  unfold ixN
  rw [e9, if_neg (by decide), if_pos (by omega)]
  congr 1
  omega
theorem flatS_b (acc : List Di) (n : Nat) : flatS acc (.b n) = acc ++ [.b n] := rfl
theorem flatS_new {acc : List Di} {q : Nat} (h : ∀ i, acc.getLast? = some i → goesB i q = false) : flatS acc (.o q) = acc ++ [.c false 1 q] := by
  show flatO acc q acc.getLast? = _
  cases e : acc.getLast? with
  | none => rfl
  | some i =>
    have := h i e
    cases i with
    | b n => rfl
    | c nw m p =>
      have h2 : decide (m < 255 ∧ p + m = q) = false := this
      exact if_neg (of_decide_eq_false h2)
theorem flatS_on {acc : List Di} {q m p : Nat} {nw : Bool} (h : goesB (.c nw m p) q = true) : flatS (acc ++ [.c nw m p]) (.o q) = acc ++ [.c false (m + 1) p] := by
  show flatO _ q (acc ++ [Di.c nw m p]).getLast? = _
  rw [List.getLast?_append]
  have h2 := of_decide_eq_true (show decide (m < 255 ∧ p + m = q) = true from h)
  show (if m < 255 ∧ p + m = q then (acc ++ [Di.c nw m p]).dropLast ++ [Di.c false (m + 1) p] else (acc ++ [Di.c nw m p]) ++ [Di.c false 1 q]) = _
  rw [if_pos h2, List.dropLast_concat]
theorem paired_snoc_inv {α β : Type} {R : α → β → Prop} {xs : List α} {x : α} {ys : List β} (h : Paired R (xs ++ [x]) ys) : ∃ zs z, ys = zs ++ [z] ∧ Paired R xs zs ∧ R x z := by
  induction xs generalizing ys with
  | nil =>
    cases h with
    | cons r rs =>
      cases rs
      exact ⟨[], _, rfl, .nil, r⟩
  | cons a xs ih =>
    cases h with
    | cons r rs =>
      obtain ⟨zs, z, rfl, h2, h3⟩ := ih rs
      exact ⟨_ :: zs, z, rfl, .cons r h2, h3⟩
theorem flatS_len (acc : List Di) (o : Og) : (flatS acc o).length ≤ acc.length + 1 := by
  cases o with
  | b n => rw [flatS_b, List.length_append]; exact Nat.le_refl _
  | o q =>
    rcases List.eq_nil_or_concat acc with rfl | ⟨a, x, rfl⟩
    · exact Nat.le_refl _
    · rw [List.concat_eq_append]
      cases hg : goesB x q with
      | true =>
        cases x with
        | b n => cases hg
        | c nw m p =>
          rw [flatS_on hg, List.length_append, List.length_append]
          exact Nat.le_succ _
      | false =>
        rw [flatS_new fun i hi => by
          rw [List.getLast?_append] at hi
          obtain rfl := Option.some.inj hi
          exact hg, List.length_append]
        exact Nat.le_refl _
theorem flat_len : ∀ (os : List Og) (acc : List Di), (os.foldl flatS acc).length ≤ acc.length + os.length
  | [], _ => Nat.le_refl _
  | o :: os, acc => by
    have h1 := flat_len os (flatS acc o)
    have h2 := flatS_len acc o
    show (os.foldl flatS (flatS acc o)).length ≤ acc.length + (os.length + 1)
    omega
section
variable {P : Program} {w : World} {K : PySem.W.Frag} {mg : Str → Option Value} {base : Heap}
def spRf : Sp := fun vs H Q _ => ∃ (r : Addr) (os : List Og), vs = [.ref r] ∧ OsAt H r os ∧ os.length ≤ 2000 ∧ ∀ H' q, Same H H' → H q = none → RwAt H' q (flatF os) → Q (.ref q) H'
end
end K9

namespace K9
open PySem PySem.Spec PyProof.Rows L2
theorem ixT {X : Cx} (K : PySem.W.Frag) (h : X.K = K := by rfl) : IxR X (rIxT K) := by subst h; exact ix_tup
theorem isiK {X : Cx} (K : PySem.W.Frag) (h : X.K = K := by rfl) : CallR X (.builtin "isinstance") (rIsi K) := by subst h; exact call_isi
theorem makeB_at {os : List Og} {old : List Nat} : (os.map (byteO old)) = makeB os old := rfl
section
variable {P : Program} {w : World} {K : PySem.W.Frag} {mg : Str → Option Value} {base : Heap}
def spPt : Sp := fun vs H Q _ => ∃ (r : Addr) (os : List Og) (old : List Nat), vs = [.ref r, .byt (byB old)] ∧ OsAt H r os ∧ os.length ≤ 2000 ∧ (∀ o ∈ os, OgOk old.length o) ∧ (∀ k ∈ old, k < 256) ∧ old.length ≤ 2000 ∧ ∀ H', Same H H' → Q (.byt (byB (makeB os old))) H'
theorem ok_pt {f : Addr} {fd : FuncData} {j : Nat} (F : Fun K "put_together" "put_together" sPutTo f fd) (m1 : mg "isinstance" = none) (m2 : mg "tuple" = none) (m3 : mg "bytes" = none) :
    FnOk P w K mg base CX0 (j + 1) f fd ["origins", "old"] spPt := by
  refine F.ok scPt (fun vs H Q E h => ?_) (fun cdv A outer s H vs Q E hr h => ?_)
  · obtain ⟨r, os, old, rfl, _⟩ := h
    rfl
  · obtain ⟨r, os, old, rfl, ⟨us, hr0, hus⟩, hl, ho, hk, hol, q⟩ := h
    have hz := PySem.sizeLine_eq
    refine ⟨_, pss_one (ps_ret (pe_callTy (call_bytes_list rfl) (by rfl) m3 (by decide +kernel) (pa_cons
      (pe_lc (own := [("origin", 2)]) (g := gName 2) (tt := tYes) rfl scPt.nd (pi_list (pv 0)) (blkOk_by (N := NPt) (sc := defScope sPutTo) (by decide +kernel)) (fun _ _ _ _ _ => pg_name (i := 2) scPt.nd rfl (.inl rfl)) (fun _ _ _ _ _ => pts_nil)
        (fun _ _ _ _ _ => pe_ifExp (pt_val (pe_callB (isiK K) (by rfl) m1 (by decide +kernel) (pa_cons (pv 2) (pa_cons (pe_bltn (v := .ty "tuple") (by rfl) m2 (by decide +kernel) rfl) pa_nil)))) (pe_item_byt (pv 1) (pe_ix (ixT K) (pv 2) pe_int (fun _ _ => rfl)) (fun _ _ => rfl)) (pv 2))) pa_nil))), ?_⟩
    have hlen := hus.length
    refine ⟨_, rfl, r, rfl, ⟨_, .inl (.inl hr0)⟩, fun D nD => ?_⟩
    refine lc_list (K := K) (a := r) (xs := us) (fun i H' => Same H H' ∧ H' D = some (.lst (bys ((makeB os old).take i)))) ⟨same_upd nD, by rw [upd_same]; rfl⟩ (fun i H' _ h => .inl (.inl (h.1 _ _ hr0))) (fun i x H' hx h => ?_) (fun H' h => ?_)
    · obtain ⟨sm, hD⟩ := h
      have hi : i < os.length := by have := (List.getElem?_eq_some_iff.mp hx).1; omega
      obtain ⟨x', e1, hd0⟩ := paired_get hus (List.getElem?_eq_getElem hi)
      obtain rfl := Option.some.inj (e1.symm.trans hx)
      have hd := hd0.same sm
      have hok := ho os[i] (List.getElem_mem hi)
      have em : (makeB os old)[i]? = some (byteO old os[i]) := by
        unfold makeB
        rw [List.getElem?_map, List.getElem?_eq_getElem hi]
        rfl
      rw [take_snocG em]
      have done : H' D = some (.lst (bys ((makeB os old).take i))) → ∀ k : Nat, k = byteO old os[i] → ∃ acc, H' D = some (.lst acc) ∧ acc.length < sizeLine ∧ (Same H (upd H' D (.lst (acc ++ [.int (k : Int)]))) ∧ (upd H' D (.lst (acc ++ [.int (k : Int)]))) D = some (.lst (bys ((makeB os old).take i ++ [byteO old os[i]])))) := fun hD k ek => ⟨_, hD, by rw [bys_len, List.length_take, makeB_len]; omega, same_put sm nD, by rw [upd_same, ← bys_app, ek]; rfl⟩
      clear hd0
      generalize os[i] = o at *
      refine ⟨rfl, yes ?_⟩
      cases o with
      | b k =>
        obtain rfl : x' = .int (k : Int) := hd
        refine ⟨_, rfl, _, _, _, _, _, rfl, .ty "tuple", .base (.int _), kit_ty (a := "int") (r := false) (by decide +kernel), _, rfl, iteF ?_⟩
        exact ⟨_, rfl, done hD k rfl⟩
      | o p =>
        obtain ⟨t, rfl, ht⟩ := hd
        have hp : p < old.length := hok
        refine ⟨_, rfl, _, _, .type "tuple", _, _, rfl, .ty "tuple", .base (.tup ht), kit_ty (a := "tuple") (r := true) (by decide +kernel), _, rfl, iteT ?_⟩
        refine ⟨_, rfl, _, rfl, t, _, 0, _, rfl, rfl, .inl (.inl ht), rfl, old.map Nat.toUInt8, (p : Int), rfl, rfl, by rw [List.length_map]; omega, by omega, by rw [List.length_map]; omega, ?_⟩
        rw [Int.toNat_natCast, byB_get hk]
        exact done hD _ rfl
    · obtain ⟨sm, hD⟩ := h
      rw [← hlen, ← makeB_len os old, List.take_length] at hD
      refine ⟨D, (makeB os old).map fun (k : Nat) => (k : Int), rfl, .inl (.inl ?_), ?_, ?_⟩
      · exact hD
      · intro n hn
        obtain ⟨k, hk2, rfl⟩ := List.mem_map.mp hn
        have := makeB_lt hk ho k hk2
        exact ⟨by omega, by omega⟩
      · rw [byB_of]
        exact q H' sm
end
end K9

namespace BFX
open PySem PySem.Spec PySem.Calls PyProof.Rows PySem.W PySem.Builtin
theorem win_eq (n m : Nat) : KBf.win n m = winN n m 0 (n : Int) := by
  unfold KBf.win winN
  rw [Int.min_self]
theorem gives_find1 {b c : Array UInt8} {t u : Tok} : Gives («bytes.find» ⟨[.bytes b t, .bytes c u], []⟩) (.int (KBf.told (fnd b c 0 b.size))) := by
  refine .of_wp fun M A E s Q hq => ?_
  show wpAny M A (Bytes.searchArgs .bytes "find" ⟨[.bytes b t, .bytes c u], []⟩ >>= fun r => _) _ E s
  refine wpAny_bind (KBf.wp_args ?_)
  rw [win_eq]
  show wpAny M A (match fnd b c 0 b.size with | some i => retInt (i : Int) | none => rule _ >>= fun _ => retInt (-1)) _ E s
  cases e : fnd b c 0 b.size with
  | none =>
    rw [e] at hq
    exact wpAny_bind (wpAny_rule (wpAny_bind (wpAny_mkInt (wpAny_pure ⟨_, rfl, hq⟩))))
  | some i =>
    rw [e] at hq
    exact wpAny_bind (wpAny_mkInt (wpAny_pure ⟨_, rfl, hq⟩))
end BFX
namespace L2
open PySem PySem.Spec PySem.Calls PyProof.Rows
theorem mt_bfind1 {X : Cx} : MtR X "bytes.find" (fun x xs H Q => ∃ (a b : Array UInt8), x = .byt a ∧ xs = [.byt b] ∧ Q (.int (PySem.W.KBf.told (BFX.fnd a b 0 a.size))) H) := by
  intro pins s σ H x xs v us Q I rx rs h
  obtain ⟨a, b, rfl, rfl, h⟩ := h
  obtain ⟨t, rfl⟩ := rx
  cases rs with
  | cons r1 rs =>
    cases rs
    obtain ⟨u, rfl⟩ := r1
    exact call_gives PySem.W.KBf.slot_find (PySem.W.typeIs_bytes _ _ _) PySem.W.KBf.entry_find (PySem.W.KBf.args_find _ _) BFX.gives_find1 ⟨V.int _, H, I.tok (s.toks + 1), ⟨_, rfl⟩, h⟩
end L2
namespace K9
open PySem PySem.Spec PyProof.Rows L2
/-! ### how far copies reach -/
theorem scMa : FnScope ["new", "at"] ["new", "at"] (defScope sMostAt) := ⟨rfl, rfl, rfl, by decide +kernel, rfl, by decide +kernel, by decide +kernel⟩
abbrev NLn : List Str := ["new", "found", "many", "at"]
theorem scLn : FnScope NLn ["new"] (defScope sLongN) := ⟨rfl, rfl, rfl, by decide +kernel, rfl, by decide +kernel, by decide +kernel⟩
abbrev NLo : List Str := ["old", "new", "found", "many", "at"]
theorem scLo : FnScope NLo ["old", "new"] (defScope sLongO) := ⟨rfl, rfl, rfl, by decide +kernel, rfl, by decide +kernel, by decide +kernel⟩
def mostN (e : List Nat) (i : Nat) : Nat := min 255 (e.length - i)
def CpN (e : List Nat) (i m : Nat) : Prop := m = 0 ∨ ∃ s, s < i ∧ sliceN e s m = sliceN e i m
def CpO (old e : List Nat) (i m : Nat) : Prop := ∃ s, s + m ≤ old.length ∧ sliceN old s m = sliceN e i m
def LongN (e : List Nat) (i m : Nat) : Prop := m ≤ mostN e i ∧ CpN e i m ∧ (m < mostN e i → ¬ CpN e i (m + 1))
def LongO (old e : List Nat) (i m : Nat) : Prop := m ≤ mostN e i ∧ CpO old e i m ∧ (m < mostN e i → ¬ CpO old e i (m + 1))
theorem slice_tail (e : List Nat) (i m : Nat) : sliceN e (i + 1) m = (sliceN e i (m + 1)).drop 1 := by
  unfold sliceN
  rw [List.drop_take, List.drop_drop]
  rfl
theorem CpN.next {e : List Nat} {i m : Nat} (h : CpN e i m) : CpN e (i + 1) (m - 1) := by
  rcases h with rfl | ⟨s, h1, h2⟩
  · exact .inl rfl
  · cases m with
    | zero => exact .inl rfl
    | succ m =>
      refine .inr ⟨s + 1, by omega, ?_⟩
      show sliceN e (s + 1) m = sliceN e (i + 1) m
      rw [slice_tail, slice_tail, h2]
theorem CpO.next {old e : List Nat} {i m : Nat} (h : CpO old e i m) : CpO old e (i + 1) (m - 1) := by
  obtain ⟨s, h1, h2⟩ := h
  cases m with
  | zero => exact ⟨0, Nat.zero_le _, by show (old.drop 0).take 0 = (e.drop (i + 1)).take 0; rw [List.take_zero, List.take_zero]⟩
  | succ m =>
    refine ⟨s + 1, by show s + 1 + m ≤ _; omega, ?_⟩
    show sliceN old (s + 1) m = sliceN e (i + 1) m
    rw [slice_tail, slice_tail, h2]
theorem cpO_zero (old e : List Nat) (i : Nat) : CpO old e i 0 := ⟨0, Nat.zero_le _, by show (old.drop 0).take 0 = (e.drop i).take 0; rw [List.take_zero, List.take_zero]⟩
theorem fndN_step {e : List Nat} {i m : Nat} {o : Option Nat} (hm : i + (m + 1) ≤ e.length) (F : FndIs e (sliceN e i (m + 1)) 0 (i + m) o) : (o = none → ¬ CpN e i (m + 1)) ∧ (∀ s, o = some s → CpN e i (m + 1)) := by
  have hl : (sliceN e i (m + 1)).length = m + 1 := by rw [slice_len]; omega
  have no := F.no
  have yes := F.yes
  rw [hl] at no yes
  refine ⟨fun z h => ?_, fun s z => ?_⟩
  · rcases h with h | ⟨s, h1, h2⟩
    · omega
    · exact no z s (Nat.zero_le _) (by omega) h2
  · obtain ⟨_, h2, h3, _⟩ := yes s z
    exact .inr ⟨s, by omega, h3⟩
theorem fndO_step {old e : List Nat} {i m : Nat} {o : Option Nat} (hm : i + (m + 1) ≤ e.length) (F : FndIs old (sliceN e i (m + 1)) 0 old.length o) : (o = none → ¬ CpO old e i (m + 1)) ∧ (∀ s, o = some s → CpO old e i (m + 1)) := by
  have hl : (sliceN e i (m + 1)).length = m + 1 := by rw [slice_len]; omega
  have no := F.no
  have yes := F.yes
  rw [hl] at no yes
  refine ⟨fun z ⟨s, h1, h2⟩ => no z s (Nat.zero_le _) (by omega) h2, fun s z => ?_⟩
  obtain ⟨_, h2, h3, _⟩ := yes s z
  exact ⟨s, by omega, h3⟩
section
variable {P : Program} {w : World} {K : PySem.W.Frag} {mg : Str → Option Value} {base : Heap}
def spMa : Sp := fun vs H Q _ => ∃ (e : List Nat) (i : Nat), vs = [.byt (byB e), .int (i : Int)] ∧ e.length ≤ 2000 ∧ i ≤ e.length ∧ Q (.int ((mostN e i : Nat) : Int)) H
theorem ok_ma {f : Addr} {fd : FuncData} {j : Nat} {t1 : Tok} (F : Fun K "most_at" "most_at" sMostAt f fd) (m1 : mg "min" = none) (m2 : mg "len" = none) (c1 : mg "MOST_AT_ONCE" = some (.int 255 t1)) :
    FnOk P w K mg base CX0 (j + 1) f fd ["new", "at"] spMa := by
  refine F.ok scMa (fun vs H Q E h => ?_) (fun cdv A outer s H vs Q E hr h => ?_)
  · obtain ⟨e, i, rfl, _⟩ := h
    rfl
  · obtain ⟨e, i, rfl, hl, hi, q⟩ := h
    have hz := PySem.sizeLine_eq
    refine ⟨_, pss_one (ps_ret (pe_callB (call_min2 rfl) (by rfl) m1 (by decide +kernel) (pa_cons (pe_glob (v := .int 255) rfl c1 ⟨_, rfl⟩) (pa_cons (pe_op op_sub (pe_callB call_len (by rfl) m2 PySem.boot_len (pa_cons (pv 0) pa_nil)) (pv 1)) pa_nil)))), ?_⟩
    refine ⟨_, rfl, _, (byB e).size, rfl, ⟨by rw [byB_size]; omega, rfl⟩, _, rfl, _, _, rfl, rfl, _, _, rfl, ?_⟩
    have e4 : (if ((byB e).size : Int) - (i : Int) < 255 then ((byB e).size : Int) - (i : Int) else 255) = ((mostN e i : Nat) : Int) := by
      unfold mostN
      rw [byB_size]
      split <;> omega
    rw [e4]
    exact q
def spLn : Sp := fun vs H Q _ => ∃ e : List Nat, vs = [.byt (byB e)] ∧ (∀ k ∈ e, k < 256) ∧ e.length ≤ 2000 ∧
  ∀ H' q ms, Same H H' → H q = none → H' q = some (.lst (bys ms)) → ms.length = e.length → (∀ i, i < e.length → LongN e i (ms.getD i 0)) → Q (.ref q) H'
theorem getD_snoc {ms : List Nat} {m i : Nat} {P : Nat → Nat → Prop} (h : ∀ t, t < ms.length → P t (ms.getD t 0)) (hm : P ms.length m) : ∀ t, t < (ms ++ [m]).length → P t ((ms ++ [m]).getD t 0) := fun t ht => by
  rw [List.length_append] at ht
  have ht : t < ms.length + 1 := ht
  by_cases q : t < ms.length
  · rw [List.getD_eq_getElem?_getD, List.getElem?_append_left q, ← List.getD_eq_getElem?_getD]
    exact h t q
  · have : t = ms.length := by omega
    subst this
    rw [List.getD_eq_getElem?_getD, List.getElem?_append_right (Nat.le_refl _), Nat.sub_self]
    exact hm
theorem ok_ln {f fM : Addr} {fd fdM : FuncData} {j k1 : Nat} (F : Fun K "longest_new" "longest_new" sLongN f fd) (GM : FnOk P w K mg base CX0 k1 fM fdM ["new", "at"] spMa) (bM : Binds K fdM ["new", "at"] []) (kM : PySem.W.keepIn K (.ref fM) = true) (gM : mg "most_at" = some (.ref fM)) (l1 : k1 ≤ j)
    (m1 : mg "range" = none) (m2 : mg "len" = none) (m3 : mg "max" = none) : FnOk P w K mg base CX0 (j + 1) f fd ["new"] spLn := by
  refine F.ok scLn (fun vs H Q E h => ?_) (fun cdv A outer s H vs Q E hr h => ?_)
  · obtain ⟨e, rfl, _⟩ := h
    rfl
  · obtain ⟨e, rfl, hk, hl, q⟩ := h
    have hz := PySem.sizeLine_eq
    refine ⟨_, pss_cons (ps_set (i := 1) scLn.nd rfl (.inl rfl) (pe_lst pa_nil))
      (pss_cons (ps_set (i := 2) scLn.nd rfl (.inl rfl) pe_int)
      (pss_cons (ps_for PassesOwn.never rfl (pi_range1 (by rfl) m1 (pa_cons (pe_callB call_len (by rfl) m2 PySem.boot_len (pa_cons (pv 0) pa_nil)) pa_nil)) (pg_name (i := 3) scLn.nd rfl (.inl rfl))
        (pss_cons (ps_set (i := 2) scLn.nd rfl (.inl rfl) (pe_callB (call_max2 rfl) (by rfl) m3 (by decide +kernel) (pa_cons pe_int (pa_cons (pe_op op_sub (pv 2) pe_int) pa_nil))))
        (pss_cons (ps_while PassesOwn.never (PW.pt (pw_and (pt_cmpR op_lt (pv 2) (pe_call GM (hr.mono l1) (by rfl) gM kM bM .nil pass0 (pa_cons (pv 0) (pa_cons (pv 3) pa_nil))) (nomark _))
            (pw_and1 (pt_cmpR op_ge (pe_bmB PySem.W.KBf.slot_find PySem.W.KBf.type_find mt_bfind4 (pv 0) (pa_cons (pe_slice sl_byt (pv 0) (po_some (pv 3)) (po_some (pe_op op_add (pe_op op_add (pv 3) (pv 2)) pe_int))) (pa_cons pe_int (pa_cons (pe_op op_add (pv 3) (pv 2)) pa_nil)))) pe_int (nomark _)))))
          (pss_one (ps_aug (i := 2) scLn.nd rfl (.inl rfl) pe_int ip_add)))
        (pss_one (ps_expr (pe_bm PySem.F.plainAttrs_list PySem.F.slot_list_append PySem.F.type_list_append mt_append (pv 1) (pa_cons (pv 2) pa_nil)))))))
      (pss_one (ps_ret (pv 1))))), ?_⟩
    refine ⟨Nat.zero_le _, fun D nD => ?_⟩
    dsimp only [gName]
    refine ⟨_, rfl, _, (byB e).size, rfl, ⟨by rw [byB_size]; omega, rfl⟩, ((byB e).size : Int), rfl, by rw [byB_size]; omega, by rw [byB_size]; omega, ?_⟩
    refine for_range (lo := 0) (n := (((byB e).size : Nat) : Int).toNat) (fun i σ H' => ∃ (y3 : Option V) (m : Nat) (ms : List Nat), σ = [some (.byt (byB e)), some (.ref D), some (.int (m : Int)), y3] ∧ Same H H' ∧ H' D = some (.lst (bys ms)) ∧ ms.length = i ∧ (∀ t, t < ms.length → LongN e t (ms.getD t 0)) ∧ CpN e i (m - 1) ∧ m ≤ mostN e i + 1)
      ⟨_, 0, [], rfl, same_upd nD, upd_same, rfl, fun t z => absurd z (Nat.not_lt_zero _), .inl rfl, Nat.zero_le _⟩ (fun i σ H' hi h => ?_) (fun σ H' h => ?_)
    · obtain ⟨y3, m, ms, rfl, sm, hD, hml, hms, hcp, hmb⟩ := h
      rw [Int.toNat_natCast, byB_size] at hi
      have e0 : (0 : Int) + (i : Int) = (i : Int) := by omega
      rw [e0]
      refine ⟨_, rfl, _, _, rfl, rfl, _, _, rfl, ?_⟩
      have e1 : (if (m : Int) - 1 > 0 then (m : Int) - 1 else 0) = ((m - 1 : Nat) : Int) := by split <;> omega
      dsimp only [gName]
      rw [e1]
      refine ⟨fun n σ H3 => ∃ m : Nat, σ = [some (.byt (byB e)), some (.ref D), some (.int (m : Int)), some (.int (i : Int))] ∧ H3 = H' ∧ m ≤ mostN e i ∧ n = mostN e i - m ∧ CpN e i m, ⟨_, m - 1, rfl, rfl, by omega, rfl, hcp⟩, fun n σ H3 hW => ?_⟩
      obtain ⟨m, rfl, rfl, hm, rfl, hc⟩ := hW
      have hmost : mostN e i ≤ 255 ∧ mostN e i ≤ e.length - i := ⟨Nat.min_le_left _ _, Nat.min_le_right _ _⟩
      have fin : LongN e i m → ∃ (z3 : Option V) (m_1 : Nat) (ms_1 : List Nat), [some (V.byt (byB e)), some (.ref D), some (.int (m : Int)), some (.int (i : Int))] = [some (.byt (byB e)), some (.ref D), some (.int (m_1 : Int)), z3] ∧ Same H (upd H3 D (.lst (bys ms ++ [.int (m : Int)]))) ∧ (upd H3 D (.lst (bys ms ++ [.int (m : Int)]))) D = some (.lst (bys ms_1)) ∧ ms_1.length = i + 1 ∧ (∀ t, t < ms_1.length → LongN e t (ms_1.getD t 0)) ∧ CpN e (i + 1) (m_1 - 1) ∧ m_1 ≤ mostN e (i + 1) + 1 := fun hL =>
        ⟨_, m, ms ++ [m], rfl, same_put sm nD, by rw [upd_same, ← bys_app]; rfl, by rw [List.length_append, hml]; rfl, getD_snoc (i := 0) (P := fun t x => LongN e t x) hms (by rw [hml]; exact hL), hc.next, by unfold mostN at *; omega⟩
      refine ⟨_, rfl, _, rfl, _, rfl, e, i, rfl, hl, by omega, _, _, rfl, rfl, _, rfl, ite2 (fun t1 => ?_) (fun t1 => ?_)⟩
      · have t1 : m < mostN e i := by have := of_decide_eq_true t1; omega
        refine ⟨_, rfl, ⟨_, rfl⟩, _, rfl, _, rfl, _, rfl, _, rfl, _, rfl, _, _, rfl, rfl, _, _, rfl, rfl, _, rfl, _, rfl, (by rw [byB_size]; omega), ?_⟩
        have e3 : PySem.W.KBy.picked (byB e) (some (i : Int)) (some ((i : Int) + (m : Int) + 1)) = byB (sliceN e i (m + 1)) := by
          rw [show (i : Int) + (m : Int) + 1 = ((i + (m + 1) : Nat) : Int) by push_cast; omega]
          exact picked_slice e i (m + 1) (by omega)
        dsimp only
        rw [e3]
        refine ⟨_, rfl, _, rfl, _, _, rfl, rfl, _, _, _, _, rfl, rfl, Int.le_refl 0, by omega, ?_⟩
        have FI := fnd_is hk (slice_lt hk (i := i) (m := m + 1)) 0 (i + m)
        have e4 : ((0 : Nat) : Int) = 0 := rfl
        have e5 : (i : Int) + (m : Int) = ((i + m : Nat) : Int) := by push_cast; rfl
        rw [e5]
        rw [e4] at FI
        obtain ⟨s1, s2⟩ := fndN_step (by omega) FI
        generalize BFX.fnd (byB e) (byB (sliceN e i (m + 1))) 0 ((i + m : Nat) : Int) = o at *
        refine ⟨_, _, rfl, rfl, _, rfl, ?_⟩
        cases o with
        | none =>
          refine iteF ?_
          refine ⟨_, rfl, .inl ⟨rfl, _, .inl (.inl hD)⟩, _, rfl, D, _, _, rfl, rfl, hD, by rw [bys_len]; omega, fin ⟨hm, hc, fun _ => s1 rfl⟩⟩
        | some x =>
          have hx : (0 : Int) ≤ (x : Int) := by omega
          refine iteC (decide_eq_true hx) ?_
          refine ⟨_, fun _ _ h => h, ?_⟩
          refine ⟨_, rfl, _, _, rfl, rfl, mostN e i - (m + 1), by omega, m + 1, by push_cast; rfl, rfl, by omega, rfl, s2 x rfl⟩
      · have t1 : ¬ m < mostN e i := fun z => t1 (decide_eq_true (by omega))
        refine iteF ?_
        refine ⟨_, rfl, .inl ⟨rfl, _, .inl (.inl hD)⟩, _, rfl, D, _, _, rfl, rfl, hD, by rw [bys_len]; omega, fin ⟨hm, hc, fun z => absurd z t1⟩⟩
    · obtain ⟨y3, m, ms, rfl, sm, hD, hml, hms, hcp, hmb⟩ := h
      rw [Int.toNat_natCast, byB_size] at hml
      exact ⟨_, rfl, q H' D ms sm nD hD hml (by rw [← hml]; exact hms)⟩
end
end K9

namespace K9
open PySem PySem.Spec PyProof.Rows L2
section
variable {P : Program} {w : World} {K : PySem.W.Frag} {mg : Str → Option Value} {base : Heap}
def spLo : Sp := fun vs H Q _ => ∃ old e : List Nat, vs = [.byt (byB old), .byt (byB e)] ∧ (∀ k ∈ old, k < 256) ∧ old.length ≤ 2000 ∧ (∀ k ∈ e, k < 256) ∧ e.length ≤ 2000 ∧
  ∀ H' q ms, Same H H' → H q = none → H' q = some (.lst (bys ms)) → ms.length = e.length → (∀ i, i < e.length → LongO old e i (ms.getD i 0)) → Q (.ref q) H'
theorem ok_lo {f fM : Addr} {fd fdM : FuncData} {j k1 : Nat} (F : Fun K "longest_old" "longest_old" sLongO f fd) (GM : FnOk P w K mg base CX0 k1 fM fdM ["new", "at"] spMa) (bM : Binds K fdM ["new", "at"] []) (kM : PySem.W.keepIn K (.ref fM) = true) (gM : mg "most_at" = some (.ref fM)) (l1 : k1 ≤ j)
    (m1 : mg "range" = none) (m2 : mg "len" = none) (m3 : mg "max" = none) : FnOk P w K mg base CX0 (j + 1) f fd ["old", "new"] spLo := by
  refine F.ok scLo (fun vs H Q E h => ?_) (fun cdv A outer s H vs Q E hr h => ?_)
  · obtain ⟨old, e, rfl, _⟩ := h
    rfl
  · obtain ⟨old, e, rfl, hko, hol, hk, hl, q⟩ := h
    have hz := PySem.sizeLine_eq
    refine ⟨_, pss_cons (ps_set (i := 2) scLo.nd rfl (.inl rfl) (pe_lst pa_nil))
      (pss_cons (ps_set (i := 3) scLo.nd rfl (.inl rfl) pe_int)
      (pss_cons (ps_for PassesOwn.never rfl (pi_range1 (by rfl) m1 (pa_cons (pe_callB call_len (by rfl) m2 PySem.boot_len (pa_cons (pv 1) pa_nil)) pa_nil)) (pg_name (i := 4) scLo.nd rfl (.inl rfl))
        (pss_cons (ps_set (i := 3) scLo.nd rfl (.inl rfl) (pe_callB (call_max2 rfl) (by rfl) m3 (by decide +kernel) (pa_cons pe_int (pa_cons (pe_op op_sub (pv 3) pe_int) pa_nil))))
        (pss_cons (ps_while PassesOwn.never (PW.pt (pw_and (pt_cmpR op_lt (pv 3) (pe_call GM (hr.mono l1) (by rfl) gM kM bM .nil pass0 (pa_cons (pv 1) (pa_cons (pv 4) pa_nil))) (nomark _))
            (pw_and1 (pt_cmpR op_ge (pe_bmB PySem.W.KBf.slot_find PySem.W.KBf.type_find mt_bfind1 (pv 0) (pa_cons (pe_slice sl_byt (pv 1) (po_some (pv 4)) (po_some (pe_op op_add (pe_op op_add (pv 4) (pv 3)) pe_int))) pa_nil)) pe_int (nomark _)))))
          (pss_one (ps_aug (i := 3) scLo.nd rfl (.inl rfl) pe_int ip_add)))
        (pss_one (ps_expr (pe_bm PySem.F.plainAttrs_list PySem.F.slot_list_append PySem.F.type_list_append mt_append (pv 2) (pa_cons (pv 3) pa_nil)))))))
      (pss_one (ps_ret (pv 2))))), ?_⟩
    refine ⟨Nat.zero_le _, fun D nD => ?_⟩
    dsimp only [gName]
    refine ⟨_, rfl, _, (byB e).size, rfl, ⟨by rw [byB_size]; omega, rfl⟩, ((byB e).size : Int), rfl, by rw [byB_size]; omega, by rw [byB_size]; omega, ?_⟩
    refine for_range (lo := 0) (n := (((byB e).size : Nat) : Int).toNat) (fun i σ H' => ∃ (y3 : Option V) (m : Nat) (ms : List Nat), σ = [some (.byt (byB old)), some (.byt (byB e)), some (.ref D), some (.int (m : Int)), y3] ∧ Same H H' ∧ H' D = some (.lst (bys ms)) ∧ ms.length = i ∧ (∀ t, t < ms.length → LongO old e t (ms.getD t 0)) ∧ CpO old e i (m - 1) ∧ m ≤ mostN e i + 1)
      ⟨_, 0, [], rfl, same_upd nD, upd_same, rfl, fun t z => absurd z (Nat.not_lt_zero _), cpO_zero _ _ _, Nat.zero_le _⟩ (fun i σ H' hi h => ?_) (fun σ H' h => ?_)
    · obtain ⟨y3, m, ms, rfl, sm, hD, hml, hms, hcp, hmb⟩ := h
      rw [Int.toNat_natCast, byB_size] at hi
      have e0 : (0 : Int) + (i : Int) = (i : Int) := by omega
      rw [e0]
      refine ⟨_, rfl, _, _, rfl, rfl, _, _, rfl, ?_⟩
      have e1 : (if (m : Int) - 1 > 0 then (m : Int) - 1 else 0) = ((m - 1 : Nat) : Int) := by split <;> omega
      dsimp only [gName]
      rw [e1]
      refine ⟨fun n σ H3 => ∃ m : Nat, σ = [some (.byt (byB old)), some (.byt (byB e)), some (.ref D), some (.int (m : Int)), some (.int (i : Int))] ∧ H3 = H' ∧ m ≤ mostN e i ∧ n = mostN e i - m ∧ CpO old e i m, ⟨_, m - 1, rfl, rfl, by omega, rfl, hcp⟩, fun n σ H3 hW => ?_⟩
      obtain ⟨m, rfl, rfl, hm, rfl, hc⟩ := hW
      have hmost : mostN e i ≤ 255 ∧ mostN e i ≤ e.length - i := ⟨Nat.min_le_left _ _, Nat.min_le_right _ _⟩
      have fin : LongO old e i m → ∃ (z3 : Option V) (m_1 : Nat) (ms_1 : List Nat), [some (V.byt (byB old)), some (V.byt (byB e)), some (.ref D), some (.int (m : Int)), some (.int (i : Int))] = [some (.byt (byB old)), some (.byt (byB e)), some (.ref D), some (.int (m_1 : Int)), z3] ∧ Same H (upd H3 D (.lst (bys ms ++ [.int (m : Int)]))) ∧ (upd H3 D (.lst (bys ms ++ [.int (m : Int)]))) D = some (.lst (bys ms_1)) ∧ ms_1.length = i + 1 ∧ (∀ t, t < ms_1.length → LongO old e t (ms_1.getD t 0)) ∧ CpO old e (i + 1) (m_1 - 1) ∧ m_1 ≤ mostN e (i + 1) + 1 := fun hL =>
        ⟨_, m, ms ++ [m], rfl, same_put sm nD, by rw [upd_same, ← bys_app]; rfl, by rw [List.length_append, hml]; rfl, getD_snoc (i := 0) (P := fun t x => LongO old e t x) hms (by rw [hml]; exact hL), hc.next, by unfold mostN at *; omega⟩
      refine ⟨_, rfl, _, rfl, _, rfl, e, i, rfl, hl, by omega, _, _, rfl, rfl, _, rfl, ite2 (fun t1 => ?_) (fun t1 => ?_)⟩
      · have t1 : m < mostN e i := by have := of_decide_eq_true t1; omega
        refine ⟨_, rfl, ⟨_, rfl⟩, _, rfl, _, rfl, _, rfl, _, rfl, _, rfl, _, _, rfl, rfl, _, _, rfl, rfl, _, rfl, _, rfl, (by rw [byB_size]; omega), ?_⟩
        have e3 : PySem.W.KBy.picked (byB e) (some (i : Int)) (some ((i : Int) + (m : Int) + 1)) = byB (sliceN e i (m + 1)) := by
          rw [show (i : Int) + (m : Int) + 1 = ((i + (m + 1) : Nat) : Int) by push_cast; omega]
          exact picked_slice e i (m + 1) (by omega)
        dsimp only
        rw [e3]
        refine ⟨_, _, rfl, rfl, ?_⟩
        have FI := fnd_is hko (slice_lt hk (i := i) (m := m + 1)) 0 old.length
        have e4 : ((0 : Nat) : Int) = 0 := rfl
        rw [byB_size]
        rw [e4] at FI
        obtain ⟨s1, s2⟩ := fndO_step (by omega) FI
        generalize BFX.fnd (byB old) (byB (sliceN e i (m + 1))) 0 (old.length : Int) = o at *
        refine ⟨_, _, rfl, rfl, _, rfl, ?_⟩
        cases o with
        | none =>
          refine iteF ?_
          refine ⟨_, rfl, .inl ⟨rfl, _, .inl (.inl hD)⟩, _, rfl, D, _, _, rfl, rfl, hD, by rw [bys_len]; omega, fin ⟨hm, hc, fun _ => s1 rfl⟩⟩
        | some x =>
          have hx : (0 : Int) ≤ (x : Int) := by omega
          refine iteC (decide_eq_true hx) ?_
          refine ⟨_, fun _ _ h => h, ?_⟩
          refine ⟨_, rfl, _, _, rfl, rfl, mostN e i - (m + 1), by omega, m + 1, by push_cast; rfl, rfl, by omega, rfl, s2 x rfl⟩
      · have t1 : ¬ m < mostN e i := fun z => t1 (decide_eq_true (by omega))
        refine iteF ?_
        refine ⟨_, rfl, .inl ⟨rfl, _, .inl (.inl hD)⟩, _, rfl, D, _, _, rfl, rfl, hD, by rw [bys_len]; omega, fin ⟨hm, hc, fun z => absurd z t1⟩⟩
    · obtain ⟨y3, m, ms, rfl, sm, hD, hml, hms, hcp, hmb⟩ := h
      rw [Int.toNat_natCast, byB_size] at hml
      exact ⟨_, rfl, q H' D ms sm nD hD hml (by rw [← hml]; exact hms)⟩
end
end K9

namespace PySem.W
open PySem PySem.Spec PyProof.Rows
section
variable {prog : Program} {w : World} {A : Around} {E : Value → Shared → Prop} {s : Shared}
theorem max_list_dataI {l : Addr} {vs : Array Value} {x : PyData} {xs : List PyData} {as : List Addr} {Q : Value → Shared → Prop} (hh : A.handled = none) (hl : s.heap.IsList l vs) (hr : ReadsAll s.heap vs.toList (x :: xs) as) (ha : AlikeAll (x :: xs)) (hu : A.units + 1 + PyData.depthAll (x :: xs) < cLine)
    (h : ∀ (i : Nat) v h' tk, vs[i]? = some v → (x :: xs).getD i .none = maxD x xs → (∀ b o, s.heap.get? b = some o → h'.get? b = some o) → Q v { s with heap := h', toks := tk }) :
    wpAny (model prog w) A (call (.builtin "max") [.ref l]) Q E s := by
  have hn : vs.size = xs.length + 1 := readsAll_len hr
  refine call_max_walkH (iter_listW (A := A.in1) hh hl fun s₂ e W st hfp hw hk => ?_)
  refine ⟨_, _, _, _, _, _, _, s.heap, _, rfl, W, st, hfp, by omega, hw, hk, cmpIn_gt (A := A.in1) hr ha (by show A.units + 1 + _ < _; exact hu), fun v s' hP m => ?_⟩
  obtain ⟨h', tk, rfl, hk'⟩ := moved_old e rfl m
  obtain ⟨bs, r, _, _, _⟩ := readsAll_atA hr _ v hP
  have e1 : vs.size - 1 = xs.length := by omega
  have e2 := (argBest_fold (fun a b => dataLt b a) PyData.none x xs xs.length (Nat.le_refl _)).2
  rw [List.take_length] at e2
  have hP' := hP
  rw [e1] at hP'
  exact h _ v h' tk hP' (by unfold maxD; rw [← e2]) hk'
end
end PySem.W
namespace L2
open PySem PySem.Spec PyProof.Rows
/-! ### max of a list of pairs (an int, a bool) -/
def pD (p : Int × Bool) : PyData := .tuple [.int p.1, .bool p.2]
def PrAt (H : Hp) (p : Int × Bool) (v : V) : Prop := ∃ t, v = .ref t ∧ H t = some (.tup [.int p.1, .bl p.2])
def rMaxP (K : PySem.W.Frag) : List V → Hp → VK → Prop := fun vs H Q => ∃ (a : Addr) (xs : List V) (p : Int × Bool) (ps : List (Int × Bool)), vs = [V.ref a] ∧ SqL K H a xs ∧ Paired (PrAt H) (p :: ps) xs ∧
  ∀ (i : Nat) (q : Int × Bool) (v : V), (p :: ps)[i]? = some q → xs[i]? = some v → pD q = PySem.W.maxD (pD p) (ps.map pD) → Q v H
theorem reads_pairs {X : Cx} {pins : List (Addr × Obj)} {σ : St} {H : Hp} {s : Shared} (I : Inv X pins σ H s) : ∀ {ps : List (Int × Bool)} {xs : List V} {its : List Value}, Paired (PrAt H) ps xs → Vals xs its → ∃ as, ReadsAll s.heap its (ps.map pD) as
  | [], _, _, .nil, .nil => ⟨_, .nil⟩
  | p :: ps, _, _, .cons h hs, .cons r rs => by
    obtain ⟨as, h1⟩ := reads_pairs I hs rs
    obtain ⟨t, rfl, ht⟩ := h
    obtain ⟨bs, h2⟩ := Dp.reads I (pD p) (.ref t) _ (.tup (.inl (.inl ht)) (.cons (.int _) (.cons (.bl _) .nil))) r
    exact ⟨_, .cons h2 h1⟩
theorem depth_pairs : ∀ ps : List (Int × Bool), PyData.depthAll (ps.map pD) ≤ 1
  | [] => Nat.zero_le _
  | p :: r => by
    have ih := depth_pairs r
    show max (pD p).depth (PyData.depthAll (r.map pD)) ≤ 1
    have : (pD p).depth = 1 := by simp [pD, PyData.depth, PyData.depthAll]
    omega
theorem cr_maxP {X : Cx} (hc : X.calm = true) {j : Nat} (hr : Room j X.A) : CallR X (.builtin "max") (rMaxP X.K) := by
  intro pins s σ H vs us Q I r h
  obtain ⟨a, xs, p, ps, rfl, hs, hP, q⟩ := h
  obtain ⟨its, rv, hl, _⟩ := I.list hs
  rw [Vals.ref1 r]
  obtain ⟨as, hra⟩ := reads_pairs I hP rv
  have hu := hr.un
  refine PySem.W.max_list_dataI (x := pD p) (xs := ps.map pD) (I.ok.hd hc) (show s.heap.IsList a its.toArray from hl.isList) (by simpa using hra) ⟨fun x hx y hy => ?_, fun x hx z => ?_⟩ ?_ fun i v h' tk hv he hk => ?_
  · have hx : x ∈ (p :: ps).map pD := hx
    have hy : y ∈ (p :: ps).map pD := hy
    obtain ⟨a1, _, rfl⟩ := List.mem_map.mp hx
    obtain ⟨a2, _, rfl⟩ := List.mem_map.mp hy
    rfl
  · have hx : x ∈ (p :: ps).map pD := hx
    obtain ⟨a1, _, rfl⟩ := List.mem_map.mp hx
    cases z
  · show X.A.units + 1 + PyData.depthAll ((p :: ps).map pD) < cLine
    have := depth_pairs (p :: ps)
    omega
  · have hv : its[i]? = some v := by simpa using hv
    have hlen := hP.length
    have hil : i < xs.length := by rw [rv.length]; exact (List.getElem?_eq_some_iff.mp hv).1
    obtain ⟨u, hu2, ru⟩ := rv.get (List.getElem?_eq_getElem hil)
    obtain rfl := Option.some.inj (hv.symm.trans hu2)
    have hip : i < (p :: ps).length := by omega
    refine ⟨_, H, I.kept hk, ru, q i _ _ (List.getElem?_eq_getElem hip) (List.getElem?_eq_getElem hil) ?_⟩
    rw [← he]
    show pD (p :: ps)[i] = ((p :: ps).map pD).getD i PyData.none
    rw [List.getD_eq_getElem?_getD, List.getElem?_map, List.getElem?_eq_getElem hip]
    rfl
end L2

namespace K9
open PySem PySem.Spec PyProof.Rows L2
/-! ### Reaches -/
def reF (y z : Array UInt8) (p q : Addr) : List (Str × V) := [(("old" : Str), V.byt y), (("new" : Str), V.byt z), (("many_new" : Str), V.ref p), (("many_old" : Str), V.ref q)]
theorem seq_mid {ts tr : TS} {D : Ends} {σ : L2.St} {H : Hp} (Mid : L2.St → Hp → Prop) (ht : ∀ N : L2.St → Hp → Prop, (∀ σ' H', Mid σ' H' → N σ' H') → ts { D with nx := N } σ H) (hr : ∀ σ' H', Mid σ' H' → tr D σ' H') : tSeq ts tr D σ H := ht _ hr
theorem ixN_natK {n j : Nat} (hj : j < n) : ixN n (j : Int) = some j := by
  unfold ixN
  rw [if_pos (by omega), if_pos (by omega)]
  simp
theorem at_of' {ks : List Nat} {i : Int} {k : Nat} (e : i = (k : Int)) (h : k < ks.length) : atI (bys ks) i = some (.int ((ks.getD k 0 : Nat) : Int)) := by
  subst e
  rw [bys_eq]
  refine atI_nat ?_
  rw [List.getElem?_map, List.getElem?_eq_getElem h, List.getD_eq_getElem?_getD, List.getElem?_eq_getElem h]
  rfl
theorem reF_o (y z : Array UInt8) (p q : Addr) : (reF y z p q).lookup ("old" : Str) = some (.byt y) := lkH
theorem reF_n (y z : Array UInt8) (p q : Addr) : (reF y z p q).lookup ("new" : Str) = some (.byt z) := (lkP (by decide +kernel)).trans lkH
theorem reF_p (y z : Array UInt8) (p q : Addr) : (reF y z p q).lookup ("many_new" : Str) = some (.ref p) := (lkP (by decide +kernel)).trans ((lkP (by decide +kernel)).trans lkH)
theorem reF_q (y z : Array UInt8) (p q : Addr) : (reF y z p q).lookup ("many_old" : Str) = some (.ref q) := (lkP (by decide +kernel)).trans ((lkP (by decide +kernel)).trans ((lkP (by decide +kernel)).trans lkH))
theorem reF_no {x : Str} (y z : Array UInt8) (p q : Addr) (h1 : (x == ("old" : Str)) = false) (h2 : (x == ("new" : Str)) = false) (h3 : (x == ("many_new" : Str)) = false) (h4 : (x == ("many_old" : Str)) = false) : (reF y z p q).lookup x = none := (lkP h1).trans ((lkP h2).trans ((lkP h3).trans ((lkP h4).trans rfl)))
theorem reF_put (y z : Array UInt8) (p q : Addr) : putF "many_old" (.ref q) (putF "many_new" (.ref p) (putF "new" (.byt z) (putF "old" (.byt y) []))) = reF y z p q := by
  unfold reF
  rfl
structure ReTxt (K : PySem.W.Frag) (mg : Str → Option Value) (C fI fA fO : Addr) : Prop where
  cl : Cls K C
  gC : mg "Reaches" = some (.ref C)
  made : Mk K C fI
  nO : NoAttr K C "old"
  nN : NoAttr K C "new"
  nM : NoAttr K C "many_new"
  nL : NoAttr K C "many_old"
  mA : Meth K C "copies_at" fA
  mO : Meth K C "copy_at" fO
/-- old and new bytes that are such -/
structure OnOk (old new : List Nat) : Prop where
  ko : ∀ k ∈ old, k < 256
  lo : old.length ≤ 2000
  kn : ∀ k ∈ new, k < 256
  ln : new.length ≤ 2000
structure ReOk (old new ms ls : List Nat) : Prop where
  lm : ms.length = new.length
  ll : ls.length = new.length
  hm : ∀ i, i < new.length → LongN new i (ms.getD i 0)
  hl : ∀ i, i < new.length → LongO old new i (ls.getD i 0)
def ReAt (C : Addr) (H : Hp) (x : Addr) (old new ms ls : List Nat) : Prop := ∃ dx p q, H x = some (.ins C dx (reF (byB old) (byB new) p q)) ∧ H p = some (.lst (bys ms)) ∧ H q = some (.lst (bys ls)) ∧ ReOk old new ms ls
theorem ReAt.same {C x : Addr} {H H' : Hp} {old new ms ls : List Nat} (h : ReAt C H x old new ms ls) (s : Same H H') : ReAt C H' x old new ms ls := by
  obtain ⟨dx, p, q, h1, h2, h3, h4⟩ := h
  exact ⟨dx, p, q, s _ _ h1, s _ _ h2, s _ _ h3, h4⟩
theorem scReI : FnScope ["self", "old", "new"] ["self", "old", "new"] (defScope sReInit) := ⟨rfl, rfl, rfl, by decide +kernel, rfl, by decide +kernel, by decide +kernel⟩
theorem scReA : FnScope ["self", "at", "copies"] ["self", "at"] (defScope sReAt) := ⟨rfl, rfl, rfl, by decide +kernel, rfl, by decide +kernel, by decide +kernel⟩
theorem scReO : FnScope ["self", "at", "many", "is_new", "wanted"] ["self", "at", "many", "is_new"] (defScope sReOne) := ⟨rfl, rfl, rfl, by decide +kernel, rfl, by decide +kernel, by decide +kernel⟩
section
variable {P : Program} {w : World} {K : PySem.W.Frag} {mg : Str → Option Value} {base : Heap} {C fI fA fO : Addr}
def spReI (C : Addr) : Sp := fun vs H Q _ => ∃ (x dx : Addr) (old new : List Nat), vs = [.ref x, .byt (byB old), .byt (byB new)] ∧ H x = some (.ins C dx []) ∧ OnOk old new ∧
  ∀ H' ms ls, (∀ b o, b ≠ x → H b = some o → H' b = some o) → ReAt C H' x old new ms ls → Q .non H'
theorem ok_reInit (T : ReTxt K mg C fI fA fO) {f1 f2 : Addr} {fd fd1 fd2 : FuncData} {j k1 k2 : Nat} (F : Fun K "__init__" "Reaches.__init__" sReInit fI fd)
    (G1 : FnOk P w K mg base CX0 k1 f1 fd1 ["new"] spLn) (b1 : Binds K fd1 ["new"] []) (kk1 : PySem.W.keepIn K (.ref f1) = true) (g1 : mg "longest_new" = some (.ref f1)) (l1 : k1 ≤ j)
    (G2 : FnOk P w K mg base CX0 k2 f2 fd2 ["old", "new"] spLo) (b2 : Binds K fd2 ["old", "new"] []) (kk2 : PySem.W.keepIn K (.ref f2) = true) (g2 : mg "longest_old" = some (.ref f2)) (l2 : k2 ≤ j) :
    FnOk P w K mg base CX0 (j + 1) fI fd ["self", "old", "new"] (spReI C) := by
  refine F.ok scReI (fun vs H Q E h => ?_) (fun cdv A outer s H vs Q E hr h => ?_)
  · obtain ⟨x, dx, old, new, rfl, _⟩ := h
    rfl
  · obtain ⟨x, dx, old, new, rfl, hx, ⟨ko, lo, kn, ln⟩, fin⟩ := h
    refine ⟨_, pss_cons (ps_fld (pv 0) (pv 1) rfl) (pss_cons (ps_fld (pv 0) (pv 2) rfl)
      (pss_cons (ps_fld (pv 0) (pe_call G1 (hr.mono l1) (by rfl) g1 kk1 b1 .nil pass0 (pa_cons (pv 2) pa_nil)) rfl)
      (pss_one (ps_fld (pv 0) (pe_call G2 (hr.mono l2) (by rfl) g2 kk2 b2 .nil pass0 (pa_cons (pv 1) (pa_cons (pv 2) pa_nil))) rfl)))), ?_⟩
    refine ⟨_, rfl, _, rfl, x, C, dx, _, rfl, hx, T.cl, T.nO, (by show 0 < 1000; decide), ?_⟩
    have k1 : ∀ b o, b ≠ x → H b = some o → (upd H x (.ins C dx (putF "old" (.byt (byB old)) []))) b = some o := fun b o n e => by rw [upd_ne n]; exact e
    have h1 : (upd H x (.ins C dx (putF "old" (.byt (byB old)) []))) x = some (.ins C dx (putF "old" (.byt (byB old)) [])) := upd_same
    generalize upd H x (.ins C dx (putF "old" (.byt (byB old)) [])) = H1 at *
    refine ⟨_, rfl, _, rfl, x, C, dx, _, rfl, h1, T.cl, T.nN, (by show 1 < 1000; decide), ?_⟩
    have k2 : ∀ b o, b ≠ x → H b = some o → (upd H1 x (.ins C dx (putF "new" (.byt (byB new)) (putF "old" (.byt (byB old)) [])))) b = some o := fun b o n e => by rw [upd_ne n]; exact k1 b o n e
    have h2 : (upd H1 x (.ins C dx (putF "new" (.byt (byB new)) (putF "old" (.byt (byB old)) [])))) x = some (.ins C dx (putF "new" (.byt (byB new)) (putF "old" (.byt (byB old)) []))) := upd_same
    generalize upd H1 x (.ins C dx (putF "new" (.byt (byB new)) (putF "old" (.byt (byB old)) []))) = H2 at *
    refine ⟨_, rfl, new, rfl, kn, ln, fun H3 p ms s3 np hp hml hms => ?_⟩
    have h3 := s3 _ _ h2
    have nxp : x ≠ p := ne_of_none h2 np
    refine ⟨_, rfl, x, C, dx, _, rfl, h3, T.cl, T.nM, (by show 2 < 1000; decide), ?_⟩
    have k4 : ∀ b o, b ≠ x → H b = some o → (upd H3 x (.ins C dx (putF "many_new" (.ref p) (putF "new" (.byt (byB new)) (putF "old" (.byt (byB old)) []))))) b = some o := fun b o n e => by rw [upd_ne n]; exact s3 _ _ (k2 b o n e)
    have h4 : (upd H3 x (.ins C dx (putF "many_new" (.ref p) (putF "new" (.byt (byB new)) (putF "old" (.byt (byB old)) []))))) x = some (.ins C dx (putF "many_new" (.ref p) (putF "new" (.byt (byB new)) (putF "old" (.byt (byB old)) [])))) := upd_same
    have hp4 : (upd H3 x (.ins C dx (putF "many_new" (.ref p) (putF "new" (.byt (byB new)) (putF "old" (.byt (byB old)) []))))) p = some (.lst (bys ms)) := by rw [upd_ne (Ne.symm nxp)]; exact hp
    generalize upd H3 x (.ins C dx (putF "many_new" (.ref p) (putF "new" (.byt (byB new)) (putF "old" (.byt (byB old)) [])))) = H4 at *
    refine ⟨_, rfl, _, rfl, old, new, rfl, ko, lo, kn, ln, fun H5 q ls s5 nq hq hll hls => ?_⟩
    have h5 := s5 _ _ h4
    have hp5 := s5 _ _ hp4
    have nxq : x ≠ q := ne_of_none h4 nq
    refine ⟨_, rfl, x, C, dx, _, rfl, h5, T.cl, T.nL, (by show 3 < 1000; decide), ?_⟩
    rw [reF_put]
    refine fin _ ms ls (fun b o n e => by rw [upd_ne n]; exact s5 _ _ (k4 b o n e)) ⟨dx, p, q, upd_same, ?_, ?_, ⟨hml, hll, hms, hls⟩⟩
    · rw [upd_ne (Ne.symm nxp)]
      exact hp5
    · rw [upd_ne (Ne.symm nxq)]
      exact hq
/-- the longest copies at a place -/
def copsL (m l : Nat) : List (Nat × Bool × Nat) := (if 3 ≤ m then [(m, true, 20)] else []) ++ (if 1 ≤ l then [(l, false, 24)] else [])
def C3At (H : Hp) (c : Nat × Bool × Nat) (v : V) : Prop := ∃ t, v = .ref t ∧ H t = some (.tup [.int (c.1 : Int), .bl c.2.1, .int (c.2.2 : Int)])
theorem C3At.keep {H H' : Hp} {c : Nat × Bool × Nat} {v : V} (h : C3At H c v) (k : ∀ b xs, H b = some (.tup xs) → H' b = some (.tup xs)) : C3At H' c v := by
  obtain ⟨t, e, ht⟩ := h
  exact ⟨t, e, k _ _ ht⟩
theorem C3At.same {H H' : Hp} {c : Nat × Bool × Nat} {v : V} (h : C3At H c v) (s : Same H H') : C3At H' c v := h.keep fun _ _ e => s _ _ e
def spReA (C : Addr) : Sp := fun vs H Q _ => ∃ (x : Addr) (old new ms ls : List Nat) (i : Nat), vs = [.ref x, .int (i : Int)] ∧ ReAt C H x old new ms ls ∧ i < new.length ∧
  ∀ H' q us, Same H H' → H q = none → H' q = some (.lst us) → Paired (C3At H') (copsL (ms.getD i 0) (ls.getD i 0)) us → Q (.ref q) H'
theorem ok_reA (T : ReTxt K mg C fI fA fO) {fd : FuncData} {j : Nat} {t1 t2 t3 t4 : Tok} (F : Fun K "copies_at" "Reaches.copies_at" sReAt fA fd) (c1 : mg "FEWEST_NEW" = some (.int 3 t1)) (c2 : mg "FEWEST_OLD" = some (.int 1 t2)) (c3 : mg "NEW_BITS" = some (.int 20 t3)) (c4 : mg "OLD_BITS" = some (.int 24 t4)) :
    FnOk P w K mg base CX0 (j + 1) fA fd ["self", "at"] (spReA C) := by
  refine F.ok scReA (fun vs H Q E h => ?_) (fun cdv A outer s H vs Q E hr h => ?_)
  · obtain ⟨x, old, new, ms, ls, i, rfl, _⟩ := h
    rfl
  · obtain ⟨x, old, new, ms, ls, i, rfl, ⟨dx, p, q0, hx, hp, hq, RO⟩, hi, fin⟩ := h
    have hz := PySem.sizeLine_eq
    refine ⟨_, pss_cons (ps_set (i := 2) scReA.nd rfl (.inl rfl) (pe_lst pa_nil))
      (pss_cons (ps_if (pt_cmpR op_ge (pe_ix ix_list (pe_fld (pv 0) rfl) (pv 1) (fun _ _ => rfl)) (pe_glob (v := .int 3) rfl c1 ⟨_, rfl⟩) (nomark _))
        (pss_one (ps_expr (pe_bm PySem.F.plainAttrs_list PySem.F.slot_list_append PySem.F.type_list_append mt_append (pv 2) (pa_cons (pe_tup (pa_cons (pe_ix ix_list (pe_fld (pv 0) rfl) (pv 1) (fun _ _ => rfl)) (pa_cons pe_bl (pa_cons (pe_glob (v := .int 20) rfl c3 ⟨_, rfl⟩) pa_nil)))) pa_nil)))) pss_nil)
      (pss_cons (ps_if (pt_cmpR op_ge (pe_ix ix_list (pe_fld (pv 0) rfl) (pv 1) (fun _ _ => rfl)) (pe_glob (v := .int 1) rfl c2 ⟨_, rfl⟩) (nomark _))
        (pss_one (ps_expr (pe_bm PySem.F.plainAttrs_list PySem.F.slot_list_append PySem.F.type_list_append mt_append (pv 2) (pa_cons (pe_tup (pa_cons (pe_ix ix_list (pe_fld (pv 0) rfl) (pv 1) (fun _ _ => rfl)) (pa_cons pe_bl (pa_cons (pe_glob (v := .int 24) rfl c4 ⟨_, rfl⟩) pa_nil)))) pa_nil)))) pss_nil)
      (pss_one (ps_ret (pv 2))))), ?_⟩
    refine ⟨Nat.zero_le _, fun D nD => ?_⟩
    have s1 := same_upd (o := .lst []) nD
    have hD1 : (upd H D (.lst [])) D = some (.lst []) := upd_same
    generalize upd H D (.lst []) = H1 at *
    dsimp only [gName]
    have hm1 : atI (bys ms) ((i : Nat) : Int) = some (.int ((ms.getD i 0 : Nat) : Int)) := at_of' rfl (by rw [RO.lm]; exact hi)
    have hl1 : atI (bys ls) ((i : Nat) : Int) = some (.int ((ls.getD i 0 : Nat) : Int)) := at_of' rfl (by rw [RO.ll]; exact hi)
    generalize ms.getD i 0 = m at *
    generalize ls.getD i 0 = l at *
    obtain ⟨M, hM⟩ : ∃ M : L2.St → Hp → Prop, M = (fun σ' H' => ∃ us, σ' = [some (.ref x), some (.int (i : Int)), some (.ref D)] ∧ Same H H' ∧ H' D = some (.lst us) ∧ Paired (C3At H') (if 3 ≤ m then [(m, true, 20)] else []) us) := ⟨_, rfl⟩
    with_reducible refine seq_mid M (fun N hN => ?_) (fun σ2 H2 h => ?_)
    · refine ⟨_, rfl, x, C, dx, _, _, rfl, s1 _ _ hx, T.cl, T.nM, reF_p _ _ _ _, _, rfl, p, _, _, _, rfl, rfl, .inl (.inl (s1 _ _ hp)), hm1, _, _, rfl, rfl, _, rfl, ite2 (fun e => ?_) (fun e => ?_)⟩
      · have e := of_decide_eq_true e
        refine ⟨_, rfl, .inl ⟨rfl, _, .inl (.inl hD1)⟩, _, rfl, x, C, dx, _, _, rfl, s1 _ _ hx, T.cl, T.nM, reF_p _ _ _ _, _, rfl, p, _, _, _, rfl, rfl, .inl (.inl (s1 _ _ hp)), hm1, (by show 3 ≤ sizeLine; omega), fun t nt => ?_⟩
        have st := same_upd (o := .tup [.int (m : Int), .bl true, .int 20]) nt
        refine ⟨D, _, _, rfl, rfl, st _ _ hD1, by rw [hz]; decide, hN _ _ ?_⟩
        rw [hM, if_pos (by omega)]
        exact ⟨[.ref t], rfl, same_put (s1.trans st) nD, upd_same, .cons ⟨t, rfl, by rw [upd_ne (ne_of (upd_same (H := H1)) (st _ _ hD1) (fun z => nomatch z))]; exact upd_same⟩ .nil⟩
      · have e : ¬ (3 : Int) ≤ (m : Int) := fun z => e (decide_eq_true z)
        refine hN _ _ ?_
        rw [hM, if_neg (by omega)]
        exact ⟨[], rfl, s1, hD1, .nil⟩
    · rw [hM] at h
      obtain ⟨us, rfl, s2, hD2, hP⟩ := h
      have hul : us.length ≤ 1 := by
        rw [← hP.length]
        split
        · exact Nat.le_refl 1
        · exact Nat.zero_le _
      refine ⟨_, rfl, x, C, dx, _, _, rfl, s2 _ _ hx, T.cl, T.nL, reF_q _ _ _ _, _, rfl, q0, _, _, _, rfl, rfl, .inl (.inl (s2 _ _ hq)), hl1, _, _, rfl, rfl, _, rfl, ite2 (fun e => ?_) (fun e => ?_)⟩
      · have e := of_decide_eq_true e
        refine ⟨_, rfl, .inl ⟨rfl, _, .inl (.inl hD2)⟩, _, rfl, x, C, dx, _, _, rfl, s2 _ _ hx, T.cl, T.nL, reF_q _ _ _ _, _, rfl, q0, _, _, _, rfl, rfl, .inl (.inl (s2 _ _ hq)), hl1, (by show 3 ≤ sizeLine; omega), fun t nt => ?_⟩
        have st := same_upd (o := .tup [.int (l : Int), .bl false, .int 24]) nt
        refine ⟨D, _, _, rfl, rfl, st _ _ hD2, by omega, ?_⟩
        refine ⟨_, rfl, fin _ D (us ++ [.ref t]) (same_put (s2.trans st) nD) nD upd_same ?_⟩
        unfold copsL
        rw [if_pos (show 1 ≤ l by omega)]
        refine (hP.mono fun _ _ h => (h.same st).keep (tup_put (st _ _ hD2))).snoc ⟨t, rfl, ?_⟩
        rw [upd_ne (ne_of (upd_same (H := H2)) (st _ _ hD2) (fun z => nomatch z))]
        exact upd_same
      · have e : ¬ (1 : Int) ≤ (l : Int) := fun z => e (decide_eq_true z)
        refine ⟨_, rfl, fin _ D us s2 nD hD2 ?_⟩
        unfold copsL
        rw [if_neg (show ¬ 1 ≤ l by omega), List.append_nil]
        exact hP
/-- the item that copies so many bytes from the least back or place -/
def CopyIs (old new : List Nat) (i m : Nat) (b : Bool) (it : Di) : Prop := ∃ p, it = .c b m p ∧
  (b = true → 1 ≤ p ∧ p ≤ i ∧ sliceN new (i - p) m = sliceN new i m ∧ ∀ p', 1 ≤ p' → p' < p → sliceN new (i - p') m ≠ sliceN new i m) ∧
  (b = false → p + m ≤ old.length ∧ sliceN old p m = sliceN new i m ∧ ∀ p', p' < p → sliceN old p' m ≠ sliceN new i m)
def spReO (C : Addr) : Sp := fun vs H Q _ => ∃ (x : Addr) (old new ms ls : List Nat) (i m : Nat) (b : Bool), vs = [.ref x, .int (i : Int), .int (m : Int), .bl b] ∧ ReAt C H x old new ms ls ∧ OnOk old new ∧ 1 ≤ m ∧ i + m ≤ new.length ∧ (b = true → CpN new i m) ∧ (b = false → CpO old new i m) ∧
  ∀ H' v it, Same H H' → CopyIs old new i m b it → DiAt H' it v → Q v H'
theorem ok_reO (T : ReTxt K mg C fI fA fO) {fd : FuncData} {j : Nat} {t1 t2 : Tok} (F : Fun K "copy_at" "Reaches.copy_at" sReOne fO fd) (c1 : mg "NEW" = some (.str "new" t1)) (c2 : mg "OLD" = some (.str "old" t2)) :
    FnOk P w K mg base CX0 (j + 1) fO fd ["self", "at", "many", "is_new"] (spReO C) := by
  refine F.ok scReO (fun vs H Q E h => ?_) (fun cdv A outer s H vs Q E hr h => ?_)
  · obtain ⟨x, old, new, ms, ls, i, m, b, rfl, _⟩ := h
    rfl
  · obtain ⟨x, old, new, ms, ls, i, m, b, rfl, ⟨dx, p, q0, hx, hp, hq, RO⟩, ⟨ko, lo, kn, ln⟩, hm1, him, hcn, hco, fin⟩ := h
    have hz := PySem.sizeLine_eq
    refine ⟨_, pss_cons (ps_set (i := 4) scReO.nd rfl (.inl rfl) (pe_slice sl_byt (pe_fld (pv 0) rfl) (po_some (pv 1)) (po_some (pe_op op_add (pv 1) (pv 2)))))
      (pss_cons (ps_if (pt_val (pv 3)) (pss_one (ps_ret (pe_tup (pa_cons (pe_glob (v := .str "new") rfl c1 ⟨_, rfl⟩) (pa_cons (pv 2) (pa_cons (pe_op op_sub (pv 1) (pe_bmB PySem.W.KBf.slot_rfind PySem.W.KBf.type_rfind mt_brfind4 (pe_fld (pv 0) rfl) (pa_cons (pv 4) (pa_cons pe_int (pa_cons (pe_op op_sub (pe_op op_add (pv 1) (pv 2)) pe_int) pa_nil))))) pa_nil)))))) pss_nil)
      (pss_one (ps_ret (pe_tup (pa_cons (pe_glob (v := .str "old") rfl c2 ⟨_, rfl⟩) (pa_cons (pv 2) (pa_cons (pe_bmB PySem.W.KBf.slot_find PySem.W.KBf.type_find mt_bfind1 (pe_fld (pv 0) rfl) (pa_cons (pv 4) pa_nil)) pa_nil))))))), ?_⟩
    refine ⟨_, rfl, x, C, dx, _, _, rfl, hx, T.cl, T.nN, reF_n _ _ _ _, _, rfl, _, rfl, _, rfl, _, rfl, _, _, rfl, rfl, _, rfl, _, rfl, (by rw [byB_size]; omega), ?_⟩
    have e3 : PySem.W.KBy.picked (byB new) (some (i : Int)) (some ((i : Int) + (m : Int))) = byB (sliceN new i m) := by
      rw [show (i : Int) + (m : Int) = ((i + m : Nat) : Int) by push_cast; rfl]
      exact picked_slice new i m (by omega)
    have hsl : (sliceN new i m).length = m := by rw [slice_len]; omega
    dsimp only [gName]
    rw [e3]
    cases b with
    | true =>
      refine ⟨_, rfl, _, rfl, iteT ?_⟩
      refine ⟨_, rfl, _, rfl, _, rfl, x, C, dx, _, _, rfl, hx, T.cl, T.nN, reF_n _ _ _ _, ⟨_, rfl⟩, _, rfl, _, rfl, _, rfl, _, _, rfl, rfl, _, _, rfl, rfl, _, _, _, _, rfl, rfl, Int.le_refl 0, by omega, ?_⟩
      have FI := rfnd_is kn (slice_lt kn (i := i) (m := m)) 0 (i + m - 1)
      have e4 : ((0 : Nat) : Int) = 0 := rfl
      rw [e4] at FI
      have e5 : (i : Int) + (m : Int) - 1 = ((i + m - 1 : Nat) : Int) := by omega
      rw [e5]
      have no := FI.no
      have yes := FI.yes
      rw [hsl] at no yes
      generalize BFX.rfnd (byB new) (byB (sliceN new i m)) 0 ((i + m - 1 : Nat) : Int) = o at *
      cases o with
      | none =>
        exfalso
        rcases hcn rfl with z | ⟨s, z1, z2⟩
        · omega
        · exact no rfl s (Nat.zero_le _) (by omega) z2
      | some s =>
        obtain ⟨_, h2, h3, h4⟩ := yes s rfl
        refine ⟨_, _, rfl, rfl, (by show 3 ≤ sizeLine; omega), fun t nt => ?_⟩
        refine fin _ _ (.c true m (i - s)) (same_upd nt) ⟨_, rfl, fun _ => ⟨by omega, by omega, ?_, fun p' g1 g2 => ?_⟩, fun z => by cases z⟩ ⟨t, rfl, ?_⟩
        · rw [show i - (i - s) = s by omega]
          exact h3
        · exact h4 (i - p') (by omega) (by omega)
        · rw [upd_same]
          show some (HO.tup [V.str "new", V.int (m : Int), V.int ((i : Int) - (s : Int))]) = _
          rw [show (i : Int) - (s : Int) = ((i - s : Nat) : Int) by omega]
          rfl
    | false =>
      refine ⟨_, rfl, _, rfl, iteF ?_⟩
      refine ⟨_, rfl, _, rfl, x, C, dx, _, _, rfl, hx, T.cl, T.nO, reF_o _ _ _ _, ⟨_, rfl⟩, _, rfl, _, _, rfl, rfl, ?_⟩
      have FI := fnd_is ko (slice_lt kn (i := i) (m := m)) 0 old.length
      have e4 : ((0 : Nat) : Int) = 0 := rfl
      rw [e4] at FI
      rw [byB_size]
      have no := FI.no
      have yes := FI.yes
      rw [hsl] at no yes
      generalize BFX.fnd (byB old) (byB (sliceN new i m)) 0 (old.length : Int) = o at *
      cases o with
      | none =>
        exfalso
        obtain ⟨s, z1, z2⟩ := hco rfl
        exact no rfl s (Nat.zero_le _) (by omega) z2
      | some s =>
        obtain ⟨_, h2, h3, h4⟩ := yes s rfl
        refine ⟨(by show 3 ≤ sizeLine; omega), fun t nt => ?_⟩
        refine fin _ _ (.c false m s) (same_upd nt) ⟨_, rfl, fun z => (by cases z), fun _ => ⟨by omega, h3, fun p' g => h4 p' (Nat.zero_le _) g⟩⟩ ⟨t, rfl, ?_⟩
        rw [upd_same]
        rfl
end
end K9

namespace K9
open PySem PySem.Spec PyProof.Rows L2
/-! ### costs_of -/
abbrev NCo : List Str := ["reaches", "costs", "at", "found", "many", "_", "bits"]
theorem scCo : FnScope NCo ["reaches"] (defScope sCostsR) := ⟨rfl, rfl, rfl, by decide +kernel, rfl, by decide +kernel, by decide +kernel⟩
def coL (cs ms ls : List Nat) (i : Nat) : List Nat := (9 + cs.getD (i + 1) 0) :: (copsL (ms.getD i 0) (ls.getD i 0)).map fun c => c.2.2 + cs.getD (i + c.1) 0
def CoAt (cs ms ls : List Nat) (i : Nat) : Prop := cs.getD i 0 ∈ coL cs ms ls i ∧ ∀ y ∈ coL cs ms ls i, cs.getD i 0 ≤ y
structure CostOk (ms ls : List Nat) (n : Nat) (cs : List Nat) : Prop where
  len : cs.length = n + 1
  last : cs.getD n 0 = 0
  step : ∀ i, i < n → CoAt cs ms ls i
theorem cops_mem {m l : Nat} {c : Nat × Bool × Nat} (h : c ∈ copsL m l) : (c = (m, true, 20) ∧ 3 ≤ m) ∨ (c = (l, false, 24) ∧ 1 ≤ l) := by
  unfold copsL at h
  rcases List.mem_append.mp h with h | h
  · split at h
    · exact .inl ⟨List.mem_singleton.mp h, by assumption⟩
    · cases h
  · split at h
    · exact .inr ⟨List.mem_singleton.mp h, by assumption⟩
    · cases h
theorem cops_in {old new ms ls : List Nat} (R : ReOk old new ms ls) {i : Nat} (hi : i < new.length) {c : Nat × Bool × Nat} (h : c ∈ copsL (ms.getD i 0) (ls.getD i 0)) : 1 ≤ c.1 ∧ i + c.1 ≤ new.length ∧ c.1 ≤ 255 ∧ (c.2.1 = true → 3 ≤ c.1 ∧ CpN new i c.1) ∧ (c.2.1 = false → CpO old new i c.1) := by
  have h1 := R.hm i hi
  have h2 := R.hl i hi
  have b1 : ms.getD i 0 ≤ 255 ∧ ms.getD i 0 ≤ new.length - i := ⟨Nat.le_trans h1.1 (Nat.min_le_left _ _), Nat.le_trans h1.1 (Nat.min_le_right _ _)⟩
  have b2 : ls.getD i 0 ≤ 255 ∧ ls.getD i 0 ≤ new.length - i := ⟨Nat.le_trans h2.1 (Nat.min_le_left _ _), Nat.le_trans h2.1 (Nat.min_le_right _ _)⟩
  rcases cops_mem h with ⟨rfl, g⟩ | ⟨rfl, g⟩
  · exact ⟨by show 1 ≤ ms.getD i 0; omega, by show i + ms.getD i 0 ≤ _; omega, b1.1, fun _ => ⟨g, h1.2.1⟩, fun z => (by cases z)⟩
  · exact ⟨g, by show i + ls.getD i 0 ≤ _; omega, b2.1, fun z => (by cases z), fun _ => h2.2.1⟩
theorem getD_set_ne {cs : List Nat} {i q v : Nat} (h : q ≠ i) : (cs.set i v).getD q 0 = cs.getD q 0 := by
  rw [List.getD_eq_getElem?_getD, List.getElem?_set_ne (Ne.symm h), ← List.getD_eq_getElem?_getD]
theorem getD_set_eq {cs : List Nat} {i v : Nat} (h : i < cs.length) : (cs.set i v).getD i 0 = v := by
  rw [List.getD_eq_getElem?_getD, List.getElem?_set_self h]
  rfl
theorem coL_set {old new ms ls cs : List Nat} (R : ReOk old new ms ls) {i j v : Nat} (hi : i < new.length) (hj : j ≤ i) : coL (cs.set j v) ms ls i = coL cs ms ls i := by
  unfold coL
  rw [getD_set_ne (by omega)]
  congr 1
  refine List.map_congr_left fun c hc => ?_
  have := (cops_in R hi hc).1
  rw [getD_set_ne (by omega)]
theorem nats_min {l : List Nat} {m : Int} (hm : m ∈ l.map fun (k : Nat) => (k : Int)) (hl : ∀ y ∈ l.map (fun (k : Nat) => (k : Int)), m ≤ y) : ∃ k : Nat, m = (k : Int) ∧ k ∈ l ∧ ∀ y ∈ l, k ≤ y := by
  obtain ⟨k, hk, rfl⟩ := List.mem_map.mp hm
  exact ⟨k, rfl, hk, fun y hy => by have := hl _ (List.mem_map.mpr ⟨y, hy, rfl⟩); omega⟩
section
variable {P : Program} {w : World} {K : PySem.W.Frag} {mg : Str → Option Value} {base : Heap} {C fI fA fO : Addr}
def spCo (C : Addr) : Sp := fun vs H Q _ => ∃ (x : Addr) (old new ms ls : List Nat), vs = [.ref x] ∧ ReAt C H x old new ms ls ∧ OnOk old new ∧
  ∀ H' q cs, Same H H' → H q = none → H' q = some (.lst (bys cs)) → CostOk ms ls new.length cs → Q (.ref q) H'
theorem ok_co (T : ReTxt K mg C fI fA fO) {f : Addr} {fd fdA : FuncData} {j k1 : Nat} {t1 : Tok} (F : Fun K "costs_of" "costs_of" sCostsR f fd)
    (GA : FnOk P w K mg base CX0 k1 fA fdA ["self", "at"] (spReA C)) (bA : Binds K fdA ["self", "at"] []) (l1 : k1 ≤ j)
    (m1 : mg "len" = none) (m2 : mg "reversed" = none) (m3 : mg "range" = none) (m4 : mg "min" = none) (c1 : mg "BYTE_BITS" = some (.int 9 t1)) :
    FnOk P w K mg base CX0 (j + 1) f fd ["reaches"] (spCo C) := by
  refine F.ok scCo (fun vs H Q E h => ?_) (fun cdv A outer s H vs Q E hr h => ?_)
  · obtain ⟨x, old, new, ms, ls, rfl, _⟩ := h
    rfl
  · obtain ⟨x, old, new, ms, ls, rfl, hRe, ON, fin⟩ := h
    obtain ⟨dx, p, q0, hx, hp, hq, RO⟩ := id hRe
    have hz := PySem.sizeLine_eq
    have hn := ON.ln
    refine ⟨_, pss_cons (ps_set (i := 1) scCo.nd rfl (.inr rfl) (pe_op op_rep (pe_lst (pa_cons pe_int pa_nil)) (pe_op op_add (pe_callB call_len (by rfl) m1 PySem.boot_len (pa_cons (pe_fld (pv 0) rfl) pa_nil)) pe_int)))
      (pss_cons (ps_for PassesOwn.never rfl (pi_revR (by rfl) m2 (prg_1 (by rfl) m3 (pe_callB call_len (by rfl) m1 PySem.boot_len (pa_cons (pe_fld (pv 0) rfl) pa_nil)))) (pg_name (i := 2) scCo.nd rfl (.inr rfl))
        (pss_cons (ps_setLc (i := 3) (own := [("many", 4), ("_", 5), ("bits", 6)]) (g := gTup K 3 (gCons (gName 4) (gCons (gName 5) (gCons (gName 6) gNil)))) (tt := tYes) rfl scCo.nd rfl rfl (sw_true rfl rfl rfl (by decide +kernel))
            (pi_list (pe_meth (pv 0) T.cl T.mA GA (hr.mono l1) bA .nil pass0 (pa_cons (pv 2) pa_nil))) (blkOk_by (N := NCo) (sc := defScope sCostsR) (by decide +kernel))
            (fun _ _ _ _ _ => pg_tup rfl (pgs_cons (pg_name (i := 4) scCo.nd rfl (.inl rfl)) (pgs_cons (pg_name (i := 5) scCo.nd rfl (.inl rfl)) (pgs_cons (pg_name (i := 6) scCo.nd rfl (.inl rfl)) pgs_nil)))) (fun _ _ _ _ _ => pts_nil)
            (fun _ _ _ _ _ => pe_op op_add (pv 6) (pe_ix (ixL K) (pv 1) (pe_op op_add (pv 2) (pv 4)) (fun _ _ => rfl))))
        (pss_one (ps_asg (pe_callB (cr_min rfl) (by rfl) m4 (by decide +kernel) (pa_cons (pe_op op_cat (pe_lst (pa_cons (pe_op op_add (pe_glob (v := .int 9) rfl c1 ⟨_, rfl⟩) (pe_ix ix_list (pv 1) (pe_op op_add (pv 2) pe_int) (fun _ _ => rfl))) pa_nil)) (pv 3)) pa_nil)) (pg_sub (pv 1) (pv 2) set_list)))))
      (pss_one (ps_ret (pv 1)))), ?_⟩
    refine ⟨(by show 1 ≤ sizeLine; omega), fun z nz => ?_⟩
    have s1 := same_upd (o := .lst [.int 0]) nz
    have hz1 : (upd H z (.lst [.int 0])) z = some (.lst [.int 0]) := upd_same
    generalize upd H z (.lst [.int 0]) = H1 at *
    refine ⟨_, rfl, x, C, dx, _, _, rfl, s1 _ _ hx, T.cl, T.nN, reF_n _ _ _ _, _, (byB new).size, rfl, ⟨by rw [byB_size]; omega, rfl⟩, _, _, rfl, rfl, z, _, _, rfl, rfl, hz1, by rw [byB_size]; omega, by rw [byB_size]; omega, (by show 1 * _ ≤ _; rw [byB_size]; omega), fun D nD => ?_⟩
    have nD0 := none_back s1 nD
    have e0 : (List.replicate (((byB new).size : Int) + 1).toNat [V.int 0]).flatten = bys (List.replicate (new.length + 1) 0) := by
      rw [byB_size, show ((new.length : Int) + 1).toNat = new.length + 1 by omega]
      unfold bys
      rw [List.map_replicate, List.map_replicate]
      generalize new.length + 1 = n
      induction n with
      | zero => rfl
      | succ n ih => rw [List.replicate_succ, List.replicate_succ, List.flatten_cons, ih]; rfl
    rw [e0]
    have s2 := s1.trans (same_upd (o := .lst (bys (List.replicate (new.length + 1) 0))) nD)
    have hD2 : (upd H1 D (.lst (bys (List.replicate (new.length + 1) 0)))) D = some (.lst (bys (List.replicate (new.length + 1) 0))) := upd_same
    generalize upd H1 D (.lst (bys (List.replicate (new.length + 1) 0))) = H2 at *
    dsimp only [gName]
    refine ⟨_, rfl, x, C, dx, _, _, rfl, s2 _ _ hx, T.cl, T.nN, reF_n _ _ _ _, _, (byB new).size, rfl, ⟨by rw [byB_size]; omega, rfl⟩, _, rfl, by omega, by omega, by rw [byB_size]; omega, by rw [byB_size]; omega, ?_⟩
    have en : (((byB new).size : Int) - 0).toNat = new.length := by rw [byB_size]; omega
    rw [en]
    refine for_rangeC (lo := 0 + ((new.length : Nat) : Int) - 1) (c := -1) (n := new.length) (fun i σ H' => ∃ (y2 y3 y4 y5 y6 : Option V) (cs : List Nat), σ = [some (.ref x), some (.ref D), y2, y3, y4, y5, y6] ∧ Same H H' ∧ H' D = some (.lst (bys cs)) ∧ cs.length = new.length + 1 ∧ cs.getD new.length 0 = 0 ∧ ∀ t, new.length - i ≤ t → t < new.length → CoAt cs ms ls t)
      ⟨_, _, _, _, _, List.replicate (new.length + 1) 0, rfl, s2, hD2, List.length_replicate, ?_, fun t g1 g2 => by omega⟩ (fun i σ H' hi h => ?_) (fun σ H' h => ?_)
    · rw [List.getD_eq_getElem?_getD, List.getElem?_replicate]
      split <;> rfl
    · obtain ⟨y2, y3, y4, y5, y6, cs, rfl, sm, hD, hcl, hcn, hst⟩ := h
      obtain ⟨a, ha⟩ : ∃ a : Nat, a = new.length - (i + 1) := ⟨_, rfl⟩
      have ea : 0 + ((new.length : Nat) : Int) - 1 + (i : Nat) * -1 = (a : Int) := by omega
      rw [ea]
      have han : a < new.length := by omega
      dsimp only [gName]
      refine ⟨_, rfl, x, dx, _, rfl, sm _ _ hx, reF_no _ _ _ _ (by decide +kernel) (by decide +kernel) (by decide +kernel) (by decide +kernel), _, rfl, x, old, new, ms, ls, a, rfl, hRe.same sm, han, fun H3 q us s3 nq hqu hus => ?_⟩
      have hin := fun c => cops_in RO han (c := c)
      have hulen : us.length ≤ 2 := by
        rw [← hus.length]
        unfold copsL
        rw [List.length_append]
        split <;> split <;> simp
      have hD3 := s3 _ _ hD
      obtain ⟨cp, hcp⟩ : ∃ cp, cp = copsL (ms.getD a 0) (ls.getD a 0) := ⟨_, rfl⟩
      rw [← hcp] at hus hin
      have sm3 := sm.trans s3
      refine ⟨q, rfl, ⟨_, .inl (.inl hqu)⟩, fun B nB => ?_⟩
      have nB0 := none_back sm3 nB
      have neDB : D ≠ B := ne_of_none hD3 nB
      have s4 := same_upd (o := .lst []) nB
      refine lc_list (K := K) (a := q) (xs := us) (fun i H' => Same H3 H' ∧ H' B = some (.lst (bys ((cp.take i).map fun c => c.2.2 + cs.getD (a + c.1) 0)))) ⟨s4, upd_same⟩ (fun i H' _ h => .inl (.inl (h.1 _ _ hqu))) (fun i x' H' hx' h => ?_) (fun H' h => ?_)
      · obtain ⟨s5, hB⟩ := h
        have hi' : i < cp.length := by have := (List.getElem?_eq_some_iff.mp hx').1; have := hus.length; omega
        obtain ⟨v', e1, hc⟩ := paired_get hus (List.getElem?_eq_getElem hi')
        obtain rfl := Option.some.inj (e1.symm.trans hx')
        obtain ⟨t, rfl, ht⟩ := hc.same s5
        have hci := hin cp[i] (List.getElem_mem hi')
        rw [take_snocG (List.getElem?_eq_getElem hi'), List.map_append]
        generalize cp[i] = c at *
        refine ⟨t, _, rfl, .inl (.inl ht), rfl, _, _, rfl, _, _, rfl, _, _, rfl, rfl, rfl, yes ?_⟩
        refine ⟨_, rfl, _, rfl, _, rfl, _, rfl, _, _, rfl, rfl, D, _, _, _, rfl, rfl, .inl (.inl (s5 _ _ hD3)), at_of' (k := a + c.1) (by push_cast; rfl) (by omega), _, _, rfl, rfl, _, hB, ?_, same_put s5 nB, ?_⟩
        · have := hus.length
          rw [bys_len, List.length_map, List.length_take]
          omega
        · rw [upd_same, ← bys_app]
          have e9 : ((c.2.2 : Nat) : Int) + ((cs.getD (a + c.1) 0 : Nat) : Int) = ((c.2.2 + cs.getD (a + c.1) 0 : Nat) : Int) := by push_cast; rfl
          show some (HO.lst (_ ++ [V.int (((c.2.2 : Nat) : Int) + ((cs.getD (a + c.1) 0 : Nat) : Int))])) = _
          rw [e9]
          rfl
      · obtain ⟨s5, hB⟩ := h
        rw [← hus.length, List.take_length] at hB
        have hD5 := s5 _ _ hD3
        have sm5 := sm3.trans s5
        dsimp only [gName]
        refine ⟨_, rfl, _, rfl, _, _, rfl, rfl, D, _, _, _, rfl, rfl, .inl (.inl hD5), at_of' (k := a + 1) (by push_cast; rfl) (by omega), _, _, rfl, rfl, (by show 1 ≤ sizeLine; omega), fun L nL => ?_⟩
        have s6 := same_upd (o := .lst [.int (9 + ((cs.getD (a + 1) 0 : Nat) : Int))]) nL
        have hL6 : (upd H' L (.lst [.int (9 + ((cs.getD (a + 1) 0 : Nat) : Int))])) L = some (.lst (bys [9 + cs.getD (a + 1) 0])) := by
          rw [upd_same]
          have e9 : (9 : Int) + ((cs.getD (a + 1) 0 : Nat) : Int) = ((9 + cs.getD (a + 1) 0 : Nat) : Int) := by push_cast; rfl
          rw [e9]
          rfl
        have hB6 := s6 _ _ hB
        have hD6 := s6 _ _ hD5
        have sm6 := sm5.trans s6
        generalize upd H' L (.lst [.int (9 + ((cs.getD (a + 1) 0 : Nat) : Int))]) = H6 at *
        refine ⟨_, rfl, L, B, _, _, rfl, rfl, hL6, hB6, (by rw [bys_len, bys_len, List.length_map]; have := hus.length; show 1 + _ ≤ _; omega), fun R nR => ?_⟩
        have s7 := same_upd (o := .lst (bys [9 + cs.getD (a + 1) 0] ++ bys (cp.map fun c => c.2.2 + cs.getD (a + c.1) 0))) nR
        have hR7 : (upd H6 R (.lst (bys [9 + cs.getD (a + 1) 0] ++ bys (cp.map fun c => c.2.2 + cs.getD (a + c.1) 0)))) R = some (.lst (bys (coL cs ms ls a))) := by
          rw [upd_same, bys_app]
          unfold coL
          rw [← hcp]
          rfl
        have hD7 := s7 _ _ hD6
        have sm7 := sm6.trans s7
        generalize upd H6 R (.lst (bys [9 + cs.getD (a + 1) 0] ++ bys (cp.map fun c => c.2.2 + cs.getD (a + c.1) 0))) = H7 at *
        refine ⟨R, (coL cs ms ls a).map (fun (k : Nat) => (k : Int)), rfl, .inl (.inl hR7), (by rw [List.length_map]; exact Nat.succ_pos _), fun m hm hmin => ?_⟩
        obtain ⟨k, rfl, hk1, hk2⟩ := nats_min hm hmin
        refine ⟨_, rfl, _, rfl, D, _, _, a, rfl, rfl, hD7, ixN_natK (by rw [bys_len]; omega), ?_⟩
        refine ⟨_, _, _, _, _, cs.set a k, rfl, same_put sm7 nD0, by rw [upd_same]; unfold bys; rw [List.map_set, List.map_set], by rw [List.length_set]; exact hcl, by rw [getD_set_ne (by omega)]; exact hcn, fun t g1 g2 => ?_⟩
        unfold CoAt
        rw [coL_set RO g2 (by omega)]
        by_cases et : t = a
        · subst et
          rw [getD_set_eq (by omega)]
          exact ⟨hk1, hk2⟩
        · rw [getD_set_ne et]
          exact hst t (by omega) g2
    · obtain ⟨y2, y3, y4, y5, y6, cs, rfl, sm, hD, hcl, hcn, hst⟩ := h
      exact ⟨_, rfl, fin H' D cs sm nD0 hD ⟨hcl, hcn, fun t g => hst t (by omega) g⟩⟩
end
end K9

namespace K9
open PySem PySem.Spec PyProof.Rows L2
/-! ### least_row -/
abbrev NLr : List Str := ["reaches", "costs", "row", "at", "many", "is_new", "bits"]
theorem scLr : FnScope NLr ["reaches", "costs"] (defScope sLeastR) := ⟨rfl, rfl, rfl, by decide +kernel, rfl, by decide +kernel, by decide +kernel⟩
def candC (cs ms ls : List Nat) (a : Nat) : List (Nat × Bool × Nat) := (copsL (ms.getD a 0) (ls.getD a 0)).filter fun c => decide (c.2.2 + cs.getD (a + c.1) 0 = cs.getD a 0)
def nb (c : Nat × Bool × Nat) : Int × Bool := ((c.1 : Int), c.2.1)
/-- the item that is taken at a place -/
def TakeIs (old new cs ms ls : List Nat) (a : Nat) (it : Di) : Prop :=
  (9 + cs.getD (a + 1) 0 = cs.getD a 0 ∧ it = .b (new.getD a 0)) ∨
  (9 + cs.getD (a + 1) 0 ≠ cs.getD a 0 ∧ ∃ c c0 r, c ∈ candC cs ms ls a ∧ (candC cs ms ls a).map nb = c0 :: r ∧ pD (nb c) = PySem.W.maxD (pD c0) (r.map pD) ∧ CopyIs old new a c.1 c.2.1 it)
def RowIs (old new cs ms ls : List Nat) : Nat → List Di → Nat → Prop
  | s, [], e => s = e
  | s, it :: r, e => s < new.length ∧ TakeIs old new cs ms ls s it ∧ RowIs old new cs ms ls (s + wideI it) r e
theorem RowIs.snoc {old new cs ms ls : List Nat} {it : Di} : ∀ {r : List Di} {s e : Nat}, RowIs old new cs ms ls s r e → e < new.length → TakeIs old new cs ms ls e it → RowIs old new cs ms ls s (r ++ [it]) (e + wideI it)
  | [], s, e, h, he, ht => by
    have h : s = e := h
    subst h
    exact ⟨he, ht, rfl⟩
  | x :: r, s, e, ⟨h1, h2, h3⟩, he, ht => ⟨h1, h2, RowIs.snoc h3 he ht⟩
theorem cand_in {cs ms ls : List Nat} {a : Nat} {c : Nat × Bool × Nat} (h : c ∈ candC cs ms ls a) : c ∈ copsL (ms.getD a 0) (ls.getD a 0) := (List.mem_filter.mp h).1
theorem take_wide {old new cs ms ls : List Nat} (R : ReOk old new ms ls) {a : Nat} (ha : a < new.length) {it : Di} (h : TakeIs old new cs ms ls a it) : 1 ≤ wideI it ∧ a + wideI it ≤ new.length := by
  rcases h with ⟨_, rfl⟩ | ⟨_, c, c0, r, hc, _, _, p, rfl, _⟩
  · exact ⟨Nat.le_refl 1, ha⟩
  · have := cops_in R ha (cand_in hc)
    exact ⟨this.1, this.2.1⟩
theorem take_fit {old new cs ms ls : List Nat} (ON : OnOk old new) (R : ReOk old new ms ls) {a : Nat} (ha : a < new.length) {it : Di} (h : TakeIs old new cs ms ls a it) : fitI old.length a it = true := by
  rcases h with ⟨_, rfl⟩ | ⟨_, c, c0, r, hc, _, _, p, rfl, h1, h2⟩
  · exact decide_eq_true (ON.kn _ (getD_mem' ha))
  · obtain ⟨g1, g2, g3, g4, g5⟩ := cops_in R ha (cand_in hc)
    have hl := ON.ln
    generalize c.2.1 = b at *
    cases b with
    | true =>
      have a1 := h1 rfl
      have a2 := (g4 rfl).1
      exact decide_eq_true ⟨a2, g3, a1.1, by have := a1.2.1; omega⟩
    | false =>
      have a1 := h2 rfl
      exact decide_eq_true ⟨g1, g3, a1.1⟩
theorem row_fit {old new cs ms ls : List Nat} (ON : OnOk old new) (R : ReOk old new ms ls) : ∀ {r : List Di} {s e : Nat}, RowIs old new cs ms ls s r e → fitR old.length s r = some e
  | [], s, e, h => by
    have h : s = e := h
    rw [h]
    rfl
  | x :: r, s, e, ⟨h1, h2, h3⟩ => by
    show (if fitI old.length s x = true then fitR old.length (s + wideI x) r else none) = some e
    rw [if_pos (take_fit ON R h1 h2)]
    exact row_fit ON R h3
theorem cost_some {ms ls : List Nat} {n : Nat} {cs : List Nat} (CK : CostOk ms ls n cs) {a : Nat} (ha : a < n) (h : 9 + cs.getD (a + 1) 0 ≠ cs.getD a 0) : ∃ c0 r, candC cs ms ls a = c0 :: r := by
  have := (CK.step a ha).1
  rcases List.mem_cons.mp this with q | q
  · exact absurd q.symm h
  · obtain ⟨c, hc, he⟩ := List.mem_map.mp q
    have : c ∈ candC cs ms ls a := List.mem_filter.mpr ⟨hc, decide_eq_true he⟩
    cases e : candC cs ms ls a with
    | nil => rw [e] at this; cases this
    | cons c0 r => exact ⟨c0, r, rfl⟩
section
variable {P : Program} {w : World} {K : PySem.W.Frag} {mg : Str → Option Value} {base : Heap} {C fI fA fO : Addr}
def spLr (C : Addr) : Sp := fun vs H Q _ => ∃ (x pc : Addr) (old new ms ls cs : List Nat), vs = [.ref x, .ref pc] ∧ ReAt C H x old new ms ls ∧ OnOk old new ∧ H pc = some (.lst (bys cs)) ∧ CostOk ms ls new.length cs ∧
  ∀ H' q row, Same H H' → H q = none → RwAt H' q row → row.length ≤ new.length → RowIs old new cs ms ls 0 row new.length → Q (.ref q) H'
theorem ok_lr (T : ReTxt K mg C fI fA fO) {f : Addr} {fd fdA fdO : FuncData} {j k1 k2 : Nat} {t1 : Tok} (F : Fun K "least_row" "least_row" sLeastR f fd)
    (GA : FnOk P w K mg base CX0 k1 fA fdA ["self", "at"] (spReA C)) (bA : Binds K fdA ["self", "at"] []) (l1 : k1 ≤ j)
    (GO : FnOk P w K mg base CX0 k2 fO fdO ["self", "at", "many", "is_new"] (spReO C)) (bO : Binds K fdO ["self", "at", "many", "is_new"] []) (l2 : k2 ≤ j)
    (m1 : mg "len" = none) (m2 : mg "max" = none) (c1 : mg "BYTE_BITS" = some (.int 9 t1)) :
    FnOk P w K mg base CX0 (j + 1) f fd ["reaches", "costs"] (spLr C) := by
  refine F.ok scLr (fun vs H Q E h => ?_) (fun cdv A outer s H vs Q E hr h => ?_)
  · obtain ⟨x, pc, old, new, ms, ls, cs, rfl, _⟩ := h
    rfl
  · obtain ⟨x, pc, old, new, ms, ls, cs, rfl, hRe, ON, hpc, CK, fin⟩ := h
    obtain ⟨dx, p, q0, hx, hp, hq, RO⟩ := id hRe
    have hz := PySem.sizeLine_eq
    have hn := ON.ln
    have hcl := CK.len
    refine ⟨_, pss_cons (ps_set (i := 2) scLr.nd rfl (.inl rfl) (pe_lst pa_nil))
      (pss_cons (ps_set (i := 3) scLr.nd rfl (.inr rfl) pe_int)
      (pss_cons (ps_while PassesOwn.never (pt_cmpR op_lt (pv 3) (pe_callB call_len (by rfl) m1 PySem.boot_len (pa_cons (pe_fld (pv 0) rfl) pa_nil)) (nomark _))
        (pss_cons (ps_if (pt_cmpR op_eq (pe_op op_add (pe_glob (v := .int 9) rfl c1 ⟨_, rfl⟩) (pe_ix ix_list (pv 1) (pe_op op_add (pv 3) pe_int) (fun _ _ => rfl))) (pe_ix ix_list (pv 1) (pv 3) (fun _ _ => rfl)) (nomark _))
          (pss_cons (ps_expr (pe_bm PySem.F.plainAttrs_list PySem.F.slot_list_append PySem.F.type_list_append mt_append (pv 2) (pa_cons (pe_item_byt (pe_fld (pv 0) rfl) (pv 3) (fun _ _ => rfl)) pa_nil)))
          (pss_cons (ps_aug (i := 3) scLr.nd rfl (.inr rfl) pe_int ip_add) (pss_one ps_continue))) pss_nil)
        (pss_cons (ps_asg (pe_callB (cr_maxP rfl hr) (by rfl) m2 (by decide +kernel) (pa_cons
            (pe_lc (own := [("many", 4), ("is_new", 5), ("bits", 6)]) (g := gTup K 3 (gCons (gName 4) (gCons (gName 5) (gCons (gName 6) gNil))))
              rfl scLr.nd
              (pi_list (pe_meth (pv 0) T.cl T.mA GA (hr.mono l1) bA .nil pass0 (pa_cons (pv 3) pa_nil))) (blkOk_by (N := NLr) (sc := defScope sLeastR) (by decide +kernel))
              (fun _ _ _ _ _ => pg_tup rfl (pgs_cons (pg_name (i := 4) scLr.nd rfl (.inl rfl)) (pgs_cons (pg_name (i := 5) scLr.nd rfl (.inl rfl)) (pgs_cons (pg_name (i := 6) scLr.nd rfl (.inl rfl)) pgs_nil))))
              (fun _ _ _ _ _ => pts_one (pt_cmpR op_eq (pe_op op_add (pv 6) (pe_ix (ixL K) (pv 1) (pe_op op_add (pv 3) (pv 4)) (fun _ _ => rfl))) (pe_ix (ixL K) (pv 1) (pv 3) (fun _ _ => rfl)) (nomark _)))
              (fun _ _ _ _ _ => pe_tup (pa_cons (pv 4) (pa_cons (pv 5) pa_nil)))) pa_nil)) (pg_tup (by rfl) (pgs_cons (pg_name (i := 4) scLr.nd rfl (.inl rfl)) (pgs_cons (pg_name (i := 5) scLr.nd rfl (.inl rfl)) pgs_nil))))
        (pss_cons (ps_expr (pe_bm PySem.F.plainAttrs_list PySem.F.slot_list_append PySem.F.type_list_append mt_append (pv 2) (pa_cons (pe_meth (pv 0) T.cl T.mO GO (hr.mono l2) bO .nil pass0 (pa_cons (pv 3) (pa_cons (pv 4) (pa_cons (pv 5) pa_nil)))) pa_nil)))
        (pss_one (ps_aug (i := 3) scLr.nd rfl (.inr rfl) (pv 4) ip_add))))))
      (pss_one (ps_ret (pv 2))))), ?_⟩
    refine ⟨Nat.zero_le _, fun D nD => ?_⟩
    have s1 := same_upd (o := .lst []) nD
    have hD1 : (upd H D (.lst [])) D = some (.lst []) := upd_same
    dsimp only [gName]
    refine ⟨fun n σ H' => ∃ (y4 y5 y6 : Option V) (a : Nat) (row : List Di) (us : List V), σ = [some (.ref x), some (.ref pc), some (.ref D), some (.int (a : Int)), y4, y5, y6] ∧ Same H H' ∧ H' D = some (.lst us) ∧ Paired (DiAt H') row us ∧ RowIs old new cs ms ls 0 row a ∧ row.length ≤ a ∧ a ≤ new.length ∧ n = new.length - a,
      ⟨_, _, _, _, 0, [], [], rfl, s1, hD1, .nil, rfl, Nat.le_refl _, Nat.zero_le _, rfl⟩, fun n σ H' hW => ?_⟩
    obtain ⟨y4, y5, y6, a, row, us, rfl, sm, hD, hus, hrow, hrl, han, rfl⟩ := hW
    have hul := hus.length
    refine ⟨_, rfl, _, rfl, x, C, dx, _, _, rfl, sm _ _ hx, T.cl, T.nN, reF_n _ _ _ _, _, (byB new).size, rfl, ⟨by rw [byB_size]; omega, rfl⟩, _, _, rfl, rfl, _, rfl, ?_⟩
    by_cases hlt : a < new.length
    · refine iteC (decide_eq_true (by rw [byB_size]; omega)) ?_
      refine ⟨_, fun _ _ h => h, ?_⟩
      have hg1 : atI (bys cs) ((a : Int) + 1) = some (.int ((cs.getD (a + 1) 0 : Nat) : Int)) := at_of' (by push_cast; rfl) (by omega)
      have hg0 : atI (bys cs) (a : Int) = some (.int ((cs.getD a 0 : Nat) : Int)) := at_of' rfl (by omega)
      have hpc1 := sm _ _ hpc
      refine ⟨_, rfl, _, rfl, _, _, rfl, rfl, pc, _, _, _, rfl, rfl, .inl (.inl hpc1), hg1, _, _, rfl, rfl, _, rfl, _, rfl, pc, _, _, _, rfl, rfl, .inl (.inl hpc1), hg0, rfl, _, rfl, ite2 (fun e => ?_) (fun e => ?_)⟩
      · have e : V.int (9 + ((cs.getD (a + 1) 0 : Nat) : Int)) = V.int ((cs.getD a 0 : Nat) : Int) := of_decide_eq_true e
        have e := V.int.inj e
        refine ⟨_, rfl, .inl ⟨rfl, _, .inl (.inl hD)⟩, _, rfl, x, C, dx, _, _, rfl, sm _ _ hx, T.cl, T.nN, reF_n _ _ _ _, _, rfl, new.map Nat.toUInt8, (a : Int), rfl, rfl, by rw [List.length_map]; omega, by omega, by rw [List.length_map]; omega, ?_⟩
        rw [Int.toNat_natCast, byB_get ON.kn]
        refine ⟨D, _, _, rfl, rfl, hD, by omega, ?_⟩
        refine ⟨_, rfl, _, _, rfl, rfl, new.length - (a + 1), by omega, _, _, _, a + 1, row ++ [.b (new.getD a 0)], us ++ [.int ((new.getD a 0 : Nat) : Int)], by push_cast; rfl, same_put sm nD, upd_same, ?_, ?_, by rw [List.length_append]; show row.length + 1 ≤ _; omega, hlt, rfl⟩
        · exact (hus.mono fun _ _ h => h.put hD).snoc (show DiAt _ (.b (new.getD a 0)) (.int ((new.getD a 0 : Nat) : Int)) from rfl)
        · exact RowIs.snoc hrow hlt (.inl ⟨by omega, rfl⟩)
      · have e : 9 + cs.getD (a + 1) 0 ≠ cs.getD a 0 := fun z => e (decide_eq_true (by rw [← z]; push_cast; rfl))
        refine ⟨_, rfl, x, dx, _, rfl, sm _ _ hx, reF_no _ _ _ _ (by decide +kernel) (by decide +kernel) (by decide +kernel) (by decide +kernel), _, rfl, x, old, new, ms, ls, a, rfl, hRe.same sm, hlt, fun H3 q vs s3 nq hqv hvs => ?_⟩
        have sm3 := sm.trans s3
        have hD3 := s3 _ _ hD
        have hpc3 := s3 _ _ hpc1
        refine ⟨q, rfl, ⟨_, .inl (.inl hqv)⟩, fun B nB => ?_⟩
        have nB0 := none_back sm3 nB
        obtain ⟨cp, hcp⟩ : ∃ cp, cp = copsL (ms.getD a 0) (ls.getD a 0) := ⟨_, rfl⟩
        rw [← hcp] at hvs
        have hin := fun c (hc : c ∈ cp) => cops_in RO hlt (c := c) (by rw [← hcp]; exact hc)
        refine lc_list (K := K) (a := q) (xs := vs) (fun i H' => Same H3 H' ∧ ∃ zs, H' B = some (.lst zs) ∧ Paired (L2.PrAt H') (((cp.take i).filter fun c => decide (c.2.2 + cs.getD (a + c.1) 0 = cs.getD a 0)).map nb) zs) ⟨same_upd nB, [], upd_same, .nil⟩ (fun i H' _ h => .inl (.inl (h.1 _ _ hqv))) (fun i x' H' hx' h => ?_) (fun H' h => ?_)
        · obtain ⟨s5, zs, hB, hzs⟩ := h
          have hvl := hvs.length
          have hi' : i < cp.length := by have := (List.getElem?_eq_some_iff.mp hx').1; omega
          obtain ⟨v', e1, hc⟩ := paired_get hvs (List.getElem?_eq_getElem hi')
          obtain rfl := Option.some.inj (e1.symm.trans hx')
          obtain ⟨t, rfl, ht⟩ := hc.same s5
          have hci := hin cp[i] (List.getElem_mem hi')
          have hcl2 : cp.length ≤ 2 := by
            rw [hcp]
            unfold copsL
            rw [List.length_append]
            split <;> split <;> simp
          have hzl : zs.length ≤ 2 := by
            rw [← hzs.length, List.length_map]
            refine Nat.le_trans (List.length_filter_le _ _) ?_
            rw [List.length_take]
            omega
          rw [take_snocG (List.getElem?_eq_getElem hi'), List.filter_append, List.map_append]
          generalize cp[i] = c at *
          refine ⟨t, _, rfl, .inl (.inl ht), rfl, _, _, rfl, _, _, rfl, _, _, rfl, rfl, rfl, ?_⟩
          refine ⟨_, rfl, _, rfl, _, rfl, _, rfl, _, _, rfl, rfl, pc, _, _, _, rfl, rfl, .inl (.inl (s5 _ _ hpc3)), at_of' (k := a + c.1) (by push_cast; rfl) (by omega), _, _, rfl, rfl, _, rfl, _, rfl, pc, _, _, _, rfl, rfl, .inl (.inl (s5 _ _ hpc3)), hg0, rfl, _, rfl, ite2 (fun t2 => ?_) (fun t2 => ?_)⟩
          · have t2 : V.int (((c.2.2 : Nat) : Int) + ((cs.getD (a + c.1) 0 : Nat) : Int)) = V.int ((cs.getD a 0 : Nat) : Int) := of_decide_eq_true t2
            have t2 := V.int.inj t2
            refine ⟨_, rfl, _, rfl, (by show 2 ≤ sizeLine; omega), fun tt ntt => ?_⟩
            have st' := same_upd (o := .tup [.int (c.1 : Int), .bl c.2.1]) ntt
            refine ⟨_, st' _ _ hB, by omega, same_put (s5.trans st') nB, zs ++ [.ref tt], upd_same, ?_⟩
            rw [List.filter_cons_of_pos (p := fun c : Nat × Bool × Nat => decide (c.2.2 + cs.getD (a + c.1) 0 = cs.getD a 0)) (decide_eq_true (by omega))]
            have keep : ∀ {p : Int × Bool} {v : V}, L2.PrAt H' p v → L2.PrAt (upd (upd H' tt (.tup [.int (c.1 : Int), .bl c.2.1])) B (.lst (zs ++ [.ref tt]))) p v := fun ⟨t, e, ht⟩ => ⟨t, e, tup_put (st' _ _ hB) _ _ (st' _ _ ht)⟩
            exact (hzs.mono fun _ _ h => keep h).snoc ⟨tt, rfl, tup_put (st' _ _ hB) _ _ upd_same⟩
          · refine ⟨s5, zs, hB, ?_⟩
            rw [List.filter_cons_of_neg (p := fun c : Nat × Bool × Nat => decide (c.2.2 + cs.getD (a + c.1) 0 = cs.getD a 0)) (fun z => t2 (decide_eq_true (by have := of_decide_eq_true z; rw [← this]; push_cast; rfl)))]
            show Paired _ (_ ++ []) _
            rw [List.append_nil]
            exact hzs
        · obtain ⟨s5, zs, hB, hzs⟩ := h
          rw [← hvs.length, List.take_length] at hzs
          have hcand : (cp.filter fun c => decide (c.2.2 + cs.getD (a + c.1) 0 = cs.getD a 0)) = candC cs ms ls a := by rw [hcp]; rfl
          rw [hcand] at hzs
          obtain ⟨c0, r, hcr⟩ := cost_some CK hlt e
          rw [hcr] at hzs
          refine ⟨B, zs, nb c0, r.map nb, rfl, .inl (.inl hB), hzs, fun i' qv v' g1 g2 g3 => ?_⟩
          have g1 : ((c0 :: r).map nb)[i']? = some qv := g1
          rw [List.getElem?_map] at g1
          cases hci : (c0 :: r)[i']? with
          | none => rw [hci] at g1; cases g1
          | some c =>
            rw [hci] at g1
            have eqv : nb c = qv := Option.some.inj g1
            subst eqv
            have hcm : c ∈ candC cs ms ls a := by rw [hcr]; exact List.mem_of_getElem? hci
            have g1' : ((nb c0 :: r.map nb))[i']? = some (nb c) := by
              show ((c0 :: r).map nb)[i']? = _
              rw [List.getElem?_map, hci]
              rfl
            obtain ⟨v'', e2, hv⟩ := paired_get hzs g1'
            obtain rfl := Option.some.inj (e2.symm.trans g2)
            obtain ⟨t, rfl, ht⟩ := hv
            have hci := hin c (by rw [hcp]; exact cand_in hcm)
            have sm5 := sm3.trans s5
            have hD5 := s5 _ _ hD3
            have hus5 : Paired (DiAt H') row us := hus.mono fun _ _ h => (h.same s3).same s5
            refine ⟨t, _, rfl, .inl (.inl ht), rfl, _, _, rfl, _, _, rfl, rfl, ?_⟩
            dsimp only [gName]
            refine ⟨_, rfl, .inl ⟨rfl, _, .inl (.inl hD5)⟩, _, rfl, x, dx, _, rfl, sm5 _ _ hx, reF_no _ _ _ _ (by decide +kernel) (by decide +kernel) (by decide +kernel) (by decide +kernel), _, rfl, _, rfl, _, rfl, x, old, new, ms, ls, a, c.1, c.2.1, rfl, hRe.same sm5, ON, hci.1, hci.2.1, fun z => (hci.2.2.2.1 z).2, hci.2.2.2.2, fun H6 v it s6 hci2 hit => ?_⟩
            have hw : wideI it = c.1 := by
              obtain ⟨p, rfl, _⟩ := hci2
              rfl
            refine ⟨D, _, _, rfl, rfl, s6 _ _ hD5, by omega, ?_⟩
            have ea : (a : Int) + (c.1 : Int) = ((a + c.1 : Nat) : Int) := by push_cast; rfl
            refine ⟨_, rfl, _, rfl, _, _, rfl, rfl, new.length - (a + c.1), by have := hci.1; have := hci.2.1; omega, ?_⟩
            dsimp only
            have ea2 : V.int ((fun i j => i + j) (a : Int) (c.1 : Int)) = V.int ((a + c.1 : Nat) : Int) := congrArg V.int ea
            refine ⟨_, _, _, a + c.1, row ++ [it], us ++ [v], by rw [← ea]; rfl, same_put (sm5.trans s6) nD, upd_same, ?_, ?_, ?_, hci.2.1, rfl⟩
            · exact (hus5.mono fun _ _ h => (h.same s6).put (s6 _ _ hD5)).snoc (hit.put (s6 _ _ hD5))
            · rw [← hw]
              exact RowIs.snoc hrow hlt (.inr ⟨e, c, nb c0, r.map nb, hcm, by rw [hcr]; rfl, g3, hci2⟩)
            · rw [List.length_append]
              show row.length + 1 ≤ _
              have := hci.1
              omega
    · refine ite2 (fun z => absurd (show a < new.length by have := of_decide_eq_true z; rw [byB_size] at this; omega) hlt) (fun _ => ?_)
      have ea : a = new.length := by omega
      subst ea
      exact ⟨_, rfl, fin H' D row sm nD ⟨us, hD, hus⟩ hrl hrow⟩
end
end K9

namespace K9
open PySem PySem.Spec PyProof.Rows L2
/-! ### difference, put_on, flat, joined -/
theorem scDi : FnScope ["old", "new", "reaches", "costs"] ["old", "new"] (defScope sDiff) := ⟨rfl, rfl, rfl, by decide +kernel, rfl, by decide +kernel, by decide +kernel⟩
theorem scPo : FnScope ["old", "difference", "new"] ["old", "difference"] (defScope sPutOn) := ⟨rfl, rfl, rfl, by decide +kernel, rfl, by decide +kernel, by decide +kernel⟩
abbrev NJo : List Str := ["first", "second", "between", "origins", "one"]
theorem make_same {H H3 : Hp} {x dx C : Addr} (nx : H x = none) (nd : H dx = none) (k3 : ∀ b o, b ≠ x → (upd (upd H dx (.own x)) x (.ins C dx [])) b = some o → H3 b = some o) : Same H H3 := fun b o e => k3 b o (ne_of_none e nx) (by
  rw [upd_ne (ne_of_none e nx), upd_ne (ne_of_none e nd)]
  exact e)
def mkD (m : Nat × Nat) : PyData := .tuple [.int (m.1 : Int), .int (m.2 : Int)]
theorem dp_mk {K : PySem.W.Frag} {H : Hp} {a : Addr} {m : Nat × Nat} (h : MkAt H a m) : Dp K H (.ref a) (mkD m) := .tup (.inl (.inl h)) (.cons (.int _) (.cons (.int _) .nil))
theorem sh_mk (m : Nat × Nat) : SeqAt.shaped (mkD m) = true := rfl
theorem eqv_mk (m n : Nat × Nat) : PyData.eqv (mkD m) (mkD n) = decide (m = n) := by
  obtain ⟨a, b⟩ := m
  obtain ⟨c, d⟩ := n
  simp only [mkD, PyData.eqv, PyData.eqvAll]
  by_cases h1 : a = c <;> by_cases h2 : b = d <;> simp [h1, h2] <;> omega
section
variable {P : Program} {w : World} {K : PySem.W.Frag} {mg : Str → Option Value} {base : Heap} {C fI fA fO : Addr}
def spDi : Sp := fun vs H Q _ => ∃ (old new : List Nat), vs = [.byt (byB old), .byt (byB new)] ∧ OnOk old new ∧
  ∀ H' t d pc x row ms ls cs, Same H H' → H t = none → H' t = some (.tup [.ref d, .ref pc]) → DfAt H' d x ⟨(old.length, mrk old), (new.length, mrk new), row⟩ → H' pc = some (.lst (bys cs)) → ReOk old new ms ls → CostOk ms ls new.length cs → row.length ≤ new.length → RowIs old new cs ms ls 0 row new.length → Q (.ref t) H'
theorem ok_di (T : ReTxt K mg C fI fA fO) {f fB fC fM fL : Addr} {fd fdB fdC fdM fdL fdI : FuncData} {j k1 k2 k3 k4 k5 : Nat} (F : Fun K "difference" "difference" sDiff f fd)
    (GB : FnOk P w K mg base CX0 k1 fB fdB ["told"] spRefB) (bB : Binds K fdB ["told"] []) (kB : PySem.W.keepIn K (.ref fB) = true) (gB : mg "refuse_bytes" = some (.ref fB)) (l1 : k1 ≤ j)
    (GI : FnOk P w K mg base CX0 k2 fI fdI ["self", "old", "new"] (spReI C)) (bI : Binds K fdI ["self", "old", "new"] []) (l2 : k2 + 1 ≤ j)
    (GC : FnOk P w K mg base CX0 k3 fC fdC ["reaches"] (spCo C)) (bC : Binds K fdC ["reaches"] []) (kC : PySem.W.keepIn K (.ref fC) = true) (gC : mg "costs_of" = some (.ref fC)) (l3 : k3 ≤ j)
    (GM : FnOk P w K mg base CX0 k4 fM fdM ["data"] spMark) (bM : Binds K fdM ["data"] []) (kM : PySem.W.keepIn K (.ref fM) = true) (gM : mg "mark_of" = some (.ref fM)) (l4 : k4 ≤ j)
    (GL : FnOk P w K mg base CX0 k5 fL fdL ["reaches", "costs"] (spLr C)) (bL : Binds K fdL ["reaches", "costs"] []) (kL : PySem.W.keepIn K (.ref fL) = true) (gL : mg "least_row" = some (.ref fL)) (l5 : k5 ≤ j) :
    FnOk P w K mg base CX0 (j + 1) f fd ["old", "new"] spDi := by
  refine F.ok scDi (fun vs H Q E h => ?_) (fun cdv A outer s H vs Q E hr h => ?_)
  · obtain ⟨old, new, rfl, _⟩ := h
    rfl
  · obtain ⟨old, new, rfl, ON, fin⟩ := h
    have hz := PySem.sizeLine_eq
    refine ⟨_, pss_cons (ps_expr (pe_call GB (hr.mono l1) (by rfl) gB kB bB .nil pass0 (pa_cons (pv 0) pa_nil))) (pss_cons (ps_expr (pe_call GB (hr.mono l1) (by rfl) gB kB bB .nil pass0 (pa_cons (pv 1) pa_nil)))
      (pss_cons (ps_set (i := 2) scDi.nd rfl (.inl rfl) (pe_make T.made GI (hr.mono l2) (by rfl) T.gC bI .nil pass0 (pa_cons (pv 0) (pa_cons (pv 1) pa_nil))))
      (pss_cons (ps_set (i := 3) scDi.nd rfl (.inl rfl) (pe_call GC (hr.mono l3) (by rfl) gC kC bC .nil pass0 (pa_cons (pv 2) pa_nil)))
      (pss_one (ps_ret (pe_tup (pa_cons (pe_tup (pa_cons (pe_call GM (hr.mono l4) (by rfl) gM kM bM .nil pass0 (pa_cons (pv 0) pa_nil)) (pa_cons (pe_call GM (hr.mono l4) (by rfl) gM kM bM .nil pass0 (pa_cons (pv 1) pa_nil)) (pa_cons (pe_call GL (hr.mono l5) (by rfl) gL kL bL .nil pass0 (pa_cons (pv 2) (pa_cons (pv 3) pa_nil))) pa_nil)))) (pa_cons (pv 3) pa_nil)))))))), ?_⟩
    refine ⟨_, rfl, old, rfl, ON.lo, _, rfl, new, rfl, ON.ln, _, rfl, _, rfl, ?_⟩
    intro x dx nx nd ne
    refine ⟨x, dx, old, new, rfl, upd_same, ON, fun H1 ms ls k1' hRe => ⟨rfl, ?_⟩⟩
    have s1 := make_same nx nd k1'
    obtain ⟨_, _, _, _, _, _, RO⟩ := id hRe
    dsimp only [gName]
    refine ⟨_, rfl, x, old, new, ms, ls, rfl, hRe, ON, fun H2 pc cs s2 npc hpc hCK => ?_⟩
    have s12 := s1.trans s2
    dsimp only [gName]
    refine ⟨_, rfl, old, rfl, ON.ko, ON.lo, fun H3 a s3 na hma => ?_⟩
    refine ⟨_, rfl, new, rfl, ON.kn, ON.ln, fun H4 b s4 nb hmb => ?_⟩
    have hma := s4 _ _ hma
    have s24 := s3.trans s4
    refine ⟨_, rfl, _, rfl, x, pc, old, new, ms, ls, cs, rfl, (hRe.same s2).same s24, ON, s24 _ _ hpc, hCK, fun H5 r row s5 nr hrw hrl hrow => ?_⟩
    have hma := s5 _ _ hma
    have hmb := s5 _ _ hmb
    have s15 := (s12.trans s24).trans s5
    refine ⟨(by show 3 ≤ sizeLine; omega), fun d nd => ?_⟩
    have s6 := same_upd (o := .tup [.ref a, .ref b, .ref r]) nd
    have hd6 : (upd H5 d (.tup [.ref a, .ref b, .ref r])) d = some (.tup [.ref a, .ref b, .ref r]) := upd_same
    have s16 := s15.trans s6
    have hpc5 := s5 _ _ (s24 _ _ hpc)
    have hma := s6 _ _ hma
    have hmb := s6 _ _ hmb
    have hrw := hrw.same s6
    have hpc6 := s6 _ _ hpc5
    generalize upd H5 d (.tup [.ref a, .ref b, .ref r]) = H6 at *
    refine ⟨_, rfl, (by show 2 ≤ sizeLine; omega), fun t nt => ?_⟩
    have s7 := same_upd (o := .tup [.ref d, .ref pc]) nt
    exact fin _ t d pc ⟨a, b, r⟩ row ms ls cs (s16.trans s7) (none_back s16 nt) upd_same ⟨s7 _ _ hd6, s7 _ _ hma, s7 _ _ hmb, hrw.same s7⟩ (s7 _ _ hpc6) RO hCK hrl hrow
def spPo : Sp := fun vs H Q _ => ∃ (t : Addr) (x : DfA) (d : Dfv) (old : List Nat), vs = [.byt (byB old), .ref t] ∧ DfAt H t x d ∧ d.Low ∧ d.ok = true ∧ (∀ k ∈ old, k < 256) ∧ old.length ≤ 2000 ∧ d.old = (old.length, mrk old) ∧ d.new = ((makeB (orig d.row) old).length, mrk (makeB (orig d.row) old)) ∧
  ∀ H', Same H H' → Q (.byt (byB (makeB (orig d.row) old))) H'
theorem ok_po {f fB fR fM fP fG : Addr} {fd fdB fdR fdM fdP fdG : FuncData} {j k1 k2 k3 k4 k5 : Nat} (F : Fun K "put_on" "put_on" sPutOn f fd)
    (GB : FnOk P w K mg base CX0 k1 fB fdB ["told"] spRefB) (bB : Binds K fdB ["told"] []) (kB : PySem.W.keepIn K (.ref fB) = true) (gB : mg "refuse_bytes" = some (.ref fB)) (l1 : k1 ≤ j)
    (GR : FnOk P w K mg base CX0 k2 fR fdR ["told"] spRefD) (bR : Binds K fdR ["told"] []) (kR : PySem.W.keepIn K (.ref fR) = true) (gR : mg "refuse_difference" = some (.ref fR)) (l2 : k2 ≤ j)
    (GM : FnOk P w K mg base CX0 k3 fM fdM ["data"] spMark) (bM : Binds K fdM ["data"] []) (kM : PySem.W.keepIn K (.ref fM) = true) (gM : mg "mark_of" = some (.ref fM)) (l3 : k3 ≤ j)
    (GP : FnOk P w K mg base CX0 k4 fP fdP ["origins", "old"] spPt) (bP : Binds K fdP ["origins", "old"] []) (kP : PySem.W.keepIn K (.ref fP) = true) (gP : mg "put_together" = some (.ref fP)) (l4 : k4 ≤ j)
    (GG : FnOk P w K mg base CX0 k5 fG fdG ["row"] spOr) (bG : Binds K fdG ["row"] []) (kG : PySem.W.keepIn K (.ref fG) = true) (gG : mg "origins_of" = some (.ref fG)) (l5 : k5 ≤ j) :
    FnOk P w K mg base CX0 (j + 1) f fd ["old", "difference"] spPo := by
  refine F.ok scPo (fun vs H Q E h => ?_) (fun cdv A outer s H vs Q E hr h => ?_)
  · obtain ⟨t, x, d, old, rfl, _⟩ := h
    rfl
  · obtain ⟨t, x, d, old, rfl, hD, hL, hok, ko, lo, eo, en, fin⟩ := h
    have hfit := of_decide_eq_true (show decide (fitR d.old.1 0 d.row = some d.new.1) = true from hok)
    obtain ⟨hol, hoo⟩ := orig_ok (acc := []) (fun o z => by cases z) hfit
    have hol : (orig d.row).length = d.new.1 := hol
    rw [eo] at hoo
    have hoo : ∀ o ∈ orig d.row, OgOk old.length o := hoo
    have hn2 := hL.2.2.1
    refine ⟨_, pss_cons (ps_expr (pe_call GB (hr.mono l1) (by rfl) gB kB bB .nil pass0 (pa_cons (pv 0) pa_nil))) (pss_cons (ps_expr (pe_call GR (hr.mono l2) (by rfl) gR kR bR .nil pass0 (pa_cons (pv 1) pa_nil)))
      (pss_cons (ps_if (pt_cmpR (op_neD hr.units) (pe_call GM (hr.mono l3) (by rfl) gM kM bM .nil pass0 (pa_cons (pv 0) pa_nil)) (pe_ix ix_tup (pv 1) pe_int (fun _ _ => rfl)) (nomark _)) (pss_one ps_never) pss_nil)
      (pss_cons (ps_set (i := 2) scPo.nd rfl (.inl rfl) (pe_call GP (hr.mono l4) (by rfl) gP kP bP .nil pass0 (pa_cons (pe_call GG (hr.mono l5) (by rfl) gG kG bG .nil pass0 (pa_cons (pe_ix ix_tup (pv 1) pe_int (fun _ _ => rfl)) pa_nil)) (pa_cons (pv 0) pa_nil))))
      (pss_cons (ps_if (pt_cmpR (op_neD hr.units) (pe_call GM (hr.mono l3) (by rfl) gM kM bM .nil pass0 (pa_cons (pv 2) pa_nil)) (pe_ix ix_tup (pv 1) pe_int (fun _ _ => rfl)) (nomark _)) (pss_one ps_never) pss_nil)
      (pss_one (ps_ret (pv 2))))))), ?_⟩
    refine ⟨_, rfl, old, rfl, lo, _, rfl, t, x, d, rfl, hD, hL, hok, ?_⟩
    refine ⟨_, rfl, old, rfl, ko, lo, fun H1 a s1 na hma => ?_⟩
    have hD1 := hD.same s1
    refine ⟨_, rfl, t, _, 0, _, rfl, rfl, .inl (.inl hD1.1), rfl, _, _, dp_mk hma, dp_mk hD1.2.1, sh_mk _, sh_mk _, ?_⟩
    rw [eqv_mk, eo, decide_eq_true rfl]
    refine ⟨_, rfl, iteF ?_⟩
    refine ⟨_, rfl, t, _, 2, _, rfl, rfl, .inl (.inl hD1.1), rfl, x.r, d.row, d.old.1, d.new.1, rfl, hD1.2.2.2, hfit, hn2, fun H2 q s2 nq hOs => ?_⟩
    refine ⟨_, rfl, q, orig d.row, old, rfl, hOs, by rw [hol]; exact hn2, hoo, ko, lo, fun H3 s3 => ?_⟩
    have s13 := (s1.trans s2).trans s3
    dsimp only [gName]
    refine ⟨_, rfl, makeB (orig d.row) old, rfl, makeB_lt ko hoo, by rw [makeB_len, hol]; exact hn2, fun H4 b s4 nb hmb => ?_⟩
    have hD4 := (hD1.same (s2.trans s3)).same s4
    refine ⟨_, rfl, t, _, 1, _, rfl, rfl, .inl (.inl hD4.1), rfl, _, _, dp_mk hmb, dp_mk hD4.2.2.1, sh_mk _, sh_mk _, ?_⟩
    rw [eqv_mk, en, decide_eq_true rfl]
    exact ⟨_, rfl, iteF ⟨_, rfl, fin _ (s13.trans s4)⟩⟩
def spFl : Sp := fun vs H Q _ => ∃ (t : Addr) (x : DfA) (d : Dfv), vs = [.ref t] ∧ DfAt H t x d ∧ d.Low ∧ d.ok = true ∧
  ∀ H' t' x', Same H H' → H t' = none → DfAt H' t' x' ⟨d.old, d.new, flatF (orig d.row)⟩ → Q (.ref t') H'
def spJo : Sp := fun vs H Q _ => ∃ (t1 t2 : Addr) (x1 x2 : DfA) (d1 d2 : Dfv), vs = [.ref t1, .ref t2] ∧ DfAt H t1 x1 d1 ∧ DfAt H t2 x2 d2 ∧ d1.Low ∧ d2.Low ∧ d1.ok = true ∧ d2.ok = true ∧ d1.new = d2.old ∧
  ∀ H' t' x', Same H H' → H t' = none → DfAt H' t' x' ⟨d1.old, d2.new, flatF ((orig d2.row).map (joinO (orig d1.row)))⟩ → Q (.ref t') H'
def spJoN (C : Addr) : Sp := fun vs H Q E => ∃ (t1 t2 : Addr) (x1 x2 : DfA) (d1 d2 : Dfv), vs = [.ref t1, .ref t2] ∧ DfAt H t1 x1 d1 ∧ DfAt H t2 x2 d2 ∧ d1.Low ∧ d2.Low ∧ d1.ok = true ∧ d1.new ≠ d2.old ∧ E (.ref C) none H
end
end K9

namespace K9
open PySem PySem.Spec PyProof.Rows L2
/-! ### the law: marks, origins, flat rows -/
abbrev NLm : List Str := ["_law_numbers_here", "_law_at", "_law_one"]
theorem scLm : FnScope NLm ["_law_numbers_here"] (defScope sLMark) := ⟨rfl, rfl, rfl, by decide +kernel, rfl, by decide +kernel, by decide +kernel⟩
theorem scLw : FnScope ["_law_item"] ["_law_item"] (defScope sLWide) := ⟨rfl, rfl, rfl, by decide +kernel, rfl, by decide +kernel, by decide +kernel⟩
abbrev NLg : List Str := ["_law_row", "_law_size", "_law_found", "_law_item", "_law_turn"]
theorem scLg : FnScope NLg ["_law_row", "_law_size"] (defScope sLOrig) := ⟨rfl, rfl, rfl, by decide +kernel, rfl, by decide +kernel, by decide +kernel⟩
abbrev NLf : List Str := ["_law_sources", "_law_found", "_law_one", "_law_last"]
def ogI : Og → Int
  | .b n => (n : Int)
  | .o p => -1 - (p : Int)
def ogV (os : List Og) : List V := os.map fun o => V.int (ogI o)
theorem ogV_len (os : List Og) : (ogV os).length = os.length := List.length_map _
theorem ogV_app (a b : List Og) : ogV (a ++ b) = ogV a ++ ogV b := List.map_append
theorem ogV_at {os : List Og} {i : Nat} (h : i < os.length) : (ogV os)[i]? = some (.int (ogI (os.getD i ogD))) := by
  unfold ogV
  rw [List.getElem?_map, List.getElem?_eq_getElem h, List.getD_eq_getElem?_getD, List.getElem?_eq_getElem h]
  rfl
section
variable {P : Program} {w : World} {K : PySem.W.Frag} {mg : Str → Option Value} {base : Heap}
def spLm : Sp := fun vs H Q _ => ∃ (p : Addr) (ks : List Nat), vs = [.ref p] ∧ H p = some (.lst (bys ks)) ∧ (∀ k ∈ ks, k < 256) ∧ ks.length ≤ 2000 ∧ ∀ H' t, Same H H' → H t = none → MkAt H' t (ks.length, mrk ks) → Q (.ref t) H'
theorem ok_lm {f : Addr} {fd : FuncData} {j : Nat} (F : Fun K "_law_mark" "_law_mark" sLMark f fd) (m1 : mg "len" = none) (m2 : mg "sum" = none) (m3 : mg "enumerate" = none) :
    FnOk P w K mg base CX0 (j + 1) f fd ["_law_numbers_here"] spLm := by
  refine F.ok scLm (fun vs H Q E h => ?_) (fun cdv A outer s H vs Q E hr h => ?_)
  · obtain ⟨p, ks, rfl, _⟩ := h
    rfl
  · obtain ⟨p, ks, rfl, hp, hk, hl, q⟩ := h
    have hz := PySem.sizeLine_eq
    refine ⟨_, pss_one (ps_ret (pe_tup (pa_cons (pe_callB call_len_seq (by rfl) m1 PySem.boot_len (pa_cons (pv 0) pa_nil)) (pa_cons (pe_op op_modN (pe_callB (cr_sum rfl) (by rfl) m2 (by decide +kernel) (pa_cons
      (pe_lc (own := [("_law_at", 1), ("_law_one", 2)]) (g := gTup K 2 (gCons (gName 1) (gCons (gName 2) gNil))) (tt := tYes) rfl scLm.nd (pi_enum (by rfl) m3 (pa_cons (pv 0) pa_nil)) (blkOk_by (N := NLm) (sc := defScope sLMark) (by decide +kernel))
        (fun _ _ _ _ _ => pg_tup rfl (pgs_cons (pg_name (i := 1) scLm.nd rfl (.inl rfl)) (pgs_cons (pg_name (i := 2) scLm.nd rfl (.inl rfl)) pgs_nil))) (fun _ _ _ _ _ => pts_nil)
        (fun _ _ _ _ _ => pe_op op_mul (pe_op op_add (pv 1) pe_int) (pv 2))) pa_nil)) pe_int) pa_nil)))), ?_⟩
    refine ⟨_, rfl, p, _, rfl, .inl (.inl (.inl hp)), ?_⟩
    refine ⟨_, rfl, p, _, rfl, .inl (.inl hp), fun D nD => ?_⟩
    refine lc_it (walk_enum (K := K) (a := p) (xs := bys ks)) (fun i H' => Same H H' ∧ H' D = some (.lst (((mrkL ks).take i).map V.int))) ⟨same_upd nD, by rw [upd_same]; rfl⟩ (fun i H' _ h => .inl (.inl (h.1 _ _ hp))) (fun i x H2 H3 hi z y => ?_) (fun H2 z => ?_)
    · obtain ⟨sm, hD⟩ := z
      rw [bys_len] at hi
      obtain ⟨T0, x0, y0, rfl, nT0, rfl, e0, e1⟩ := y
      obtain rfl := Option.some.inj e0
      have hki : ks[i]? = some ks[i] := List.getElem?_eq_getElem hi
      have hy : y0 = .int ((ks[i] : Nat) : Int) := by
        have e1 : (bys ks)[i]? = some y0 := e1
        rw [bys_eq, List.getElem?_map, hki] at e1
        exact (Option.some.inj e1).symm
      subst hy
      have hk2 := hk _ (List.getElem_mem hi)
      have hm1 := mrkL_at hki
      generalize ks[i] = c at *
      have sm2 : Same H2 (upd H2 T0 (.tup [.int (i : Nat), .int (c : Int)])) := same_upd nT0
      have hD2 := sm2 _ _ hD
      refine ⟨T0, _, rfl, .inl (.inl upd_same), rfl, _, _, rfl, _, _, rfl, rfl, rfl, yes ?_⟩
      refine ⟨_, rfl, _, _, rfl, rfl, _, rfl, _, _, rfl, rfl, .inl ⟨by omega, by omega⟩, _, hD2, ?_, same_put (sm.trans sm2) nD, ?_⟩
      · rw [List.length_map, List.length_take, mrkL_len, hz]
        omega
      · rw [upd_same, take_snocG hm1, List.map_append]
        push_cast
        rfl
    · obtain ⟨sm, hD⟩ := z
      rw [bys_len, ← mrkL_len, List.take_length] at hD
      refine ⟨D, mrkL ks, rfl, .inl (.inl hD), _, _, rfl, rfl, (by show (65521 : Int) ≠ 0; decide), ?_⟩
      dsimp only
      rw [mrkL_sum]
      refine ⟨(by show 2 ≤ sizeLine; omega), fun t nt => ?_⟩
      rw [bys_len]
      exact q _ t (sm.trans (same_upd nt)) (none_back sm nt) upd_same
def spLw : Sp := fun vs H Q _ => ∃ (v : V) (i : Di), vs = [v] ∧ DiAt H i v ∧ Q (.int ((wideI i : Nat) : Int)) H
theorem ok_lw {f : Addr} {fd : FuncData} {j : Nat} (F : Fun K "_law_wide" "_law_wide" sLWide f fd) (m1 : mg "isinstance" = none) (m2 : mg "int" = none) :
    FnOk P w K mg base CX0 (j + 1) f fd ["_law_item"] spLw := by
  refine F.ok scLw (fun vs H Q E h => ?_) (fun cdv A outer s H vs Q E hr h => ?_)
  · obtain ⟨v, i, rfl, _⟩ := h
    rfl
  · obtain ⟨v, i, rfl, hi, q⟩ := h
    refine ⟨_, pss_one (ps_ret (pe_ifExp (pt_val (pe_callB call_isi (by rfl) m1 (by decide +kernel) (pa_cons (pv 0) (pa_cons (pe_bltn (v := .ty "int") (by rfl) m2 (by decide +kernel) rfl) pa_nil)))) pe_int (pe_ix ix_tup (pv 0) pe_int (fun _ _ => rfl)))), ?_⟩
    cases i with
    | b n =>
      obtain rfl : v = .int (n : Int) := hi
      exact ⟨_, rfl, _, _, _, _, _, rfl, .ty "int", .base (.int _), kit_ty (a := "int") (r := true) (by decide +kernel), _, rfl, iteT q⟩
    | c nw m p =>
      obtain ⟨t, rfl, ht⟩ := hi
      exact ⟨_, rfl, _, _, .type "tuple", _, _, rfl, .ty "int", .base (.tup ht), kit_ty (a := "tuple") (r := false) (by decide +kernel), _, rfl, iteF ⟨_, rfl, t, _, 1, _, rfl, rfl, .inl (.inl ht), rfl, q⟩⟩
def spLg : Sp := fun vs H Q _ => ∃ (r : Addr) (row : List Di) (old n : Nat), vs = [.ref r, .int (old : Int)] ∧ RwAt H r row ∧ fitR old 0 row = some n ∧ n ≤ 2000 ∧ ∀ H' q, Same H H' → H q = none → H' q = some (.lst (ogV (orig row))) → Q (.ref q) H'
theorem ok_lg {f : Addr} {fd : FuncData} {j : Nat} (F : Fun K "_law_origins" "_law_origins" sLOrig f fd) (m1 : mg "isinstance" = none) (m2 : mg "int" = none) (m3 : mg "range" = none) (m4 : mg "len" = none) :
    FnOk P w K mg base CX0 (j + 1) f fd ["_law_row", "_law_size"] spLg := by
  refine F.ok scLg (fun vs H Q E h => ?_) (fun cdv A outer s H vs Q E hr h => ?_)
  · obtain ⟨r, row, old, n, rfl, _⟩ := h
    rfl
  · obtain ⟨r, row, old, n, rfl, ⟨us, hr0, hus⟩, hfit, hn, q⟩ := h
    have hz := PySem.sizeLine_eq
    refine ⟨_, pss_cons (ps_set (i := 2) scLg.nd rfl (.inl rfl) (pe_lst pa_nil))
      (pss_cons (ps_for PassesOwn.never rfl (pi_list (pv 0)) (pg_name (i := 3) scLg.nd rfl (.inr rfl))
        (pss_one (ps_if (pt_val (pe_callB call_isi (by rfl) m1 (by decide +kernel) (pa_cons (pv 3) (pa_cons (pe_bltn (v := .ty "int") (by rfl) m2 (by decide +kernel) rfl) pa_nil))))
          (pss_one (ps_expr (pe_bm PySem.F.plainAttrs_list PySem.F.slot_list_append PySem.F.type_list_append mt_append (pv 2) (pa_cons (pv 3) pa_nil))))
          (pss_one (ps_if (pt_cmpR op_eq (pe_ix ix_tup (pv 3) pe_int (fun _ _ => rfl)) pe_str (nomark _))
            (pss_cons (ps_if (pt_cmpR op_gt (pe_op op_add (pe_ix ix_tup (pv 3) pe_int (fun _ _ => rfl)) (pe_ix ix_tup (pv 3) pe_int (fun _ _ => rfl))) (pv 1) (nomark _)) (pss_one (ps_ret pe_non)) pss_nil)
              (pss_one (ps_set (i := 2) scLg.nd rfl (.inl rfl) (pe_op op_cat (pv 2) (pe_lc (own := [("_law_turn", 4)]) (g := gName 4) (tt := tYes) rfl scLg.nd (pi_range1 (by rfl) m3 (pa_cons (pe_ix ix_tup (pv 3) pe_int (fun _ _ => rfl)) pa_nil)) (blkOk_by (N := NLg) (sc := defScope sLOrig) (by decide +kernel))
                (fun _ _ _ _ _ => pg_name (i := 4) scLg.nd rfl (.inl rfl)) (fun _ _ _ _ _ => pts_nil) (fun _ _ _ _ _ => pe_op op_sub (pe_op op_sub (pe_un un_neg pe_int) (pe_ix (ixT K) (pv 3) pe_int (fun _ _ => rfl))) (pv 4)))))))
            (pss_one (ps_if (pt_cmpR op_gt (pe_ix ix_tup (pv 3) pe_int (fun _ _ => rfl)) (pe_callB call_len_seq (by rfl) m4 PySem.boot_len (pa_cons (pv 2) pa_nil)) (nomark _)) (pss_one (ps_ret pe_non))
              (pss_one (ps_for PassesOwn.never rfl (pi_range1 (by rfl) m3 (pa_cons (pe_ix ix_tup (pv 3) pe_int (fun _ _ => rfl)) pa_nil)) (pg_name (i := 4) scLg.nd rfl (.inl rfl))
                (pss_one (ps_expr (pe_bm PySem.F.plainAttrs_list PySem.F.slot_list_append PySem.F.type_list_append mt_append (pv 2) (pa_cons (pe_ix ix_list (pv 2) (pe_un un_neg (pe_ix ix_tup (pv 3) pe_int (fun _ _ => rfl))) (fun _ _ => rfl)) pa_nil)))))))))))))
      (pss_one (ps_ret (pv 2)))), ?_⟩
    refine ⟨Nat.zero_le _, fun D0 nD0 => ?_⟩
    have hlen := hus.length
    have hrl : row.length ≤ 2000 := by have := fitR_le hfit; omega
    dsimp only [gName]
    refine ⟨_, rfl, r, rfl, ⟨_, .inl (.inl (same_upd nD0 _ _ hr0))⟩, ?_⟩
    refine for_list (K := K) (a := r) (xs := us) (fun i σ H' => ∃ (y3 y4 : Option V) (D : Addr) (os : List Og), σ = [some (.ref r), some (.int (old : Int)), some (.ref D), y3, y4] ∧ Same H H' ∧ H D = none ∧ H' D = some (.lst (ogV os)) ∧ os = (row.take i).foldl origS [] ∧ fitR old os.length (row.drop i) = some n)
      ⟨_, _, D0, [], rfl, same_upd nD0, nD0, upd_same, rfl, hfit⟩ (fun i σ H' _ h => ?_) (fun i x σ H' hx h => ?_) (fun σ H' h => ?_)
    · obtain ⟨_, _, _, _, _, sm, _⟩ := h
      exact .inl (.inl (sm _ _ hr0))
    · obtain ⟨y3, y4, D, os, rfl, sm, nD, hD, eos, ef⟩ := h
      have hi : i < row.length := by have := (List.getElem?_eq_some_iff.mp hx).1; omega
      obtain ⟨x', e1, hd0⟩ := paired_get hus (List.getElem?_eq_getElem hi)
      obtain rfl := Option.some.inj (e1.symm.trans hx)
      have hd := hd0.same sm
      rw [List.drop_eq_getElem_cons hi] at ef
      have et : (row.take (i + 1)).foldl origS [] = origS os row[i] := by
        rw [List.take_add_one, List.getElem?_eq_getElem hi, List.foldl_append, ← eos]
        rfl
      rw [et]
      clear eos et hd0
      generalize row[i] = it at *
      obtain ⟨hf, ef⟩ := fitR_cons ef
      have htop := fit_top ef
      rw [← origS_len] at ef
      dsimp only [gName]
      cases it with
      | b k =>
        obtain rfl : x' = .int (k : Int) := hd
        refine ⟨_, rfl, _, _, _, _, _, rfl, .ty "int", .base (.int _), kit_ty (a := "int") (r := true) (by decide +kernel), _, rfl, iteT ?_⟩
        refine ⟨_, rfl, .inl ⟨rfl, _, .inl (.inl hD)⟩, _, rfl, D, _, _, rfl, rfl, hD, by rw [ogV_len]; omega, ?_⟩
        exact ⟨_, _, D, os ++ [.b k], rfl, same_put sm nD, nD, by rw [upd_same, ogV_app]; rfl, rfl, ef⟩
      | c nw m p =>
        obtain ⟨t, rfl, ht⟩ := hd
        have hm : m ≤ 255 := (fit_wide hf).2
        have htop : os.length + m ≤ n := htop
        refine ⟨_, rfl, _, _, .type "tuple", _, _, rfl, .ty "int", .base (.tup ht), kit_ty (a := "tuple") (r := false) (by decide +kernel), _, rfl, iteF ?_⟩
        cases nw with
        | false =>
          have hf := of_decide_eq_true (show decide (1 ≤ m ∧ m ≤ 255 ∧ p + m ≤ old) = true from hf)
          refine ⟨_, rfl, t, _, 0, _, rfl, rfl, .inl (.inl ht), rfl, rfl, _, rfl, iteT ?_⟩
          refine ⟨_, rfl, t, _, 2, _, rfl, rfl, .inl (.inl ht), rfl, _, rfl, t, _, 1, _, rfl, rfl, .inl (.inl ht), rfl, _, _, rfl, rfl, _, rfl, _, _, rfl, rfl, _, rfl, ?_⟩
          refine ite2 (fun z => absurd (of_decide_eq_true z) (by omega)) (fun _ => ?_)
          refine ⟨_, rfl, _, rfl, t, _, 1, _, rfl, rfl, .inl (.inl ht), rfl, m, rfl, by omega, by omega, fun B nB => ?_⟩
          have nB0 := none_back sm nB
          refine lc_range (lo := 0) (n := (m : Int).toNat) (fun k H3 => Same H' H3 ∧ H3 B = some (.lst (ogV ((List.range k).map fun t => Og.o (p + t))))) ⟨same_upd nB, upd_same⟩ (fun k H3 hk h => ?_) (fun H3 h => ?_)
          · obtain ⟨s3, hB⟩ := h
            refine ⟨rfl, yes ?_⟩
            refine ⟨1, rfl, _, rfl, t, _, 2, _, rfl, rfl, .inl (.inl (s3 _ _ ht)), rfl, _, _, rfl, rfl, _, rfl, _, _, rfl, rfl, _, hB, by rw [ogV_len, List.length_map, List.length_range]; omega, same_put s3 nB, ?_⟩
            rw [upd_same, List.range_succ, List.map_append, ogV_app]
            show some (HO.lst (_ ++ [V.int (-1 - (p : Int) - (0 + (k : Int)))])) = some (HO.lst (_ ++ [V.int (-1 - ((p + k : Nat) : Int))]))
            rw [show -1 - (p : Int) - (0 + (k : Int)) = -1 - ((p + k : Nat) : Int) by push_cast; omega]
          · obtain ⟨s3, hB⟩ := h
            rw [Int.toNat_natCast] at hB
            refine ⟨D, B, _, _, rfl, rfl, s3 _ _ hD, hB, by rw [ogV_len, ogV_len, List.length_map, List.length_range]; omega, fun D2 nD2 => ?_⟩
            have sm3 := sm.trans s3
            exact ⟨_, _, D2, os ++ (List.range m).map fun t => Og.o (p + t), rfl, sm3.trans (same_upd nD2), none_back sm3 nD2, by rw [upd_same, ogV_app], rfl, ef⟩
        | true =>
          have hf := of_decide_eq_true (show decide (3 ≤ m ∧ m ≤ 255 ∧ 1 ≤ p ∧ p ≤ min 2000 os.length) = true from hf)
          refine ⟨_, rfl, t, _, 0, _, rfl, rfl, .inl (.inl ht), rfl, rfl, _, rfl, iteF ?_⟩
          refine ⟨_, rfl, t, _, 2, _, rfl, rfl, .inl (.inl ht), rfl, _, rfl, D, _, rfl, .inl (.inl (.inl hD)), _, _, rfl, rfl, _, rfl, ?_⟩
          refine ite2 (fun z => absurd (of_decide_eq_true z) (by rw [ogV_len]; omega)) (fun _ => ?_)
          refine ⟨_, rfl, t, _, 1, _, rfl, rfl, .inl (.inl ht), rfl, m, rfl, by omega, by omega, ?_⟩
          refine for_range (lo := 0) (n := (m : Int).toNat) (fun k σ H3 => ∃ (y4 : Option V), σ = [some (.ref r), some (.int (old : Int)), some (.ref D), some (.ref t), y4] ∧ Same H H3 ∧ H3 D = some (.lst (ogV (copyO p k os))) ∧ H3 t = some (.tup [.str (wdN true), .int (m : Int), .int (p : Int)])) ⟨_, rfl, sm, hD, ht⟩ (fun k σ H3 hk h => ?_) (fun σ H3 h => ?_)
          · obtain ⟨y4, rfl, s3, hD3, ht3⟩ := h
            have hcl := copyO_len p k os
            have hg : (ogV (copyO p k os))[(ogV (copyO p k os)).length - p]? = some (.int (ogI ((copyO p k os).getD ((copyO p k os).length - p) ogD))) := by
              rw [ogV_len]
              exact ogV_at (by omega)
            refine ⟨_, rfl, .inl ⟨rfl, _, .inl (.inl hD3)⟩, ?_⟩
            refine ⟨_, rfl, _, rfl, t, _, 2, _, rfl, rfl, .inl (.inl ht3), rfl, p, rfl, D, _, _, .int (ogI ((copyO p k os).getD ((copyO p k os).length - p) ogD)), rfl, rfl, .inl (.inl hD3), ?_, D, _, _, rfl, rfl, hD3, by rw [ogV_len]; omega, ?_⟩
            · rw [atI_back (by omega) (by rw [ogV_len]; omega)]
              exact hg
            · refine ⟨_, rfl, same_put s3 nD, ?_, tup_put hD3 _ _ ht3⟩
              rw [upd_same, copyO_succ, ogV_app]
              rfl
          · obtain ⟨y4, rfl, s3, hD3, ht3⟩ := h
            rw [Int.toNat_natCast] at hD3
            exact ⟨_, _, D, copyO p m os, rfl, s3, nD, hD3, rfl, ef⟩
    · obtain ⟨y3, y4, D, os, rfl, sm, nD, hD, eos, ef⟩ := h
      rw [← hlen, List.take_length] at eos
      refine ⟨_, rfl, q H' D sm nD ?_⟩
      rw [show orig row = os from eos.symm]
      exact hD
end
end K9

namespace K9
open PySem PySem.Spec PyProof.Rows L2
/-! ### rows as data -/
def diD : Di → PyData
  | .b n => .int (n : Int)
  | .c nw m p => .tuple [.str (wdN nw), .int (m : Int), .int (p : Int)]
theorem dp_di {K : PySem.W.Frag} {H : Hp} {i : Di} {v : V} (h : DiAt H i v) : Dp K H v (diD i) := by
  cases i with
  | b n =>
    obtain rfl : v = .int (n : Int) := h
    exact .int _
  | c nw m p =>
    obtain ⟨t, rfl, ht⟩ := h
    exact .tup (.inl (.inl ht)) (.cons (.str _) (.cons (.int _) (.cons (.int _) .nil)))
theorem dp_dis {K : PySem.W.Frag} {H : Hp} : ∀ {row : List Di} {us : List V}, Paired (DiAt H) row us → DpAll K H us (row.map diD)
  | _, _, .nil => .nil
  | _, _, .cons h hs => .cons (dp_di h) (dp_dis hs)
def rowD (row : List Di) : PyData := .list (row.map diD)
theorem dp_row {K : PySem.W.Frag} {H : Hp} {r : Addr} {row : List Di} (h : RwAt H r row) : Dp K H (.ref r) (rowD row) := by
  obtain ⟨us, h1, h2⟩ := h
  exact .lst (.inl (.inl h1)) (dp_dis h2)
theorem can_di : ∀ i : Di, (diD i).canLay0 = true
  | .b _ => rfl
  | .c true _ _ => by simp [diD, wdN, PyData.canLay0, PyData.canLayAll0]; decide +kernel
  | .c false _ _ => by simp [diD, wdN, PyData.canLay0, PyData.canLayAll0]; decide +kernel
theorem can_dis : ∀ row : List Di, PyData.canLayAll0 (row.map diD) = true
  | [] => by simp [PyData.canLayAll0]
  | i :: r => by
    show ((diD i).canLay0 && PyData.canLayAll0 (r.map diD)) = true
    rw [can_di i, can_dis r]
    rfl
theorem dep_di : ∀ i : Di, (diD i).depth ≤ 1
  | .b _ => Nat.zero_le _
  | .c _ _ _ => by simp [diD, PyData.depth, PyData.depthAll]
theorem dep_dis : ∀ row : List Di, PyData.depthAll (row.map diD) ≤ 1
  | [] => Nat.zero_le _
  | i :: r => by
    have h1 := dep_di i
    have h2 := dep_dis r
    show max (diD i).depth (PyData.depthAll (r.map diD)) ≤ 1
    omega
theorem sh_row (row : List Di) : SeqAt.shaped (rowD row) = true := by
  unfold SeqAt.shaped
  rw [Bool.and_eq_true]
  refine ⟨can_dis row, decide_eq_true ?_⟩
  have := dep_dis row
  show PyData.depth (.list (row.map diD)) ≤ 64
  simp only [PyData.depth]
  omega
theorem eqv_di (i k : Di) : PyData.eqv (diD i) (diD k) = decide (i = k) := by
  cases i with
  | b n =>
    cases k with
    | b m =>
      simp only [diD, PyData.eqv]
      by_cases h : n = m <;> simp [h] <;> omega
    | c nw m p => simp [diD, PyData.eqv]
  | c nw m p =>
    cases k with
    | b n => simp [diD, PyData.eqv]
    | c nw2 m2 p2 =>
      simp only [diD, PyData.eqv, PyData.eqvAll]
      have hw : (wdN nw == wdN nw2) = decide (nw = nw2) := by cases nw <;> cases nw2 <;> decide +kernel
      by_cases h1 : nw = nw2 <;> by_cases h2 : m = m2 <;> by_cases h3 : p = p2 <;> simp [hw, h1, h2, h3] <;> first | omega | skip
theorem eqvA_dis : ∀ a b : List Di, PyData.eqvAll (a.map diD) (b.map diD) = decide (a = b)
  | [], [] => by simp [PyData.eqvAll]
  | [], _ :: _ => by simp [PyData.eqvAll]
  | _ :: _, [] => by simp [PyData.eqvAll]
  | x :: xs, y :: ys => by
    simp only [List.map_cons, PyData.eqvAll, eqv_di, eqvA_dis xs ys]
    by_cases h : x = y <;> simp [h]
theorem eqv_row (a b : List Di) : PyData.eqv (rowD a) (rowD b) = decide (a = b) := by
  show PyData.eqv (.list (a.map diD)) (.list (b.map diD)) = _
  rw [PyData.eqv, eqvA_dis]
def dfD (d : Dfv) : PyData := .tuple [mkD d.old, mkD d.new, rowD d.row]
theorem dp_df {K : PySem.W.Frag} {H : Hp} {t : Addr} {x : DfA} {d : Dfv} (h : DfAt H t x d) : Dp K H (.ref t) (dfD d) := .tup (.inl (.inl h.1)) (.cons (dp_mk h.2.1) (.cons (dp_mk h.2.2.1) (.cons (dp_row h.2.2.2) .nil)))
theorem eqv_df (a b : Dfv) : PyData.eqv (dfD a) (dfD b) = decide (a.old = b.old ∧ a.new = b.new ∧ a.row = b.row) := by
  simp only [dfD, PyData.eqv, PyData.eqvAll, eqv_mk, eqv_row]
  by_cases h1 : a.old = b.old <;> by_cases h2 : a.new = b.new <;> by_cases h3 : a.row = b.row <;> simp [h1, h2, h3]
theorem dep_mk (m : Nat × Nat) : (mkD m).depth = 1 := by simp [mkD, PyData.depth, PyData.depthAll]
theorem sh_df (d : Dfv) : SeqAt.shaped (dfD d) = true := by
  unfold SeqAt.shaped
  rw [Bool.and_eq_true]
  refine ⟨?_, decide_eq_true ?_⟩
  · show (true && ((rowD d.row).canLay0 && true)) = true
    rw [Bool.and_true, Bool.true_and]
    exact can_dis d.row
  · have h1 := dep_mk d.old
    have h2 := dep_mk d.new
    have h3 := dep_dis d.row
    show PyData.depth (.tuple [mkD d.old, mkD d.new, .list (d.row.map diD)]) ≤ 64
    simp only [PyData.depth, PyData.depthAll, h1, h2]
    omega
section
variable {P : Program} {w : World} {K : PySem.W.Frag} {mg : Str → Option Value} {base : Heap}
def spLf : Sp := fun vs H Q _ => ∃ (r : Addr) (os : List Og), vs = [.ref r] ∧ H r = some (.lst (ogV os)) ∧ os.length ≤ 2000 ∧ ∀ H' q, Same H H' → H q = none → RwAt H' q (flatF os) → Q (.ref q) H'
end
end K9

namespace K9
open PySem PySem.Spec PyProof.Rows L2
/-! ### _law_pair, _law_any -/
abbrev NPa : List Str := ["_law_script", "_law_at", "_law_old", "_law_new", "_law_k", "_law_digits"]
theorem scPa : FnScope NPa ["_law_script", "_law_at"] (defScope sLPair) := ⟨rfl, rfl, rfl, by decide +kernel, rfl, by decide +kernel, by decide +kernel⟩
abbrev NAn : List Str := ["_law_script", "_law_at", "_law_size", "_law_found", "_law_many", "_law_k", "_law_digits", "_law_place"]
theorem cut_some (ks : List Nat) (lo hi : Option Int) : ∃ ks2, cutV (bys ks) lo hi = bys ks2 ∧ ∀ k ∈ ks2, k ∈ ks := by
  refine ⟨(ks.drop (HT.sIx (bys ks).length 0 lo)).take (HT.sIx (bys ks).length (bys ks).length hi - HT.sIx (bys ks).length 0 lo), ?_, fun k hk => List.mem_of_mem_drop (List.mem_of_mem_take hk)⟩
  unfold cutV
  generalize HT.sIx (bys ks).length 0 lo = a
  generalize HT.sIx (bys ks).length (bys ks).length hi = b
  rw [bys_eq, bys_eq, ← List.map_drop, ← List.map_take]
section
variable {P : Program} {w : World} {K : PySem.W.Frag} {mg : Str → Option Value} {base : Heap}
def spPa (K : PySem.W.Frag) : Sp := fun vs H Q _ => ∃ (p : Addr) (xs : List Int) (a : Nat), vs = [.ref p, .int (a : Int)] ∧ SqL K H p (xs.map V.int) ∧ a ≤ 40000 ∧
  ∀ H' t po pn old new, Same H H' → H t = none → H' t = some (.tup [.ref po, .ref pn]) → H' po = some (.lst (bys old)) → H' pn = some (.lst (bys new)) → H po = none → H pn = none → (∀ k ∈ old, k < 256) → (∀ k ∈ new, k < 256) → old.length ≤ 50 → new.length ≤ 90 → Q (.ref t) H'
theorem ok_pa {f fC fN fD : Addr} {fd fdC fdN fdD : FuncData} {j k1 k2 k3 : Nat} (F : Fun K "_law_pair" "_law_pair" sLPair f fd)
    (GC : FnOk P w K mg base CX0 k1 fC fdC ["_law_script", "_law_k"] (K9.spCell K)) (bC : Binds K fdC ["_law_script", "_law_k"] []) (kC : PySem.W.keepIn K (.ref fC) = true) (gC : mg "_law_cell_at" = some (.ref fC)) (l1 : k1 ≤ j)
    (GN : FnOk P w K mg base CX0 k2 fN fdN ["_law_cell", "_law_limits"] spNums) (bN : Binds K fdN ["_law_cell", "_law_limits"] []) (kN : PySem.W.keepIn K (.ref fN) = true) (gN : mg "_law_numbers" = some (.ref fN)) (l2 : k2 ≤ j)
    (GD : FnOk P w K mg base CX0 k3 fD fdD ["_law_script", "_law_at", "_law_most"] (spData K)) (bD : Binds K fdD ["_law_script", "_law_at", "_law_most"] []) (kD : PySem.W.keepIn K (.ref fD) = true) (gD : mg "_law_data" = some (.ref fD)) (l3 : k3 ≤ j)
    (m1 : mg "len" = none) (m2 : mg "int" = none) (m3 : mg "range" = none) : FnOk P w K mg base CX0 (j + 1) f fd ["_law_script", "_law_at"] (spPa K) := by
  refine F.ok scPa (fun vs H Q E h => ?_) (fun cdv A outer s H vs Q E hr h => ?_)
  · obtain ⟨p, xs, a, rfl, _⟩ := h
    rfl
  · obtain ⟨p, xs, a, rfl, hp, ha, q⟩ := h
    have hz := PySem.sizeLine_eq
    refine ⟨_, pss_cons (ps_par (i := 2) (j := 3) rfl scPa.nd rfl rfl (by decide) rfl rfl (pa_cons (pe_call GD (hr.mono l3) (by rfl) gD kD bD .nil pass0 (pa_cons (pv 0) (pa_cons (pv 1) (pa_cons pe_int pa_nil)))) (pa_cons (pe_lst pa_nil) pa_nil)) (by rfl))
      (pss_cons (ps_for PassesOwn.never rfl (pi_range1 (by rfl) m3 (pa_cons (pe_op op_modN (pe_call GC (hr.mono l1) (by rfl) gC kC bC .nil pass0 (pa_cons (pv 0) (pa_cons (pe_op op_add (pv 1) pe_int) pa_nil))) pe_int) pa_nil)) (pg_name (i := 4) scPa.nd rfl (.inl rfl))
        (pss_cons (ps_set (i := 5) scPa.nd rfl (.inl rfl) (pe_call GN (hr.mono l2) (by rfl) gN kN bN .nil pass0 (pa_cons (pe_call GC (hr.mono l1) (by rfl) gC kC bC .nil pass0 (pa_cons (pv 0) (pa_cons (pe_op op_add (pe_op op_add (pv 1) pe_int) (pv 4)) pa_nil))) (pa_cons (pe_lst (pa_cons pe_int (pa_cons pe_int (pa_cons pe_int (pa_cons pe_int pa_nil))))) pa_nil))))
        (pss_one (ps_if (PW.pt (pw_and (pt_cmpR op_lt (pe_ix ix_list (pv 5) pe_int (fun _ _ => rfl)) pe_int (nomark _)) (pw_and1 (pt_cmpR (op_neD hr.units) (pv 2) (pe_lst pa_nil) (nomark _)))))
          (pss_one (ps_set (i := 3) scPa.nd rfl (.inl rfl) (pe_op op_cat (pv 3) (pe_slice sl_list (pe_slice sl_list (pv 2) (po_some (pe_op op_modN (pe_callTy call_int1 (by rfl) m2 (by decide +kernel) (pa_cons (pe_ix ix_list (pv 5) pe_int (fun _ _ => rfl)) pa_nil)) (pe_callB call_len_seq (by rfl) m1 PySem.boot_len (pa_cons (pv 2) pa_nil)))) po_none) po_none (po_some (pe_ix ix_list (pv 5) pe_int (fun _ _ => rfl)))))))
          (pss_one (ps_if (PW.pt (pw_and (pt_cmpR op_eq (pe_ix ix_list (pv 5) pe_int (fun _ _ => rfl)) pe_int (nomark _)) (pw_and1 (pt_cmpR (op_neD hr.units) (pv 3) (pe_lst pa_nil) (nomark _)))))
            (pss_one (ps_set (i := 3) scPa.nd rfl (.inl rfl) (pe_op op_cat (pv 3) (pe_slice sl_list (pe_slice sl_list (pv 3) (po_some (pe_op op_modN (pe_callTy call_int1 (by rfl) m2 (by decide +kernel) (pa_cons (pe_ix ix_list (pv 5) pe_int (fun _ _ => rfl)) pa_nil)) (pe_callB call_len_seq (by rfl) m1 PySem.boot_len (pa_cons (pv 3) pa_nil)))) po_none) po_none (po_some (pe_ix ix_list (pv 5) pe_int (fun _ _ => rfl)))))))
            (pss_one (ps_set (i := 3) scPa.nd rfl (.inl rfl) (pe_op op_cat (pv 3) (pe_slice sl_list (pe_lst (pa_cons (pe_ix ix_list (pv 5) pe_int (fun _ _ => rfl)) (pa_cons pe_int (pa_cons pe_int pa_nil)))) po_none (po_some (pe_op op_add pe_int (pe_op op_modN (pe_callTy call_int1 (by rfl) m2 (by decide +kernel) (pa_cons (pe_ix ix_list (pv 5) pe_int (fun _ _ => rfl)) pa_nil)) pe_int)))))))))))))
      (pss_one (ps_ret (pe_tup (pa_cons (pv 2) (pa_cons (pe_slice sl_list (pv 3) po_none (po_some pe_int)) pa_nil)))))), ?_⟩
    refine ⟨_, rfl, _, rfl, p, xs, a, 50, rfl, hp, by omega, by decide, fun H1 po old s1 npo hpo hko hlo => ?_⟩
    refine ⟨Nat.zero_le _, fun D0 nD0 => ?_⟩
    have nD00 := none_back s1 nD0
    have s2 := s1.trans (same_upd (o := .lst []) nD0)
    have hpo2 := same_upd (o := .lst []) nD0 _ _ hpo
    have hD2 : (upd H1 D0 (.lst [])) D0 = some (.lst (bys [])) := upd_same
    generalize upd H1 D0 (.lst []) = H2 at *
    refine ⟨_, _, rfl, ?_⟩
    refine ⟨_, rfl, _, rfl, _, _, rfl, rfl, p, xs, a + 30, by push_cast; rfl, s2.seq hp, by omega, fun H3 s3 => ?_⟩
    have hc := fmod_in (a := cellAt xs (a + 30)) (l := 6) (by decide)
    have s13 := s2.trans s3
    refine ⟨_, _, rfl, rfl, (by show (6 : Int) ≠ 0; decide), (cellAt xs (a + 30)).fmod 6, rfl, by omega, by omega, ?_⟩
    refine for_range (lo := 0) (n := ((cellAt xs (a + 30)).fmod 6).toNat) (fun i σ H' => ∃ (y4 y5 : Option V) (D : Addr) (ks : List Nat), σ = [some (.ref p), some (.int (a : Int)), some (.ref po), some (.ref D), y4, y5] ∧ Same H H' ∧ H' po = some (.lst (bys old)) ∧ H D = none ∧ H' D = some (.lst (bys ks)) ∧ (∀ k ∈ ks, k < 256) ∧ ks.length ≤ 30 * i)
      ⟨none, none, D0, [], rfl, s13, s3 _ _ hpo2, nD00, s3 _ _ hD2, fun k h => by (cases h), by simp⟩ (fun i σ H' hi h => ?_) (fun σ H' h => ?_)
    · obtain ⟨y4, y5, D, ks0, rfl, sm, hpo', nD, hD, hk, hl⟩ := h
      have hi6 : i < 6 := by omega
      refine ⟨_, rfl, _, rfl, _, _, rfl, rfl, _, rfl, _, _, rfl, rfl, p, xs, a + 31 + i, ?_, sm.seq hp, by omega, fun H5 sm5 => ?_⟩
      · show [V.ref p, V.int ((a : Int) + 31 + (0 + (i : Int)))] = _
        rw [show (a : Int) + 31 + (0 + (i : Int)) = ((a + 31 + i : Nat) : Int) by omega]
      · refine ⟨(by show 4 ≤ sizeLine; decide), fun z nz => ?_⟩
        refine ⟨z, cellAt xs (a + 31 + i), [4, 60, 30, 256], rfl, upd_same, by decide, by decide, fun H6 dg ds sm6 nq hdg hdl hin => ?_⟩
        obtain ⟨d0, d1, d2, d3, rfl⟩ : ∃ d0 d1 d2 d3, ds = [d0, d1, d2, d3] := by
          match ds, hdl with
          | [a, b, c, d], _ => exact ⟨a, b, c, d, rfl⟩
        have hd0 := hin.2 0 d0 4 rfl rfl
        have hd1 := hin.2 1 d1 60 rfl rfl
        have hd2 := hin.2 2 d2 30 rfl rfl
        have hd3 := hin.2 3 d3 256 rfl rfl
        have sm46 : Same H' H6 := (sm5.trans (same_upd nz)).trans sm6
        have sm06 : Same H H6 := sm.trans sm46
        have hD6 := sm46 _ _ hD
        have hpo6 := sm46 _ _ hpo'
        have hdgS : SqL K H6 dg [.int d0, .int d1, .int d2, .int d3] := .inl (.inl hdg)
        obtain ⟨k2, rfl⟩ := nat_of hd2.1
        obtain ⟨k3, rfl⟩ := nat_of hd3.1
        clear nq hin hdl hdg
        have fin : ∀ (H9 : Hp) (r : Addr) (ks2 : List Nat), Same H H9 → Same H6 H9 → H9 r = none → (∀ k ∈ ks2, k < 256) → ks2.length ≤ 30 →
            ∃ (y4' y5' : Option V) (D : Addr) (ks : List Nat), [some (.ref p), some (.int (a : Int)), some (.ref po), some (.ref r), some (.int (0 + (i : Int))), some (.ref dg)] = [some (.ref p), some (.int (a : Int)), some (.ref po), some (.ref D), y4', y5'] ∧ Same H (upd H9 r (.lst (bys ks0 ++ bys ks2))) ∧ (upd H9 r (.lst (bys ks0 ++ bys ks2))) po = some (.lst (bys old)) ∧ H D = none ∧ (upd H9 r (.lst (bys ks0 ++ bys ks2))) D = some (.lst (bys ks)) ∧ (∀ k ∈ ks, k < 256) ∧ ks.length ≤ 30 * (i + 1) := by
          intro H9 r ks2 sm9 s69 nr h2 hl2
          refine ⟨_, _, r, ks0 ++ ks2, rfl, sm9.trans (same_upd nr), (s69.trans (same_upd nr)) _ _ hpo6, none_back sm9 nr, by rw [upd_same, bys_app], fun k m => ?_, by rw [List.length_append]; omega⟩
          rcases (List.mem_append.mp m) with (m | m)
          · exact hk k m
          · exact h2 k m
        refine ⟨_, rfl, dg, _, 0, _, rfl, rfl, hdgS, rfl, _, _, rfl, rfl, _, rfl, ite2 (fun e3 => ?_) (fun e3 => ?_)⟩
        · refine ⟨_, rfl, Nat.zero_le _, fun z2 nz2 => ?_⟩
          have sm67 : Same H6 (upd H6 z2 (.lst [])) := same_upd nz2
          have hz2 : (upd H6 z2 (.lst [])) z2 = some (.lst []) := upd_same
          generalize upd H6 z2 (.lst []) = H7 at *
          have hD7 := sm67 _ _ hD6
          have hpo7 := sm67 _ _ hpo6
          refine ⟨_, _, .lst (.inl (.inl hpo7)) (dp_ints _), .lst (ds := []) (.inl (.inl hz2)) .nil, shaped_intsQ _, shaped_intsQ [], _, rfl, ite2 (fun e4 => ?_) (fun e4 => ?_)⟩
          · have hne : old ≠ [] := by
              intro z
              subst z
              cases e4
            have hpos : 0 < old.length := List.length_pos_iff.mpr hne
            have hdg7 := sm67.seq hdgS
            refine ⟨_, rfl, _, rfl, _, rfl, dg, _, 1, _, rfl, rfl, hdg7, rfl, .inl ⟨_, rfl, _, rfl, po, _, rfl, .inl (.inl (.inl hpo7)), _, _, rfl, rfl, (by rw [bys_len]; omega), ?_⟩⟩
            refine ⟨_, rfl, po, _, rfl, .inl (.inl hpo7), fun r1 nr1 => ?_⟩
            obtain ⟨ks2, e2, hks2⟩ := cut_some old (some (d1.fmod ((bys old).length : Int))) none
            rw [e2]
            have s8 := same_upd (o := .lst (bys ks2)) nr1
            refine ⟨_, rfl, dg, _, 2, _, rfl, rfl, s8.seq hdg7, rfl, _, rfl, r1, _, rfl, .inl (.inl upd_same), fun r2 nr2 => ?_⟩
            rw [bys_to]
            have s9 := same_upd (o := .lst (bys (ks2.take k2))) nr2
            refine ⟨D, r2, _, _, rfl, rfl, s9 _ _ (s8 _ _ hD7), upd_same, (by rw [bys_len, bys_len, List.length_take, hz]; omega), fun r3 nr3 => ?_⟩
            exact fin _ r3 _ (((sm06.trans sm67).trans s8).trans s9) ((sm67.trans s8).trans s9) nr3 (fun k m => hko k (hks2 k (List.mem_of_mem_take m))) (by rw [List.length_take]; omega)
          · have hdg7 := sm67.seq hdgS
            have sm07 := sm06.trans sm67
            refine ⟨_, rfl, dg, _, 0, _, rfl, rfl, hdg7, rfl, rfl, _, rfl, ite2 (fun e5 => ?_) (fun e5 => ?_)⟩
            · refine ⟨_, rfl, Nat.zero_le _, fun z3 nz3 => ?_⟩
              have sm78 : Same H7 (upd H7 z3 (.lst [])) := same_upd nz3
              have hz3 : (upd H7 z3 (.lst [])) z3 = some (.lst []) := upd_same
              generalize upd H7 z3 (.lst []) = H8 at *
              have hD8 := sm78 _ _ hD7
              refine ⟨_, _, .lst (.inl (.inl hD8)) (dp_ints _), .lst (ds := []) (.inl (.inl hz3)) .nil, shaped_intsQ _, shaped_intsQ [], _, rfl, ite2 (fun e4 => ?_) (fun e4 => ?_)⟩
              · have hne : ks0 ≠ [] := by
                  intro z
                  subst z
                  cases e4
                have hpos : 0 < ks0.length := List.length_pos_iff.mpr hne
                have hdg8 := sm78.seq hdg7
                refine ⟨_, rfl, _, rfl, _, rfl, dg, _, 1, _, rfl, rfl, hdg8, rfl, .inl ⟨_, rfl, _, rfl, D, _, rfl, .inl (.inl (.inl hD8)), _, _, rfl, rfl, (by rw [bys_len]; omega), ?_⟩⟩
                refine ⟨_, rfl, D, _, rfl, .inl (.inl hD8), fun r1 nr1 => ?_⟩
                obtain ⟨ks2, e2, hks2⟩ := cut_some ks0 (some (d1.fmod ((bys ks0).length : Int))) none
                rw [e2]
                have s8 := same_upd (o := .lst (bys ks2)) nr1
                refine ⟨_, rfl, dg, _, 2, _, rfl, rfl, s8.seq hdg8, rfl, _, rfl, r1, _, rfl, .inl (.inl upd_same), fun r2 nr2 => ?_⟩
                rw [bys_to]
                have s9 := same_upd (o := .lst (bys (ks2.take k2))) nr2
                refine ⟨D, r2, _, _, rfl, rfl, s9 _ _ (s8 _ _ hD8), upd_same, (by rw [bys_len, bys_len, List.length_take, hz]; omega), fun r3 nr3 => ?_⟩
                exact fin _ r3 _ (((sm07.trans sm78).trans s8).trans s9) (((sm67.trans sm78).trans s8).trans s9) nr3 (fun k m => hk k (hks2 k (List.mem_of_mem_take m))) (by rw [List.length_take]; omega)
              · have hdg8 := sm78.seq hdg7
                have hc2 := fmod_in (a := (k2 : Int)) (l := 3) (by decide)
                obtain ⟨c, ec⟩ := nat_of hc2.1
                refine ⟨_, rfl, _, rfl, dg, _, 3, _, rfl, rfl, hdg8, rfl, (by show 3 ≤ sizeLine; rw [hz]; decide), fun r1 nr1 => ?_⟩
                have s8 := same_upd (o := .lst [.int (k3 : Int), .int 97, .int 98]) nr1
                have hr1 : (upd H8 r1 (.lst [.int (k3 : Int), .int 97, .int 98])) r1 = some (.lst (bys [k3, 97, 98])) := upd_same
                refine ⟨_, rfl, dg, _, 2, _, rfl, rfl, s8.seq hdg8, rfl, .inl ⟨_, rfl, _, _, rfl, rfl, (by show (3 : Int) ≠ 0; decide), _, _, rfl, rfl, _, rfl, r1, _, rfl, .inl (.inl hr1), fun r2 nr2 => ?_⟩⟩
                have e1 : (1 : Int) + (k2 : Int).fmod 3 = ((1 + c : Nat) : Int) := by omega
                rw [e1, bys_to]
                have s9 := same_upd (o := .lst (bys ([k3, 97, 98].take (1 + c)))) nr2
                refine ⟨D, r2, _, _, rfl, rfl, s9 _ _ (s8 _ _ hD8), upd_same, (by rw [bys_len, bys_len, List.length_take, hz]; simp; omega), fun r3 nr3 => ?_⟩
                refine fin _ r3 _ (((sm07.trans sm78).trans s8).trans s9) (((sm67.trans sm78).trans s8).trans s9) nr3 (fun k m => ?_) (by rw [List.length_take]; simp; omega)
                have := List.mem_of_mem_take m
                simp at this
                omega
            · obtain ⟨H8, eH8, sm78, hD8⟩ : ∃ H8, H8 = H7 ∧ Same H7 H8 ∧ H8 D = some (.lst (bys ks0)) := ⟨H7, rfl, Same.refl H7, hD7⟩
              rw [← eH8]
              have hdg8 := sm78.seq hdg7
              have hc2 := fmod_in (a := (k2 : Int)) (l := 3) (by decide)
              obtain ⟨c, ec⟩ := nat_of hc2.1
              refine ⟨_, rfl, _, rfl, dg, _, 3, _, rfl, rfl, hdg8, rfl, (by show 3 ≤ sizeLine; rw [hz]; decide), fun r1 nr1 => ?_⟩
              have s8 := same_upd (o := .lst [.int (k3 : Int), .int 97, .int 98]) nr1
              have hr1 : (upd H8 r1 (.lst [.int (k3 : Int), .int 97, .int 98])) r1 = some (.lst (bys [k3, 97, 98])) := upd_same
              refine ⟨_, rfl, dg, _, 2, _, rfl, rfl, s8.seq hdg8, rfl, .inl ⟨_, rfl, _, _, rfl, rfl, (by show (3 : Int) ≠ 0; decide), _, _, rfl, rfl, _, rfl, r1, _, rfl, .inl (.inl hr1), fun r2 nr2 => ?_⟩⟩
              have e1 : (1 : Int) + (k2 : Int).fmod 3 = ((1 + c : Nat) : Int) := by omega
              rw [e1, bys_to]
              have s9 := same_upd (o := .lst (bys ([k3, 97, 98].take (1 + c)))) nr2
              refine ⟨D, r2, _, _, rfl, rfl, s9 _ _ (s8 _ _ hD8), upd_same, (by rw [bys_len, bys_len, List.length_take, hz]; simp; omega), fun r3 nr3 => ?_⟩
              refine fin _ r3 _ (((sm07.trans sm78).trans s8).trans s9) (((sm67.trans sm78).trans s8).trans s9) nr3 (fun k m => ?_) (by rw [List.length_take]; simp; omega)
              have := List.mem_of_mem_take m
              simp at this
              omega
        · obtain ⟨H7, eH, sm67, hD7⟩ : ∃ H7, H7 = H6 ∧ Same H6 H7 ∧ H7 D = some (.lst (bys ks0)) := ⟨H6, rfl, Same.refl H6, hD6⟩
          rw [← eH]
          have hdg7 := sm67.seq hdgS
          have sm07 := sm06.trans sm67
          refine ⟨_, rfl, dg, _, 0, _, rfl, rfl, hdg7, rfl, rfl, _, rfl, ite2 (fun e5 => ?_) (fun e5 => ?_)⟩
          · refine ⟨_, rfl, Nat.zero_le _, fun z3 nz3 => ?_⟩
            have sm78 : Same H7 (upd H7 z3 (.lst [])) := same_upd nz3
            have hz3 : (upd H7 z3 (.lst [])) z3 = some (.lst []) := upd_same
            generalize upd H7 z3 (.lst []) = H8 at *
            have hD8 := sm78 _ _ hD7
            refine ⟨_, _, .lst (.inl (.inl hD8)) (dp_ints _), .lst (ds := []) (.inl (.inl hz3)) .nil, shaped_intsQ _, shaped_intsQ [], _, rfl, ite2 (fun e4 => ?_) (fun e4 => ?_)⟩
            · have hne : ks0 ≠ [] := by
                intro z
                subst z
                cases e4
              have hpos : 0 < ks0.length := List.length_pos_iff.mpr hne
              have hdg8 := sm78.seq hdg7
              refine ⟨_, rfl, _, rfl, _, rfl, dg, _, 1, _, rfl, rfl, hdg8, rfl, .inl ⟨_, rfl, _, rfl, D, _, rfl, .inl (.inl (.inl hD8)), _, _, rfl, rfl, (by rw [bys_len]; omega), ?_⟩⟩
              refine ⟨_, rfl, D, _, rfl, .inl (.inl hD8), fun r1 nr1 => ?_⟩
              obtain ⟨ks2, e2, hks2⟩ := cut_some ks0 (some (d1.fmod ((bys ks0).length : Int))) none
              rw [e2]
              have s8 := same_upd (o := .lst (bys ks2)) nr1
              refine ⟨_, rfl, dg, _, 2, _, rfl, rfl, s8.seq hdg8, rfl, _, rfl, r1, _, rfl, .inl (.inl upd_same), fun r2 nr2 => ?_⟩
              rw [bys_to]
              have s9 := same_upd (o := .lst (bys (ks2.take k2))) nr2
              refine ⟨D, r2, _, _, rfl, rfl, s9 _ _ (s8 _ _ hD8), upd_same, (by rw [bys_len, bys_len, List.length_take, hz]; omega), fun r3 nr3 => ?_⟩
              exact fin _ r3 _ (((sm07.trans sm78).trans s8).trans s9) (((sm67.trans sm78).trans s8).trans s9) nr3 (fun k m => hk k (hks2 k (List.mem_of_mem_take m))) (by rw [List.length_take]; omega)
            · have hdg8 := sm78.seq hdg7
              have hc2 := fmod_in (a := (k2 : Int)) (l := 3) (by decide)
              obtain ⟨c, ec⟩ := nat_of hc2.1
              refine ⟨_, rfl, _, rfl, dg, _, 3, _, rfl, rfl, hdg8, rfl, (by show 3 ≤ sizeLine; rw [hz]; decide), fun r1 nr1 => ?_⟩
              have s8 := same_upd (o := .lst [.int (k3 : Int), .int 97, .int 98]) nr1
              have hr1 : (upd H8 r1 (.lst [.int (k3 : Int), .int 97, .int 98])) r1 = some (.lst (bys [k3, 97, 98])) := upd_same
              refine ⟨_, rfl, dg, _, 2, _, rfl, rfl, s8.seq hdg8, rfl, .inl ⟨_, rfl, _, _, rfl, rfl, (by show (3 : Int) ≠ 0; decide), _, _, rfl, rfl, _, rfl, r1, _, rfl, .inl (.inl hr1), fun r2 nr2 => ?_⟩⟩
              have e1 : (1 : Int) + (k2 : Int).fmod 3 = ((1 + c : Nat) : Int) := by omega
              rw [e1, bys_to]
              have s9 := same_upd (o := .lst (bys ([k3, 97, 98].take (1 + c)))) nr2
              refine ⟨D, r2, _, _, rfl, rfl, s9 _ _ (s8 _ _ hD8), upd_same, (by rw [bys_len, bys_len, List.length_take, hz]; simp; omega), fun r3 nr3 => ?_⟩
              refine fin _ r3 _ (((sm07.trans sm78).trans s8).trans s9) (((sm67.trans sm78).trans s8).trans s9) nr3 (fun k m => ?_) (by rw [List.length_take]; simp; omega)
              have := List.mem_of_mem_take m
              simp at this
              omega
          · obtain ⟨H8, eH8, sm78, hD8⟩ : ∃ H8, H8 = H7 ∧ Same H7 H8 ∧ H8 D = some (.lst (bys ks0)) := ⟨H7, rfl, Same.refl H7, hD7⟩
            rw [← eH8]
            have hdg8 := sm78.seq hdg7
            have hc2 := fmod_in (a := (k2 : Int)) (l := 3) (by decide)
            obtain ⟨c, ec⟩ := nat_of hc2.1
            refine ⟨_, rfl, _, rfl, dg, _, 3, _, rfl, rfl, hdg8, rfl, (by show 3 ≤ sizeLine; rw [hz]; decide), fun r1 nr1 => ?_⟩
            have s8 := same_upd (o := .lst [.int (k3 : Int), .int 97, .int 98]) nr1
            have hr1 : (upd H8 r1 (.lst [.int (k3 : Int), .int 97, .int 98])) r1 = some (.lst (bys [k3, 97, 98])) := upd_same
            refine ⟨_, rfl, dg, _, 2, _, rfl, rfl, s8.seq hdg8, rfl, .inl ⟨_, rfl, _, _, rfl, rfl, (by show (3 : Int) ≠ 0; decide), _, _, rfl, rfl, _, rfl, r1, _, rfl, .inl (.inl hr1), fun r2 nr2 => ?_⟩⟩
            have e1 : (1 : Int) + (k2 : Int).fmod 3 = ((1 + c : Nat) : Int) := by omega
            rw [e1, bys_to]
            have s9 := same_upd (o := .lst (bys ([k3, 97, 98].take (1 + c)))) nr2
            refine ⟨D, r2, _, _, rfl, rfl, s9 _ _ (s8 _ _ hD8), upd_same, (by rw [bys_len, bys_len, List.length_take, hz]; simp; omega), fun r3 nr3 => ?_⟩
            refine fin _ r3 _ (((sm07.trans sm78).trans s8).trans s9) (((sm67.trans sm78).trans s8).trans s9) nr3 (fun k m => ?_) (by rw [List.length_take]; simp; omega)
            have := List.mem_of_mem_take m
            simp at this
            omega
    · obtain ⟨y4, y5, D, ks, rfl, sm, hpo', nD, hD, hk, hl⟩ := h
      refine ⟨_, rfl, _, rfl, _, rfl, D, _, rfl, .inl (.inl hD), fun r nr => ?_⟩
      have e9 : cutV (bys ks) none (some (90 : Int)) = bys (ks.take 90) := bys_to ks 90
      rw [e9]
      have s5 := sm.trans (same_upd (o := .lst (bys (ks.take 90))) nr)
      refine ⟨(by show 2 ≤ sizeLine; omega), fun t nt => ?_⟩
      have hpo5 := same_upd (o := .lst (bys (ks.take 90))) nr _ _ hpo'
      have s6 := same_upd (o := .tup [.ref po, .ref r]) nt
      exact q _ t po r old (ks.take 90) (s5.trans s6) (none_back s5 nt) upd_same (s6 _ _ hpo5) (s6 _ _ upd_same) npo (none_back sm nr) hko (fun k m => hk k (List.mem_of_mem_take m)) hlo (by rw [List.length_take]; omega)
end
end K9

namespace K9
open PySem PySem.Spec PyProof.Rows L2
/-! ### _law_any -/
section
variable {P : Program} {w : World} {K : PySem.W.Frag} {mg : Str → Option Value} {base : Heap}
def spAn (K : PySem.W.Frag) : Sp := fun vs H Q _ => ∃ (p : Addr) (xs : List Int) (a size : Nat), vs = [.ref p, .int (a : Int), .int (size : Int)] ∧ SqL K H p (xs.map V.int) ∧ a ≤ 40000 ∧ size ≤ 2000 ∧
  ∀ H' q row n, Same H H' → H q = none → RwAt H' q row → row.length ≤ 20 → fitR size 0 row = some n → n ≤ 900 → Q (.ref q) H'
end
end K9

/-! ### more of what goes on while an exception is handled -/
namespace HY
open PySem PySem.Spec PyProof.Rows HotX
section
variable {prog : Program} {w : World} {A : Around} {E : Value → Shared → Prop} {s : Shared} {x1 : Addr}
theorem list_endP_hot {it l : Addr} {i : Nat} {items : Array Value} {Q : Option Value → Shared → Prop} (hot : HotAt A x1 s.heap) (nx : x1 ≠ it) (hit : s.heap.IsListIter it l i) (hl : s.heap.IsList l items) (hx : items[i]? = none)
    (hQ : ∀ h', Heap.ExtBut it s.heap h' → Q none { s with heap := h' }) : wpAny (model prog w) A (pyNext (.ref it)) Q E s := by
  obtain ⟨o, ho, hc, hd⟩ := id hit
  obtain ⟨ot, hot', _, nt, hdt⟩ := hl
  unfold pyNext
  refine wpAny_bind (wpAny_attempt (wpAny_callSpecial?_slot (name := Str.ofString "__next__") hit.typeIs slot_listiter_next (wpAny_call_entry slot_listiter_next hit.typeIs entry_listiter_next ?_ (args_listiter_next _))))
  show wpAny _ _ (field (.ref it) 0 >>= _) _ _ s; refine wpAny_bind (wpAny_field ho hd (x := .ref l) rfl ?_)
  show wpAny _ _ (if (Value.ref l == Value.none) = true then _ else _) _ _ s; rw [if_neg (show ¬ ((Value.ref l == Value.none) = true) from Bool.false_ne_true)]
  show wpAny _ _ (field (.ref it) 1 >>= _) _ _ s; refine wpAny_bind (wpAny_field ho hd (x := .int i 0) rfl ?_)
  show wpAny _ _ (seqItems? (.ref l) >>= _) _ _ s; refine wpAny_bind (wpAny_seqItems hot' hdt ?_)
  simp only [Int.toNat_natCast, hx]
  refine wpAny_bind (wpAny_rule (wpAny_bind (wpAny_setField ho hd (by simp) ?_)))
  refine stop_hot (x1 := x1) (A := A.in1) (hotUp hot fun u e => (Heap.get?_update_other _ _ (Ne.symm nx)).trans e) fun h' e k ⟨oe, he, hce⟩ => ?_
  refine wpAny_bind (wpAny_isInstance (T := "StopIteration") (b := true) ⟨oe, he, hce⟩ isSubtype_stop (wpAny_pure (hQ _ fun b u hb eb => k b u ((Heap.get?_update_other _ _ (Ne.symm hb)).trans eb))))
theorem ascii_endP_hot {it : Addr} {x : Str} {t : Tok} {i : Nat} {Q : Option Value → Shared → Prop} (hot : HotAt A x1 s.heap) (nx : x1 ≠ it)
    (hit : s.heap.IsStrIter it "str_ascii_iterator" x t i) (hx : x.cps[i]? = none)
    (hQ : ∀ h', Heap.ExtBut it s.heap h' → Q none { s with heap := h' }) : wpAny (model prog w) A (pyNext (.ref it)) Q E s := by
  obtain ⟨o, ho, hc, hd⟩ := id hit
  unfold pyNext
  refine wpAny_bind (wpAny_attempt (wpAny_callSpecial?_slot (name := Str.ofString "__next__") hit.typeIs F.slot_str_ascii_iterator_next
    (wpAny_call_entry F.slot_str_ascii_iterator_next hit.typeIs F.entry_str_ascii_iterator_next ?_ (F.args_str_ascii_iterator_next_1 _))))
  show wpAny _ _ (field (.ref it) 0 >>= _) _ _ s
  refine wpAny_bind (wpAny_field ho hd (x := .str x t) rfl ?_)
  show wpAny _ _ (field (.ref it) 1 >>= _) _ _ s
  refine wpAny_bind (wpAny_field ho hd (x := .int i 0) rfl ?_)
  simp only [Int.toNat_natCast, hx]
  refine wpAny_bind (wpAny_rule (wpAny_bind (wpAny_setField ho hd (by simp) (wpAny_bind (wpAny_letGo ?_)))))
  refine stop_hot (x1 := x1) (A := A.in1) (hotUp hot fun u e => (Heap.get?_update_other _ _ (Ne.symm nx)).trans e) fun h' e k ⟨oe, he, hce⟩ => ?_
  refine wpAny_bind (wpAny_isInstance (T := "StopIteration") (b := true) ⟨oe, he, hce⟩ isSubtype_stop (wpAny_pure (hQ _ fun b u hb eb => k b u ((Heap.get?_update_other _ _ (Ne.symm hb)).trans eb))))
theorem walksL_hot {I ax : Addr} {items : Array Value} (hne : ax ≠ I) (nx : x1 ≠ I) :
    Walks prog w A I [I, ax, x1] [I] items.size (fun i v => items[i]? = some v) (fun i h => h.IsListIter I ax i ∧ h.IsList ax items ∧ HotAt A x1 h) where
  sub := fun b hb => by
    rw [List.mem_singleton.mp hb]
    exact List.mem_cons_self ..
  frame := fun _ _ _ st hk => ⟨st.1.at fun o e => hk I (by simp) o e, st.2.1.at fun o e => hk ax (by simp) o e, hotUp st.2.2 fun o e => hk x1 (by simp) o e⟩
  item := fun i s Q E hi st hQ => by
    refine wpAny_pyNext_list_item st.1 st.2.1 (x := items[i]) (by simp [hi]) fun h' hi' hs' => hQ _ h' s.toks (by simp [hi]) ⟨hi', st.2.1.extBut hs'.extBut hne, hotUp st.2.2 fun o e => hs'.extBut x1 o nx e⟩ fun b o hb e => hs'.extBut b o (fun z => hb (by simp [z])) e
  done := fun s Q E st hQ => list_endP_hot (x1 := x1) st.2.2 nx st.1 st.2.1 (by simp) fun h' he' => hQ h' s.toks fun b o hb e => he' b o (fun z => hb (by simp [z])) e
  self := fun _ _ _ _ st hQ => wpAny_pyIter_listiter st.1 hQ
theorem sum_hot {l : Addr} {its : List Value} {ns : List Int} {Q : Value → Shared → Prop} (hot : HotAt A x1 s.heap) (hl : s.heap.IsList l its.toArray) (hi : IntsAre its ns)
    (h : ∀ h' tk t', (∀ b o, s.heap.get? b = some o → h'.get? b = some o) → Q (.int ns.sum t') { s with heap := h', toks := tk }) : wpAny (model prog w) A (call (.builtin "sum") [.ref l]) Q E s := by
  obtain ⟨xs, e⟩ := hi.allInts.items
  have hn : numsOf (intItems xs).toList = ns := by rw [← e]; exact hi.numsOf
  rw [nums_intItems] at hn
  rw [e] at hl
  have hx := hotLt hot
  refine call_sum_walkG (iter_intList hl fun s₂ e st hfp hlI => ?_)
  subst e
  refine ⟨_, [_, l, x1], _, _, _, _, numAt xs, rfl, walksL_hot (A := A.in1) (x1 := x1) (ax := l) (items := intItems xs) hlI (Nat.ne_of_lt hx), ⟨st.1, st.2, hotUp hot fun o e => Heap.get?_push_of_some _ e⟩, fun b hb => ?_, (fun _ _ => intItems_at), fun h' tk t' hk => ?_⟩
  · rcases List.mem_cons.mp hb with z | hb
    · exact hfp b (by rw [z]; simp)
    rcases List.mem_cons.mp hb with z | hb
    · exact hfp b (by rw [z]; simp)
    · rw [List.mem_singleton.mp hb]
      show x1 < (s.heap.push _).objs.size
      rw [Heap.size_push]
      exact Nat.lt_succ_of_lt hx
  · have := h h' tk t' (fun b o eo => hk b o (fun hm => by
      rw [List.mem_singleton.mp hm] at eo
      exact absurd (Heap.lt_size eo) (Nat.lt_irrefl _)) (Heap.get?_push_of_some _ eo))
    rw [show (intItems xs).size = xs.size by simp [intItems], preSum_eq, List.take_of_length_le (by simp), hn]
    exact this
theorem all_hot {l : Addr} {its : List Value} {bs : List Bool} {Q : Value → Shared → Prop} (hot : HotAt A x1 s.heap) (hl : s.heap.IsList l its.toArray) (hb : its = bs.map Value.bool)
    (h : ∀ h' tk, (∀ b o, s.heap.get? b = some o → h'.get? b = some o) → Q (.bool (bs.all id)) { s with heap := h', toks := tk }) : wpAny (model prog w) A (call (.builtin "all") [.ref l]) Q E s := by
  have hx := hotLt hot
  refine call_all_walk (L2.iter_any hl fun s₂ e2 st hne => ?_)
  subst e2
  refine ⟨_, _, _, _, _, _, _, rfl, walksL_hot (A := A.in1) (x1 := x1) (ax := l) (items := its.toArray) hne (Nat.ne_of_lt hx), ⟨st.1, st.2, hotUp hot fun o e => Heap.get?_push_of_some _ e⟩, L2.truth_bools hb, fun h' tk hk => ?_⟩
  have := h h' tk (fun b o eo => hk b o (fun hmem => by
    rcases List.mem_cons.mp hmem with e1 | hmem
    · exact absurd (e1 ▸ Heap.lt_size eo) (Nat.lt_irrefl _)
    · cases hmem) (Heap.get?_push_of_some _ eo))
  rw [hb, List.size_toArray, List.length_map, L2.all_range]
  exact this
end
end HY
namespace L2H
open PySem PySem.Spec PyProof.Rows L2 HotX HY
section
variable {X : Cx} {CX : CXT} {k : Nat} {f C : Addr} {fd : FuncData} {ps : List Str} {sp : Sp} {E : XK} {x m : Str} {q pos apos : Pos} {e o : Expr} {es : List Expr} {ta : TE} {t : TA}
theorem cr_sumH (hc : HotC X) : CallR X (.builtin "sum") (rSum X.K) := by
  intro pins s σ H vs us Q I r h
  obtain ⟨a, ns, rfl, hs, q⟩ := h
  obtain ⟨its, rv, hl, _⟩ := I.list hs
  rw [Vals.ref1 r]
  obtain ⟨x1, hot⟩ := hc.at I
  exact sum_hot (x1 := x1) hot hl.isList rv.ints fun h' tk t' hk => ⟨.int _, H, I.kept hk, ⟨_, rfl⟩, q⟩
theorem cr_allH (hc : HotC X) : CallR X (.builtin "all") (rAll X.K) := by
  intro pins s σ H vs us Q I r h
  obtain ⟨a, bs, rfl, hs, q⟩ := h
  obtain ⟨its, rv, hl, _⟩ := I.list hs
  rw [Vals.ref1 r]
  obtain ⟨x1, hot⟩ := hc.at I
  exact all_hot (x1 := x1) hot hl.isList rv.bls fun h' tk hk => ⟨.bl _, H, I.kept hk, rfl, q⟩
theorem RoomH.make {k : Nat} {A : Around} (r : RoomH (k + 1) A) (C : Addr) (us : List Value) (kw : List (Str × Value)) : RoomH k (A.under (.builtin "type.__call__" ⟨.ref C :: us, kw⟩)) :=
  ⟨by have := r.dp; rw [make_depth]; omega, by have := r.un; rw [make_units]; omega⟩
theorem run_makeH {pins : List (Addr × Obj)} {σ : St} {H : Hp} {s : Shared} {Q : VK} {us : List Value} {vs : List V} (M : Mk X.K C f) (F : FnH X.prog X.w X.K X.mg X.base CX k f fd ps sp) (hr : RoomH (k + 1) X.A) (hc : HotC X) (hb : Binds X.K fd ps [])
    (hx : Passes CX X E) (I : Inv X pins σ H s) (r : Vals vs us)
    (h : ∀ x dx, H x = none → H dx = none → dx ≠ x → sp (.ref x :: vs) (upd (upd H dx (.own x)) x (.ins C dx [])) (fun v H2 => v = .non ∧ Q (.ref x) H2) E) :
    wpAny (model X.prog X.w) X.A (call (.ref C) us) (EP X pins σ Q) X.xe s := by
  obtain ⟨p, hot, hp⟩ := hc
  have hq := h (s.heap.objs.size + 1) s.heap.objs.size (I.hok.fresh (Nat.le_succ _)) (I.hok.fresh (Nat.le_refl _)) (Nat.ne_of_lt (Nat.lt_succ_self _))
  have I2 := Inv.made (C := C) I
  have r2 : Vals (V.ref (s.heap.objs.size + 1) :: vs) (Value.ref (s.heap.objs.size + 1) :: us) := .cons rfl r
  have hl : (Value.ref (s.heap.objs.size + 1) :: us).length = ps.length := by
    have e := r2.length
    rw [F.len _ _ _ _ hq] at e
    exact e.symm
  have P1 := I2.pin p (List.mem_append_left _ hp)
  have b := hb _ (Value.ref (s.heap.objs.size + 1) :: us) I2.kIn (by rw [List.append_nil]; exact hl)
  rw [List.append_nil] at b
  refine wpAny_call (make_map (f := f) I.kIn M.makes M.init (beq_iff_eq.mp M.fn) (codeAny_mono (F.run _ X.stack _ _ ⟨Value.ref (s.heap.objs.size + 1) :: us, []⟩ (Value.ref (s.heap.objs.size + 1) :: us) _ _ E p (hr.make C us [])
    hot ⟨P1.1, P1.2.1, fun hm => (List.mem_cons.mp (I2.stkSub p.1 hm)).elim P1.2.2.1 P1.2.2.2.1, P1.2.2.2.2⟩ (I2.env0.make C us []) b r2 hq) fun r s' hq' => ?_))
  cases r with
  | error e => exact hx pins σ _ _ e s' I2 hq'
  | ok fl =>
    cases fl with
    | ret u =>
      obtain ⟨v, H', I3, rv, ev, q3⟩ := I2.after hq'
      subst ev
      exact ⟨rv, ⟨V.ref (s.heap.objs.size + 1), H', I3, rfl, q3⟩⟩
    | next => exact False.elim hq'
    | brk => exact False.elim hq'
    | cont => exact False.elim hq'
theorem pe_makeH (M : Mk X.K C f) (F : FnH X.prog X.w X.K X.mg X.base CX k f fd ps sp) (hr : RoomH (k + 1) X.A) (hc : HotC X) (hg : Gl X x) (hm : X.mg x = some (.ref C)) (hb : Binds X.K fd ps []) (hx : Passes CX X E)
    (ha : PA X (e :: es) t) (hdb : (x == ("__debug__" : Str)) = false := by decide) (he : starEach (e :: es) X.env = (false, eval e X.env) :: starEach es X.env := by rfl) (hpl : (backTo pos (starEach es X.env)).any (·.1) = false := by rfl) :
    PE X (.Call (.Name x q) (e :: es) [] pos) (tMake C sp [] E t) := by
  refine ⟨fun pins s σ H Q I h => ?_⟩
  refine wpAny_Call_Name_kw (ld_glob I hg hm ?_ hdb)
  refine PySem.W.callWith_K (h₀ := X.base) I.ok.mod.kin M.kp (thn (ha.run pos pins s σ H _ I h) fun us s1 ⟨vs, H1, I1, r, q⟩ => ⟨I1.kIn, ?_⟩) he hpl
  exact run_makeH M F hr hc hb hx I1 r fun x dx a b c => by
    have := q x dx a b c
    rw [List.append_nil] at this
    exact this
/-- a while whose test is false at once -/
theorem ps_whileNo {c : Expr} {body : List Stmt} {tc : TT} (hp : PassesOwn (model X.prog X.w) X.A X.env X.xe) (hc : PT X c tc) : PS X (.While c body [] pos) (fun D σ H => tc σ H fun b H1 => b = false ∧ D.nx σ H1) := by
  refine ⟨fun pins s σ H D I h => ?_⟩
  refine wpAny_While (codeAny_whileLoop (fun n s' => n = 0 ∧ Inv X pins σ H s') ?_ 0 ⟨rfl, I⟩)
  rintro n s1 ⟨rfl, I1⟩
  refine wpAny_passesOwn hp (thn (hc.run pins s1 σ H _ I1 h) fun b s2 ⟨H2, I2, eb, q2⟩ => ?_)
  subst eb
  rw [if_neg Bool.false_ne_true]
  exact wpAny_execs_nil ⟨σ, H2, I2, q2⟩
theorem pe_never {e : Expr} : PE X e (fun _ _ _ => False) := ⟨fun _ _ _ _ _ _ h => h.elim⟩
end
end L2H

namespace L2H
open PySem PySem.Spec PyProof.Rows L2 HotX HY
/-! ### iterators and comprehensions while an exception is handled -/
structure TurnG (P : Program) (w : World) (K : PySem.W.Frag) (tg : Expr) (J : It) (fp : List Addr) (it : Addr) (tn : Nat → Heap → Prop) : Prop where
  mem : it ∈ fp
  obj : ∀ i h, tn i h → ∀ b ∈ fp, ∃ o, h.get? b = some o ∧ ∀ v, o.data ≠ .cell v
  keep : ∀ i h h', tn i h → (∀ b ∈ fp, ∀ o, h.get? b = some o → h'.get? b = some o) → tn i h'
  item : ∀ (X : Cx), X.prog = P → X.w = w → X.K = K → ∀ (x1 : Addr) {s : Shared}, HotAt X.A x1 s.heap → (∀ b ∈ fp, x1 ≠ b) → ∀ (i : Nat) (pins : List (Addr × Obj)) (s' : Shared) (σ : St) (H : Hp) (E : Value → Shared → Prop), s' = s → Inv X pins σ H s' → (∀ b ∈ fp, FpOk X pins H b) → tn i s'.heap → J.go i H →
    wpAny (model P w) X.A (pyNext (.ref it)) (fun r s1 => ∃ u, r = some u ∧
      wpAny (model P w) X.A (letOwnedTupleGo tg (.ref it) u) (fun _ s2 => ∃ x H', Inv X pins σ H' s2 ∧ RelV x u ∧ J.yld i H x H' ∧ tn (i + 1) s2.heap ∧ ∀ b ∈ fp, H' b = none) E s1) E s'
  done : ∀ (X : Cx), X.prog = P → X.w = w → X.K = K → ∀ (x1 : Addr) {s : Shared}, HotAt X.A x1 s.heap → (∀ b ∈ fp, x1 ≠ b) → ∀ (i : Nat) (pins : List (Addr × Obj)) (s' : Shared) (σ : St) (H : Hp) (E : Value → Shared → Prop), s' = s → Inv X pins σ H s' → (∀ b ∈ fp, FpOk X pins H b) → tn i s'.heap → J.stop i H →
    wpAny (model P w) X.A (pyNext (.ref it)) (fun r s1 => r = none ∧ Inv X pins σ H s1) E s'
  self : ∀ (A : Around) (i : Nat) (s : Shared) (Q : Value → Shared → Prop) (E : Value → Shared → Prop), tn i s.heap → Q (.ref it) s → wpAny (model P w) A (pyIter (.ref it)) Q E s
def PIEG (X : Cx) (pins : List (Addr × Obj)) (σ : St) (tg : Expr) (R : It → Hp → Prop) (itv : Value) (s2 : Shared) : Prop :=
  ∃ (it : Addr) (fp : List Addr) (tn : Nat → Heap → Prop) (J : It) (H' : Hp), itv = .ref it ∧ Inv X pins σ H' s2 ∧ TurnG X.prog X.w X.K tg J fp it tn ∧ tn 0 s2.heap ∧ (∀ b ∈ fp, FpOk X pins H' b) ∧ R J H'
structure PIG (X : Cx) (tg iter : Expr) (wi : TI) : Prop where
  run : ∀ (pins : List (Addr × Obj)) (s : Shared) (σ : St) (H : Hp) (R : It → Hp → Prop), Inv X pins σ H s → wi σ H R →
    wpAny (model X.prog X.w) X.A (eval iter X.env) (fun v s1 => wpAny (model X.prog X.w) X.A (pyIter v) (PIEG X pins σ tg R) X.xe s1) X.xe s
/-- a target, the handled exception being at hand -/
structure PGG (X : Cx) (tg : Expr) (g : TG) : Prop where
  run : ∀ (pins : List (Addr × Obj)) (s : Shared) (σ : St) (H : Hp) (v : V) (u : Value) (Q : St → Hp → Prop), Inv X pins σ H s → (∃ x1, HotAt X.A x1 s.heap) → RelV v u → g v σ H Q → wpAny (model X.prog X.w) X.A (assign tg X.env u) (fun _ s' => ∃ σ' H', Inv X pins σ' H' s' ∧ Q σ' H') X.xe s
theorem pgg_of {X : Cx} {tg : Expr} {g : TG} (h : PG X tg g) : PGG X tg g := ⟨fun pins s σ H v u Q I _ r q => h.run pins s σ H v u Q I r q⟩
theorem pgg_never {X : Cx} {tg : Expr} : PGG X tg (fun _ _ _ _ => False) := ⟨fun _ _ _ _ _ _ _ _ _ _ q => q.elim⟩
theorem pgg_tup {X : Cx} {es : List Expr} {k : Nat} {t : TGs} {n : Nat} {pos : Pos} (h : PGs X es t)
    (hn : (assignEach es X.env).length = n := by rfl) (hst : (assignEach es X.env).findIdx? (·.1) = none := by rfl) : PGG X (.Tuple es k pos) (gTup X.K n t) := by
  refine ⟨fun pins s σ H v u Q I ⟨x1, hot⟩ r hw => ?_⟩
  obtain ⟨a, xs, e1, hq, hl, hw⟩ := hw
  subst e1
  cases r
  obtain ⟨its, rv, ht, hz⟩ := I.tuple hq
  refine tup_asg_hot (x1 := x1) hot ht (by simp [hn, ← hl, rv.length]) hst fun h' hx => ?_
  exact h.run pins _ σ H xs _ Q (I.kept (t' := s.toks) fun b o e => hx b o (Nat.ne_of_lt (Heap.lt_size e)) e) (by simpa using rv) hw
section
variable {X : Cx}
theorem lc_coreG {pins : List (Addr × Obj)} {s : Shared} {σ : St} {H : Hp} {Q : VK} {elt tg iter : Expr} {ifs : List Expr} {scope : Scope} {own : List (Str × Nat)} {pos pos' : Pos} {wi : TI} {g : TG} {tt : TT} {te : TE} {use : Option (Value → Sem Unit)} {Qf : Value → Shared → Prop}
    (hc : HotC X) (hN : X.N.Nodup) (I : Inv X pins σ H s) (hi : PIG X tg iter wi) (ok : BlkOk X.N X.env.scope scope own)
    (hg : ∀ (s : Shared) (H : Hp) (C : Addr) (cl : List (Str × Addr)) (fp : List Addr), PGG (X.blk s H scope (compEnvC scope cl C X.env) fp) tg g) (ht : ∀ (s : Shared) (H : Hp) (C : Addr) (cl : List (Str × Addr)) (fp : List Addr), PTs (X.blk s H scope (compEnvC scope cl C X.env) fp) ifs tt)
    (he : ∀ (s : Shared) (H : Hp) (C : Addr) (cl : List (Str × Addr)) (fp : List Addr), PE (X.blk s H scope (compEnvC scope cl C X.env) fp) elt te) (hs : ∀ x, foldedSetIterable iter X.env x = pure x)
    (h : tLc wi g tt te (own.map (·.2)) σ H Q)
    (hRR : ∀ D C s' m H', Inv X pins σ H' s' → Q (.ref D) H' → s'.heap.Ns C m → FpOk X pins H' C → compPost (model X.prog X.w) X.A X.xe use Qf (.ref D) C (.ok .next) s') :
    wpAny (model X.prog X.w) X.A (comprehension (.ListComp elt [⟨tg, iter, ifs, 0⟩] scope pos) scope X.env pos' (newList []) false (eval iter X.env) use) Qf X.xe s := by
  have hfree : ∀ y ∈ scope.names, y.2 = .free → ∃ c, X.env.cells.lookup y.1 = some c := fun y hy e => by
    rcases ok.free y hy e with k | k
    · exact I.ok.has _ (.inl k)
    · exact I.ok.has _ (.inr k)
  refine wpAny_comprehension_free (use := use) rfl hs (closure_ok hfree) ok.kind (fun y hy e => by rw [ok.uniq y hy, e])
    (thn (hi.run pins s σ H _ I h) fun xv s1 hx => thn hx fun itv s2 h2 => ?_)
  obtain ⟨it, fp, tn, J, H2, e, I2, T, st2, f2, q⟩ := h2
  subst e
  refine wpAny_newObj_type (newEnv_comp ?_) (by show 0 ≤ sizeLine; decide)
  generalize hD : s2.heap.objs.size = D
  have hDn : H2 D = none := I2.hok.fresh (Nat.le_of_eq hD)
  obtain ⟨W, ⟨m0, w0⟩, turn⟩ := q D hDn
  -- the new list
  generalize hs3 : ({ s2 with heap := s2.heap.push { cls := .type "list", data := .seq ([] : List Value).toArray } } : Shared) = s3
  have I3 : Inv X pins σ (upd H2 D (.lst [])) s3 := by
    rw [← hs3]
    refine I2.laid (t' := s2.toks) (fun b o e => Heap.get?_push_of_some _ e) (Nat.le_of_eq hD) ⟨Nat.zero_le _, [], 0, .nil, ?_⟩
    rw [← hD]
    exact Heap.get?_push_size _ rfl
  have h3 : s3.heap = s2.heap.push { cls := .type "list", data := .seq ([] : List Value).toArray } := by rw [← hs3]
  have sz : ∀ b ∈ fp, b < s2.heap.objs.size := fun b hb => by
    obtain ⟨o, e, _⟩ := T.obj _ _ st2 b hb
    exact Heap.lt_size e
  have f3 : ∀ b ∈ fp, FpOk X pins (upd H2 D (.lst [])) b ∧ b < s3.heap.objs.size := fun b hb => by
    have hlt := sz b hb
    refine ⟨⟨?_, (f2 b hb).2⟩, by rw [h3, Heap.size_push]; exact Nat.lt_succ_of_lt hlt⟩
    rw [upd_ne (by rw [← hD]; exact Nat.ne_of_lt hlt)]
    exact (f2 b hb).1
  have st3 : tn 0 s3.heap := T.keep _ _ _ st2 fun b _ o e => by rw [h3]; exact Heap.get?_push_of_some _ e
  have I4 := block_start I3 ok hN f3
  have pg := hg s3 (upd H2 D (.lst [])) s3.heap.objs.size (cellsFrom (s3.heap.objs.size + 1) scope.names (cloFrom X.env.cells scope.names [])) fp
  have pt := ht s3 (upd H2 D (.lst [])) s3.heap.objs.size (cellsFrom (s3.heap.objs.size + 1) scope.names (cloFrom X.env.cells scope.names [])) fp
  have pe := he s3 (upd H2 D (.lst [])) s3.heap.objs.size (cellsFrom (s3.heap.objs.size + 1) scope.names (cloFrom X.env.cells scope.names [])) fp
  show codeAny _ _ (.compStart (.ListComp elt [⟨tg, iter, ifs, 0⟩] scope pos) 0 (.ref it) (.ref D) (compEnvC scope (cellsFrom (s3.heap.objs.size + 1) scope.names (cloFrom X.env.cells scope.names [])) s3.heap.objs.size X.env)) (compPost (model X.prog X.w) X.A X.xe use Qf (.ref D) s3.heap.objs.size) { s3 with heap := pushCells (s3.heap.push { cls := .type "dict", data := .dict #[] }) scope.names }
  have nfp : ∀ b ∈ fp, (upd H2 D (.lst [])) b = none := fun b hb => (f3 b hb).1.1
  generalize hce : compEnvC scope (cellsFrom (s3.heap.objs.size + 1) scope.names (cloFrom X.env.cells scope.names [])) s3.heap.objs.size X.env = ce at I4 pg pt pe ⊢
  have cL : ce.locals = s3.heap.objs.size := by subst hce; rfl
  generalize hH3 : upd H2 D (.lst []) = H3 at I3 I4 pg pt pe w0 nfp f3
  generalize hs4 : ({ s3 with heap := pushCells (s3.heap.push { cls := .type "dict", data := .dict #[] }) scope.names } : Shared) = s4 at I4 ⊢
  have st4 : tn 0 s4.heap := T.keep _ _ _ st3 fun b _ o e => by rw [← hs4]; exact pushCells_keeps _ _ _ _ (Heap.get?_push_of_some _ e)
  have stat : ∀ {σ' : St} {H' : Hp} {s' : Shared}, Inv (X.blk s3 H3 scope ce fp) [] σ' H' s' → (∀ b ∈ fp, H' b = none) → ∀ b ∈ fp, FpOk (X.blk s3 H3 scope ce fp) [] H' b := fun {σ' H' s'} I' hn b hb =>
    ⟨hn b hb, (I'.ok.exf b hb).1, I'.ok.exfs b hb, .inl hb, fun x c e => (I'.ok.exf b hb).2 x c e, fun p hp => absurd (show p ∈ ([] : List (Addr × Obj)) ++ [] from hp) (by simp)⟩
  have loop : codeAny (model X.prog X.w) X.A (.compLoop (.ListComp elt [⟨tg, iter, ifs, 0⟩] scope pos) 0 (.ref it) (.ref D) ce) (compPost (model X.prog X.w) X.A X.xe use Qf (.ref D) s3.heap.objs.size) s4 := by
    refine compLoop_any (fun n s' => ∃ i H', Inv (X.blk s3 H3 scope ce fp) [] (wipe σ (own.map (·.2))) H' s' ∧ tn i s'.heap ∧ (∀ b ∈ fp, H' b = none) ∧ W i n H') ?_ m0 ⟨0, H3, I4, st4, nfp, w0⟩
    rintro n s5 ⟨i, H5, I5, st5, n5, w5⟩
    have I5o : Inv X pins σ H5 s5 := I3.call' (ch := fp) I5.os I5.base I5.hok I5.bare fun b hb => ⟨(f3 b hb).1.2.2.2.1, (f3 b hb).1.2.1, (f3 b hb).1.2.2.2.2.1, (f3 b hb).1.2.2.2.2.2⟩
    obtain ⟨p1, ⟨hh1, v1, ev1, cv1⟩, hp1⟩ := id hc
    have hot5 : HotX.HotAt X.A p1.1 s5.heap := ⟨hh1, p1.2, v1, (I5o.pin p1 (List.mem_append_left _ hp1)).1, ev1, cv1⟩
    have ne5 : ∀ b ∈ fp, p1.1 ≠ b := fun b hb => (f3 b hb).1.2.2.2.2.2 p1 (List.mem_append_left _ hp1)
    rcases turn i n H5 w5 with ⟨stop, qq⟩ | ⟨go, Nx, hNx, step⟩
    · have td := T.done (X.blk s3 H3 scope ce fp) rfl rfl rfl p1.1 hot5 ne5 i [] s5 _ H5 (fun _ _ => False) rfl I5 (stat I5 n5) st5 stop
      refine thnF td fun r s6 ⟨hr, I6⟩ => ?_
      subst hr
      -- back in the def's context
      have I7 : Inv X pins σ H5 s6 := I3.call' (ch := fp) I6.os I6.base I6.hok I6.bare fun b hb => ⟨(f3 b hb).1.2.2.2.1, (f3 b hb).1.2.1, (f3 b hb).1.2.2.2.2.1, (f3 b hb).1.2.2.2.2.2⟩
      have nC : H5 s3.heap.objs.size = none := by
        have z : H5 ce.locals = none := I6.free
        rw [cL] at z
        exact z
      obtain ⟨m, hn, _⟩ := I6.loc
      have hn : s6.heap.Ns ce.locals m := hn
      rw [cL] at hn
      exact hRR D s3.heap.objs.size s6 m H5 I7 qq hn (I3.fpOk (Nat.le_refl _) nC)
    · have ti := T.item (X.blk s3 H3 scope ce fp) rfl rfl rfl p1.1 hot5 ne5 i [] s5 _ H5 (fun _ _ => False) rfl I5 (stat I5 n5) st5 go
      refine thnF ti fun r s6 ⟨u, hr, h6⟩ => ?_
      subst hr
      refine thnF h6 fun _ s7 ⟨x, H7, I7, r7, y7, st7, n7⟩ => ?_
      have I7' := I7.pinned (stat I7 n7) (T.obj _ _ st7)
      have I7o : Inv X pins σ H7 s7 := I3.call' (ch := fp) I7.os I7.base I7.hok I7.bare fun b hb => ⟨(f3 b hb).1.2.2.2.1, (f3 b hb).1.2.1, (f3 b hb).1.2.2.2.2.1, (f3 b hb).1.2.2.2.2.2⟩
      have hot7 : HotX.HotAt X.A p1.1 s7.heap := ⟨hh1, p1.2, v1, (I7o.pin p1 (List.mem_append_left _ hp1)).1, ev1, cv1⟩
      refine thnF (pg.run _ s7 _ H7 x u _ I7' ⟨p1.1, hot7⟩ r7 (step x H7 y7)) fun _ s8 ⟨σ8, H8, I8, hw8, q8⟩ => ?_
      refine thnF (pt.run _ s8 σ8 H8 _ I8 q8) fun b s9 ⟨H9, I9, q9⟩ => ?_
      -- the turn's end
      have fin : ∀ {s' : Shared} {H' : Hp}, Inv (X.blk s3 H3 scope ce fp) ([] ++ pinsAt fp s7.heap) σ8 H' s' → Nx H' → ∃ m, m < n ∧ ∃ i H', Inv (X.blk s3 H3 scope ce fp) [] (wipe σ (own.map (·.2))) H' s' ∧ tn i s'.heap ∧ (∀ b ∈ fp, H' b = none) ∧ W i m H' := fun {s' H'} I' nx => by
        obtain ⟨m', hm, w'⟩ := hNx H' nx
        have pin' : ∀ b ∈ fp, ∀ o, s7.heap.get? b = some o → s'.heap.get? b = some o ∧ H' b = none := fun b hb o e =>
          let z := I'.pin (b, o) (List.mem_append_right _ (List.mem_append_right _ (mem_pinsAt hb e)))
          ⟨z.1, z.2.1⟩
        have hl : (wipe σ (own.map (·.2))).length = σ8.length := by rw [← hw8, wipe_length]
        refine ⟨m', hm, i + 1, H', (I'.unpinned (pins := [])).weak hl (fun j v e => ?_), T.keep _ _ _ st7 fun b hb o e => (pin' b hb o e).1, fun b hb => ?_, w'⟩
        · rw [← hw8] at e
          exact (wipe_some e).1
        · obtain ⟨o, e, _⟩ := T.obj _ _ st7 b hb
          exact (pin' b hb o e).2
      cases b with
      | false =>
        simp only [Bool.false_eq_true, if_false] at q9 ⊢
        exact fin I9 q9
      | true =>
        simp only [if_true] at q9 ⊢
        refine thnF (pe.run _ s9 σ8 H9 _ I9 q9) fun z s10 ⟨yv, H10, I10, r10, acc, hD10, hz10, nx⟩ => ?_
        exact app_ok (X := X.blk s3 H3 scope ce fp) I10 hD10 hz10 r10 fun s11 I11 => fin I11 nx
  exact codeAny_compStart_list loop (T.self X.A 0 _ _ _ st4 loop)
theorem pe_lcG {elt tg iter : Expr} {ifs : List Expr} {scope : Scope} {own : List (Str × Nat)} {pos : Pos} {wi : TI} {g : TG} {tt : TT} {te : TE} (hc : HotC X) (hN : X.N.Nodup) (hi : PIG X tg iter wi) (ok : BlkOk X.N X.env.scope scope own)
    (hg : ∀ (s : Shared) (H : Hp) (C : Addr) (cl : List (Str × Addr)) (fp : List Addr), PGG (X.blk s H scope (compEnvC scope cl C X.env) fp) tg g) (ht : ∀ (s : Shared) (H : Hp) (C : Addr) (cl : List (Str × Addr)) (fp : List Addr), PTs (X.blk s H scope (compEnvC scope cl C X.env) fp) ifs tt)
    (he : ∀ (s : Shared) (H : Hp) (C : Addr) (cl : List (Str × Addr)) (fp : List Addr), PE (X.blk s H scope (compEnvC scope cl C X.env) fp) elt te) (hs : ∀ x, foldedSetIterable iter X.env x = pure x := by intro _; rfl) :
    PE X (.ListComp elt [⟨tg, iter, ifs, 0⟩] scope pos) (tLc wi g tt te (own.map (·.2))) := by
  refine ⟨fun pins s σ H Q I h => ?_⟩
  rw [eval_ListComp]
  refine lc_coreG hc hN I hi ok hg ht he hs h fun D C s' m H' I' q hn f => ⟨m, hn, fun h'' sb => ?_⟩
  obtain ⟨f0, f1, f2, f3, f4, f5⟩ := f
  exact ⟨.ref D, H', I'.turned (t' := s'.toks) (fun b o hb e => (sb.2 b hb).trans e) f0 f1 f3 f4 f5, rfl, q⟩
/-- name = [..] on one line, the name a local -/
theorem ps_setLcG {i : Nat} {y : Str} {py : Pos} {elt tg iter : Expr} {ifs : List Expr} {scope : Scope} {own : List (Str × Nat)} {pos spos : Pos} {wi : TI} {g : TG} {tt : TT} {te : TE} (hc : HotC X) (hN : X.N.Nodup) (hy : X.N[i]? = some y) (hyl : X.env.scope.names.lookup y = some .local)
    (hsw : swapsWith (.ListComp elt [⟨tg, iter, ifs, 0⟩] scope pos) (some (.Name y py)) spos.line X.env = pure true) (hi : PIG X tg iter wi) (ok : BlkOk X.N X.env.scope scope own)
    (hg : ∀ (s : Shared) (H : Hp) (C : Addr) (cl : List (Str × Addr)) (fp : List Addr), PGG (X.blk s H scope (compEnvC scope cl C X.env) fp) tg g) (ht : ∀ (s : Shared) (H : Hp) (C : Addr) (cl : List (Str × Addr)) (fp : List Addr), PTs (X.blk s H scope (compEnvC scope cl C X.env) fp) ifs tt)
    (he : ∀ (s : Shared) (H : Hp) (C : Addr) (cl : List (Str × Addr)) (fp : List Addr), PE (X.blk s H scope (compEnvC scope cl C X.env) fp) elt te) (hs : ∀ x, foldedSetIterable iter X.env x = pure x := by intro _; rfl) :
    PS X (.Assign [.Name y py] (.ListComp elt [⟨tg, iter, ifs, 0⟩] scope pos) spos) (tAsg (tLc wi g tt te (own.map (·.2))) (gName i)) := by
  refine ⟨fun pins s σ H D I h => ?_⟩
  rw [exec_Assign_Name_used _ _ _ _ hsw]
  refine wpAny_bind (wpAny_standAt (wpAny_bind ?_))
  show wpAny _ X.A (do let _ ← comprehension (.ListComp elt [⟨tg, iter, ifs, 0⟩] scope pos) scope X.env (firstIterPos [⟨tg, iter, ifs, 0⟩] pos) (newList []) false (eval iter X.env) (some (assign (.Name y py) X.env))) _ _ s
  have h : tLc wi g tt te (own.map (·.2)) σ H (fun x H1 => gName i x σ H1 D.nx) := h
  refine wpAny_bind (thn (lc_coreG (Qf := fun _ s' => SP X pins D .next s') hc hN I hi ok hg ht he hs h fun L C s' m H' I' q hn f => ?_) fun _ s' hq => wpAny_pure (wpAny_pure hq))
  show wpAny _ _ (assign (.Name y py) X.env (.ref L)) _ _ _
  refine wpAny_assign_Name (store_ok2 (v := V.ref L) I' hN hy (.inl hyl) rfl (fun s2 I2 ⟨a, sb, ha⟩ => ?_) (.inr hyl))
  obtain ⟨f0, f1, f2, f3, f4, f5⟩ := f
  have haC : C ≠ a := by
    rcases ha with z | z
    · rw [z]; exact f1
    · exact fun e => f4 y a z e.symm
  refine ⟨m, hn.sameBut sb haC, fun h3 sb3 => ?_⟩
  exact ⟨_, H', I2.turned (t' := s2.toks) (fun b o hb e => (sb3.2 b hb).trans e) f0 f1 f3 f4 f5, q⟩
end
/-- nothing comes: the list at a is empty -/
def It0 (K : PySem.W.Frag) (a : Addr) : It := ⟨fun _ _ => False, fun _ _ _ _ => False, fun _ H => SqL K H a []⟩
def ItN : It := ⟨fun _ _ => False, fun _ _ _ _ => False, fun _ _ => True⟩
theorem turnG_list0 {P : Program} {w : World} {K : PySem.W.Frag} {tg : Expr} (a it : Addr) : TurnG P w K tg (It0 K a) [it] it (fun i h => h.IsListIter it a i) where
  mem := by simp
  obj := fun i h st b hb => by
    have e : b = it := by simpa using hb
    subst e
    obtain ⟨o, e, c, d⟩ := st
    exact ⟨o, e, fun v z => by rw [d] at z; cases z⟩
  keep := fun i h h' st k => st.at fun o e => k it (by simp) o e
  item := fun X _ _ _ x1 s _ _ i pins s' σ H E _ _ _ _ hg => hg.elim
  done := by
    intro X hP hw hK x1 s hot hne i pins s' σ H E es I hf st hg
    subst hP hw hK es
    obtain ⟨its, rv, p, hz⟩ := I.list hg
    obtain ⟨f0, f1, f2, f3, f4, f5⟩ := hf it (by simp)
    cases rv
    exact list_endP_hot (x1 := x1) hot (hne it (by simp)) st p.isList (by simp) fun h' eb => ⟨rfl, I.turned (t' := s'.toks) (fun b o hb e => eb b o hb e) f0 f1 f3 f4 f5⟩
  self := fun _ _ _ _ _ st h => wpAny_pyIter_listiter st h
theorem turnG_str0 {P : Program} {w : World} {K : PySem.W.Frag} {tg : Expr} (it : Addr) (t : Tok) : TurnG P w K tg ItN [it] it (fun i h => h.IsStrIter it "str_ascii_iterator" Str.empty t i) where
  mem := by simp
  obj := fun i h st b hb => by
    have e : b = it := by simpa using hb
    subst e
    obtain ⟨o, e, c, d⟩ := st
    exact ⟨o, e, fun v z => by rw [d] at z; cases z⟩
  keep := fun i h h' st k => let ⟨o, ho, r⟩ := st; ⟨o, k it (by simp) o ho, r⟩
  item := fun X _ _ _ x1 s _ _ i pins s' σ H E _ _ _ _ hg => hg.elim
  done := by
    intro X hP hw hK x1 s hot hne i pins s' σ H E es I hf st hg
    subst hP hw hK es
    obtain ⟨f0, f1, f2, f3, f4, f5⟩ := hf it (by simp)
    exact ascii_endP_hot (x1 := x1) hot (hne it (by simp)) st (Array.getElem?_eq_none (Nat.zero_le _)) fun h' eb => ⟨rfl, I.turned (t' := s'.toks) (fun b o hb e => eb b o hb e) f0 f1 f3 f4 f5⟩
  self := fun _ _ _ _ _ st h => wpAny_pyIter_striter_ascii st h
theorem turnG_enumB {P : Program} {w : World} {K : PySem.W.Frag} {elts : List Expr} {kk : Nat} {tpos : Pos} (x : Array UInt8) (t : Tok) (e it : Addr) :
    TurnG P w K (.Tuple elts kk tpos) (ItEB x) [e, it] e (fun i h => (∃ old, IsEnum h e it ((i : Nat) : Int) old) ∧ PySem.W.KBw.IsBytesIter h it x t i ∧ e ≠ it) where
  mem := by simp
  obj := fun i h st b hb => enumB_obj (a := e) st b hb
  keep := fun i h h' st k => enumB_keep st k
  item := by
    intro X hP hw hK x1 s hot hne i pins s' σ H E es I hf st hg
    subst hP hw hK es
    have nx : x1 ≠ it := hne it (by simp)
    have nx2 : e ≠ x1 := Ne.symm (hne e (by simp))
    exact enumB_item (EBX.draws_bytH (A := X.A.in1) (x1 := x1) it nx x t) (fun _ z => z.1) ⟨st.2.1, hot⟩ (by simp [st.2.2, nx2]) I hf st hg
  done := by
    intro X hP hw hK x1 s hot hne' i pins s' σ H E es I hf st hg
    subst hP hw hK es
    obtain ⟨⟨old, he⟩, hit, hne⟩ := st
    obtain ⟨f0, f1, f2, f3, f4, f5⟩ := hf it (by simp)
    have nx : x1 ≠ it := hne' it (by simp)
    have hg' : x.size ≤ i := hg
    have hT : s'.TypeIs (.ref e) "enumerate" := ⟨_, he, rfl⟩
    unfold pyNext
    refine wpAny_bind (wpAny_attempt (wpAny_callSpecial?_slot (name := Str.ofString "__next__") hT F.slot_enumerate_next (wpAny_call_entry F.slot_enumerate_next hT F.entry_enumerate_next ?_ (F.args_enumerate_next_1 _))))
    show wpAny _ _ (field (.ref e) 2 >>= _) _ _ _
    refine wpAny_bind (wpAny_field he rfl (x := .ref it) rfl (wpAny_bind (EBX.nx_end_hot (A := X.A.in1) (x1 := x1) hot nx hit (Array.getElem?_eq_none hg') fun h' z eb ⟨o, ho, hcl⟩ => ?_)))
    exact wpAny_bind (wpAny_isInstance (T := "StopIteration") (b := true) ⟨o, ho, hcl⟩ isSubtype_stop (wpAny_pure ⟨rfl, I.turned (t' := s'.toks) (fun b o hb q => eb b o hb q) f0 f1 f3 f4 f5⟩))
  self := fun A i s Q E st h => let ⟨⟨_, he⟩, _⟩ := st; wpAny_pyIter_enum he h
section
variable {X : Cx} {tg : Expr}
theorem pie_oneG {pins : List (Addr × Obj)} {σ : St} {H : Hp} {s : Shared} {R : It → Hp → Prop} {J : It} {tn : Nat → Heap → Prop} {tk : Nat} (I : Inv X pins σ H s) (o : Obj)
    (T : TurnG X.prog X.w X.K tg J [s.heap.objs.size] s.heap.objs.size tn) (st : tn 0 (s.heap.push o)) (q : R J H) : PIEG X pins σ tg R (.ref s.heap.objs.size) { s with heap := s.heap.push o, toks := tk } := by
  refine ⟨s.heap.objs.size, [s.heap.objs.size], tn, J, H, rfl, I.kept fun b ob e => Heap.get?_push_of_some _ e, T, st, fun b hb => ?_, q⟩
  have e : b = s.heap.objs.size := by simpa using hb
  subst e
  exact I.fpOk (Nat.le_refl _) (I.hok.fresh (Nat.le_refl _))
def iList0 (K : PySem.W.Frag) (tl : TE) : TI := fun σ H R => tl σ H fun x H1 => ∃ a, x = .ref a ∧ SqL K H1 a [] ∧ R (It0 K a) H1
theorem pig_list0 {l : Expr} {tl : TE} (hl : PE X l tl) : PIG X tg l (iList0 X.K tl) := by
  refine ⟨fun pins s σ H R I h => ?_⟩
  refine thn (hl.run pins s σ H _ I h) fun v s1 ⟨x, H1, I1, r1, q1⟩ => ?_
  obtain ⟨a, e, hq, q⟩ := q1
  subst e
  cases r1
  obtain ⟨its, rv, p, hz⟩ := I1.list hq
  exact wpAny_pyIter_list p.isList (pie_oneG (tk := s1.toks) I1 _ (turnG_list0 a _) ⟨_, Heap.get?_push_size _ rfl, rfl, rfl⟩ q)
def iStr0 (te : TE) : TI := fun σ H R => te σ H fun v H1 => v = .str Str.empty ∧ R ItN H1
theorem pig_str0 {e : Expr} {te : TE} (he : PE X e te) : PIG X tg e (iStr0 te) := by
  refine ⟨fun pins s σ H R I h => ?_⟩
  refine thn (he.run pins s σ H _ I h) fun v s1 ⟨y, H1, I1, r1, ex, q⟩ => ?_
  subst ex
  obtain ⟨t, rfl⟩ := r1
  exact wpAny_pyIter_ascii (by decide +kernel) (pie_oneG (tk := s1.toks) I1 _ (turnG_str0 _ t) ⟨_, Heap.get?_push_size _ rfl, rfl, rfl⟩ q)
theorem pig_enumB {e : Expr} {ta : TA} {p pos tpos : Pos} {elts : List Expr} {kk : Nat} (hg : Gl X "enumerate") (hm : X.mg "enumerate" = none) (ha : PA X [e] ta) (hs : starEach [e] X.env = [(false, eval e X.env)] := by rfl) :
    PIG X (.Tuple elts kk tpos) (.Call (.Name "enumerate" p) [e] [] pos) (iEnumB ta) := by
  refine ⟨fun pins s σ H R I h => ?_⟩
  refine Call_ (ld_blt I hg hm boot_enumerate (PyProof.Rows.callWith_type1 (thn (ha.run pos pins s σ H _ I h) fun us s1 ⟨vs, H1, I1, r1, q1⟩ => ?_) hs rfl))
  obtain ⟨x, ex, q⟩ := q1
  subst ex
  cases r1 with
  | cons r rr =>
    cases rr
    obtain ⟨t, rfl⟩ := r
    refine EBX.call_enumB fun h' he hit hsz hk => wpAny_pyIter_enum he ?_
    have I2 : Inv X pins σ H1 { s1 with heap := h' } := I1.kept (t' := s1.toks) hk
    refine ⟨s1.heap.objs.size + 1, [s1.heap.objs.size + 1, s1.heap.objs.size], _, _, H1, rfl, I2, turnG_enumB x t (s1.heap.objs.size + 1) s1.heap.objs.size, ⟨⟨.none, he⟩, hit, Nat.succ_ne_self _⟩, fun b hb => ?_, q⟩
    have e' : b = s1.heap.objs.size + 1 ∨ b = s1.heap.objs.size := by simpa using hb
    have hle : s1.heap.objs.size ≤ b := by
      rcases e' with z | z
      · rw [z]; exact Nat.le_add_right _ _
      · rw [z]; exact Nat.le_refl _
    exact I1.fpOk hle (I1.hok.fresh hle)
/-- a for over the same -/
theorem turnH_of {P : Program} {w : World} {K : PySem.W.Frag} {J : It} {fp : List Addr} {it : Addr} {tn : Nat → Heap → Prop} (T : TurnG P w K tg J fp it tn) : TurnH P w K tg J fp it tn where
  mem := T.mem
  obj := T.obj
  keep := T.keep
  self := T.self
  item := fun X hP hw hK hc i pins s σ H E I hf st hg => by
    obtain ⟨q, ⟨hh, v1, e1, c1⟩, hp⟩ := id hc
    exact T.item X hP hw hK q.1 (s := s) ⟨hh, q.2, v1, (I.pin q (List.mem_append_left _ hp)).1, e1, c1⟩ (fun b hb => (hf b hb).2.2.2.2.2 q (List.mem_append_left _ hp)) i pins s σ H E rfl I hf st hg
  done := fun X hP hw hK hc i pins s σ H E I hf st hg => by
    obtain ⟨q, ⟨hh, v1, e1, c1⟩, hp⟩ := id hc
    exact T.done X hP hw hK q.1 (s := s) ⟨hh, q.2, v1, (I.pin q (List.mem_append_left _ hp)).1, e1, c1⟩ (fun b hb => (hf b hb).2.2.2.2.2 q (List.mem_append_left _ hp)) i pins s σ H E rfl I hf st hg
theorem pih_of {iter : Expr} {wi : TI} (h : PIG X tg iter wi) : PIH X tg iter wi := ⟨fun pins s σ H R I q => thn (h.run pins s σ H R I q) fun v s1 q1 => thn q1 fun itv s2 ⟨it, fp, tn, J, H', a, b, T, c⟩ => ⟨it, fp, tn, J, H', a, b, turnH_of T, c⟩⟩
theorem turnG_list {P : Program} {w : World} {K : PySem.W.Frag} (a it : Addr) : TurnG P w K tg (Itl K a) [it] it (fun i h => h.IsListIter it a i) where
  mem := by simp
  obj := (turn_list (P := P) (w := w) (K := K) (tg := tg) a it).obj
  keep := (turn_list (P := P) (w := w) (K := K) (tg := tg) a it).keep
  self := (turn_list (P := P) (w := w) (K := K) (tg := tg) a it).self
  item := by
    intro X hP hw hK x1 s hot hne i pins s' σ H E es I hf st hg
    subst hP hw hK es
    obtain ⟨xs, x, hq, hx⟩ := hg
    obtain ⟨its, rv, p, hz⟩ := I.list hq
    obtain ⟨u, hu, ru⟩ := rv.get hx
    obtain ⟨f0, f1, f2, f3, f4, f5⟩ := hf it (by simp)
    refine wpAny_pyNext_list_item st p.isList (x := u) (by simpa using hu) fun h' st' sb => ?_
    have I1 : Inv X pins σ H { s' with heap := h' } := I.turned (t' := s'.toks) (fun b o hb e => (sb.2 b hb).trans e) f0 f1 f3 f4 f5
    obtain ⟨o, e, c, d⟩ := id st'
    exact ⟨u, rfl, go_of (s := { s' with heap := h' }) e c d (by decide) ⟨x, H, I1, ru, ⟨rfl, fun ys hy => by rw [I.list_inj hy hq]; exact hx⟩, st', fun b hb => (hf b hb).1⟩⟩
  done := by
    intro X hP hw hK x1 s hot hne i pins s' σ H E es I hf st hg
    subst hP hw hK es
    obtain ⟨xs, hq, hx⟩ := hg
    obtain ⟨its, rv, p, hz⟩ := I.list hq
    obtain ⟨f0, f1, f2, f3, f4, f5⟩ := hf it (by simp)
    have hl := rv.length
    exact list_endP_hot (x1 := x1) hot (hne it (by simp)) st p.isList (by simp; omega) fun h' eb => ⟨rfl, I.turned (t' := s'.toks) (fun b o hb e => eb b o hb e) f0 f1 f3 f4 f5⟩
theorem pi_listH {l : Expr} {tl : TE} (hl : PE X l tl) : PIH X tg l (iList X.K tl) := by
  refine pih_of ⟨fun pins s σ H R I h => ?_⟩
  refine thn (hl.run pins s σ H _ I h) fun v s1 ⟨x, H1, I1, r1, q1⟩ => ?_
  obtain ⟨a, e, ⟨xs, hq⟩, q⟩ := q1
  subst e
  cases r1
  obtain ⟨its, rv, p, hz⟩ := I1.list hq
  exact wpAny_pyIter_list p.isList (pie_oneG (tk := s1.toks) I1 _ (turnG_list a _) ⟨_, Heap.get?_push_size _ rfl, rfl, rfl⟩ q)
/-- reversed(range) where nothing is in it -/
def iRev0 (tr : St → Hp → (Int → Int → Hp → Prop) → Prop) : TI := fun σ H R => tr σ H fun a b H1 => a = 0 ∧ b = 0 ∧ R ItN H1
theorem turnG_rev0 {P : Program} {w : World} {K : PySem.W.Frag} (it : Addr) (lo c : Int) : TurnG P w K tg ItN [it] it (fun _ h => IsRangeIter h it lo 0 c) where
  mem := by simp
  obj := fun i h st b hb => by
    have e : b = it := by simpa using hb
    subst e
    exact ⟨_, st, fun v z => by
      have z' : Data.fields _ = Data.cell v := z
      cases z'⟩
  keep := fun i h h' st k => k it (by simp) _ st
  item := fun X _ _ _ x1 s _ _ i pins s' σ H E _ _ _ _ hg => hg.elim
  done := by
    intro X hP hw hK x1 s hot hne i pins s' σ H E es I hf st hg
    subst hP hw hK es
    obtain ⟨f0, f1, f2, f3, f4, f5⟩ := hf it (by simp)
    exact pyNext_range_end_hot (x1 := x1) hot st (Int.le_refl _) fun h' eb => ⟨rfl, I.turned (t' := s'.toks) (fun b o _ e => eb b o e) f0 f1 f3 f4 f5⟩
  self := fun _ _ _ _ _ st h => wpAny_pyIter_rangeiter st h
theorem pi_rev0H {e : Expr} {tr : St → Hp → (Int → Int → Hp → Prop) → Prop} {p pos : Pos} (hg : Gl X "reversed") (hm : X.mg "reversed" = none) (he : PRg X e tr) (hs : starEach [e] X.env = (false, eval e X.env) :: starEach [] X.env := by rfl) :
    PIH X tg (.Call (.Name "reversed" p) [e] [] pos) (iRev0 tr) := by
  refine pih_of ⟨fun pins s σ H R I h => ?_⟩
  refine Call_ (ld_blt I hg hm PyProof.Rows.boot_reversed (PyProof.Rows.callWith_type1 (args_cons (thn (he pins s σ H _ I h) fun u s1 hx => args_nil ?_) hs) hs rfl))
  obtain ⟨r, a, b, t, w1, v, H1, eu, hr, I1, ea, eb, q⟩ := hx
  subst eu ea eb
  refine call_reversed_range hr (smallRev_one (by decide) (by decide) (by decide) (by decide)) (wpAny_pyIter_rangeiter (Heap.get?_push_size _ rfl) ?_)
  exact pie_oneG (tk := s1.toks) I1 _ (turnG_rev0 _ _ _) (Heap.get?_push_size _ rfl) q
end
end L2H

namespace K9
open PySem PySem.Spec PyProof.Rows L2
/-! ### the same while an exception is handled -/
section
variable {P : Program} {w : World} {K : PySem.W.Frag} {mg : Str → Option Value} {base : Heap}
theorem okh_whole {f : Addr} {fd : FuncData} {k : Nat} (F : Fun K "is_whole" "is_whole" sWhole f fd) (m1 : mg "isinstance" = none) (m2 : mg "bool" = none) (m3 : mg "int" = none) : L2H.FnH P w K mg base CX0 (k + 1) f fd ["told"] spWhole := by
  refine okH F scWhole (fun vs H Q E h => ?_) (fun cdv A outer s H vs Q E pn hot hr h => ?_)
  · obtain ⟨v, rfl, _⟩ := h
    rfl
  · obtain ⟨v, rfl, h⟩ := h
    have hcX : L2H.HotC (L2H.cxH CX0 P w K mg base ["told"] "is_whole" (defScope sWhole) f cdv A outer s H E pn) := ⟨pn, hot, List.mem_singleton_self pn⟩
    refine ⟨_, pss_one (ps_ret (pe_and (pe_callB call_isi (by rfl) m1 (by decide +kernel) (pa_cons (pv 0) (pa_cons (pe_bltn (v := .ty "int") (by rfl) m3 (by decide +kernel) rfl) pa_nil)))
      (pe_one (pe_not (pe_callB call_isi (by rfl) m1 (by decide +kernel) (pa_cons (pv 0) (pa_cons (pe_bltn (v := .ty "bool") (by rfl) m2 (by decide +kernel) rfl) pa_nil))))))), ?_⟩
    rcases h with ⟨x, rfl, q⟩ | ⟨p, xs, rfl, hp, q⟩ | ⟨rfl, q⟩
    · refine ⟨_, rfl, _, _, _, _, _, rfl, .ty "int", .base (.int _), kit_ty (a := "int") (r := true) (by decide +kernel), _, rfl, iteT ?_⟩
      exact ⟨_, rfl, _, _, _, _, _, rfl, .ty "bool", .base (.int _), kit_ty (a := "int") (r := false) (by decide +kernel), _, rfl, q⟩
    · exact ⟨_, rfl, _, _, _, _, _, rfl, .ty "int", .base (.lst hp), kit_ty (a := "list") (r := false) (by decide +kernel), _, rfl, iteF q⟩
    · exact ⟨_, rfl, _, _, _, _, _, rfl, .ty "int", .base .non, kit_ty (a := "NoneType") (r := false) (by decide +kernel), _, rfl, iteF q⟩
theorem okh_isNum {f f0 : Addr} {fd fd0 : FuncData} {k : Nat} (F : Fun K "is_number" "is_number" sIsNum f fd) (F0 : Fun K "is_whole" "is_whole" sWhole f0 fd0) (G0 : L2H.FnH P w K mg base CX0 (k + 1) f0 fd0 ["told"] spWhole) (b0 : Binds K fd0 ["told"] []) (g0 : mg "is_whole" = some (.ref f0)) :
    L2H.FnH P w K mg base CX0 (k + 2) f fd ["told", "least", "most"] spIsNum := by
  refine okH F scIsNum (fun vs H Q E h => ?_) (fun cdv A outer s H vs Q E pn hot hr h => ?_)
  · obtain ⟨v, a, b, rfl, _⟩ := h
    rfl
  · obtain ⟨v, a, b, rfl, h⟩ := h
    have hcX : L2H.HotC (L2H.cxH CX0 P w K mg base ["told", "least", "most"] "is_number" (defScope sIsNum) f cdv A outer s H E pn) := ⟨pn, hot, List.mem_singleton_self pn⟩
    refine ⟨_, pss_one (ps_ret (pe_and (L2H.pe_callH (E := fun _ => E0) G0 hr hcX (by rfl) g0 F0.kp b0 (fun σ _ _ _ _ _ _ z => z.elim) (pa_cons (pv 0) pa_nil)) (pe_one (pe_chain op_le op_le (pv 1) (pv 0) (pv 2))))), ?_⟩
    rcases h with ⟨x, rfl, q⟩ | ⟨p, xs, rfl, hp, q⟩ | ⟨rfl, q⟩
    · refine ⟨_, rfl, _, rfl, .inl ⟨x, rfl, _, rfl, iteT ?_⟩⟩
      refine ⟨_, rfl, _, rfl, _, _, rfl, rfl, _, rfl, ?_⟩
      by_cases h1 : a ≤ x
      · rw [if_pos (decide_eq_true h1)]
        refine ⟨_, rfl, _, _, rfl, rfl, ?_⟩
        simpa [h1] using q
      · rw [if_neg (by simpa using h1)]
        simpa [h1] using q
    · exact ⟨_, rfl, _, rfl, .inr (.inl ⟨p, xs, rfl, hp, _, rfl, iteF q⟩)⟩
    · exact ⟨_, rfl, _, rfl, .inr (.inr ⟨rfl, _, rfl, iteF q⟩)⟩
theorem okh_areBytes {f : Addr} {fd : FuncData} {j : Nat} (F : Fun K "are_bytes" "are_bytes" sAreBytes f fd) (m1 : mg "isinstance" = none) (m2 : mg "bytes" = none) (m3 : mg "len" = none) : L2H.FnH P w K mg base CX0 (j + 1) f fd ["told", "most"] spAreBytes := by
  refine okH F scAreBytes (fun vs H Q E h => ?_) (fun cdv A outer s H vs Q E pn hot hr h => ?_)
  · obtain ⟨b, n, rfl, _⟩ := h
    rfl
  · obtain ⟨b, n, rfl, hb, q⟩ := h
    have hcX : L2H.HotC (L2H.cxH CX0 P w K mg base ["told", "most"] "are_bytes" (defScope sAreBytes) f cdv A outer s H E pn) := ⟨pn, hot, List.mem_singleton_self pn⟩
    have hz := PySem.sizeLine_eq
    refine ⟨_, pss_one (ps_ret (pe_and (pe_callB call_isi (by rfl) m1 (by decide +kernel) (pa_cons (pv 0) (pa_cons (pe_bltn (v := .ty "bytes") (by rfl) m2 (by decide +kernel) rfl) pa_nil)))
      (pe_one (pe_cmpR op_le (pe_callB call_len (by rfl) m3 PySem.boot_len (pa_cons (pv 0) pa_nil)) (pv 1) (nomark _))))), ?_⟩
    refine ⟨_, rfl, _, _, _, _, _, rfl, .ty "bytes", .byt _, kit_ty (a := "bytes") (r := true) (by decide +kernel), _, rfl, iteT ?_⟩
    refine ⟨_, rfl, _, b.size, rfl, ⟨by omega, rfl⟩, _, rfl, _, _, rfl, rfl, ?_⟩
    have e : decide (((b.size : Nat) : Int) ≤ (n : Int)) = decide (b.size ≤ n) := by simp
    show Q (.bl (decide (((b.size : Nat) : Int) ≤ (n : Int)))) H
    rw [e]
    exact q
theorem okh_mark {f : Addr} {fd : FuncData} {j : Nat} {t1 : Tok} (F : Fun K "mark_of" "mark_of" sMarkOf f fd) (m1 : mg "len" = none) (m2 : mg "sum" = none) (m3 : mg "enumerate" = none) (c1 : mg "MODULUS" = some (.int 65521 t1)) :
    L2H.FnH P w K mg base CX0 (j + 1) f fd ["data"] spMark := by
  refine okH F scMk (fun vs H Q E h => ?_) (fun cdv A outer s H vs Q E pn hot hr h => ?_)
  · obtain ⟨ks, rfl, _⟩ := h
    rfl
  · obtain ⟨ks, rfl, hk, hl, q⟩ := h
    have hcX : L2H.HotC (L2H.cxH CX0 P w K mg base NMk "mark_of" (defScope sMarkOf) f cdv A outer s H E pn) := ⟨pn, hot, List.mem_singleton_self pn⟩
    have hz := PySem.sizeLine_eq
    refine ⟨_, pss_one (ps_ret (pe_tup (pa_cons (pe_callB call_len (by rfl) m1 PySem.boot_len (pa_cons (pv 0) pa_nil)) (pa_cons (pe_op op_modN (pe_callB (L2H.cr_sumH hcX) (by rfl) m2 (by decide +kernel) (pa_cons
      (L2H.pe_lcG (own := [("at", 1), ("byte", 2)]) (g := gTup K 2 (gCons (gName 1) (gCons (gName 2) gNil))) (tt := tYes) hcX scMk.nd (L2H.pig_enumB (by rfl) m3 (pa_cons (pv 0) pa_nil)) (blkOk_by (N := NMk) (sc := defScope sMarkOf) (by decide +kernel))
        (fun _ _ _ _ _ => L2H.pgg_tup (pgs_cons (pg_name (i := 1) scMk.nd rfl (.inl rfl)) (pgs_cons (pg_name (i := 2) scMk.nd rfl (.inl rfl)) pgs_nil))) (fun _ _ _ _ _ => pts_nil)
        (fun _ _ _ _ _ => pe_op op_mul (pe_op op_add (pv 1) pe_int) (pv 2))) pa_nil)) (pe_glob (v := .int 65521) rfl c1 ⟨_, rfl⟩)) pa_nil)))), ?_⟩
    refine ⟨_, rfl, _, (byB ks).size, rfl, ⟨by rw [byB_size]; omega, rfl⟩, ?_⟩
    refine ⟨_, rfl, _, rfl, fun D nD => ?_⟩
    refine lc_it (walk_enumB (b := byB ks)) (fun i H' => Same H H' ∧ H' D = some (.lst (((mrkL ks).take i).map V.int))) ⟨same_upd nD, by rw [upd_same]; rfl⟩ (fun _ _ _ _ => trivial) (fun i x H2 H3 hi z y => ?_) (fun H2 z => ?_)
    · obtain ⟨sm, hD⟩ := z
      rw [byB_size] at hi
      obtain ⟨T0, x0, y0, rfl, nT0, rfl, e0, e1⟩ := y
      obtain rfl := Option.some.inj e0
      cases hc : (byB ks)[i]? with
      | none =>
        have e1 : ((byB ks)[i]?.map fun c => V.int (c.toNat : Int)) = some y0 := e1
        rw [hc] at e1
        cases e1
      | some c =>
        have e1 : ((byB ks)[i]?.map fun c => V.int (c.toNat : Int)) = some y0 := e1
        rw [hc] at e1
        obtain rfl := Option.some.inj e1
        have hc' := byB_at hk hc
        have sm2 : Same H2 (upd H2 T0 (.tup [.int (i : Nat), .int (c.toNat : Int)])) := same_upd nT0
        have hD2 := sm2 _ _ hD
        have hc2 : c.toNat < 256 := c.toNat_lt
        refine ⟨T0, _, rfl, .inl (.inl upd_same), rfl, _, _, rfl, _, _, rfl, rfl, rfl, yes ?_⟩
        refine ⟨_, rfl, _, _, rfl, rfl, _, rfl, _, _, rfl, rfl, .inl ⟨by omega, by omega⟩, _, hD2, ?_, same_put (sm.trans sm2) nD, ?_⟩
        · rw [List.length_map, List.length_take, mrkL_len, hz]
          omega
        · rw [upd_same, take_snocG (mrkL_at hc'), List.map_append]
          push_cast
          rfl
    · obtain ⟨sm, hD⟩ := z
      rw [byB_size, ← mrkL_len, List.take_length] at hD
      refine ⟨D, mrkL ks, rfl, .inl (.inl hD), _, _, rfl, rfl, (by show (65521 : Int) ≠ 0; decide), ?_⟩
      dsimp only
      rw [mrkL_sum]
      refine ⟨(by show 2 ≤ sizeLine; omega), fun t nt => ?_⟩
      rw [byB_size]
      exact q _ t (sm.trans (same_upd nt)) (none_back sm nt) upd_same
theorem okh_isMk {f fN : Addr} {fd fdN : FuncData} {j k1 : Nat} {t1 t2 : Tok} (F : Fun K "is_mark" "is_mark" sIsMark f fd) (GN : L2H.FnH P w K mg base CX0 k1 fN fdN ["told", "least", "most"] spIsNum) (bN : Binds K fdN ["told", "least", "most"] []) (kN : PySem.W.keepIn K (.ref fN) = true) (gN : mg "is_number" = some (.ref fN)) (l1 : k1 ≤ j)
    (m1 : mg "isinstance" = none) (m2 : mg "tuple" = none) (m3 : mg "len" = none) (c1 : mg "MOST_BYTES" = some (.int 2000 t1)) (c2 : mg "MODULUS" = some (.int 65521 t2)) :
    L2H.FnH P w K mg base CX0 (j + 1) f fd ["told"] spIsMk := by
  refine okH F scIsMk (fun vs H Q E h => ?_) (fun cdv A outer s H vs Q E pn hot hr h => ?_)
  · obtain ⟨a, m, rfl, _⟩ := h
    rfl
  · obtain ⟨a, m, rfl, ha, h1, h2, q⟩ := h
    have hcX : L2H.HotC (L2H.cxH CX0 P w K mg base ["told"] "is_mark" (defScope sIsMark) f cdv A outer s H E pn) := ⟨pn, hot, List.mem_singleton_self pn⟩
    refine ⟨_, pss_cons (ps_if (PW.pt (pw_or (pt_not (pt_val (pe_callB call_isi (by rfl) m1 (by decide +kernel) (pa_cons (pv 0) (pa_cons (pe_bltn (v := .ty "tuple") (by rfl) m2 (by decide +kernel) rfl) pa_nil))))) (pw_or1 (pt_cmpR op_ne (pe_callB call_len_seq (by rfl) m3 PySem.boot_len (pa_cons (pv 0) pa_nil)) pe_int (nomark _))))) (pss_one (ps_ret pe_bl)) pss_nil)
      (pss_one (ps_ret (pe_and (L2H.pe_callH (E := fun _ => E0) GN (hr.mono l1) hcX (by rfl) gN kN bN (fun σ _ _ _ _ _ _ z => z.elim) (pa_cons (pe_ix ix_tup (pv 0) pe_int (fun _ _ => rfl)) (pa_cons pe_int (pa_cons (pe_glob (v := .int 2000) rfl c1 ⟨_, rfl⟩) pa_nil))))
        (pe_one (L2H.pe_callH (E := fun _ => E0) GN (hr.mono l1) hcX (by rfl) gN kN bN (fun σ _ _ _ _ _ _ z => z.elim) (pa_cons (pe_ix ix_tup (pv 0) pe_int (fun _ _ => rfl)) (pa_cons pe_int (pa_cons (pe_op op_sub (pe_glob (v := .int 65521) rfl c2 ⟨_, rfl⟩) pe_int) pa_nil)))))))), ?_⟩
    refine ⟨_, rfl, _, _, .type "tuple", _, _, rfl, .ty "tuple", .base (.tup ha), kit_ty (a := "tuple") (r := true) (by decide +kernel), _, rfl, iteF ?_⟩
    refine ⟨_, rfl, a, _, rfl, .inr (.inl (.inl ha)), rfl, _, rfl, iteF ?_⟩
    refine ⟨_, rfl, a, _, 0, _, rfl, rfl, .inl (.inl ha), rfl, _, 0, 2000, rfl, .inl ⟨_, rfl, _, rfl, iteC (decide_eq_true ⟨by omega, by omega⟩) ?_⟩⟩
    refine ⟨_, rfl, a, _, 1, _, rfl, rfl, .inl (.inl ha), rfl, _, _, rfl, rfl, _, 0, _, rfl, .inl ⟨_, rfl, ?_⟩⟩
    rw [decide_eq_true (by omega)]
    exact q
theorem okh_mo {f fN : Addr} {fd fdN : FuncData} {j k1 : Nat} {t1 t2 t3 t4 t5 t6 : Tok} (F : Fun K "many_of" "many_of" sManyOf f fd) (GN : L2H.FnH P w K mg base CX0 k1 fN fdN ["told", "least", "most"] spIsNum) (bN : Binds K fdN ["told", "least", "most"] []) (kN : PySem.W.keepIn K (.ref fN) = true) (gN : mg "is_number" = some (.ref fN)) (l1 : k1 ≤ j)
    (m1 : mg "isinstance" = none) (m2 : mg "tuple" = none) (m3 : mg "len" = none) (m4 : mg "min" = none) (c1 : mg "MOST_BYTES" = some (.int 2000 t1)) (c2 : mg "NEW" = some (.str "new" t2)) (c3 : mg "OLD" = some (.str "old" t3)) (c4 : mg "FEWEST_NEW" = some (.int 3 t4)) (c5 : mg "FEWEST_OLD" = some (.int 1 t5)) (c6 : mg "MOST_AT_ONCE" = some (.int 255 t6)) :
    L2H.FnH P w K mg base CX0 (j + 1) f fd ["item", "old_many", "there"] spMo := by
  refine okH F scMo (fun vs H Q E h => ?_) (fun cdv A outer s H vs Q E pn hot hr h => ?_)
  · obtain ⟨v, i, old, there, rfl, _⟩ := h
    rfl
  · obtain ⟨v, i, old, there, rfl, hi, q⟩ := h
    have hcX : L2H.HotC (L2H.cxH CX0 P w K mg base NMo "many_of" (defScope sManyOf) f cdv A outer s H E pn) := ⟨pn, hot, List.mem_singleton_self pn⟩
    refine ⟨_, pss_cons (ps_if (pt_not (pt_val (pe_callB call_isi (by rfl) m1 (by decide +kernel) (pa_cons (pv 0) (pa_cons (pe_bltn (v := .ty "tuple") (by rfl) m2 (by decide +kernel) rfl) pa_nil)))))
        (pss_one (ps_ret (pe_ifExp (pt_val (L2H.pe_callH (E := fun _ => E0) GN (hr.mono l1) hcX (by rfl) gN kN bN (fun σ _ _ _ _ _ _ z => z.elim) (pa_cons (pv 0) (pa_cons pe_int (pa_cons pe_int pa_nil))))) pe_int pe_int))) pss_nil)
      (pss_cons (ps_if (pt_cmpR op_ne (pe_callB call_len_seq (by rfl) m3 PySem.boot_len (pa_cons (pv 0) pa_nil)) pe_int (nomark _)) (pss_one (ps_ret pe_int)) pss_nil)
      (pss_cons (ps_asg (pv 0) (L2H.pg_tupH hcX (pgs_cons (pg_name (i := 3) scMo.nd rfl (.inl rfl)) (pgs_cons (pg_name (i := 4) scMo.nd rfl (.inl rfl)) (pgs_cons (pg_name (i := 5) scMo.nd rfl (.inl rfl)) pgs_nil)))))
      (pss_cons (ps_if (PW.pt (pw_and (pt_cmpR op_eq (pv 3) (pe_glob (v := .str "new") rfl c2 ⟨_, rfl⟩) (nomark _))
          (pw_and (pt_val (L2H.pe_callH (E := fun _ => E0) GN (hr.mono l1) hcX (by rfl) gN kN bN (fun σ _ _ _ _ _ _ z => z.elim) (pa_cons (pv 4) (pa_cons (pe_glob (v := .int 3) rfl c4 ⟨_, rfl⟩) (pa_cons (pe_glob (v := .int 255) rfl c6 ⟨_, rfl⟩) pa_nil)))))
          (pw_and1 (pt_val (L2H.pe_callH (E := fun _ => E0) GN (hr.mono l1) hcX (by rfl) gN kN bN (fun σ _ _ _ _ _ _ z => z.elim) (pa_cons (pv 5) (pa_cons pe_int (pa_cons (pe_callB (L2H.call_min2H hcX) (by rfl) m4 (by decide +kernel) (pa_cons (pe_glob (v := .int 2000) rfl c1 ⟨_, rfl⟩) (pa_cons (pv 2) pa_nil))) pa_nil))))))))) (pss_one (ps_ret (pv 4))) pss_nil)
      (pss_cons (ps_if (PW.pt (pw_and (pt_cmpR op_eq (pv 3) (pe_glob (v := .str "old") rfl c3 ⟨_, rfl⟩) (nomark _))
          (pw_and (pt_val (L2H.pe_callH (E := fun _ => E0) GN (hr.mono l1) hcX (by rfl) gN kN bN (fun σ _ _ _ _ _ _ z => z.elim) (pa_cons (pv 4) (pa_cons (pe_glob (v := .int 1) rfl c5 ⟨_, rfl⟩) (pa_cons (pe_glob (v := .int 255) rfl c6 ⟨_, rfl⟩) pa_nil)))))
          (pw_and1 (pt_val (L2H.pe_callH (E := fun _ => E0) GN (hr.mono l1) hcX (by rfl) gN kN bN (fun σ _ _ _ _ _ _ z => z.elim) (pa_cons (pv 5) (pa_cons pe_int (pa_cons (pe_op op_sub (pv 1) (pv 4)) pa_nil))))))))) (pss_one (ps_ret (pv 4))) pss_nil)
      (pss_one (ps_ret pe_int)))))), ?_⟩
    cases i with
    | b n =>
      obtain rfl : v = .int (n : Int) := hi
      refine ⟨_, rfl, _, _, _, _, _, rfl, .ty "tuple", .base (.int _), kit_ty (a := "int") (r := false) (by decide +kernel), _, rfl, iteT ?_⟩
      refine ⟨_, rfl, _, 0, 255, rfl, .inl ⟨_, rfl, _, rfl, ?_⟩⟩
      have q : Q (.int (((if decide (n < 256) = true then 1 else 0) : Nat) : Int)) H := q
      refine ite2 (fun e => ?_) (fun e => ?_)
      · rw [if_pos (decide_eq_true (by have := of_decide_eq_true e; omega))] at q
        exact q
      · rw [if_neg (fun z => e (decide_eq_true (by have := of_decide_eq_true z; omega)))] at q
        exact q
    | c nw m p =>
      obtain ⟨t, rfl, ht⟩ := hi
      refine ⟨_, rfl, _, _, .type "tuple", _, _, rfl, .ty "tuple", .base (.tup ht), kit_ty (a := "tuple") (r := true) (by decide +kernel), _, rfl, iteF ?_⟩
      refine ⟨_, rfl, t, _, rfl, .inr (.inl (.inl ht)), rfl, _, rfl, iteF ?_⟩
      refine ⟨_, rfl, t, _, rfl, .inl (.inl ht), rfl, _, _, rfl, _, _, rfl, _, _, rfl, rfl, ?_⟩
      cases nw with
      | true =>
        have q : Q (.int (((if decide (3 ≤ m ∧ m ≤ 255 ∧ 1 ≤ p ∧ p ≤ min 2000 there) = true then m else 0) : Nat) : Int)) H := q
        have hno : ¬ (3 ≤ m ∧ m ≤ 255 ∧ 1 ≤ p ∧ p ≤ min 2000 there) → Q (.int 0) H := fun z => by
          rw [if_neg (fun y => z (of_decide_eq_true y))] at q
          exact q
        refine ⟨_, rfl, rfl, _, rfl, iteT ?_⟩
        have rest : Q (.int 0) H → ∀ R : Prop, (R = True) → True := fun _ _ _ => trivial
        refine ⟨_, rfl, _, 3, 255, rfl, .inl ⟨_, rfl, _, rfl, ite2 (fun e => ?_) (fun e => ?_)⟩⟩
        · have e := of_decide_eq_true e
          refine ⟨_, rfl, _, rfl, _, _, rfl, _, 1, _, rfl, .inl ⟨_, rfl, _, rfl, ite2 (fun e2 => ?_) (fun e2 => ?_)⟩⟩
          · have e2 := of_decide_eq_true e2
            rw [if_pos (decide_eq_true ⟨by omega, by omega, by omega, by have := e2.2; split at this <;> omega⟩)] at q
            exact ⟨_, rfl, q⟩
          · refine ⟨_, rfl, rfl, _, rfl, iteF (hno fun z => e2 (decide_eq_true ⟨by omega, by split <;> omega⟩))⟩
        · exact ⟨_, rfl, rfl, _, rfl, iteF (hno fun z => e (decide_eq_true ⟨by omega, by omega⟩))⟩
      | false =>
        have q : Q (.int (((if decide (1 ≤ m ∧ m ≤ 255 ∧ p + m ≤ old) = true then m else 0) : Nat) : Int)) H := q
        have hno : ¬ (1 ≤ m ∧ m ≤ 255 ∧ p + m ≤ old) → Q (.int 0) H := fun z => by
          rw [if_neg (fun y => z (of_decide_eq_true y))] at q
          exact q
        refine ⟨_, rfl, rfl, _, rfl, iteF ?_⟩
        refine ⟨_, rfl, rfl, _, rfl, iteT ?_⟩
        refine ⟨_, rfl, _, 1, 255, rfl, .inl ⟨_, rfl, _, rfl, ite2 (fun e => ?_) (fun e => ?_)⟩⟩
        · have e := of_decide_eq_true e
          refine ⟨_, rfl, _, rfl, _, rfl, _, _, rfl, rfl, _, 0, _, rfl, .inl ⟨_, rfl, _, rfl, ite2 (fun e2 => ?_) (fun e2 => ?_)⟩⟩
          · have e2 := of_decide_eq_true e2
            rw [if_pos (decide_eq_true ⟨by omega, by omega, by omega⟩)] at q
            exact ⟨_, rfl, q⟩
          · exact hno fun z => e2 (decide_eq_true ⟨by omega, by omega⟩)
        · exact hno fun z => e (decide_eq_true ⟨by omega, by omega⟩)
theorem okh_tm {f fN : Addr} {fd fdN : FuncData} {j k1 : Nat} (F : Fun K "tells_as_many" "tells_as_many" sTellsM f fd) (GN : L2H.FnH P w K mg base CX0 k1 fN fdN ["item", "old_many", "there"] spMo) (bN : Binds K fdN ["item", "old_many", "there"] []) (kN : PySem.W.keepIn K (.ref fN) = true) (gN : mg "many_of" = some (.ref fN)) (l1 : k1 ≤ j) :
    L2H.FnH P w K mg base CX0 (j + 1) f fd ["row", "old_many", "new_many"] spTm := by
  refine okH F scTm (fun vs H Q E h => ?_) (fun cdv A outer s H vs Q E pn hot hr h => ?_)
  · obtain ⟨r, row, old, new, rfl, _⟩ := h
    rfl
  · obtain ⟨r, row, old, new, rfl, ⟨us, hr0, hus⟩, hl, q⟩ := h
    have hcX : L2H.HotC (L2H.cxH CX0 P w K mg base NTm "tells_as_many" (defScope sTellsM) f cdv A outer s H E pn) := ⟨pn, hot, List.mem_singleton_self pn⟩
    have hz := PySem.sizeLine_eq
    refine ⟨_, pss_cons (ps_set (i := 3) scTm.nd rfl (.inl rfl) pe_int)
      (pss_cons (L2H.ps_forH (passes_of rfl) hcX (L2H.pi_listH (pv 0)) (pg_name (i := 4) scTm.nd rfl (.inl rfl))
        (pss_cons (ps_set (i := 5) scTm.nd rfl (.inl rfl) (L2H.pe_callH (E := fun _ => E0) GN (hr.mono l1) hcX (by rfl) gN kN bN (fun σ _ _ _ _ _ _ z => z.elim) (pa_cons (pv 4) (pa_cons (pv 1) (pa_cons (pv 3) pa_nil)))))
        (pss_cons (ps_if (pt_cmpR op_eq (pv 5) pe_int (nomark _)) (pss_one (ps_ret pe_bl)) pss_nil)
        (pss_one (ps_aug (i := 3) scTm.nd rfl (.inl rfl) (pv 5) ip_add)))))
      (pss_one (ps_ret (pe_cmpR op_eq (pv 3) (pv 2) (nomark _))))), ?_⟩
    try dsimp only [gName]
    have hlen := hus.length
    refine ⟨_, rfl, r, rfl, ⟨_, .inl (.inl hr0)⟩, ?_⟩
    refine for_list (K := K) (a := r) (xs := us) (fun i σ H' => H' = H ∧ ∃ (y4 y5 : Option V) (th : Nat), σ = [some (.ref r), some (.int (old : Int)), some (.int (new : Int)), some (.int (th : Int)), y4, y5] ∧ fitR old 0 row = fitR old th (row.drop i))
      ⟨rfl, _, _, 0, rfl, rfl⟩ (fun i σ H' _ h => ?_) (fun i x σ H' hx h => ?_) (fun σ H' h => ?_)
    · rw [h.1]
      exact .inl (.inl hr0)
    · obtain ⟨rfl, y4, y5, th, rfl, ef⟩ := h
      have hi : i < row.length := by have := (List.getElem?_eq_some_iff.mp hx).1; omega
      obtain ⟨x', e1, hd⟩ := paired_get hus (List.getElem?_eq_getElem hi)
      obtain rfl := Option.some.inj (e1.symm.trans hx)
      rw [List.drop_eq_getElem_cons hi] at ef
      generalize row[i] = it at *
      have ef : fitR old 0 row = if fitI old th it = true then fitR old (th + wideI it) (row.drop (i + 1)) else none := ef
      refine ⟨_, rfl, _, rfl, _, rfl, _, it, old, th, rfl, hd, ?_⟩
      dsimp only [gName]
      refine ⟨_, rfl, rfl, _, rfl, ?_⟩
      by_cases hf : fitI old th it = true
      · rw [if_pos hf] at ef ⊢
        have := (fit_wide hf).1
        refine ite2 (fun z => ?_) (fun _ => ?_)
        · have z : V.int (wideI it : Int) = V.int 0 := of_decide_eq_true z
          have := V.int.inj z
          omega
        · have ea : (th : Int) + (wideI it : Int) = ((th + wideI it : Nat) : Int) := by push_cast; rfl
          refine ⟨_, rfl, _, rfl, _, _, rfl, rfl, ?_⟩
          dsimp only
          rw [ea]
          exact ⟨rfl, _, _, th + wideI it, rfl, ef⟩
      · rw [if_neg hf] at ef ⊢
        refine iteC (decide_eq_true rfl) ?_
        rw [ef, decide_eq_false (fun z => by cases z)] at q
        exact q
    · obtain ⟨rfl, y4, y5, th, rfl, ef⟩ := h
      rw [← hlen, List.drop_length] at ef
      refine ⟨_, rfl, _, rfl, rfl, ?_⟩
      have e : decide (V.int (th : Int) = V.int (new : Int)) = decide (fitR old 0 row = some new) := by
        rw [ef]
        show _ = decide (some th = some new)
        by_cases z : th = new
        · rw [z, decide_eq_true rfl, decide_eq_true rfl]
        · rw [decide_eq_false (fun y => z (by have := V.int.inj y; omega)), decide_eq_false (fun y => z (Option.some.inj y))]
      rw [e]
      exact q
theorem okh_id {f fM fT : Addr} {fd fdM fdT : FuncData} {j k1 k2 : Nat} (F : Fun K "is_difference" "is_difference" sIsDif f fd) (GM : L2H.FnH P w K mg base CX0 k1 fM fdM ["told"] spIsMk) (bM : Binds K fdM ["told"] []) (kM : PySem.W.keepIn K (.ref fM) = true) (gM : mg "is_mark" = some (.ref fM)) (l1 : k1 ≤ j)
    (GT : L2H.FnH P w K mg base CX0 k2 fT fdT ["row", "old_many", "new_many"] spTm) (bT : Binds K fdT ["row", "old_many", "new_many"] []) (kT : PySem.W.keepIn K (.ref fT) = true) (gT : mg "tells_as_many" = some (.ref fT)) (l2 : k2 ≤ j)
    (m1 : mg "isinstance" = none) (m2 : mg "tuple" = none) (m3 : mg "len" = none) (m4 : mg "list" = none) :
    L2H.FnH P w K mg base CX0 (j + 1) f fd ["told"] spId := by
  refine okH F scId (fun vs H Q E h => ?_) (fun cdv A outer s H vs Q E pn hot hr h => ?_)
  · obtain ⟨t, x, d, rfl, _⟩ := h
    rfl
  · obtain ⟨t, x, d, rfl, ⟨ht, ha, hb, hrw⟩, ⟨l01, l02, l03, l04, l05⟩, q⟩ := h
    have hcX : L2H.HotC (L2H.cxH CX0 P w K mg base NId "is_difference" (defScope sIsDif) f cdv A outer s H E pn) := ⟨pn, hot, List.mem_singleton_self pn⟩
    refine ⟨_, pss_cons (ps_if (PW.pt (pw_or (pt_not (pt_val (pe_callB call_isi (by rfl) m1 (by decide +kernel) (pa_cons (pv 0) (pa_cons (pe_bltn (v := .ty "tuple") (by rfl) m2 (by decide +kernel) rfl) pa_nil))))) (pw_or1 (pt_cmpR op_ne (pe_callB call_len_seq (by rfl) m3 PySem.boot_len (pa_cons (pv 0) pa_nil)) pe_int (nomark _))))) (pss_one (ps_ret pe_bl)) pss_nil)
      (pss_cons (ps_asg (pv 0) (L2H.pg_tupH hcX (pgs_cons (pg_name (i := 1) scId.nd rfl (.inl rfl)) (pgs_cons (pg_name (i := 2) scId.nd rfl (.inl rfl)) (pgs_cons (pg_name (i := 3) scId.nd rfl (.inl rfl)) pgs_nil)))))
      (pss_one (ps_ret (pe_and (L2H.pe_callH (E := fun _ => E0) GM (hr.mono l1) hcX (by rfl) gM kM bM (fun σ _ _ _ _ _ _ z => z.elim) (pa_cons (pv 1) pa_nil)) (pe_and (L2H.pe_callH (E := fun _ => E0) GM (hr.mono l1) hcX (by rfl) gM kM bM (fun σ _ _ _ _ _ _ z => z.elim) (pa_cons (pv 2) pa_nil))
        (pe_and (pe_callB call_isi (by rfl) m1 (by decide +kernel) (pa_cons (pv 3) (pa_cons (pe_bltn (v := .ty "list") (by rfl) m4 (by decide +kernel) rfl) pa_nil)))
        (pe_one (L2H.pe_callH (E := fun _ => E0) GT (hr.mono l2) hcX (by rfl) gT kT bT (fun σ _ _ _ _ _ _ z => z.elim) (pa_cons (pv 3) (pa_cons (pe_ix ix_tup (pv 1) pe_int (fun _ _ => rfl)) (pa_cons (pe_ix ix_tup (pv 2) pe_int (fun _ _ => rfl)) pa_nil))))))))))), ?_⟩
    refine ⟨_, rfl, _, _, .type "tuple", _, _, rfl, .ty "tuple", .base (.tup ht), kit_ty (a := "tuple") (r := true) (by decide +kernel), _, rfl, iteF ?_⟩
    refine ⟨_, rfl, t, _, rfl, .inr (.inl (.inl ht)), rfl, _, rfl, iteF ?_⟩
    refine ⟨_, rfl, t, _, rfl, .inl (.inl ht), rfl, _, _, rfl, _, _, rfl, _, _, rfl, rfl, ?_⟩
    refine ⟨_, rfl, _, d.old, rfl, ha, l01, l02, _, rfl, iteT ?_⟩
    refine ⟨_, rfl, _, d.new, rfl, hb, l03, l04, _, rfl, iteT ?_⟩
    obtain ⟨us, hu1, hu2⟩ := id hrw
    refine ⟨_, rfl, _, _, .type "list", _, _, rfl, .ty "list", .base (.lst hu1), kit_ty (a := "list") (r := true) (by decide +kernel), _, rfl, iteT ?_⟩
    exact ⟨_, rfl, _, rfl, _, _, 0, _, rfl, rfl, .inl (.inl ha), rfl, _, rfl, _, _, 0, _, rfl, rfl, .inl (.inl hb), rfl, _, d.row, d.old.1, d.new.1, rfl, hrw, l05, q⟩
theorem okh_refD {f fI : Addr} {fd fdI : FuncData} {j k1 : Nat} (F : Fun K "refuse_difference" "refuse_difference" sRefD f fd) (GI : L2H.FnH P w K mg base CX0 k1 fI fdI ["told"] spId) (bI : Binds K fdI ["told"] []) (kI : PySem.W.keepIn K (.ref fI) = true) (gI : mg "is_difference" = some (.ref fI)) (l1 : k1 ≤ j) :
    L2H.FnH P w K mg base CX0 (j + 1) f fd ["told"] spRefD := by
  refine okH F scRefD (fun vs H Q E h => ?_) (fun cdv A outer s H vs Q E pn hot hr h => ?_)
  · obtain ⟨t, x, d, rfl, _⟩ := h
    rfl
  · obtain ⟨t, x, d, rfl, hD, hL, ho, q⟩ := h
    have hcX : L2H.HotC (L2H.cxH CX0 P w K mg base ["told"] "refuse_difference" (defScope sRefD) f cdv A outer s H E pn) := ⟨pn, hot, List.mem_singleton_self pn⟩
    refine ⟨_, pss_one (ps_if (pt_not (pt_val (L2H.pe_callH (E := fun _ => E0) GI (hr.mono l1) hcX (by rfl) gI kI bI (fun σ _ _ _ _ _ _ z => z.elim) (pa_cons (pv 0) pa_nil)))) (pss_one ps_never) pss_nil), ?_⟩
    refine ⟨_, rfl, t, x, d, rfl, hD, hL, _, rfl, ?_⟩
    rw [ho]
    exact iteF q
theorem okh_refB {f fI : Addr} {fd fdI : FuncData} {j k1 : Nat} {t1 : Tok} (F : Fun K "refuse_bytes" "refuse_bytes" sRefB f fd) (GI : L2H.FnH P w K mg base CX0 k1 fI fdI ["told", "most"] spAreBytes) (bI : Binds K fdI ["told", "most"] []) (kI : PySem.W.keepIn K (.ref fI) = true) (gI : mg "are_bytes" = some (.ref fI)) (l1 : k1 ≤ j) (c1 : mg "MOST_BYTES" = some (.int 2000 t1)) :
    L2H.FnH P w K mg base CX0 (j + 1) f fd ["told"] spRefB := by
  refine okH F scRefB (fun vs H Q E h => ?_) (fun cdv A outer s H vs Q E pn hot hr h => ?_)
  · obtain ⟨ks, rfl, _⟩ := h
    rfl
  · obtain ⟨ks, rfl, hl, q⟩ := h
    have hcX : L2H.HotC (L2H.cxH CX0 P w K mg base ["told"] "refuse_bytes" (defScope sRefB) f cdv A outer s H E pn) := ⟨pn, hot, List.mem_singleton_self pn⟩
    refine ⟨_, pss_one (ps_if (pt_not (pt_val (L2H.pe_callH (E := fun _ => E0) GI (hr.mono l1) hcX (by rfl) gI kI bI (fun σ _ _ _ _ _ _ z => z.elim) (pa_cons (pv 0) (pa_cons (pe_glob (v := .int 2000) rfl c1 ⟨_, rfl⟩) pa_nil))))) (pss_one ps_never) pss_nil), ?_⟩
    refine ⟨_, rfl, byB ks, 2000, rfl, (by rw [byB_size]; omega), _, rfl, ?_⟩
    rw [byB_size, decide_eq_true hl]
    exact iteF q
theorem okh_or {f : Addr} {fd : FuncData} {j : Nat} {t1 : Tok} (F : Fun K "origins_of" "origins_of" sOrig f fd) (m1 : mg "isinstance" = none) (m2 : mg "tuple" = none) (m3 : mg "range" = none) (c1 : mg "NEW" = some (.str "new" t1)) :
    L2H.FnH P w K mg base CX0 (j + 1) f fd ["row"] spOr := by
  refine okH F scOr (fun vs H Q E h => ?_) (fun cdv A outer s H vs Q E pn hot hr h => ?_)
  · obtain ⟨r, row, old, n, rfl, _⟩ := h
    rfl
  · obtain ⟨r, row, old, n, rfl, ⟨us, hr0, hus⟩, hfit, hn, q⟩ := h
    have hcX : L2H.HotC (L2H.cxH CX0 P w K mg base NOr "origins_of" (defScope sOrig) f cdv A outer s H E pn) := ⟨pn, hot, List.mem_singleton_self pn⟩
    have hz := PySem.sizeLine_eq
    refine ⟨_, pss_cons (ps_set (i := 1) scOr.nd rfl (.inl rfl) (pe_lst pa_nil))
      (pss_cons (L2H.ps_forH (passes_of rfl) hcX (L2H.pi_listH (pv 0)) (pg_name (i := 2) scOr.nd rfl (.inl rfl))
        (pss_cons (ps_if (pt_not (pt_val (pe_callB call_isi (by rfl) m1 (by decide +kernel) (pa_cons (pv 2) (pa_cons (pe_bltn (v := .ty "tuple") (by rfl) m2 (by decide +kernel) rfl) pa_nil)))))
          (pss_cons (ps_expr (pe_bm PySem.F.plainAttrs_list PySem.F.slot_list_append PySem.F.type_list_append mt_append (pv 1) (pa_cons (pv 2) pa_nil))) (pss_one ps_continue)) pss_nil)
        (pss_cons (ps_asg (pv 2) (L2H.pg_tupH hcX (pgs_cons (pg_name (i := 3) scOr.nd rfl (.inl rfl)) (pgs_cons (pg_name (i := 4) scOr.nd rfl (.inl rfl)) (pgs_cons (pg_name (i := 5) scOr.nd rfl (.inl rfl)) pgs_nil)))))
        (pss_one (L2H.ps_forH (passes_of rfl) hcX (L2H.pi_range1H (by rfl) m3 (pa_cons (pv 4) pa_nil)) (pg_name (i := 6) scOr.nd rfl (.inl rfl))
          (pss_one (ps_expr (pe_bm PySem.F.plainAttrs_list PySem.F.slot_list_append PySem.F.type_list_append mt_append (pv 1) (pa_cons (pe_ifExp (pt_cmpR op_eq (pv 3) (pe_glob (v := .str "new") rfl c1 ⟨_, rfl⟩) (nomark _)) (pe_ix ix_list (pv 1) (pe_un un_neg (pv 5)) (fun _ _ => rfl)) (pe_tup (pa_cons (pe_op op_add (pv 5) (pv 6)) pa_nil))) pa_nil)))))))))
      (pss_one (ps_ret (pv 1)))), ?_⟩
    refine ⟨Nat.zero_le _, fun D nD => ?_⟩
    have hlen := hus.length
    have hrl : row.length ≤ 2000 := by have := fitR_le hfit; omega
    dsimp only [gName]
    refine ⟨_, rfl, r, rfl, ⟨_, .inl (.inl (same_upd nD _ _ hr0))⟩, ?_⟩
    refine for_list (K := K) (a := r) (xs := us) (fun i σ H' => ∃ (y2 y3 y4 y5 y6 : Option V) (os : List Og) (vs : List V), σ = [some (.ref r), some (.ref D), y2, y3, y4, y5, y6] ∧ Same H H' ∧ H' D = some (.lst vs) ∧ Paired (OgAt H') os vs ∧ os = (row.take i).foldl origS [] ∧ fitR old os.length (row.drop i) = some n)
      ⟨_, _, _, _, _, [], [], rfl, same_upd nD, upd_same, .nil, rfl, hfit⟩ (fun i σ H' _ h => ?_) (fun i x σ H' hx h => ?_) (fun σ H' h => ?_)
    · obtain ⟨_, _, _, _, _, _, _, _, sm, _⟩ := h
      exact .inl (.inl (sm _ _ hr0))
    · obtain ⟨y2, y3, y4, y5, y6, os, vs, rfl, sm, hD, hP, eos, ef⟩ := h
      have hi : i < row.length := by have := (List.getElem?_eq_some_iff.mp hx).1; omega
      obtain ⟨x', e1, hd0⟩ := paired_get hus (List.getElem?_eq_getElem hi)
      obtain rfl := Option.some.inj (e1.symm.trans hx)
      have hd := hd0.same sm
      rw [List.drop_eq_getElem_cons hi] at ef
      have et : (row.take (i + 1)).foldl origS [] = origS os row[i] := by
        rw [List.take_add_one, List.getElem?_eq_getElem hi, List.foldl_append, ← eos]
        rfl
      rw [et]
      clear eos et hd0
      generalize row[i] = it at *
      obtain ⟨hf, ef⟩ := fitR_cons ef
      have hvl := hP.length
      have htop := fit_top ef
      rw [← origS_len] at ef
      dsimp only [gName]
      cases it with
      | b k =>
        obtain rfl : x' = .int (k : Int) := hd
        refine ⟨_, rfl, _, _, _, _, _, rfl, .ty "tuple", .base (.int _), kit_ty (a := "int") (r := false) (by decide +kernel), _, rfl, iteT ?_⟩
        refine ⟨_, rfl, .inl ⟨rfl, _, .inl (.inl hD)⟩, _, rfl, D, _, _, rfl, rfl, hD, by omega, ?_⟩
        refine ⟨_, _, _, _, _, _, vs ++ [.int (k : Int)], rfl, same_put sm nD, upd_same, ?_, rfl, ef⟩
        exact (hP.mono fun _ _ h => h.put hD).snoc rfl
      | c nw m p =>
        obtain ⟨t, rfl, ht⟩ := hd
        refine ⟨_, rfl, _, _, .type "tuple", _, _, rfl, .ty "tuple", .base (.tup ht), kit_ty (a := "tuple") (r := true) (by decide +kernel), _, rfl, iteF ?_⟩
        refine ⟨_, rfl, t, _, rfl, .inl (.inl ht), rfl, _, _, rfl, _, _, rfl, _, _, rfl, rfl, ?_⟩
        have hm : m ≤ 255 := (fit_wide hf).2
        have htop : os.length + m ≤ n := htop
        refine ⟨_, rfl, m, rfl, by omega, by omega, ?_⟩
        cases nw with
        | true =>
          have hf := of_decide_eq_true (show decide (3 ≤ m ∧ m ≤ 255 ∧ 1 ≤ p ∧ p ≤ min 2000 os.length) = true from hf)
          refine for_range (lo := 0) (n := (m : Int).toNat) (fun k σ H3 => ∃ (y6 : Option V) (vs3 : List V), σ = [some (.ref r), some (.ref D), some (.ref t), some (.str (wdN true)), some (.int (m : Int)), some (.int (p : Int)), y6] ∧ Same H H3 ∧ H3 D = some (.lst vs3) ∧ Paired (OgAt H3) (copyO p k os) vs3) ⟨_, vs, rfl, sm, hD, hP⟩ (fun k σ H3 hk h => ?_) (fun σ H3 h => ?_)
          · obtain ⟨y6, vs3, rfl, sm3, hD3, hP3⟩ := h
            have hl3 := hP3.length
            rw [copyO_len] at hl3
            obtain ⟨v, e1, hv⟩ := paired_getD hP3 (i := (copyO p k os).length - p) (by rw [copyO_len]; omega)
            refine ⟨_, rfl, .inl ⟨rfl, _, .inl (.inl hD3)⟩, ?_⟩
            refine ⟨_, rfl, rfl, _, rfl, iteT ?_⟩
            refine ⟨_, rfl, _, rfl, _, rfl, D, _, _, v, rfl, rfl, .inl (.inl hD3), ?_, D, _, _, rfl, rfl, hD3, by omega, ?_⟩
            · rw [atI_back (by omega) (by omega), ← hl3, ← copyO_len p k os]
              exact e1
            · refine ⟨_, vs3 ++ [v], rfl, same_put sm3 nD, upd_same, ?_⟩
              rw [copyO_succ]
              exact (hP3.mono fun _ _ h => h.put hD3).snoc (hv.put hD3)
          · obtain ⟨y6, vs3, rfl, sm3, hD3, hP3⟩ := h
            rw [Int.toNat_natCast] at hP3
            exact ⟨_, _, _, _, _, _, vs3, rfl, sm3, hD3, hP3, rfl, ef⟩
        | false =>
          refine for_range (lo := 0) (n := (m : Int).toNat) (fun k σ H3 => ∃ (y6 : Option V) (vs3 : List V), σ = [some (.ref r), some (.ref D), some (.ref t), some (.str (wdN false)), some (.int (m : Int)), some (.int (p : Int)), y6] ∧ Same H H3 ∧ H3 D = some (.lst vs3) ∧ Paired (OgAt H3) (os ++ (List.range k).map fun t => Og.o (p + t)) vs3) ⟨_, vs, rfl, sm, hD, by rw [List.range_zero]; simpa using hP⟩ (fun k σ H3 hk h => ?_) (fun σ H3 h => ?_)
          · obtain ⟨y6, vs3, rfl, sm3, hD3, hP3⟩ := h
            have hl3 := hP3.length
            rw [List.length_append, List.length_map, List.length_range] at hl3
            refine ⟨_, rfl, .inl ⟨rfl, _, .inl (.inl hD3)⟩, ?_⟩
            refine ⟨_, rfl, rfl, _, rfl, iteF ?_⟩
            refine ⟨_, rfl, _, rfl, _, _, rfl, rfl, (by show 1 ≤ sizeLine; omega), fun tt ntt => ?_⟩
            have st := same_upd (o := .tup [.int ((p : Int) + (0 + (k : Int)))]) ntt
            refine ⟨D, _, _, rfl, rfl, st _ _ hD3, by omega, ?_⟩
            refine ⟨_, vs3 ++ [.ref tt], rfl, same_put (sm3.trans st) nD, upd_same, ?_⟩
            rw [List.range_succ, List.map_append, ← List.append_assoc]
            refine (hP3.mono fun _ _ h => (h.same st).put (st _ _ hD3)).snoc (OgAt.put (i := .o (p + k)) ⟨tt, rfl, ?_⟩ (st _ _ hD3))
            rw [upd_same]
            show some (HO.tup [V.int ((p : Int) + (0 + (k : Int)))]) = _
            rw [show (p : Int) + (0 + (k : Int)) = ((p + k : Nat) : Int) by push_cast; omega]
          · obtain ⟨y6, vs3, rfl, sm3, hD3, hP3⟩ := h
            rw [Int.toNat_natCast] at hP3
            exact ⟨_, _, _, _, _, _, vs3, rfl, sm3, hD3, hP3, rfl, ef⟩
    · obtain ⟨y2, y3, y4, y5, y6, os, vs, rfl, sm, hD, hP, eos, ef⟩ := h
      rw [← hlen, List.take_length] at eos
      refine ⟨_, rfl, q H' D sm nD ⟨vs, hD, ?_⟩⟩
      rw [show orig row = os from eos.symm]
      exact hP
end
end K9

namespace K9
open PySem PySem.Spec PyProof.Rows L2
/-! ### within the except suite: the difference to no bytes, joined -/
section
variable {P : Program} {w : World} {K : PySem.W.Frag} {mg : Str → Option Value} {base : Heap} {C fI fA fO : Addr}
def spOfHex0 : Sp := fun vs H Q _ => vs = [.str Str.empty] ∧ ∀ H', Same H H' → Q (.byt (byB [])) H'
theorem okh_ofHex0 {f : Addr} {fd : FuncData} {j : Nat} {t : Tok} (F : Fun K "of_hex" "of_hex" sOfHex f fd) (m1 : mg "isinstance" = none) (m2 : mg "str" = none) (m3 : mg "len" = none) (m4 : mg "all" = none) (m5 : mg "bytes" = none) (c1 : mg "SIGNS" = some (.str hexTab t)) :
    L2H.FnH P w K mg base CX0 (j + 1) f fd ["text"] spOfHex0 := by
  refine okH F scOfHex (fun vs H Q E h => ?_) (fun cdv A outer s H vs Q E pn hot hr h => ?_)
  · obtain ⟨rfl, _⟩ := h
    rfl
  · obtain ⟨rfl, q⟩ := h
    have hcX : L2H.HotC (L2H.cxH CX0 P w K mg base ["text", "sign"] "of_hex" (defScope sOfHex) f cdv A outer s H E pn) := ⟨pn, hot, List.mem_singleton_self pn⟩
    refine ⟨_, pss_cons (ps_if (PW.pt (pw_or (pt_not (pt_val (pe_callB call_isi (by rfl) m1 (by decide +kernel) (pa_cons (pv 0) (pa_cons (pe_bltn (v := .ty "str") (by rfl) m2 (by decide +kernel) rfl) pa_nil)))))
        (pw_or (pt_truth (pe_op op_and (pe_callB call_len_str (by rfl) m3 PySem.boot_len (pa_cons (pv 0) pa_nil)) pe_int) (by intro _; rfl))
        (pw_or1 (pt_not (pt_val (pe_callB (L2H.cr_allH hcX) (by rfl) m4 (by decide +kernel) (pa_cons (L2H.pe_lcG (own := [("sign", 1)]) (g := gName 1) (tt := tYes) hcX scOfHex.nd (L2H.pig_str0 (pv 0)) (blkOk_by (N := ["text", "sign"]) (sc := defScope sOfHex) (by decide +kernel))
          (fun _ _ _ _ _ => L2H.pgg_of (pg_name (i := 1) scOfHex.nd rfl (Or.inl rfl))) (fun _ _ _ _ _ => pts_nil)
          (fun _ _ _ _ _ => L2H.pe_never)) pa_nil))))))))
        (pss_one ps_never) pss_nil)
      (pss_one (ps_ret (pe_fromhex (pe_bltn (v := .ty "bytes") (by rfl) m5 (by decide +kernel) rfl) (pa_cons (pv 0) pa_nil)))), ?_⟩
    have hz := PySem.sizeLine_eq
    refine ⟨_, rfl, _, _, _, _, _, rfl, .ty "str", .base (.str _), kit_ty (a := "str") (r := true) (by decide +kernel), _, rfl, iteF ?_⟩
    refine ⟨_, rfl, _, rfl, Nat.zero_le _, _, _, rfl, rfl, _, rfl, ?_⟩
    have hev : Builtin.bitAnd (((Str.empty).length : Nat) : Int) 1 = 0 := by
      rw [PyProof.Rows.bitAnd_m1]
      rfl
    rw [hev]
    refine iteF ?_
    refine ⟨_, rfl, rfl, fun D nD => ?_⟩
    refine ⟨fun i m H' => i = 0 ∧ H' = upd H D (.lst []), ⟨0, rfl, rfl⟩, ?_⟩
    rintro i m H' ⟨rfl, rfl⟩
    refine .inl ⟨trivial, D, [], rfl, .inl (.inl upd_same), _, rfl, iteF ?_⟩
    have s1 := same_upd (o := .lst []) nD
    refine ⟨rfl, fun u nu => ⟨_, rfl, upd_same, [], rfl, fun k m => (by cases m), Nat.zero_le _, ?_⟩⟩
    exact q _ (same_put s1 (none_back s1 nu))
def spLn0 : Sp := fun vs H Q _ => vs = [.byt (byB [])] ∧ ∀ H' q, Same H H' → H q = none → H' q = some (.lst (bys [])) → Q (.ref q) H'
theorem okh_ln0 {f : Addr} {fd : FuncData} {j : Nat} (F : Fun K "longest_new" "longest_new" sLongN f fd) (m1 : mg "range" = none) (m2 : mg "len" = none) : L2H.FnH P w K mg base CX0 (j + 1) f fd ["new"] spLn0 := by
  refine okH F scLn (fun vs H Q E h => ?_) (fun cdv A outer s H vs Q E pn hot hr h => ?_)
  · obtain ⟨rfl, _⟩ := h
    rfl
  · obtain ⟨rfl, q⟩ := h
    have hcX : L2H.HotC (L2H.cxH CX0 P w K mg base NLn "longest_new" (defScope sLongN) f cdv A outer s H E pn) := ⟨pn, hot, List.mem_singleton_self pn⟩
    refine ⟨_, pss_cons (ps_set (i := 1) scLn.nd rfl (.inl rfl) (pe_lst pa_nil))
      (pss_cons (ps_set (i := 2) scLn.nd rfl (.inl rfl) pe_int)
      (pss_cons (L2H.ps_forH (passes_of rfl) hcX (L2H.pi_range1H (by rfl) m1 (pa_cons (pe_callB call_len (by rfl) m2 PySem.boot_len (pa_cons (pv 0) pa_nil)) pa_nil)) (pg_name (i := 3) scLn.nd rfl (.inl rfl))
        (pss_cons ps_never (pss_cons ps_never (pss_one ps_never))))
      (pss_one (ps_ret (pv 1))))), ?_⟩
    refine ⟨Nat.zero_le _, fun D nD => ?_⟩
    refine ⟨_, rfl, _, 0, rfl, ⟨by decide, rfl⟩, 0, rfl, by decide, by decide, ?_⟩
    refine for_range (lo := 0) (n := 0) (fun i σ H' => σ = [some (.byt (byB [])), some (.ref D), some (.int 0), none] ∧ H' = upd H D (.lst [])) ⟨rfl, rfl⟩ (fun i σ H' hi h => by omega) (fun σ H' h => ?_)
    obtain ⟨rfl, rfl⟩ := h
    exact ⟨_, rfl, q _ D (same_upd nD) nD upd_same⟩
def spLo0 : Sp := fun vs H Q _ => ∃ old : List Nat, vs = [.byt (byB old), .byt (byB [])] ∧ ∀ H' q, Same H H' → H q = none → H' q = some (.lst (bys [])) → Q (.ref q) H'
theorem okh_lo0 {f : Addr} {fd : FuncData} {j : Nat} (F : Fun K "longest_old" "longest_old" sLongO f fd) (m1 : mg "range" = none) (m2 : mg "len" = none) : L2H.FnH P w K mg base CX0 (j + 1) f fd ["old", "new"] spLo0 := by
  refine okH F scLo (fun vs H Q E h => ?_) (fun cdv A outer s H vs Q E pn hot hr h => ?_)
  · obtain ⟨old, rfl, _⟩ := h
    rfl
  · obtain ⟨old, rfl, q⟩ := h
    have hcX : L2H.HotC (L2H.cxH CX0 P w K mg base NLo "longest_old" (defScope sLongO) f cdv A outer s H E pn) := ⟨pn, hot, List.mem_singleton_self pn⟩
    refine ⟨_, pss_cons (ps_set (i := 2) scLo.nd rfl (.inl rfl) (pe_lst pa_nil))
      (pss_cons (ps_set (i := 3) scLo.nd rfl (.inl rfl) pe_int)
      (pss_cons (L2H.ps_forH (passes_of rfl) hcX (L2H.pi_range1H (by rfl) m1 (pa_cons (pe_callB call_len (by rfl) m2 PySem.boot_len (pa_cons (pv 1) pa_nil)) pa_nil)) (pg_name (i := 4) scLo.nd rfl (.inl rfl))
        (pss_cons ps_never (pss_cons ps_never (pss_one ps_never))))
      (pss_one (ps_ret (pv 2))))), ?_⟩
    refine ⟨Nat.zero_le _, fun D nD => ?_⟩
    refine ⟨_, rfl, _, 0, rfl, ⟨by decide, rfl⟩, 0, rfl, by decide, by decide, ?_⟩
    refine for_range (lo := 0) (n := 0) (fun i σ H' => σ = [some (.byt (byB old)), some (.byt (byB [])), some (.ref D), some (.int 0), none] ∧ H' = upd H D (.lst [])) ⟨rfl, rfl⟩ (fun i σ H' hi h => by omega) (fun σ H' h => ?_)
    obtain ⟨rfl, rfl⟩ := h
    exact ⟨_, rfl, q _ D (same_upd nD) nD upd_same⟩
theorem reOk0 (old : List Nat) : ReOk old [] [] [] := ⟨rfl, rfl, fun i h => absurd h (Nat.not_lt_zero _), fun i h => absurd h (Nat.not_lt_zero _)⟩
def spReI0 (C : Addr) : Sp := fun vs H Q _ => ∃ (x dx : Addr) (old : List Nat), vs = [.ref x, .byt (byB old), .byt (byB [])] ∧ H x = some (.ins C dx []) ∧
  ∀ H', (∀ b o, b ≠ x → H b = some o → H' b = some o) → ReAt C H' x old [] [] [] → Q .non H'
theorem okh_reInit0 (T : ReTxt K mg C fI fA fO) {f1 f2 : Addr} {fd fd1 fd2 : FuncData} {j k1 k2 : Nat} (F : Fun K "__init__" "Reaches.__init__" sReInit fI fd)
    (G1 : L2H.FnH P w K mg base CX0 k1 f1 fd1 ["new"] spLn0) (b1 : Binds K fd1 ["new"] []) (kk1 : PySem.W.keepIn K (.ref f1) = true) (g1 : mg "longest_new" = some (.ref f1)) (l1 : k1 ≤ j)
    (G2 : L2H.FnH P w K mg base CX0 k2 f2 fd2 ["old", "new"] spLo0) (b2 : Binds K fd2 ["old", "new"] []) (kk2 : PySem.W.keepIn K (.ref f2) = true) (g2 : mg "longest_old" = some (.ref f2)) (l2 : k2 ≤ j) :
    L2H.FnH P w K mg base CX0 (j + 1) fI fd ["self", "old", "new"] (spReI0 C) := by
  refine okH F scReI (fun vs H Q E h => ?_) (fun cdv A outer s H vs Q E pn hot hr h => ?_)
  · obtain ⟨x, dx, old, rfl, _⟩ := h
    rfl
  · obtain ⟨x, dx, old, rfl, hx, fin⟩ := h
    have hcX : L2H.HotC (L2H.cxH CX0 P w K mg base ["self", "old", "new"] "Reaches.__init__" (defScope sReInit) fI cdv A outer s H E pn) := ⟨pn, hot, List.mem_singleton_self pn⟩
    refine ⟨_, pss_cons (ps_fld (pv 0) (pv 1) rfl) (pss_cons (ps_fld (pv 0) (pv 2) rfl)
      (pss_cons (ps_fld (pv 0) (L2H.pe_callH (E := fun _ => E0) G1 (hr.mono l1) hcX (by rfl) g1 kk1 b1 (fun σ _ _ _ _ _ _ z => z.elim) (pa_cons (pv 2) pa_nil)) rfl)
      (pss_one (ps_fld (pv 0) (L2H.pe_callH (E := fun _ => E0) G2 (hr.mono l2) hcX (by rfl) g2 kk2 b2 (fun σ _ _ _ _ _ _ z => z.elim) (pa_cons (pv 1) (pa_cons (pv 2) pa_nil))) rfl)))), ?_⟩
    refine ⟨_, rfl, _, rfl, x, C, dx, _, rfl, hx, T.cl, T.nO, (by show 0 < 1000; decide), ?_⟩
    have k1 : ∀ b o, b ≠ x → H b = some o → (upd H x (.ins C dx (putF "old" (.byt (byB old)) []))) b = some o := fun b o n e => by rw [upd_ne n]; exact e
    have h1 : (upd H x (.ins C dx (putF "old" (.byt (byB old)) []))) x = some (.ins C dx (putF "old" (.byt (byB old)) [])) := upd_same
    generalize upd H x (.ins C dx (putF "old" (.byt (byB old)) [])) = H1 at *
    refine ⟨_, rfl, _, rfl, x, C, dx, _, rfl, h1, T.cl, T.nN, (by show 1 < 1000; decide), ?_⟩
    have k2 : ∀ b o, b ≠ x → H b = some o → (upd H1 x (.ins C dx (putF "new" (.byt (byB [])) (putF "old" (.byt (byB old)) [])))) b = some o := fun b o n e => by rw [upd_ne n]; exact k1 b o n e
    have h2 : (upd H1 x (.ins C dx (putF "new" (.byt (byB [])) (putF "old" (.byt (byB old)) [])))) x = some (.ins C dx (putF "new" (.byt (byB [])) (putF "old" (.byt (byB old)) []))) := upd_same
    generalize upd H1 x (.ins C dx (putF "new" (.byt (byB [])) (putF "old" (.byt (byB old)) []))) = H2 at *
    refine ⟨_, rfl, rfl, fun H3 p s3 np hp => ?_⟩
    have h3 := s3 _ _ h2
    have nxp : x ≠ p := ne_of_none h2 np
    refine ⟨_, rfl, x, C, dx, _, rfl, h3, T.cl, T.nM, (by show 2 < 1000; decide), ?_⟩
    have k4 : ∀ b o, b ≠ x → H b = some o → (upd H3 x (.ins C dx (putF "many_new" (.ref p) (putF "new" (.byt (byB [])) (putF "old" (.byt (byB old)) []))))) b = some o := fun b o n e => by rw [upd_ne n]; exact s3 _ _ (k2 b o n e)
    have h4 : (upd H3 x (.ins C dx (putF "many_new" (.ref p) (putF "new" (.byt (byB [])) (putF "old" (.byt (byB old)) []))))) x = some (.ins C dx (putF "many_new" (.ref p) (putF "new" (.byt (byB [])) (putF "old" (.byt (byB old)) [])))) := upd_same
    have hp4 : (upd H3 x (.ins C dx (putF "many_new" (.ref p) (putF "new" (.byt (byB [])) (putF "old" (.byt (byB old)) []))))) p = some (.lst (bys [])) := by rw [upd_ne (Ne.symm nxp)]; exact hp
    generalize upd H3 x (.ins C dx (putF "many_new" (.ref p) (putF "new" (.byt (byB [])) (putF "old" (.byt (byB old)) [])))) = H4 at *
    refine ⟨_, rfl, _, rfl, old, rfl, fun H5 q s5 nq hq => ?_⟩
    have h5 := s5 _ _ h4
    have hp5 := s5 _ _ hp4
    have nxq : x ≠ q := ne_of_none h4 nq
    refine ⟨_, rfl, x, C, dx, _, rfl, h5, T.cl, T.nL, (by show 3 < 1000; decide), ?_⟩
    rw [reF_put]
    refine fin _ (fun b o n e => by rw [upd_ne n]; exact s5 _ _ (k4 b o n e)) ⟨dx, p, q, upd_same, ?_, ?_, reOk0 old⟩
    · rw [upd_ne (Ne.symm nxp)]
      exact hp5
    · rw [upd_ne (Ne.symm nxq)]
      exact hq
def spCo0 (C : Addr) : Sp := fun vs H Q _ => ∃ (x : Addr) (old : List Nat), vs = [.ref x] ∧ ReAt C H x old [] [] [] ∧ ∀ H' q us, Same H H' → H q = none → H' q = some (.lst us) → Q (.ref q) H'
theorem okh_co0 (T : ReTxt K mg C fI fA fO) {f : Addr} {fd : FuncData} {j : Nat} (F : Fun K "costs_of" "costs_of" sCostsR f fd) (m1 : mg "len" = none) (m2 : mg "reversed" = none) (m3 : mg "range" = none) :
    L2H.FnH P w K mg base CX0 (j + 1) f fd ["reaches"] (spCo0 C) := by
  refine okH F scCo (fun vs H Q E h => ?_) (fun cdv A outer s H vs Q E pn hot hr h => ?_)
  · obtain ⟨x, old, rfl, _⟩ := h
    rfl
  · obtain ⟨x, old, rfl, hRe, fin⟩ := h
    have hcX : L2H.HotC (L2H.cxH CX0 P w K mg base NCo "costs_of" (defScope sCostsR) f cdv A outer s H E pn) := ⟨pn, hot, List.mem_singleton_self pn⟩
    obtain ⟨dx, p, q0, hx, hp, hq, RO⟩ := id hRe
    have hz := PySem.sizeLine_eq
    refine ⟨_, pss_cons (ps_set (i := 1) scCo.nd rfl (.inr rfl) (pe_op op_rep (pe_lst (pa_cons pe_int pa_nil)) (pe_op op_add (pe_callB call_len (by rfl) m1 PySem.boot_len (pa_cons (pe_fld (pv 0) rfl) pa_nil)) pe_int)))
      (pss_cons (L2H.ps_forH (passes_of rfl) hcX (L2H.pi_rev0H (by rfl) m2 (prg_1 (by rfl) m3 (pe_callB call_len (by rfl) m1 PySem.boot_len (pa_cons (pe_fld (pv 0) rfl) pa_nil)))) (pg_name (i := 2) scCo.nd rfl (.inr rfl))
        (pss_cons ps_never (pss_one ps_never)))
      (pss_one (ps_ret (pv 1)))), ?_⟩
    refine ⟨(by show 1 ≤ sizeLine; omega), fun z nz => ?_⟩
    have s1 := same_upd (o := .lst [.int 0]) nz
    have hz1 : (upd H z (.lst [.int 0])) z = some (.lst [.int 0]) := upd_same
    generalize upd H z (.lst [.int 0]) = H1 at *
    refine ⟨_, rfl, x, C, dx, _, _, rfl, s1 _ _ hx, T.cl, T.nN, reF_n _ _ _ _, _, 0, rfl, ⟨by decide, rfl⟩, _, _, rfl, rfl, z, _, _, rfl, rfl, hz1, by decide, by decide, (by show 1 * _ ≤ _; rw [hz]; decide), fun D nD => ?_⟩
    have s2 := s1.trans (same_upd (o := .lst (List.replicate ((0 : Nat) + (1 : Int)).toNat [V.int 0]).flatten) nD)
    refine ⟨_, rfl, x, C, dx, _, _, rfl, s2 _ _ hx, T.cl, T.nN, reF_n _ _ _ _, _, 0, rfl, ⟨by decide, rfl⟩, 0, rfl, rfl, rfl, ?_⟩
    refine ⟨fun i m σ H' => i = 0 ∧ (∃ y2 y3 y4 y5 y6, σ = [some (.ref x), some (.ref D), y2, y3, y4, y5, y6]) ∧ H' = upd H1 D (.lst (List.replicate ((0 : Nat) + (1 : Int)).toNat [V.int 0]).flatten), ⟨0, rfl, ⟨_, _, _, _, _, rfl⟩, rfl⟩, ?_⟩
    rintro i m σ H' ⟨rfl, ⟨y2, y3, y4, y5, y6, rfl⟩, rfl⟩
    exact .inl ⟨trivial, _, rfl, fin _ D _ s2 (none_back s1 nD) upd_same⟩
def spLr0 (C : Addr) : Sp := fun vs H Q _ => ∃ (x pc : Addr) (old : List Nat), vs = [.ref x, .ref pc] ∧ ReAt C H x old [] [] [] ∧ ∀ H' q, Same H H' → H q = none → H' q = some (.lst []) → Q (.ref q) H'
theorem okh_lr0 (T : ReTxt K mg C fI fA fO) {f : Addr} {fd : FuncData} {j : Nat} (F : Fun K "least_row" "least_row" sLeastR f fd) (m1 : mg "len" = none) :
    L2H.FnH P w K mg base CX0 (j + 1) f fd ["reaches", "costs"] (spLr0 C) := by
  refine okH F scLr (fun vs H Q E h => ?_) (fun cdv A outer s H vs Q E pn hot hr h => ?_)
  · obtain ⟨x, pc, old, rfl, _⟩ := h
    rfl
  · obtain ⟨x, pc, old, rfl, hRe, fin⟩ := h
    obtain ⟨dx, p, q0, hx, hp, hq, RO⟩ := id hRe
    refine ⟨_, pss_cons (ps_set (i := 2) scLr.nd rfl (.inl rfl) (pe_lst pa_nil))
      (pss_cons (ps_set (i := 3) scLr.nd rfl (.inr rfl) pe_int)
      (pss_cons (L2H.ps_whileNo (passes_of rfl) (pt_cmpR op_lt (pv 3) (pe_callB call_len (by rfl) m1 PySem.boot_len (pa_cons (pe_fld (pv 0) rfl) pa_nil)) (nomark _)))
      (pss_one (ps_ret (pv 2))))), ?_⟩
    refine ⟨Nat.zero_le _, fun D nD => ?_⟩
    have s1 := same_upd (o := .lst []) nD
    refine ⟨_, rfl, _, rfl, x, C, dx, _, _, rfl, s1 _ _ hx, T.cl, T.nN, reF_n _ _ _ _, _, 0, rfl, ⟨by decide, rfl⟩, _, _, rfl, rfl, _, rfl, rfl, ?_⟩
    exact ⟨_, rfl, fin _ D s1 nD upd_same⟩
def spDi0 : Sp := fun vs H Q _ => ∃ (old : List Nat), vs = [.byt (byB old), .byt (byB [])] ∧ (∀ k ∈ old, k < 256) ∧ old.length ≤ 2000 ∧
  ∀ H' t d pc x, Same H H' → H t = none → H' t = some (.tup [.ref d, .ref pc]) → DfAt H' d x ⟨(old.length, mrk old), (0, mrk []), []⟩ → Q (.ref t) H'
theorem okh_di0 (T : ReTxt K mg C fI fA fO) {f fB fC fM fL : Addr} {fd fdB fdC fdM fdL fdI : FuncData} {j k1 k2 k3 k4 k5 : Nat} (F : Fun K "difference" "difference" sDiff f fd)
    (GB : L2H.FnH P w K mg base CX0 k1 fB fdB ["told"] spRefB) (bB : Binds K fdB ["told"] []) (kB : PySem.W.keepIn K (.ref fB) = true) (gB : mg "refuse_bytes" = some (.ref fB)) (l1 : k1 ≤ j)
    (GI : L2H.FnH P w K mg base CX0 k2 fI fdI ["self", "old", "new"] (spReI0 C)) (bI : Binds K fdI ["self", "old", "new"] []) (l2 : k2 + 1 ≤ j)
    (GC : L2H.FnH P w K mg base CX0 k3 fC fdC ["reaches"] (spCo0 C)) (bC : Binds K fdC ["reaches"] []) (kC : PySem.W.keepIn K (.ref fC) = true) (gC : mg "costs_of" = some (.ref fC)) (l3 : k3 ≤ j)
    (GM : L2H.FnH P w K mg base CX0 k4 fM fdM ["data"] spMark) (bM : Binds K fdM ["data"] []) (kM : PySem.W.keepIn K (.ref fM) = true) (gM : mg "mark_of" = some (.ref fM)) (l4 : k4 ≤ j)
    (GL : L2H.FnH P w K mg base CX0 k5 fL fdL ["reaches", "costs"] (spLr0 C)) (bL : Binds K fdL ["reaches", "costs"] []) (kL : PySem.W.keepIn K (.ref fL) = true) (gL : mg "least_row" = some (.ref fL)) (l5 : k5 ≤ j) :
    L2H.FnH P w K mg base CX0 (j + 1) f fd ["old", "new"] spDi0 := by
  refine okH F scDi (fun vs H Q E h => ?_) (fun cdv A outer s H vs Q E pn hot hr h => ?_)
  · obtain ⟨old, rfl, _⟩ := h
    rfl
  · obtain ⟨old, rfl, ko, lo, fin⟩ := h
    have hcX : L2H.HotC (L2H.cxH CX0 P w K mg base ["old", "new", "reaches", "costs"] "difference" (defScope sDiff) f cdv A outer s H E pn) := ⟨pn, hot, List.mem_singleton_self pn⟩
    have hz := PySem.sizeLine_eq
    refine ⟨_, pss_cons (ps_expr (L2H.pe_callH (E := fun _ => E0) GB (hr.mono l1) hcX (by rfl) gB kB bB (fun σ _ _ _ _ _ _ z => z.elim) (pa_cons (pv 0) pa_nil))) (pss_cons (ps_expr (L2H.pe_callH (E := fun _ => E0) GB (hr.mono l1) hcX (by rfl) gB kB bB (fun σ _ _ _ _ _ _ z => z.elim) (pa_cons (pv 1) pa_nil)))
      (pss_cons (ps_set (i := 2) scDi.nd rfl (.inl rfl) (L2H.pe_makeH T.made GI (hr.mono l2) hcX (by rfl) T.gC bI pass0 (pa_cons (pv 0) (pa_cons (pv 1) pa_nil))))
      (pss_cons (ps_set (i := 3) scDi.nd rfl (.inl rfl) (L2H.pe_callH (E := fun _ => E0) GC (hr.mono l3) hcX (by rfl) gC kC bC (fun σ _ _ _ _ _ _ z => z.elim) (pa_cons (pv 2) pa_nil)))
      (pss_one (ps_ret (pe_tup (pa_cons (pe_tup (pa_cons (L2H.pe_callH (E := fun _ => E0) GM (hr.mono l4) hcX (by rfl) gM kM bM (fun σ _ _ _ _ _ _ z => z.elim) (pa_cons (pv 0) pa_nil)) (pa_cons (L2H.pe_callH (E := fun _ => E0) GM (hr.mono l4) hcX (by rfl) gM kM bM (fun σ _ _ _ _ _ _ z => z.elim) (pa_cons (pv 1) pa_nil)) (pa_cons (L2H.pe_callH (E := fun _ => E0) GL (hr.mono l5) hcX (by rfl) gL kL bL (fun σ _ _ _ _ _ _ z => z.elim) (pa_cons (pv 2) (pa_cons (pv 3) pa_nil))) pa_nil)))) (pa_cons (pv 3) pa_nil)))))))), ?_⟩
    refine ⟨_, rfl, old, rfl, lo, _, rfl, [], rfl, Nat.zero_le _, _, rfl, _, rfl, ?_⟩
    intro x dx nx nd ne
    refine ⟨x, dx, old, rfl, upd_same, fun H1 k1' hRe => ⟨rfl, ?_⟩⟩
    have s1 := make_same nx nd k1'
    dsimp only [gName]
    refine ⟨_, rfl, x, old, rfl, hRe, fun H2 pc us s2 npc hpc => ?_⟩
    have s12 := s1.trans s2
    dsimp only [gName]
    refine ⟨_, rfl, old, rfl, ko, lo, fun H3 a s3 na hma => ?_⟩
    refine ⟨_, rfl, [], rfl, fun k m => (by cases m), Nat.zero_le _, fun H4 b s4 nb hmb => ?_⟩
    have hma := s4 _ _ hma
    have s24 := s3.trans s4
    refine ⟨_, rfl, _, rfl, x, pc, old, rfl, (hRe.same s2).same s24, fun H5 r s5 nr hrw => ?_⟩
    have hma := s5 _ _ hma
    have hmb := s5 _ _ hmb
    have s15 := (s12.trans s24).trans s5
    refine ⟨(by show 3 ≤ sizeLine; omega), fun d nd => ?_⟩
    have s6 := same_upd (o := .tup [.ref a, .ref b, .ref r]) nd
    have hd6 : (upd H5 d (.tup [.ref a, .ref b, .ref r])) d = some (.tup [.ref a, .ref b, .ref r]) := upd_same
    have s16 := s15.trans s6
    have hma := s6 _ _ hma
    have hmb := s6 _ _ hmb
    have hrw := s6 _ _ hrw
    generalize upd H5 d (.tup [.ref a, .ref b, .ref r]) = H6 at *
    refine ⟨_, rfl, (by show 2 ≤ sizeLine; omega), fun t nt => ?_⟩
    have s7 := same_upd (o := .tup [.ref d, .ref pc]) nt
    exact fin _ t d pc ⟨a, b, r⟩ (s16.trans s7) (none_back s16 nt) upd_same ⟨s7 _ _ hd6, s7 _ _ hma, s7 _ _ hmb, [], s7 _ _ hrw, .nil⟩
def spRf0 : Sp := fun vs H Q _ => ∃ (r : Addr), vs = [.ref r] ∧ H r = some (.lst []) ∧ ∀ H' q, Same H H' → H q = none → H' q = some (.lst []) → Q (.ref q) H'
def spJo0 : Sp := fun vs H Q _ => ∃ (t1 t2 : Addr) (x1 x2 : DfA) (d1 d2 : Dfv), vs = [.ref t1, .ref t2] ∧ DfAt H t1 x1 d1 ∧ DfAt H t2 x2 d2 ∧ d1.Low ∧ d2.Low ∧ d1.ok = true ∧ d2.ok = true ∧ d1.new = d2.old ∧ d2.row = [] ∧
  ∀ H' t' x', Same H H' → H t' = none → DfAt H' t' x' ⟨d1.old, d2.new, []⟩ → Q (.ref t') H'
end
end K9

namespace K9
open PySem PySem.Spec PyProof.Rows L2
/-! ### least differences, pure: all items at a place -/
def CpIt (old new : List Nat) (a : Nat) : Di → Prop
  | .b _ => False
  | .c true m p => 3 ≤ m ∧ m ≤ 255 ∧ a + m ≤ new.length ∧ 1 ≤ p ∧ p ≤ a ∧ sliceN new (a - p) m = sliceN new a m
  | .c false m p => 1 ≤ m ∧ m ≤ 255 ∧ a + m ≤ new.length ∧ p + m ≤ old.length ∧ sliceN old p m = sliceN new a m
def cI : Di → Nat
  | .b _ => 9
  | .c true _ _ => 20
  | .c false _ _ => 24
structure LcAt (old new cs : List Nat) (a : Nat) : Prop where
  byte : cs.getD a 0 ≤ 9 + cs.getD (a + 1) 0
  copy : ∀ it, CpIt old new a it → cs.getD a 0 ≤ cI it + cs.getD (a + wideI it) 0
  some : cs.getD a 0 = 9 + cs.getD (a + 1) 0 ∨ ∃ it, CpIt old new a it ∧ cs.getD a 0 = cI it + cs.getD (a + wideI it) 0
structure LC (old new cs : List Nat) : Prop where
  len : cs.length = new.length + 1
  last : cs.getD new.length 0 = 0
  step : ∀ a, a < new.length → LcAt old new cs a
theorem cp_wide {old new : List Nat} {a : Nat} : ∀ {it : Di}, CpIt old new a it → 1 ≤ wideI it ∧ wideI it ≤ 255 ∧ a + wideI it ≤ new.length
  | .b _, h => h.elim
  | .c true m p, h => ⟨by show 1 ≤ m; have := h.1; omega, h.2.1, h.2.2.1⟩
  | .c false m p, h => ⟨h.1, h.2.1, h.2.2.1⟩
theorem lc_unique {old new cs ds : List Nat} (h : LC old new cs) (k : LC old new ds) : cs = ds := by
  have main : ∀ d a, a + d = new.length → cs.getD a 0 = ds.getD a 0 := by
    intro d
    induction d using Nat.strongRecOn with
    | ind d ih =>
      intro a e
      by_cases z : a = new.length
      · rw [z, h.last, k.last]
      · have ha : a < new.length := by omega
        have nx : ∀ b, a < b → b ≤ new.length → cs.getD b 0 = ds.getD b 0 := fun b h1 h2 => ih (new.length - b) (by omega) b (by omega)
        have hs := h.step a ha
        have ks := k.step a ha
        have e1 := nx (a + 1) (by omega) (by omega)
        have le1 : cs.getD a 0 ≤ ds.getD a 0 := by
          rcases ks.some with q | ⟨it, hc, q⟩
          · rw [q, ← e1]; exact hs.byte
          · have w := cp_wide hc
            rw [q, ← nx (a + wideI it) (by omega) w.2.2]; exact hs.copy it hc
        have le2 : ds.getD a 0 ≤ cs.getD a 0 := by
          rcases hs.some with q | ⟨it, hc, q⟩
          · rw [q, e1]; exact ks.byte
          · have w := cp_wide hc
            rw [q, nx (a + wideI it) (by omega) w.2.2]; exact ks.copy it hc
        omega
  refine List.ext_getElem (by rw [h.len, k.len]) fun i h1 h2 => ?_
  have := main (new.length - i) i (by have := h.len; omega)
  rwa [List.getD_eq_getElem?_getD, List.getD_eq_getElem?_getD, List.getElem?_eq_getElem h1, List.getElem?_eq_getElem h2] at this
/-! ### shorter copies -/
theorem slice_pre {e f : List Nat} {s i m k : Nat} (h : sliceN e s m = sliceN f i m) (hk : k ≤ m) : sliceN e s k = sliceN f i k := by
  have e1 : ∀ (g : List Nat) (t : Nat), sliceN g t k = (sliceN g t m).take k := fun g t => by
    unfold sliceN
    rw [List.take_take, Nat.min_eq_left hk]
  rw [e1, e1, h]
theorem cpN_pre {e : List Nat} {i m k : Nat} (h : CpN e i m) (hk : k ≤ m) : CpN e i k := by
  rcases h with rfl | ⟨s, h1, h2⟩
  · exact .inl (by omega)
  · exact .inr ⟨s, h1, slice_pre h2 hk⟩
theorem cpO_pre {old e : List Nat} {i m k : Nat} (h : CpO old e i m) (hk : k ≤ m) : CpO old e i k := by
  obtain ⟨s, h1, h2⟩ := h
  exact ⟨s, by omega, slice_pre h2 hk⟩
theorem longN_most {e : List Nat} {i m k : Nat} (h : LongN e i m) (c : CpN e i k) (hk : k ≤ mostN e i) : k ≤ m := by
  by_cases z : k ≤ m
  · exact z
  · exact absurd (cpN_pre c (by omega : m + 1 ≤ k)) (h.2.2 (by omega))
theorem longO_most {old e : List Nat} {i m k : Nat} (h : LongO old e i m) (c : CpO old e i k) (hk : k ≤ mostN e i) : k ≤ m := by
  by_cases z : k ≤ m
  · exact z
  · exact absurd (cpO_pre c (by omega : m + 1 ≤ k)) (h.2.2 (by omega))
theorem most_of {e : List Nat} {i k : Nat} (h1 : k ≤ 255) (h2 : i + k ≤ e.length) : k ≤ mostN e i := by
  unfold mostN
  omega
theorem cp_new {old new : List Nat} {a m p : Nat} (h : CpIt old new a (.c true m p)) : CpN new a m := .inr ⟨a - p, by have := h.2.2.2; omega, h.2.2.2.2.2⟩
theorem cp_old {old new : List Nat} {a m p : Nat} (h : CpIt old new a (.c false m p)) : CpO old new a m := ⟨p, h.2.2.2⟩
theorem new_cp {old new : List Nat} {a m : Nat} (h : CpN new a m) (h1 : 3 ≤ m) (h2 : m ≤ 255) (h3 : a + m ≤ new.length) : ∃ p, CpIt old new a (.c true m p) := by
  rcases h with rfl | ⟨s, h4, h5⟩
  · omega
  · exact ⟨a - s, h1, h2, h3, by omega, by omega, by rw [show a - (a - s) = s by omega]; exact h5⟩
theorem old_cp {old new : List Nat} {a m : Nat} (h : CpO old new a m) (h1 : 1 ≤ m) (h2 : m ≤ 255) (h3 : a + m ≤ new.length) : ∃ p, CpIt old new a (.c false m p) := by
  obtain ⟨s, h4, h5⟩ := h
  exact ⟨s, h1, h2, h3, h4, h5⟩
theorem co_mem {cs ms ls : List Nat} {a y : Nat} (h : y ∈ coL cs ms ls a) : y = 9 + cs.getD (a + 1) 0 ∨ (3 ≤ ms.getD a 0 ∧ y = 20 + cs.getD (a + ms.getD a 0) 0) ∨ (1 ≤ ls.getD a 0 ∧ y = 24 + cs.getD (a + ls.getD a 0) 0) := by
  rcases List.mem_cons.mp h with h | h
  · exact .inl h
  · obtain ⟨c, hc, rfl⟩ := List.mem_map.mp h
    rcases cops_mem hc with ⟨rfl, g⟩ | ⟨rfl, g⟩
    · exact .inr (.inl ⟨g, rfl⟩)
    · exact .inr (.inr ⟨g, rfl⟩)
theorem mem_co1 (cs ms ls : List Nat) (a : Nat) : 9 + cs.getD (a + 1) 0 ∈ coL cs ms ls a := List.mem_cons_self ..
theorem mem_co2 {cs ms ls : List Nat} {a : Nat} (h : 3 ≤ ms.getD a 0) : 20 + cs.getD (a + ms.getD a 0) 0 ∈ coL cs ms ls a := by
  refine List.mem_cons_of_mem _ (List.mem_map.mpr ⟨(ms.getD a 0, true, 20), ?_, rfl⟩)
  unfold copsL
  rw [if_pos h]
  exact List.mem_append_left _ (List.mem_singleton.mpr rfl)
theorem mem_co3 {cs ms ls : List Nat} {a : Nat} (h : 1 ≤ ls.getD a 0) : 24 + cs.getD (a + ls.getD a 0) 0 ∈ coL cs ms ls a := by
  refine List.mem_cons_of_mem _ (List.mem_map.mpr ⟨(ls.getD a 0, false, 24), ?_, rfl⟩)
  unfold copsL
  rw [if_pos h]
  exact List.mem_append_right _ (List.mem_singleton.mpr rfl)
/-- from a later place it is never dearer -/
theorem cost_mono {old new ms ls cs : List Nat} (R : ReOk old new ms ls) (C : CostOk ms ls new.length cs) : ∀ a, a < new.length → cs.getD (a + 1) 0 ≤ cs.getD a 0 := by
  have main : ∀ d a, a + d = new.length → a < new.length → cs.getD (a + 1) 0 ≤ cs.getD a 0 := by
    intro d
    induction d using Nat.strongRecOn with
    | ind d ih =>
      intro a e ha
      have nx : ∀ k x, a < x → x + k ≤ new.length → cs.getD (x + k) 0 ≤ cs.getD x 0 := by
        intro k
        induction k with
        | zero => intro x _ _; exact Nat.le_refl _
        | succ k ik =>
          intro x h1 h2
          have := ih (new.length - (x + k)) (by omega) (x + k) (by omega) (by omega)
          exact Nat.le_trans this (ik x h1 (by omega))
      have to : ∀ x y, a < x → x ≤ y → y ≤ new.length → cs.getD y 0 ≤ cs.getD x 0 := fun x y h1 h2 h3 => by
        have := nx (y - x) x h1 (by omega)
        rwa [show x + (y - x) = y by omega] at this
      have hm := R.hm a ha
      have hl := R.hl a ha
      have bm : ms.getD a 0 ≤ 255 ∧ ms.getD a 0 ≤ new.length - a := ⟨Nat.le_trans hm.1 (Nat.min_le_left _ _), Nat.le_trans hm.1 (Nat.min_le_right _ _)⟩
      have bl : ls.getD a 0 ≤ 255 ∧ ls.getD a 0 ≤ new.length - a := ⟨Nat.le_trans hl.1 (Nat.min_le_left _ _), Nat.le_trans hl.1 (Nat.min_le_right _ _)⟩
      rcases co_mem (C.step a ha).1 with q | ⟨g, q⟩ | ⟨g, q⟩
      · omega
      · have h1 : a + 1 < new.length := by omega
        have ge : ms.getD a 0 - 1 ≤ ms.getD (a + 1) 0 := longN_most (R.hm (a + 1) h1) hm.2.1.next (most_of (by omega) (by omega))
        have hm1 := R.hm (a + 1) h1
        have bm1 : ms.getD (a + 1) 0 ≤ new.length - (a + 1) := Nat.le_trans hm1.1 (Nat.min_le_right _ _)
        have st := (C.step (a + 1) h1).2
        by_cases z : 3 ≤ ms.getD (a + 1) 0
        · have := st _ (mem_co2 z)
          have := to (a + ms.getD a 0) (a + 1 + ms.getD (a + 1) 0) (by omega) (by omega) (by omega)
          omega
        · have e3 : ms.getD a 0 = 3 := by omega
          rw [e3] at q
          have b1 := st _ (mem_co1 ..)
          have b2 := (C.step (a + 2) (by omega)).2 _ (mem_co1 ..)
          have b1 : cs.getD (a + 1) 0 ≤ 9 + cs.getD (a + 2) 0 := b1
          have b2 : cs.getD (a + 2) 0 ≤ 9 + cs.getD (a + 3) 0 := b2
          omega
      · by_cases z : ls.getD a 0 = 1
        · rw [z] at q
          omega
        · have h1 : a + 1 < new.length := by omega
          have ge : ls.getD a 0 - 1 ≤ ls.getD (a + 1) 0 := longO_most (R.hl (a + 1) h1) hl.2.1.next (most_of (by omega) (by omega))
          have hl1 := R.hl (a + 1) h1
          have bl1 : ls.getD (a + 1) 0 ≤ new.length - (a + 1) := Nat.le_trans hl1.1 (Nat.min_le_right _ _)
          have := (C.step (a + 1) h1).2 _ (mem_co3 (by omega))
          have := to (a + ls.getD a 0) (a + 1 + ls.getD (a + 1) 0) (by omega) (by omega) (by omega)
          omega
  exact fun a ha => main (new.length - a) a (by omega) ha
theorem cost_to {old new ms ls cs : List Nat} (R : ReOk old new ms ls) (C : CostOk ms ls new.length cs) {x y : Nat} (h1 : x ≤ y) (h2 : y ≤ new.length) : cs.getD y 0 ≤ cs.getD x 0 := by
  have : ∀ k, x + k ≤ new.length → cs.getD (x + k) 0 ≤ cs.getD x 0 := by
    intro k
    induction k with
    | zero => intro _; exact Nat.le_refl _
    | succ k ik => intro h; exact Nat.le_trans (cost_mono R C (x + k) (by omega)) (ik (by omega))
  have := this (y - x) (by omega)
  rwa [show x + (y - x) = y by omega] at this
theorem cost_lc {old new ms ls cs : List Nat} (R : ReOk old new ms ls) (C : CostOk ms ls new.length cs) : LC old new cs := by
  refine ⟨C.len, C.last, fun a ha => ?_⟩
  have hm := R.hm a ha
  have hl := R.hl a ha
  have bm : ms.getD a 0 ≤ 255 ∧ ms.getD a 0 ≤ new.length - a := ⟨Nat.le_trans hm.1 (Nat.min_le_left _ _), Nat.le_trans hm.1 (Nat.min_le_right _ _)⟩
  have bl : ls.getD a 0 ≤ 255 ∧ ls.getD a 0 ≤ new.length - a := ⟨Nat.le_trans hl.1 (Nat.min_le_left _ _), Nat.le_trans hl.1 (Nat.min_le_right _ _)⟩
  have st := (C.step a ha).2
  refine ⟨st _ (mem_co1 ..), fun it h => ?_, ?_⟩
  · have w := cp_wide h
    match it, h, w with
    | .c true m p, h, w =>
      have w : 1 ≤ m ∧ m ≤ 255 ∧ a + m ≤ new.length := w
      have le := longN_most hm (cp_new h) (most_of w.2.1 w.2.2)
      have h3 : 3 ≤ m := h.1
      have := st _ (mem_co2 (by omega))
      have := cost_to R C (x := a + m) (y := a + ms.getD a 0) (by omega) (by omega)
      show _ ≤ 20 + cs.getD (a + m) 0
      omega
    | .c false m p, h, w =>
      have w : 1 ≤ m ∧ m ≤ 255 ∧ a + m ≤ new.length := w
      have le := longO_most hl (cp_old h) (most_of w.2.1 w.2.2)
      have := st _ (mem_co3 (by omega))
      have := cost_to R C (x := a + m) (y := a + ls.getD a 0) (by omega) (by omega)
      show _ ≤ 24 + cs.getD (a + m) 0
      omega
  · rcases co_mem (C.step a ha).1 with q | ⟨g, q⟩ | ⟨g, q⟩
    · exact .inl q
    · obtain ⟨p, hp⟩ := new_cp (old := old) hm.2.1 g bm.1 (by omega)
      exact .inr ⟨_, hp, q⟩
    · obtain ⟨p, hp⟩ := old_cp (new := new) hl.2.1 g bl.1 (by omega)
      exact .inr ⟨_, hp, q⟩
end K9

namespace L2
open PySem PySem.Spec PyProof.Rows PySem.W
/-! ### sorted of a list of tuples that read as data -/
structure SortKind (β : Type) where
  At : Hp → β → V → Prop
  enc : β → PyData
  al : ∀ b b', alike (enc b) (enc b') = true
  tup : ∀ b, ∃ x r, enc b = .tuple (x :: r)
  dep : ∀ b, (enc b).depth ≤ 1
  ref : ∀ H b v, At H b v → ∃ t, v = .ref t
  dp : ∀ K H b v, At H b v → Dp K H v (enc b)
variable {β : Type}
def rSortDt (K : PySem.W.Frag) (S : SortKind β) : List V → Hp → VK → Prop := fun vs H Q => ∃ (a : Addr) (xs : List V) (bs : List β), vs = [V.ref a] ∧ SqL K H a xs ∧ Paired (S.At H) bs xs ∧
  ∀ ys p, Paired (S.At H) (bs.mergeSort (dataLe false S.enc)) ys → H p = none → Q (.ref p) (upd H p (.lst ys))
theorem each_read {X : Cx} {pins : List (Addr × Obj)} {σ : St} {H : Hp} {s : Shared} (I : Inv X pins σ H s) (S : SortKind β) : ∀ {bs : List β} {xs : List V} {its : List Value}, Paired (S.At H) bs xs → Vals xs its →
    EachIs (fun v b => (∃ t, v = Value.ref t) ∧ S.At H b (backV v)) its bs ∧ EachIs (fun v b => ∃ as, Reads s.heap v (S.enc b) as) its bs
  | [], _, _, .nil, .nil => ⟨.nil, .nil⟩
  | b :: bs, _, _, .cons h hs, .cons r rs => by
    obtain ⟨h1, h2⟩ := each_read I S hs rs
    obtain ⟨t, rfl⟩ := S.ref _ _ _ h
    obtain ⟨as, h3⟩ := Dp.reads I (S.enc b) (.ref t) _ (S.dp _ _ _ _ h) r
    obtain rfl : _ = Value.ref t := r
    exact ⟨.cons ⟨⟨t, rfl⟩, h⟩ h1, .cons ⟨as, h3⟩ h2⟩
theorem paired_back {S : SortKind β} {H : Hp} : ∀ {out : List Value} {bs : List β}, EachIs (fun v b => (∃ t, v = Value.ref t) ∧ S.At H b (backV v)) out bs → Paired (S.At H) bs (out.map backV) ∧ ∀ u ∈ out, ∃ a, u = Value.ref a
  | _, _, .nil => ⟨.nil, fun _ z => (by cases z)⟩
  | v :: _, _, .cons h t => by
    obtain ⟨h1, h2⟩ := paired_back t
    refine ⟨.cons h.2 h1, fun u hu => ?_⟩
    rcases List.mem_cons.mp hu with rfl | hu
    · exact h.1
    · exact h2 u hu
theorem cr_sortedDt {X : Cx} (S : SortKind β) {j : Nat} (hr : Room j X.A) : CallR X (.builtin "sorted") (rSortDt X.K S) := by
  intro pins s σ H vs us Q I r h
  obtain ⟨a, xs, bs, rfl, hs, hP, q⟩ := h
  obtain ⟨its, rv, hl, hz⟩ := I.list hs
  rw [Vals.ref1 r]
  obtain ⟨h1, h2⟩ := each_read I S hP rv
  have hu := hr.un
  have hlen : xs.length = bs.length := hP.length.symm
  refine sorted_data (s := s) hl.isList h1 h2 (AllAlike.of S.al) (Sortable.tuples S.tup) (by rw [← hlen]; exact hz) (fun b _ => by have := S.dep b; omega) fun out hlo ho => ?_
  obtain ⟨h3, h4⟩ := paired_back ho
  obtain ⟨n, hn⟩ := sortedAll_at s.heap its out.toArray
  refine ⟨.ref (s.heap.objs.size + 1), upd H (s.heap.objs.size + 1) (.lst (out.map backV)), I.laid (t' := s.toks) (fun b o e => sortedAll_old e) (Nat.le_succ _) ⟨?_, out, n, vals_back h4, hn⟩, rfl, q _ _ h3 (I.hok.fresh (Nat.le_succ _))⟩
  rw [List.length_map, hlo, ← hlen]
  exact hz
end L2

namespace K9
open PySem PySem.Spec PyProof.Rows L2
/-! ### the turn of copies, and which one is taken -/
def ltC : Di → Di → Prop
  | .c w m p, .c w' m' p' => m' < m ∨ (m = m' ∧ ((w = true ∧ w' = false) ∨ (w = w' ∧ p < p')))
  | _, _ => False
theorem ltC_tri {old new : List Nat} {a : Nat} : ∀ {x y : Di}, CpIt old new a x → CpIt old new a y → ¬ ltC x y → ¬ ltC y x → x = y
  | .b _, _, h, _, _, _ => h.elim
  | .c _ _ _, .b _, _, h, _, _ => h.elim
  | .c w m p, .c w' m' p', _, _, h, k => by
    have h : ¬ (m' < m ∨ (m = m' ∧ ((w = true ∧ w' = false) ∨ (w = w' ∧ p < p')))) := h
    have k : ¬ (m < m' ∨ (m' = m ∧ ((w' = true ∧ w = false) ∨ (w' = w ∧ p' < p)))) := k
    have e1 : m = m' := by omega
    subst e1
    have e2 : w = w' := by
      cases w <;> cases w'
      · rfl
      · exact absurd (.inr ⟨rfl, .inl ⟨rfl, rfl⟩⟩) k
      · exact absurd (.inr ⟨rfl, .inl ⟨rfl, rfl⟩⟩) h
      · rfl
    subst e2
    have : ¬ p < p' := fun z => h (.inr ⟨rfl, .inr ⟨rfl, z⟩⟩)
    have : ¬ p' < p := fun z => k (.inr ⟨rfl, .inr ⟨rfl, z⟩⟩)
    have : p = p' := by omega
    rw [this]
def rchI (cs : List Nat) (a : Nat) (it : Di) : Prop := cI it + cs.getD (a + wideI it) 0 = cs.getD a 0
def LTake (old new cs : List Nat) (a : Nat) (it : Di) : Prop :=
  (9 + cs.getD (a + 1) 0 = cs.getD a 0 ∧ it = .b (new.getD a 0)) ∨
  (9 + cs.getD (a + 1) 0 ≠ cs.getD a 0 ∧ CpIt old new a it ∧ rchI cs a it ∧ ∀ it', CpIt old new a it' → rchI cs a it' → ¬ ltC it' it)
theorem ltake_unique {old new cs : List Nat} {a : Nat} {x y : Di} (h : LTake old new cs a x) (k : LTake old new cs a y) : x = y := by
  rcases h with ⟨h1, rfl⟩ | ⟨h1, h2, h3, h4⟩
  · rcases k with ⟨k1, rfl⟩ | ⟨k1, _⟩
    · rfl
    · exact absurd h1 k1
  · rcases k with ⟨k1, rfl⟩ | ⟨k1, k2, k3, k4⟩
    · exact absurd k1 h1
    · exact ltC_tri h2 k2 (k4 _ h2 h3) (h4 _ k2 k3)
def LRow (old new cs : List Nat) : Nat → List Di → Prop
  | s, [] => s = new.length
  | s, it :: r => s < new.length ∧ LTake old new cs s it ∧ LRow old new cs (s + wideI it) r
theorem lrow_unique {old new cs : List Nat} : ∀ {r q : List Di} {s : Nat}, LRow old new cs s r → LRow old new cs s q → r = q
  | [], [], _, _, _ => rfl
  | [], x :: q, s, h, ⟨k1, _⟩ => by
    have h : s = new.length := h
    omega
  | x :: r, [], s, ⟨h1, _⟩, k => by
    have k : s = new.length := k
    omega
  | x :: r, y :: q, s, ⟨h1, h2, h3⟩, ⟨k1, k2, k3⟩ => by
    have e := ltake_unique h2 k2
    subst e
    rw [lrow_unique h3 k3]
theorem dl_pair (m l : Nat) : PySem.W.dataLt (pD ((m : Int), true)) (pD ((l : Int), false)) = decide (m < l) := by
  unfold pD
  rw [PySem.W.dataLt_pair rfl rfl]
  have e1 : PyData.eqv (.int (m : Int)) (.int (l : Int)) = decide (m = l) := by
    rw [PyData.eqv]
    by_cases z : m = l
    · subst z; simp
    · rw [decide_eq_false z]; exact beq_eq_false_iff_ne.mpr (by omega)
  rw [e1]
  by_cases z : m = l
  · subst z
    rw [decide_eq_true rfl, if_pos rfl, decide_eq_false (Nat.lt_irrefl _)]
    have e2 : PyData.eqv (.bool true) (.bool false) = false := by simp [PyData.eqv]
    rw [e2, if_neg (by decide), PySem.W.dataLt_bool]
    rfl
  · rw [decide_eq_false z, if_neg (by decide), PySem.W.dataLt_int]
    by_cases y : m < l
    · rw [decide_eq_true y]; exact decide_eq_true (by omega)
    · rw [decide_eq_false y]; exact decide_eq_false (by omega)
theorem pD_inj {x y : Int × Bool} (h : pD x = pD y) : x = y := by
  unfold pD at h
  injection h with h
  injection h with h1 h2
  injection h2 with h2 _
  injection h1 with h1
  injection h2 with h2
  exact Prod.ext h1 h2
theorem cand_max {cs ms ls : List Nat} {a : Nat} {c : Nat × Bool × Nat} {c0 : Int × Bool} {r : List (Int × Bool)} (hc : c ∈ candC cs ms ls a) (hr : (candC cs ms ls a).map nb = c0 :: r) (hm : pD (nb c) = PySem.W.maxD (pD c0) (r.map pD)) :
    ((ms.getD a 0, true, 20) ∈ candC cs ms ls a → c.2.1 = false → ms.getD a 0 < c.1) ∧ ((ls.getD a 0, false, 24) ∈ candC cs ms ls a → c.2.1 = true → ls.getD a 0 ≤ c.1) := by
  have sh : ∀ x ∈ candC cs ms ls a, x = (ms.getD a 0, true, 20) ∨ x = (ls.getD a 0, false, 24) := fun x hx => by
    rcases cops_mem (cand_in hx) with ⟨e, _⟩ | ⟨e, _⟩
    · exact .inl e
    · exact .inr e
  have both : (ms.getD a 0, true, 20) ∈ candC cs ms ls a → (ls.getD a 0, false, 24) ∈ candC cs ms ls a → candC cs ms ls a = [(ms.getD a 0, true, 20), (ls.getD a 0, false, 24)] := fun hA hB => by
    have a1 := List.mem_filter.mp hA
    have b1 := List.mem_filter.mp hB
    have g3 : 3 ≤ ms.getD a 0 := by
      rcases cops_mem a1.1 with ⟨_, g⟩ | ⟨e, _⟩
      · exact g
      · cases (Prod.mk.inj (Prod.mk.inj e).2).1
    have g1 : 1 ≤ ls.getD a 0 := by
      rcases cops_mem b1.1 with ⟨e, _⟩ | ⟨_, g⟩
      · cases (Prod.mk.inj (Prod.mk.inj e).2).1
      · exact g
    have a2 := a1.2
    have b2 := b1.2
    unfold candC copsL
    rw [if_pos g3, if_pos g1]
    show List.filter _ [(ms.getD a 0, true, 20), (ls.getD a 0, false, 24)] = _
    rw [List.filter_cons, if_pos a2, List.filter_cons, if_pos b2]
    rfl
  have two : (ms.getD a 0, true, 20) ∈ candC cs ms ls a → (ls.getD a 0, false, 24) ∈ candC cs ms ls a → nb c = if ms.getD a 0 < ls.getD a 0 then (((ls.getD a 0 : Nat) : Int), false) else (((ms.getD a 0 : Nat) : Int), true) := fun hA hB => by
    have e := both hA hB
    rw [e] at hr
    have e1 : (((ms.getD a 0 : Nat) : Int), true) = c0 := (List.cons.inj hr).1
    have e2 : [(((ls.getD a 0 : Nat) : Int), false)] = r := (List.cons.inj hr).2
    subst e1 e2
    have hm : pD (nb c) = (if PySem.W.dataLt (pD (((ms.getD a 0 : Nat) : Int), true)) (pD (((ls.getD a 0 : Nat) : Int), false)) = true then pD (((ls.getD a 0 : Nat) : Int), false) else pD (((ms.getD a 0 : Nat) : Int), true)) := hm
    rw [dl_pair] at hm
    refine pD_inj ?_
    rw [hm]
    by_cases z : ms.getD a 0 < ls.getD a 0
    · rw [if_pos z, if_pos (decide_eq_true z)]
    · rw [if_neg z, if_neg (by rw [decide_eq_false z]; decide)]
  refine ⟨fun hA hb => ?_, fun hB hb => ?_⟩
  · rcases sh c hc with e | e
    · rw [e] at hb; cases hb
    · have hB : (ls.getD a 0, false, 24) ∈ candC cs ms ls a := e ▸ hc
      have t := two hA hB
      rw [e] at t ⊢
      by_cases z : ms.getD a 0 < ls.getD a 0
      · exact z
      · rw [if_neg z] at t
        cases (Prod.mk.inj t).2
  · rcases sh c hc with e | e
    · have hA : (ms.getD a 0, true, 20) ∈ candC cs ms ls a := e ▸ hc
      have t := two hA hB
      rw [e] at t ⊢
      by_cases z : ms.getD a 0 < ls.getD a 0
      · rw [if_pos z] at t
        cases (Prod.mk.inj t).2
      · show ls.getD a 0 ≤ ms.getD a 0
        omega
    · rw [e] at hb; cases hb
theorem take_ltake {old new ms ls cs : List Nat} (R : ReOk old new ms ls) (C : CostOk ms ls new.length cs) {a : Nat} (ha : a < new.length) {it : Di} (h : TakeIs old new cs ms ls a it) : LTake old new cs a it := by
  rcases h with h | ⟨h1, c, c0, r, hc, hr, hm, p, rfl, hn, ho⟩
  · exact .inl h
  · have L := (cost_lc R C).step a ha
    have hmm := R.hm a ha
    have hll := R.hl a ha
    have bm : ms.getD a 0 ≤ new.length - a := Nat.le_trans hmm.1 (Nat.min_le_right _ _)
    have bl : ls.getD a 0 ≤ new.length - a := Nat.le_trans hll.1 (Nat.min_le_right _ _)
    obtain ⟨g1, g2, g3, g4, g5⟩ := cops_in R ha (cand_in hc)
    obtain ⟨mA, mB⟩ := cand_max hc hr hm
    have hrc : c.2.2 + cs.getD (a + c.1) 0 = cs.getD a 0 := of_decide_eq_true (List.mem_filter.mp hc).2
    have st := (C.step a ha).2
    have inA : ∀ m' p', CpIt old new a (.c true m' p') → rchI cs a (.c true m' p') → m' ≤ ms.getD a 0 ∧ (ms.getD a 0, true, 20) ∈ candC cs ms ls a := fun m' p' hc' hr' => by
      have w : 1 ≤ m' ∧ m' ≤ 255 ∧ a + m' ≤ new.length := cp_wide hc'
      have le := longN_most hmm (cp_new hc') (most_of w.2.1 w.2.2)
      have h3 : 3 ≤ m' := hc'.1
      have hr' : 20 + cs.getD (a + m') 0 = cs.getD a 0 := hr'
      have t1 := st _ (mem_co2 (by omega))
      have t2 := cost_to R C (x := a + m') (y := a + ms.getD a 0) (by omega) (by omega)
      refine ⟨le, List.mem_filter.mpr ⟨?_, decide_eq_true (by show 20 + cs.getD (a + ms.getD a 0) 0 = _; omega)⟩⟩
      unfold copsL
      rw [if_pos (by omega : 3 ≤ ms.getD a 0)]
      exact List.mem_append_left _ (List.mem_singleton.mpr rfl)
    have inB : ∀ m' p', CpIt old new a (.c false m' p') → rchI cs a (.c false m' p') → m' ≤ ls.getD a 0 ∧ (ls.getD a 0, false, 24) ∈ candC cs ms ls a := fun m' p' hc' hr' => by
      have w : 1 ≤ m' ∧ m' ≤ 255 ∧ a + m' ≤ new.length := cp_wide hc'
      have le := longO_most hll (cp_old hc') (most_of w.2.1 w.2.2)
      have hr' : 24 + cs.getD (a + m') 0 = cs.getD a 0 := hr'
      have t1 := st _ (mem_co3 (by omega))
      have t2 := cost_to R C (x := a + m') (y := a + ls.getD a 0) (by omega) (by omega)
      refine ⟨le, List.mem_filter.mpr ⟨?_, decide_eq_true (by show 24 + cs.getD (a + ls.getD a 0) 0 = _; omega)⟩⟩
      unfold copsL
      rw [if_pos (by omega : 1 ≤ ls.getD a 0)]
      exact List.mem_append_right _ (List.mem_singleton.mpr rfl)
    refine .inr ⟨h1, ?_⟩
    rcases cops_mem (cand_in hc) with ⟨e, e3⟩ | ⟨e, e3⟩
    · subst e
      have n1 := hn rfl
      have hcp : CpIt old new a (.c true (ms.getD a 0) p) := ⟨e3, g3, g2, n1.1, n1.2.1, n1.2.2.1⟩
      refine ⟨hcp, hrc, fun it' hc' hr' => ?_⟩
      match it', hc', hr' with
      | .c true m' p', hc', hr' =>
        have le := (inA m' p' hc' hr').1
        intro z0
        have z : ms.getD a 0 < m' ∨ (m' = ms.getD a 0 ∧ ((true = true ∧ true = false) ∨ (true = true ∧ p' < p))) := z0
        rcases z with z | ⟨z1, ⟨_, z⟩ | ⟨_, z⟩⟩
        · omega
        · cases z
        · rw [z1] at hc'
          exact n1.2.2.2 p' hc'.2.2.2.1 z hc'.2.2.2.2.2
      | .c false m' p', hc', hr' =>
        have le := inB m' p' hc' hr'
        have := mB le.2 rfl
        intro z0
        have z : ms.getD a 0 < m' ∨ (m' = ms.getD a 0 ∧ ((false = true ∧ true = false) ∨ (false = true ∧ p' < p))) := z0
        have this : ls.getD a 0 ≤ ms.getD a 0 := this
        rcases z with z | ⟨z1, ⟨z, _⟩ | ⟨z, _⟩⟩
        · omega
        · cases z
        · cases z
    · subst e
      have n1 := ho rfl
      have hcp : CpIt old new a (.c false (ls.getD a 0) p) := ⟨e3, g3, g2, n1.1, n1.2.1⟩
      refine ⟨hcp, hrc, fun it' hc' hr' => ?_⟩
      match it', hc', hr' with
      | .c true m' p', hc', hr' =>
        have le := inA m' p' hc' hr'
        have this : ms.getD a 0 < ls.getD a 0 := mA le.2 rfl
        intro z0
        have z : ls.getD a 0 < m' ∨ (m' = ls.getD a 0 ∧ ((true = true ∧ false = false) ∨ (true = false ∧ p' < p))) := z0
        omega
      | .c false m' p', hc', hr' =>
        have le := (inB m' p' hc' hr').1
        intro z0
        have z : ls.getD a 0 < m' ∨ (m' = ls.getD a 0 ∧ ((false = true ∧ false = false) ∨ (false = false ∧ p' < p))) := z0
        rcases z with z | ⟨z1, ⟨z, _⟩ | ⟨_, z⟩⟩
        · omega
        · cases z
        · rw [z1] at hc'
          exact n1.2.2 p' z hc'.2.2.2.2
theorem row_lrow {old new ms ls cs : List Nat} (R : ReOk old new ms ls) (C : CostOk ms ls new.length cs) : ∀ {r : List Di} {s : Nat}, RowIs old new cs ms ls s r new.length → LRow old new cs s r
  | [], s, h => h
  | it :: r, s, ⟨h1, h2, h3⟩ => ⟨h1, take_ltake R C h1 h2, row_lrow R C h3⟩
end K9

namespace K9
open PySem PySem.Spec PyProof.Rows L2
/-! ### _law_diff_cost, _law_copies -/
theorem scDc : FnScope ["_law_item"] ["_law_item"] (defScope sLDCost) := ⟨rfl, rfl, rfl, by decide +kernel, rfl, by decide +kernel, by decide +kernel⟩
abbrev NCp : List Str := ["_law_old", "_law_new", "_law_place", "_law_found", "_law_word", "_law_some", "_law_at", "_law_many", "_law_there", "_law_lot", "_law_one"]
theorem scCp : FnScope NCp ["_law_old", "_law_new", "_law_place"] (defScope sLCopies) := ⟨rfl, rfl, rfl, by decide +kernel, rfl, by decide +kernel, by decide +kernel⟩
def encC : Di → PyData
  | .b n => .tuple [.int 0, .str "", .int (n : Int)]
  | .c w m p => .tuple [.int (-(m : Int)), .str (wdN w), .int (p : Int)]
def CtAt (H : Hp) : Di → V → Prop
  | .b _, _ => False
  | .c w m p, v => ∃ t, v = .ref t ∧ H t = some (.tup [.int (-(m : Int)), .str (wdN w), .int (p : Int)])
def skC : SortKind Di where
  At := CtAt
  enc := encC
  al := fun b b' => by cases b <;> cases b' <;> rfl
  tup := fun b => by cases b <;> exact ⟨_, _, rfl⟩
  dep := fun b => by cases b <;> simp [encC, PyData.depth, PyData.depthAll]
  ref := fun H b v h => by
    cases b with
    | b n => exact h.elim
    | c w m p => obtain ⟨t, e, _⟩ := h; exact ⟨t, e⟩
  dp := fun K H b v h => by
    cases b with
    | b n => exact h.elim
    | c w m p =>
      obtain ⟨t, rfl, ht⟩ := h
      exact .tup (.inl (.inl ht)) (.cons (.int _) (.cons (.str _) (.cons (.int _) .nil)))
/-! #### pure: how far they agree -/
def valE (lot new : List Nat) (there a m : Nat) : Prop := m ≤ 255 ∧ a + m ≤ new.length ∧ there + m ≤ lot.length ∧ sliceN lot there m = sliceN new a m
theorem slice_succ {e : List Nat} {s m : Nat} (h : s + m < e.length) : sliceN e s (m + 1) = sliceN e s m ++ [e.getD (s + m) 0] := by
  unfold sliceN
  rw [List.take_add_one, List.getElem?_drop, List.getElem?_eq_getElem h, List.getD_eq_getElem?_getD, List.getElem?_eq_getElem h]
  rfl
theorem valE_zero (lot new : List Nat) {there a : Nat} (h1 : a ≤ new.length) (h2 : there ≤ lot.length) : valE lot new there a 0 := ⟨Nat.zero_le _, h1, h2, by show (lot.drop there).take 0 = (new.drop a).take 0; rw [List.take_zero, List.take_zero]⟩
theorem valE_step {lot new : List Nat} {there a m : Nat} (h : valE lot new there a m) (h1 : m < 255) (h2 : a + m < new.length) (h3 : there + m < lot.length) (e : new.getD (a + m) 0 = lot.getD (there + m) 0) : valE lot new there a (m + 1) := ⟨h1, h2, h3, by rw [slice_succ h3, slice_succ h2, h.2.2.2, e]⟩
theorem valE_stop {lot new : List Nat} {there a m : Nat} (e : m < 255 → a + m < new.length → there + m < lot.length → new.getD (a + m) 0 ≠ lot.getD (there + m) 0) : ∀ m', valE lot new there a m' → m' ≤ m := fun m' h => by
  by_cases z : m' ≤ m
  · exact z
  · obtain ⟨h1, h2, h3, h4⟩ := h
    have := slice_pre h4 (show m + 1 ≤ m' by omega)
    rw [slice_succ (by omega), slice_succ (by omega)] at this
    have := (List.append_inj' this rfl).2
    exact absurd (List.cons.inj this).1.symm (e (by omega) (by omega) (by omega))
def itsOf (w : Bool) (lo m p : Nat) : List Di := (List.range (m + 1 - lo)).map fun t => Di.c w (lo + t) p
theorem mem_its {w : Bool} {lo m p : Nat} {it : Di} : it ∈ itsOf w lo m p ↔ ∃ k, lo ≤ k ∧ k ≤ m ∧ it = .c w k p := by
  unfold itsOf
  constructor
  · intro h
    obtain ⟨t, ht, rfl⟩ := List.mem_map.mp h
    have := List.mem_range.mp ht
    exact ⟨lo + t, by omega, by omega, rfl⟩
  · rintro ⟨k, h1, h2, rfl⟩
    exact List.mem_map.mpr ⟨k - lo, List.mem_range.mpr (by omega), by rw [show lo + (k - lo) = k by omega]⟩
def doneB (i k : Nat) : Di → Prop
  | .b _ => False
  | .c true _ p => 1 ≤ i ∨ p ≤ k
  | .c false _ p => 2 ≤ i ∨ (i = 1 ∧ p < k)
theorem its_new {old new : List Nat} {a k m : Nat} (hk : k < a) (hv : valE new new (a - 1 - k) a m) (hs : ∀ m', valE new new (a - 1 - k) a m' → m' ≤ m) {row : List Di} (h : ∀ it, it ∈ row ↔ CpIt old new a it ∧ doneB 0 k it) : ∀ it, it ∈ row ++ itsOf true 3 m (k + 1) ↔ CpIt old new a it ∧ doneB 0 (k + 1) it := fun it => by
  rw [List.mem_append, h, mem_its]
  constructor
  · rintro (⟨h1, h2⟩ | ⟨n, h1, h2, rfl⟩)
    · refine ⟨h1, ?_⟩
      match it, h2 with
      | .c true m' p, h2 =>
        rcases h2 with h2 | h2
        · exact .inl h2
        · exact .inr (Nat.le_succ_of_le h2)
      | .c false m' p, h2 =>
        rcases h2 with h2 | ⟨h2, _⟩
        · exact .inl h2
        · cases h2
    · have e := slice_pre hv.2.2.2 h2
      have := hv.1
      have := hv.2.1
      refine ⟨⟨h1, by omega, by omega, by omega, by omega, ?_⟩, .inr (Nat.le_refl _)⟩
      rw [show a - (k + 1) = a - 1 - k by omega]
      exact e
  · rintro ⟨h1, h2⟩
    match it, h1, h2 with
    | .c true m' p, h1, h2 =>
      rcases h2 with h2 | h2
      · exact absurd h2 (by decide)
      · by_cases z : p = k + 1
        · subst z
          have e := h1.2.2.2.2.2
          rw [show a - (k + 1) = a - 1 - k by omega] at e
          have g : a - 1 - k + m' ≤ new.length := by have := h1.2.2.1; omega
          exact .inr ⟨m', h1.1, hs m' ⟨h1.2.1, h1.2.2.1, g, e⟩, rfl⟩
        · exact .inl ⟨h1, .inr (by have h2 : p ≤ k + 1 := h2; omega)⟩
    | .c false m' p, h1, h2 =>
      rcases h2 with h2 | ⟨h2, _⟩
      · exact absurd h2 (by decide)
      · cases h2
theorem its_old {old new : List Nat} {a k m : Nat} (hv : valE old new k a m) (hs : ∀ m', valE old new k a m' → m' ≤ m) {row : List Di} (h : ∀ it, it ∈ row ↔ CpIt old new a it ∧ doneB 1 k it) : ∀ it, it ∈ row ++ itsOf false 1 m k ↔ CpIt old new a it ∧ doneB 1 (k + 1) it := fun it => by
  rw [List.mem_append, h, mem_its]
  constructor
  · rintro (⟨h1, h2⟩ | ⟨n, h1, h2, rfl⟩)
    · refine ⟨h1, ?_⟩
      match it, h2 with
      | .c true m' p, h2 => exact .inl (Nat.le_refl _)
      | .c false m' p, h2 =>
        rcases h2 with h2 | ⟨_, h2⟩
        · exact absurd h2 (by decide)
        · exact .inr ⟨rfl, by omega⟩
    · have e := slice_pre hv.2.2.2 h2
      have := hv.1
      have := hv.2.1
      have := hv.2.2.1
      exact ⟨⟨h1, by omega, by omega, by omega, e⟩, .inr ⟨rfl, by omega⟩⟩
  · rintro ⟨h1, h2⟩
    match it, h1, h2 with
    | .c true m' p, h1, h2 => exact .inl ⟨h1, .inl (Nat.le_refl _)⟩
    | .c false m' p, h1, h2 =>
      rcases h2 with h2 | ⟨_, h2⟩
      · exact absurd h2 (by decide)
      · by_cases z : p = k
        · subst z
          exact .inr ⟨m', h1.1, hs m' ⟨h1.2.1, h1.2.2.1, h1.2.2.2.1, h1.2.2.2.2⟩, rfl⟩
        · exact .inl ⟨h1, .inr ⟨rfl, by omega⟩⟩
theorem done_nil {old new : List Nat} {a : Nat} : ∀ it, it ∈ ([] : List Di) ↔ CpIt old new a it ∧ doneB 0 0 it := fun it => by
  refine ⟨fun z => (by cases z), fun ⟨h1, h2⟩ => ?_⟩
  match it, h1, h2 with
  | .c true m' p, h1, h2 =>
    rcases h2 with h2 | h2
    · exact absurd h2 (by decide)
    · have := h1.2.2.2.1
      omega
  | .c false m' p, h1, h2 =>
    rcases h2 with h2 | ⟨h2, _⟩
    · exact absurd h2 (by decide)
    · cases h2
theorem done_one {old new : List Nat} {a : Nat} {row : List Di} (h : ∀ it, it ∈ row ↔ CpIt old new a it ∧ doneB 0 a it) : ∀ it, it ∈ row ↔ CpIt old new a it ∧ doneB 1 0 it := fun it => by
  rw [h]
  refine ⟨fun ⟨h1, h2⟩ => ⟨h1, ?_⟩, fun ⟨h1, h2⟩ => ⟨h1, ?_⟩⟩
  · match it, h1, h2 with
    | .c true m' p, h1, h2 => exact .inl (Nat.le_refl _)
    | .c false m' p, h1, h2 =>
      rcases h2 with h2 | ⟨h2, _⟩
      · exact absurd h2 (by decide)
      · cases h2
  · match it, h1, h2 with
    | .c true m' p, h1, h2 => exact .inr h1.2.2.2.2.1
    | .c false m' p, h1, h2 =>
      rcases h2 with h2 | ⟨_, h2⟩
      · exact absurd h2 (by decide)
      · omega
theorem done_two {old new : List Nat} {a : Nat} {row : List Di} (h : ∀ it, it ∈ row ↔ CpIt old new a it ∧ doneB 1 old.length it) : ∀ it, it ∈ row ↔ CpIt old new a it ∧ doneB 2 0 it := fun it => by
  rw [h]
  refine ⟨fun ⟨h1, h2⟩ => ⟨h1, ?_⟩, fun ⟨h1, h2⟩ => ⟨h1, ?_⟩⟩
  · match it, h1, h2 with
    | .c true m' p, h1, h2 => exact .inl (by decide)
    | .c false m' p, h1, h2 => exact .inl (by decide)
  · match it, h1, h2 with
    | .c true m' p, h1, h2 => exact .inl (Nat.le_refl _)
    | .c false m' p, h1, h2 => exact .inr ⟨rfl, by have := h1.1; have := h1.2.2.2.1; omega⟩
theorem done_all {old new : List Nat} {a : Nat} {row : List Di} (h : ∀ it, it ∈ row ↔ CpIt old new a it ∧ doneB 2 0 it) : ∀ it, it ∈ row ↔ CpIt old new a it := fun it => by
  rw [h]
  refine ⟨fun h => h.1, fun h1 => ⟨h1, ?_⟩⟩
  match it, h1 with
  | .c true m' p, h1 => exact .inl (by decide)
  | .c false m' p, h1 => exact .inl (Nat.le_refl _)
/-! #### all but one list stays -/
def ButD (D : Addr) (H H' : Hp) : Prop := ∀ b o, b ≠ D → H b = some o → H' b = some o
theorem ButD.refl {D : Addr} {H : Hp} : ButD D H H := fun _ _ _ e => e
theorem ButD.then {D : Addr} {H H' H'' : Hp} (h : ButD D H H') (s : Same H' H'') : ButD D H H'' := fun b o n e => s _ _ (h b o n e)
theorem ButD.put {D : Addr} {H H' : Hp} {o : HO} (h : ButD D H H') : ButD D H (upd H' D o) := fun b x n e => by rw [upd_ne n]; exact h b x n e
theorem ButD.same {D : Addr} {G H H' : Hp} (s : Same G H) (n : G D = none) (h : ButD D H H') : Same G H' := fun b o e => h b o (ne_of_none e n) (s _ _ e)
theorem ct_keep {H H' : Hp} {row : List Di} {us : List V} (h : Paired (CtAt H) row us) (k : ∀ b xs, H b = some (.tup xs) → H' b = some (.tup xs)) : Paired (CtAt H') row us := h.mono fun it v z => by
  cases it with
  | b n => exact z
  | c w m p =>
    obtain ⟨t, e, ht⟩ := z
    exact ⟨t, e, k _ _ ht⟩
theorem paired_app {α β : Type} {R : α → β → Prop} : ∀ {as cs : List α} {bs ds : List β}, Paired R as bs → Paired R cs ds → Paired R (as ++ cs) (bs ++ ds)
  | [], _, _, _, .nil, h => h
  | _ :: _, _, _, _, .cons h t, k => .cons h (paired_app t k)
theorem dl_enc {x y : Di} (h : PySem.W.dataLt (encC y) (encC x) = false) : ¬ ltC y x := by
  cases y with
  | b n => exact fun z => z
  | c w m p =>
    cases x with
    | b n => exact fun z => z
    | c w' m' p' =>
      intro z
      have z : m' < m ∨ (m = m' ∧ ((w = true ∧ w' = false) ∨ (w = w' ∧ p < p'))) := z
      unfold encC at h
      rw [PySem.W.dataLt_tuple, PySem.W.dataLt_cons rfl] at h
      have e1 : PyData.eqv (.int (-(m : Int))) (.int (-(m' : Int))) = decide (m = m') := by
        rw [PyData.eqv]
        by_cases q : m = m'
        · subst q; simp
        · rw [decide_eq_false q]; exact beq_eq_false_iff_ne.mpr (by omega)
      rw [e1] at h
      by_cases q : m = m'
      · subst q
        rw [decide_eq_true rfl, if_pos rfl, PySem.W.dataLt_cons rfl] at h
        rcases z with z | ⟨_, ⟨rfl, rfl⟩ | ⟨rfl, z⟩⟩
        · omega
        · have e2 : PyData.eqv (.str (wdN true)) (.str (wdN false)) = false := by rw [PyData.eqv]; decide
          rw [e2, if_neg (by decide), PySem.W.dataLt_str] at h
          exact absurd h (by decide)
        · have e2 : PyData.eqv (.str (wdN w)) (.str (wdN w)) = true := by rw [PyData.eqv]; exact beq_self_eq_true _
          have e3 : PyData.eqv (.int (p : Int)) (.int (p' : Int)) = false := by rw [PyData.eqv]; exact beq_eq_false_iff_ne.mpr (by omega)
          rw [e2, if_pos rfl, PySem.W.dataLt_cons rfl, e3, if_neg (by decide), PySem.W.dataLt_int] at h
          exact absurd (of_decide_eq_false h) (by omega)
      · rw [decide_eq_false q, if_neg (by decide), PySem.W.dataLt_int] at h
        have := of_decide_eq_false h
        omega
theorem le_trans_enc (a b c : Di) : PySem.W.dataLe false encC a b = true → PySem.W.dataLe false encC b c = true → PySem.W.dataLe false encC a c = true := fun h1 h2 => (PySem.W.sortLe_total (PyProof.Rows.listOrd PyProof.Rows.itemOrd) false fun b : Di => PySem.W.keyToks (encC b)).trans a b c h1 h2
theorem le_total_enc (a b : Di) : (PySem.W.dataLe false encC a b || PySem.W.dataLe false encC b a) = true := Bool.or_eq_true_iff.mpr ((PySem.W.sortLe_total (PyProof.Rows.listOrd PyProof.Rows.itemOrd) false fun b : Di => PySem.W.keyToks (encC b)).total a b)
theorem ne_same {a : Nat} {P : Prop} (h : (!decide (V.int (a : Int) = V.int (a : Int))) = true) : P := by
  rw [decide_eq_true rfl] at h
  cases h
theorem ne_eq {a b : Nat} (h : ¬ (!decide (V.int (a : Int) = V.int (b : Int))) = true) : a = b := by
  by_cases z : V.int (a : Int) = V.int (b : Int)
  · injection z with z
    omega
  · rw [decide_eq_false z] at h
    exact absurd rfl h
theorem sort_enc (row : List Di) : (row.mergeSort (PySem.W.dataLe false encC)).Pairwise (fun x y => ¬ ltC y x) := by
  refine List.Pairwise.imp (fun {x y} h => ?_) (List.pairwise_mergeSort (le := PySem.W.dataLe false encC) le_trans_enc le_total_enc row)
  refine dl_enc ?_
  have h : (!PySem.W.dataLt (encC y) (encC x)) = true := h
  cases e : PySem.W.dataLt (encC y) (encC x) with
  | false => rfl
  | true => rw [e] at h; cases h
section
variable {P : Program} {w : World} {K : PySem.W.Frag} {mg : Str → Option Value} {base : Heap}
def spDc : Sp := fun vs H Q _ => ∃ (v : V) (i : Di), vs = [v] ∧ DiAt H i v ∧ Q (.int ((cI i : Nat) : Int)) H
theorem ok_dc {f : Addr} {fd : FuncData} {j : Nat} (F : Fun K "_law_diff_cost" "_law_diff_cost" sLDCost f fd) (m1 : mg "isinstance" = none) (m2 : mg "int" = none) :
    FnOk P w K mg base CX0 (j + 1) f fd ["_law_item"] spDc := by
  refine F.ok scDc (fun vs H Q E h => ?_) (fun cdv A outer s H vs Q E hr h => ?_)
  · obtain ⟨v, i, rfl, _⟩ := h
    rfl
  · obtain ⟨v, i, rfl, hi, q⟩ := h
    refine ⟨_, pss_one (ps_ret (pe_ifExp (pt_val (pe_callB call_isi (by rfl) m1 (by decide +kernel) (pa_cons (pv 0) (pa_cons (pe_bltn (v := .ty "int") (by rfl) m2 (by decide +kernel) rfl) pa_nil)))) pe_int
      (pe_ifExp (pt_cmpR op_eq (pe_ix ix_tup (pv 0) pe_int (fun _ _ => rfl)) pe_str (nomark _)) pe_int pe_int))), ?_⟩
    cases i with
    | b n =>
      obtain rfl : v = .int (n : Int) := hi
      exact ⟨_, rfl, _, _, _, _, _, rfl, .ty "int", .base (.int _), kit_ty (a := "int") (r := true) (by decide +kernel), _, rfl, iteT q⟩
    | c nw m p =>
      obtain ⟨t, rfl, ht⟩ := hi
      refine ⟨_, rfl, _, _, .type "tuple", _, _, rfl, .ty "int", .base (.tup ht), kit_ty (a := "tuple") (r := false) (by decide +kernel), _, rfl, iteF ⟨_, rfl, t, _, 0, _, rfl, rfl, .inl (.inl ht), rfl, rfl, _, rfl, ?_⟩⟩
      cases nw with
      | true => exact iteT q
      | false => exact iteF q
def spCp (K : PySem.W.Frag) : Sp := fun vs H Q _ => ∃ (po pn : Addr) (old new : List Nat) (a : Nat), vs = [.ref po, .ref pn, .int (a : Int)] ∧ H po = some (.lst (bys old)) ∧ H pn = some (.lst (bys new)) ∧ old.length ≤ 300 ∧ new.length ≤ 300 ∧ a < new.length ∧
  ∀ H' q row, Same H H' → H q = none → RwAt H' q row → (∀ it, it ∈ row ↔ CpIt old new a it) → row.Pairwise (fun x y => ¬ ltC y x) → Q (.ref q) H'
theorem ok_cp {f : Addr} {fd : FuncData} {j : Nat} (F : Fun K "_law_copies" "_law_copies" sLCopies f fd) (m1 : mg "len" = none) (m2 : mg "range" = none) (m3 : mg "sorted" = none) (m4 : mg "int" = none) :
    FnOk P w K mg base CX0 (j + 1) f fd ["_law_old", "_law_new", "_law_place"] (spCp K) := by
  refine F.ok scCp (fun vs H Q E h => ?_) (fun cdv A outer s H vs Q E hr h => ?_)
  · obtain ⟨po, pn, old, new, a, rfl, _⟩ := h
    rfl
  · obtain ⟨po, pn, old, new, a, rfl, hpo, hpn, hlo, hln, ha, fin⟩ := h
    have hz := PySem.sizeLine_eq
    refine ⟨_, pss_cons (ps_set (i := 3) scCp.nd rfl (.inl rfl) (pe_lst pa_nil))
      (pss_cons (ps_for PassesOwn.never rfl (pi_list (pe_lst (pa_cons (pe_tup (pa_cons pe_str (pa_cons (pv 2) pa_nil))) (pa_cons (pe_tup (pa_cons pe_str (pa_cons (pe_callB call_len_seq (by rfl) m1 PySem.boot_len (pa_cons (pv 0) pa_nil)) pa_nil))) pa_nil))))
          (pg_tup (by rfl) (pgs_cons (pg_name (i := 4) scCp.nd rfl (.inr rfl)) (pgs_cons (pg_name (i := 5) scCp.nd rfl (.inl rfl)) pgs_nil)))
        (pss_one (ps_for PassesOwn.never rfl (pi_range1 (by rfl) m2 (pa_cons (pv 5) pa_nil)) (pg_name (i := 6) scCp.nd rfl (.inr rfl))
          (pss_cons (ps_par (i := 7) (j := 8) rfl scCp.nd rfl rfl (by decide) rfl rfl (pa_cons pe_int (pa_cons (pe_ifExp (pt_cmpR op_eq (pv 4) pe_str (nomark _)) (pe_op op_sub (pe_op op_sub (pv 2) pe_int) (pv 6)) (pv 6)) pa_nil)) (by rfl))
          (pss_cons (ps_set (i := 9) scCp.nd rfl (.inl rfl) (pe_ifExp (pt_cmpR op_eq (pv 4) pe_str (nomark _)) (pv 1) (pv 0)))
          (pss_cons (ps_while PassesOwn.never (PW.pt (pw_and (pt_cmpR op_lt (pv 7) pe_int (nomark _)) (pw_and (pt_cmpR op_lt (pe_op op_add (pv 2) (pv 7)) (pe_callB call_len_seq (by rfl) m1 PySem.boot_len (pa_cons (pv 1) pa_nil)) (nomark _))
              (pw_and1 (pt_cmpR op_lt (pe_op op_add (pv 8) (pv 7)) (pe_callB call_len_seq (by rfl) m1 PySem.boot_len (pa_cons (pv 9) pa_nil)) (nomark _))))))
            (pss_cons (ps_if (pt_cmpR op_ne (pe_ix ix_list (pv 1) (pe_op op_add (pv 2) (pv 7)) (fun _ _ => rfl)) (pe_ix ix_list (pv 9) (pe_op op_add (pv 8) (pv 7)) (fun _ _ => rfl)) (nomark _)) (pss_one ps_break) pss_nil)
            (pss_one (ps_set (i := 7) scCp.nd rfl (.inl rfl) (pe_op op_add (pv 7) pe_int)))))
          (pss_one (ps_expr (pe_bm PySem.F.plainAttrs_list PySem.F.slot_list_extend PySem.F.type_list_extend mt_extend (pv 3) (pa_cons
            (pe_lc (own := [("_law_one", 10)]) (g := gName 10) (tt := tYes) rfl scCp.nd (pi_range2 (by rfl) m2 (pa_cons (pe_ifExp (pt_cmpR op_eq (pv 4) pe_str (nomark _)) pe_int pe_int) (pa_cons (pe_op op_add (pv 7) pe_int) pa_nil)))
              (blkOk_by (N := NCp) (sc := defScope sLCopies) (by decide +kernel)) (fun _ _ _ _ _ => pg_name (i := 10) scCp.nd rfl (.inl rfl)) (fun _ _ _ _ _ => pts_nil)
              (fun _ _ _ _ _ => pe_tup (pa_cons (pe_un un_neg (pv 10)) (pa_cons (pv 4) (pa_cons (pe_op op_add (pv 6) (pe_callTy call_int1 (by rfl) m4 (by decide +kernel) (pa_cons (pe_cmpR op_eq (pv 4) pe_str (nomark _)) pa_nil))) pa_nil))))) pa_nil))))))))))
      (pss_one (ps_ret (pe_lc (own := [("_law_one", 10), ("_law_word", 4), ("_law_at", 6)]) (g := gTup K 3 (gCons (gName 10) (gCons (gName 4) (gCons (gName 6) gNil)))) (tt := tYes) rfl scCp.nd
          (pi_list (pe_callB (cr_sortedDt skC hr) (by rfl) m3 (by decide +kernel) (pa_cons (pv 3) pa_nil)))
          (blkOk_by (N := NCp) (sc := defScope sLCopies) (by decide +kernel)) (fun _ _ _ _ _ => pg_tup rfl (pgs_cons (pg_name (i := 10) scCp.nd rfl (.inl rfl)) (pgs_cons (pg_name (i := 4) scCp.nd rfl (.inl rfl)) (pgs_cons (pg_name (i := 6) scCp.nd rfl (.inl rfl)) pgs_nil)))) (fun _ _ _ _ _ => pts_nil)
          (fun _ _ _ _ _ => pe_tup (pa_cons (pv 4) (pa_cons (pe_un un_neg (pv 10)) (pa_cons (pv 6) pa_nil)))))))), ?_⟩
    refine ⟨Nat.zero_le _, fun D nD => ?_⟩
    dsimp only [gName]
    have s1 := same_upd (o := .lst []) nD
    have hD1 : (upd H D (.lst [])) D = some (.lst []) := upd_same
    generalize upd H D (.lst []) = H1 at *
    refine ⟨_, rfl, (by show 2 ≤ sizeLine; omega), fun t1 nt1 => ?_⟩
    have s2 := same_upd (o := .tup [.str "new", .int (a : Int)]) nt1
    have ht1 : (upd H1 t1 (.tup [.str "new", .int (a : Int)])) t1 = some (.tup [.str (wdN true), .int (a : Int)]) := upd_same
    generalize upd H1 t1 (.tup [.str "new", .int (a : Int)]) = H2 at *
    have s12 := s1.trans s2
    refine ⟨_, rfl, po, _, rfl, .inl (.inl (.inl (s12 _ _ hpo))), (by show 2 ≤ sizeLine; omega), fun t2 nt2 => ?_⟩
    rw [bys_len]
    have s3 := same_upd (o := .tup [.str "old", .int (old.length : Int)]) nt2
    have ht2 : (upd H2 t2 (.tup [.str "old", .int (old.length : Int)])) t2 = some (.tup [.str (wdN false), .int (old.length : Int)]) := upd_same
    have ht1 := s3 _ _ ht1
    generalize upd H2 t2 (.tup [.str "old", .int (old.length : Int)]) = H3 at *
    refine ⟨(by show 2 ≤ sizeLine; omega), fun L nL => ?_⟩
    have s4 := same_upd (o := .lst [.ref t1, .ref t2]) nL
    have hL : (upd H3 L (.lst [.ref t1, .ref t2])) L = some (.lst [.ref t1, .ref t2]) := upd_same
    have ht1 := s4 _ _ ht1
    have ht2 := s4 _ _ ht2
    have hD4 := s4 _ _ (s3 _ _ (s2 _ _ hD1))
    have nDL : L ≠ D := (ne_of_none (s3 _ _ (s2 _ _ hD1)) nL).symm
    generalize upd H3 L (.lst [.ref t1, .ref t2]) = H4 at *
    have sm4 : Same H H4 := (s12.trans s3).trans s4
    have hpo4 := sm4 _ _ hpo
    have hpn4 := sm4 _ _ hpn
    have npo : po ≠ D := ne_of_none hpo nD
    have npn : pn ≠ D := ne_of_none hpn nD
    clear s1 s2 s3 s4 s12 hD1 nL nt1 nt2
    refine ⟨L, rfl, ⟨_, .inl (.inl hL)⟩, ?_⟩
    refine for_list (K := K) (a := L) (xs := [.ref t1, .ref t2]) (fun i σ H' => ∃ (y4 y5 y6 y7 y8 y9 y10 : Option V) (row : List Di) (us : List V), σ = [some (.ref po), some (.ref pn), some (.int (a : Int)), some (.ref D), y4, y5, y6, y7, y8, y9, y10] ∧ ButD D H4 H' ∧ H' D = some (.lst us) ∧ Paired (CtAt H') row us ∧ (∀ it, it ∈ row ↔ CpIt old new a it ∧ doneB i 0 it) ∧ row.length ≤ 76800 * i)
      ⟨_, _, _, _, _, _, _, [], [], rfl, ButD.refl, hD4, .nil, done_nil, Nat.zero_le _⟩ (fun i σ H' _ h => ?_) (fun i x σ H' hx h => ?_) (fun σ H' h => ?_)
    · obtain ⟨_, _, _, _, _, _, _, _, _, _, bd, _⟩ := h
      exact .inl (.inl (bd _ _ nDL hL))
    · obtain ⟨y4, y5, y6, y7, y8, y9, y10, row0, us0, rfl, bd, hD, hps, hrow, hrl⟩ := h
      have hi : i < 2 := (List.getElem?_eq_some_iff.mp hx).1
      have nTD : ∀ {t : Addr} {zs : List V}, H4 t = some (.tup zs) → t ≠ D := fun e => ne_of e hD4 (fun z => nomatch z)
      rcases (show i = 0 ∨ i = 1 by omega) with rfl | rfl
      · obtain rfl : x = .ref t1 := (Option.some.inj hx).symm
        refine ⟨t1, _, rfl, .inl (.inl (bd _ _ (nTD ht1) ht1)), rfl, _, _, rfl, _, _, rfl, rfl, ?_⟩
        dsimp only [gName]
        refine ⟨_, rfl, ((a : Nat) : Int), rfl, by omega, by omega, ?_⟩
        refine for_range (lo := 0) (n := ((a : Nat) : Int).toNat) (fun k σ H' => ∃ (y6 y7 y8 y9 y10 : Option V) (row : List Di) (us : List V), σ = [some (.ref po), some (.ref pn), some (.int (a : Int)), some (.ref D), some (.str (wdN true)), some (.int ((a : Nat) : Int)), y6, y7, y8, y9, y10] ∧ ButD D H4 H' ∧ H' D = some (.lst us) ∧ Paired (CtAt H') row us ∧ (∀ it, it ∈ row ↔ CpIt old new a it ∧ doneB 0 k it) ∧ row.length ≤ 76800 * 0 + 256 * k)
          ⟨_, _, _, _, _, row0, us0, rfl, bd, hD, hps, hrow, by omega⟩ (fun k σ H' hk h => ?_) (fun σ H' h => ?_)
        · clear bd hD hps hrow hrl
          obtain ⟨y6, y7, y8, y9, y10, row, us, rfl, bd, hD, hps, hrow, hrl⟩ := h
          rw [Int.toNat_natCast] at hk
          have hpo5 := bd _ _ npo hpo4
          have hpn5 := bd _ _ npn hpn4
          have hul := hps.length
          rw [show (0 : Int) + (k : Int) = (k : Int) by omega]
          dsimp only [gName]
          refine ⟨_, rfl, rfl, _, rfl, iteT ⟨_, rfl, _, _, rfl, rfl, _, rfl, _, _, rfl, rfl, _, _, rfl, ?_⟩⟩
          dsimp only
          rw [show (a : Int) - 1 - (k : Int) = (((a - 1 - k) : Nat) : Int) by omega]
          refine ⟨_, rfl, rfl, _, rfl, iteT ⟨_, rfl, ?_⟩⟩
          dsimp only [gName]
          obtain ⟨M, hM⟩ : ∃ M : L2.St → Hp → Prop, M = (fun σ' H9 => ∃ (m : Nat) (y10 : Option V), σ' = [some (.ref po), some (.ref pn), some (.int (a : Int)), some (.ref D), some (.str (wdN true)), some (.int ((a : Nat) : Int)), some (.int (k : Int)), some (.int (m : Int)), some (.int (((a - 1 - k) : Nat) : Int)), some (.ref pn), y10] ∧ H9 = H' ∧ valE new new (a - 1 - k) a m ∧ ∀ m', valE new new (a - 1 - k) a m' → m' ≤ m) := ⟨_, rfl⟩
          with_reducible refine seq_mid M (fun N hN => ?_) (fun σ9 H9 h => ?_)
          · refine ⟨fun n9 σ9 H9 => ∃ (m : Nat), σ9 = [some (.ref po), some (.ref pn), some (.int (a : Int)), some (.ref D), some (.str (wdN true)), some (.int ((a : Nat) : Int)), some (.int (k : Int)), some (.int (m : Int)), some (.int (((a - 1 - k) : Nat) : Int)), some (.ref pn), y10] ∧ H9 = H' ∧ n9 = 255 - m ∧ valE new new (a - 1 - k) a m, ⟨_, 0, rfl, rfl, rfl, valE_zero _ _ (by omega) (by omega)⟩, fun n9 σ9 H9 hW => ?_⟩
            obtain ⟨m, rfl, rfl, rfl, hv⟩ := hW
            have fin9 : (∀ m', valE new new (a - 1 - k) a m' → m' ≤ m) → N [some (.ref po), some (.ref pn), some (.int (a : Int)), some (.ref D), some (.str (wdN true)), some (.int ((a : Nat) : Int)), some (.int (k : Int)), some (.int (m : Int)), some (.int (((a - 1 - k) : Nat) : Int)), some (.ref pn), y10] H9 := fun hs => hN _ _ (by rw [hM]; exact ⟨m, y10, rfl, rfl, hv, hs⟩)
            refine ⟨_, rfl, _, _, rfl, rfl, _, rfl, ite2 (fun c1 => ?_) (fun c1 => ?_)⟩
            · have c1 : m < 255 := by have := of_decide_eq_true c1; omega
              refine ⟨_, rfl, _, rfl, _, _, rfl, rfl, _, rfl, pn, _, rfl, .inl (.inl (.inl hpn5)), _, _, rfl, rfl, _, rfl, ite2 (fun c2 => ?_) (fun c2 => ?_)⟩
              · have c2 : a + m < new.length := by have := of_decide_eq_true c2; rw [bys_len] at this; omega
                refine ⟨_, rfl, _, rfl, _, _, rfl, rfl, _, rfl, pn, _, rfl, .inl (.inl (.inl hpn5)), _, _, rfl, rfl, _, rfl, ite2 (fun c3 => ?_) (fun c3 => ?_)⟩
                · have c3 : (a - 1 - k) + m < new.length := by have := of_decide_eq_true c3; rw [bys_len] at this; omega
                  refine ⟨_, fun _ _ h => h, ?_⟩
                  refine ⟨_, rfl, _, rfl, _, rfl, _, _, rfl, rfl, pn, _, _, _, rfl, rfl, .inl (.inl hpn5), at_of' (k := a + m) (by push_cast; rfl) c2, _, rfl, _, rfl, _, rfl, _, _, rfl, rfl, pn, _, _, _, rfl, rfl, .inl (.inl hpn5), at_of' (k := (a - 1 - k) + m) (by push_cast; rfl) c3, rfl, _, rfl, ite2 (fun c4 => ?_) (fun c4 => ?_)⟩
                  · refine fin9 (valE_stop fun _ _ _ z => ?_)
                    rw [z] at c4
                    exact ne_same c4
                  · have c5 : new.getD (a + m) 0 = new.getD ((a - 1 - k) + m) 0 := ne_eq c4
                    exact ⟨_, rfl, _, _, rfl, rfl, 255 - (m + 1), by omega, m + 1, by push_cast; rfl, rfl, rfl, valE_step hv c1 c2 c3 c5⟩
                · exact fin9 (valE_stop fun _ _ z _ => absurd (decide_eq_true (by rw [bys_len]; omega)) c3)
              · refine iteF ?_
                exact fin9 (valE_stop fun _ z _ _ => absurd (decide_eq_true (by rw [bys_len]; omega)) c2)
            · refine iteF ?_
              exact fin9 (valE_stop fun z _ _ _ => absurd (decide_eq_true (by omega)) c1)
          rw [hM] at h
          obtain ⟨m, y10, rfl, rfl, hv, hs⟩ := h
          clear hM M
          refine ⟨_, rfl, .inl ⟨rfl, _, .inl (.inl hD)⟩, _, rfl, rfl, _, rfl, iteT ⟨_, rfl, _, _, rfl, rfl, _, _, rfl, ⟨by omega, by omega, by have := hv.1; omega, by have := hv.1; omega⟩, fun B nB => ?_⟩⟩
          refine lc_range (lo := 3) (n := ((m : Int) + 1 - 3).toNat) (fun t H3 => Same H9 H3 ∧ ∃ vs, H3 B = some (.lst vs) ∧ Paired (CtAt H3) ((List.range t).map fun u => Di.c true (3 + u) (k + 1)) vs) ⟨same_upd nB, [], upd_same, .nil⟩ (fun t H3 ht h => ?_) (fun H3 h => ?_)
          · obtain ⟨s3, vs, hB, hvs⟩ := h
            have hvl := hvs.length
            rw [List.length_map, List.length_range] at hvl
            have hm255 := hv.1
            refine ⟨rfl, yes ?_⟩
            refine ⟨_, rfl, _, rfl, _, rfl, _, rfl, _, rfl, rfl, .inr ⟨_, rfl, _, _, rfl, rfl, (by show 3 ≤ sizeLine; omega), fun tt ntt => ?_⟩⟩
            have s4 := same_upd (o := .tup [.int (-(3 + (t : Int))), .str (wdN true), .int ((k : Int) + 1)]) ntt
            refine ⟨_, s4 _ _ hB, by omega, same_put (s3.trans s4) nB, _, upd_same, ?_⟩
            rw [List.range_succ, List.map_append]
            refine paired_app (ct_keep hvs fun b xs e => ?_) (.cons ⟨tt, rfl, ?_⟩ .nil)
            · rw [upd_ne (ne_of (s4 _ _ e) (s4 _ _ hB) (fun z => nomatch z))]
              exact s4 _ _ e
            · rw [upd_ne (ne_of_none hB ntt).symm, upd_same]
              show some (HO.tup [V.int (-(3 + (t : Int))), .str (wdN true), .int ((k : Int) + 1)]) = some (HO.tup [V.int (-(((3 + t : Nat)) : Int)), .str (wdN true), .int (((k + 1) : Nat) : Int)])
              push_cast
              rfl
          · obtain ⟨s3, vs, hB, hvs⟩ := h
            rw [show ((m : Int) + 1 - 3).toNat = m + 1 - 3 by omega] at hvs
            have hvl := hvs.length
            rw [List.length_map, List.length_range] at hvl
            have hm255 := hv.1
            have hD3 := s3 _ _ hD
            refine ⟨D, B, _, _, rfl, rfl, hD3, hB, by omega, ?_⟩
            refine ⟨_, _, _, _, _, row ++ itsOf true 3 m (k + 1), us ++ vs, rfl, (bd.then s3).put, upd_same, ct_keep (paired_app (ct_keep hps fun b xs e => s3 _ _ e) hvs) fun b xs e => ?_, its_new hk hv hs hrow, ?_⟩
            · rw [upd_ne (ne_of e hD3 (fun z => nomatch z))]
              exact e
            · unfold itsOf
              rw [List.length_append, List.length_map, List.length_range]
              omega
        · clear bd hD hps hrow hrl
          obtain ⟨y6, y7, y8, y9, y10, row, us, rfl, bd, hD, hps, hrow, hrl⟩ := h
          rw [Int.toNat_natCast] at hrow hrl
          exact ⟨_, _, _, _, _, _, _, row, us, rfl, bd, hD, hps, done_one hrow, by omega⟩
      · obtain rfl : x = .ref t2 := (Option.some.inj hx).symm
        refine ⟨t2, _, rfl, .inl (.inl (bd _ _ (nTD ht2) ht2)), rfl, _, _, rfl, _, _, rfl, rfl, ?_⟩
        dsimp only [gName]
        refine ⟨_, rfl, ((old.length : Nat) : Int), rfl, by omega, by omega, ?_⟩
        refine for_range (lo := 0) (n := ((old.length : Nat) : Int).toNat) (fun k σ H' => ∃ (y6 y7 y8 y9 y10 : Option V) (row : List Di) (us : List V), σ = [some (.ref po), some (.ref pn), some (.int (a : Int)), some (.ref D), some (.str (wdN false)), some (.int ((old.length : Nat) : Int)), y6, y7, y8, y9, y10] ∧ ButD D H4 H' ∧ H' D = some (.lst us) ∧ Paired (CtAt H') row us ∧ (∀ it, it ∈ row ↔ CpIt old new a it ∧ doneB 1 k it) ∧ row.length ≤ 76800 * 1 + 256 * k)
          ⟨_, _, _, _, _, row0, us0, rfl, bd, hD, hps, hrow, by omega⟩ (fun k σ H' hk h => ?_) (fun σ H' h => ?_)
        · clear bd hD hps hrow hrl
          obtain ⟨y6, y7, y8, y9, y10, row, us, rfl, bd, hD, hps, hrow, hrl⟩ := h
          rw [Int.toNat_natCast] at hk
          have hpo5 := bd _ _ npo hpo4
          have hpn5 := bd _ _ npn hpn4
          have hul := hps.length
          rw [show (0 : Int) + (k : Int) = (k : Int) by omega]
          dsimp only [gName]
          refine ⟨_, rfl, rfl, _, rfl, iteF ⟨_, rfl, _, _, rfl, ?_⟩⟩
          refine ⟨_, rfl, rfl, _, rfl, iteF ⟨_, rfl, ?_⟩⟩
          dsimp only [gName]
          obtain ⟨M, hM⟩ : ∃ M : L2.St → Hp → Prop, M = (fun σ' H9 => ∃ (m : Nat) (y10 : Option V), σ' = [some (.ref po), some (.ref pn), some (.int (a : Int)), some (.ref D), some (.str (wdN false)), some (.int ((old.length : Nat) : Int)), some (.int (k : Int)), some (.int (m : Int)), some (.int ((k : Nat) : Int)), some (.ref po), y10] ∧ H9 = H' ∧ valE old new k a m ∧ ∀ m', valE old new k a m' → m' ≤ m) := ⟨_, rfl⟩
          with_reducible refine seq_mid M (fun N hN => ?_) (fun σ9 H9 h => ?_)
          · refine ⟨fun n9 σ9 H9 => ∃ (m : Nat), σ9 = [some (.ref po), some (.ref pn), some (.int (a : Int)), some (.ref D), some (.str (wdN false)), some (.int ((old.length : Nat) : Int)), some (.int (k : Int)), some (.int (m : Int)), some (.int ((k : Nat) : Int)), some (.ref po), y10] ∧ H9 = H' ∧ n9 = 255 - m ∧ valE old new k a m, ⟨_, 0, rfl, rfl, rfl, valE_zero _ _ (by omega) (by omega)⟩, fun n9 σ9 H9 hW => ?_⟩
            obtain ⟨m, rfl, rfl, rfl, hv⟩ := hW
            have fin9 : (∀ m', valE old new k a m' → m' ≤ m) → N [some (.ref po), some (.ref pn), some (.int (a : Int)), some (.ref D), some (.str (wdN false)), some (.int ((old.length : Nat) : Int)), some (.int (k : Int)), some (.int (m : Int)), some (.int ((k : Nat) : Int)), some (.ref po), y10] H9 := fun hs => hN _ _ (by rw [hM]; exact ⟨m, y10, rfl, rfl, hv, hs⟩)
            refine ⟨_, rfl, _, _, rfl, rfl, _, rfl, ite2 (fun c1 => ?_) (fun c1 => ?_)⟩
            · have c1 : m < 255 := by have := of_decide_eq_true c1; omega
              refine ⟨_, rfl, _, rfl, _, _, rfl, rfl, _, rfl, pn, _, rfl, .inl (.inl (.inl hpn5)), _, _, rfl, rfl, _, rfl, ite2 (fun c2 => ?_) (fun c2 => ?_)⟩
              · have c2 : a + m < new.length := by have := of_decide_eq_true c2; rw [bys_len] at this; omega
                refine ⟨_, rfl, _, rfl, _, _, rfl, rfl, _, rfl, po, _, rfl, .inl (.inl (.inl hpo5)), _, _, rfl, rfl, _, rfl, ite2 (fun c3 => ?_) (fun c3 => ?_)⟩
                · have c3 : k + m < old.length := by have := of_decide_eq_true c3; rw [bys_len] at this; omega
                  refine ⟨_, fun _ _ h => h, ?_⟩
                  refine ⟨_, rfl, _, rfl, _, rfl, _, _, rfl, rfl, pn, _, _, _, rfl, rfl, .inl (.inl hpn5), at_of' (k := a + m) (by push_cast; rfl) c2, _, rfl, _, rfl, _, rfl, _, _, rfl, rfl, po, _, _, _, rfl, rfl, .inl (.inl hpo5), at_of' (k := k + m) (by push_cast; rfl) c3, rfl, _, rfl, ite2 (fun c4 => ?_) (fun c4 => ?_)⟩
                  · refine fin9 (valE_stop fun _ _ _ z => ?_)
                    rw [z] at c4
                    exact ne_same c4
                  · have c5 : new.getD (a + m) 0 = old.getD (k + m) 0 := ne_eq c4
                    exact ⟨_, rfl, _, _, rfl, rfl, 255 - (m + 1), by omega, m + 1, by push_cast; rfl, rfl, rfl, valE_step hv c1 c2 c3 c5⟩
                · exact fin9 (valE_stop fun _ _ z _ => absurd (decide_eq_true (by rw [bys_len]; omega)) c3)
              · refine iteF ?_
                exact fin9 (valE_stop fun _ z _ _ => absurd (decide_eq_true (by rw [bys_len]; omega)) c2)
            · refine iteF ?_
              exact fin9 (valE_stop fun z _ _ _ => absurd (decide_eq_true (by omega)) c1)
          rw [hM] at h
          obtain ⟨m, y10, rfl, rfl, hv, hs⟩ := h
          clear hM M
          refine ⟨_, rfl, .inl ⟨rfl, _, .inl (.inl hD)⟩, _, rfl, rfl, _, rfl, iteF ⟨_, rfl, _, _, rfl, rfl, _, _, rfl, ⟨by omega, by omega, by have := hv.1; omega, by have := hv.1; omega⟩, fun B nB => ?_⟩⟩
          refine lc_range (lo := 1) (n := ((m : Int) + 1 - 1).toNat) (fun t H3 => Same H9 H3 ∧ ∃ vs, H3 B = some (.lst vs) ∧ Paired (CtAt H3) ((List.range t).map fun u => Di.c false (1 + u) k) vs) ⟨same_upd nB, [], upd_same, .nil⟩ (fun t H3 ht h => ?_) (fun H3 h => ?_)
          · obtain ⟨s3, vs, hB, hvs⟩ := h
            have hvl := hvs.length
            rw [List.length_map, List.length_range] at hvl
            have hm255 := hv.1
            refine ⟨rfl, yes ?_⟩
            refine ⟨_, rfl, _, rfl, _, rfl, _, rfl, _, rfl, rfl, .inr ⟨_, rfl, _, _, rfl, rfl, (by show 3 ≤ sizeLine; omega), fun tt ntt => ?_⟩⟩
            have s4 := same_upd (o := .tup [.int (-(1 + (t : Int))), .str (wdN false), .int ((k : Int) + 0)]) ntt
            refine ⟨_, s4 _ _ hB, by omega, same_put (s3.trans s4) nB, _, upd_same, ?_⟩
            rw [List.range_succ, List.map_append]
            refine paired_app (ct_keep hvs fun b xs e => ?_) (.cons ⟨tt, rfl, ?_⟩ .nil)
            · rw [upd_ne (ne_of (s4 _ _ e) (s4 _ _ hB) (fun z => nomatch z))]
              exact s4 _ _ e
            · rw [upd_ne (ne_of_none hB ntt).symm, upd_same]
              show some (HO.tup [V.int (-(1 + (t : Int))), .str (wdN false), .int ((k : Int) + 0)]) = some (HO.tup [V.int (-(((1 + t : Nat)) : Int)), .str (wdN false), .int ((k : Nat) : Int)])
              push_cast
              rw [Int.add_zero]
          · obtain ⟨s3, vs, hB, hvs⟩ := h
            rw [show ((m : Int) + 1 - 1).toNat = m + 1 - 1 by omega] at hvs
            have hvl := hvs.length
            rw [List.length_map, List.length_range] at hvl
            have hm255 := hv.1
            have hD3 := s3 _ _ hD
            refine ⟨D, B, _, _, rfl, rfl, hD3, hB, by omega, ?_⟩
            refine ⟨_, _, _, _, _, row ++ itsOf false 1 m k, us ++ vs, rfl, (bd.then s3).put, upd_same, ct_keep (paired_app (ct_keep hps fun b xs e => s3 _ _ e) hvs) fun b xs e => ?_, its_old hv hs hrow, ?_⟩
            · rw [upd_ne (ne_of e hD3 (fun z => nomatch z))]
              exact e
            · unfold itsOf
              rw [List.length_append, List.length_map, List.length_range]
              omega
        · clear bd hD hps hrow hrl
          obtain ⟨y6, y7, y8, y9, y10, row, us, rfl, bd, hD, hps, hrow, hrl⟩ := h
          rw [Int.toNat_natCast] at hrow hrl
          exact ⟨_, _, _, _, _, _, _, row, us, rfl, bd, hD, hps, done_two hrow, by omega⟩
    · obtain ⟨y4, y5, y6, y7, y8, y9, y10, row, us, rfl, bd, hD, hps, hrow, hrl⟩ := h
      have hrl : row.length ≤ 76800 * 2 := hrl
      have smH : Same H H' := ButD.same sm4 nD bd
      refine ⟨_, rfl, D, us, row, rfl, .inl (.inl hD), hps, fun ys p hys np => ?_⟩
      have s5 := same_upd (o := .lst ys) np
      have hp5 : (upd H' p (.lst ys)) p = some (.lst ys) := upd_same
      have hys := ct_keep hys fun b xs e => s5 _ _ e
      have sm5 := smH.trans s5
      generalize upd H' p (.lst ys) = H5 at *
      have hsl : (row.mergeSort (PySem.W.dataLe false encC)).length = row.length := List.length_mergeSort _
      have hsm : ∀ it, it ∈ row.mergeSort (PySem.W.dataLe false encC) ↔ CpIt old new a it := fun it => by rw [List.mem_mergeSort]; exact done_all hrow it
      have hso := sort_enc row
      have hys : Paired (CtAt H5) (row.mergeSort (PySem.W.dataLe false encC)) ys := hys
      generalize row.mergeSort (PySem.W.dataLe false encC) = so at *
      have hyl := hys.length
      refine ⟨p, rfl, ⟨_, .inl (.inl hp5)⟩, fun B nB => ?_⟩
      refine lc_list (K := K) (a := p) (xs := ys) (fun i H3 => Same H5 H3 ∧ ∃ vs, H3 B = some (.lst vs) ∧ Paired (DiAt H3) (so.take i) vs) ⟨same_upd nB, [], upd_same, .nil⟩ (fun i H3 _ h => .inl (.inl (h.1 _ _ hp5))) (fun i x H3 hx h => ?_) (fun H3 h => ?_)
      · obtain ⟨s6, vs, hB, hvs⟩ := h
        have hi : i < so.length := by have := (List.getElem?_eq_some_iff.mp hx).1; omega
        obtain ⟨x', e1, hd⟩ := paired_get hys (List.getElem?_eq_getElem hi)
        obtain rfl := Option.some.inj (e1.symm.trans hx)
        have eo : so[i]? = some so[i] := List.getElem?_eq_getElem hi
        have hvl := hvs.length
        rw [List.length_take] at hvl
        rw [List.take_add_one, eo]
        generalize so[i] = it at *
        cases it with
        | b n => exact hd.elim
        | c w m q =>
          obtain ⟨t, rfl, ht⟩ := hd
          refine ⟨t, _, rfl, .inl (.inl (s6 _ _ ht)), rfl, _, _, rfl, _, _, rfl, _, _, rfl, rfl, rfl, yes ?_⟩
          refine ⟨_, rfl, _, rfl, _, rfl, _, rfl, (by show 3 ≤ sizeLine; omega), fun tt ntt => ?_⟩
          have s7 := same_upd (o := .tup [.str (wdN w), .int (-(-(m : Int))), .int (q : Int)]) ntt
          refine ⟨_, s7 _ _ hB, by omega, same_put (s6.trans s7) nB, _, upd_same, ?_⟩
          refine paired_app (hvs.mono fun _ _ z => (z.same s7).put (s7 _ _ hB)) (.cons ⟨tt, rfl, ?_⟩ .nil)
          rw [upd_ne (ne_of_none hB ntt).symm, upd_same]
          show some (HO.tup [V.str (wdN w), V.int (-(-(m : Int))), V.int (q : Int)]) = _
          rw [Int.neg_neg]
      · obtain ⟨s6, vs, hB, hvs⟩ := h
        rw [← hyl, List.take_length] at hvs
        exact fin H3 B so (sm5.trans s6) (none_back sm5 nB) ⟨vs, hB, hvs⟩ hsm hso
end
end K9

namespace K9
open PySem PySem.Spec PyProof.Rows L2
/-! ### _law_diff_searched -/
abbrev NDs : List Str := ["_law_old", "_law_new", "_law_costs", "_law_first", "_law_place", "_law_item", "_law_row"]
theorem scDs : FnScope NDs ["_law_old", "_law_new"] (defScope sLDSearch) := ⟨rfl, rfl, rfl, by decide +kernel, rfl, by decide +kernel, by decide +kernel⟩
structure BestJ (new cs : List Nat) (a : Nat) (row : List Di) (c : Nat) (it : Di) : Prop where
  le : c ≤ 9 + cs.getD (a + 1) 0
  all : ∀ x ∈ row, c ≤ cI x + cs.getD (a + wideI x) 0
  is : (c = 9 + cs.getD (a + 1) 0 ∧ it = .b (new.getD a 0)) ∨ (c < 9 + cs.getD (a + 1) 0 ∧ it ∈ row ∧ cI it + cs.getD (a + wideI it) 0 = c ∧ ∀ x ∈ row, cI x + cs.getD (a + wideI x) 0 = c → ¬ ltC x it)
theorem best_nil (new cs : List Nat) (a : Nat) : BestJ new cs a [] (9 + cs.getD (a + 1) 0) (.b (new.getD a 0)) := ⟨Nat.le_refl _, fun x z => (by cases z), .inl ⟨rfl, rfl⟩⟩
theorem ltC_irr : ∀ x, ¬ ltC x x
  | .b _, h => h
  | .c w m p, h => by
    have h : m < m ∨ (m = m ∧ ((w = true ∧ w = false) ∨ (w = w ∧ p < p))) := h
    rcases h with h | ⟨_, ⟨h1, h2⟩ | ⟨_, h⟩⟩
    · omega
    · rw [h1] at h2; cases h2
    · omega
theorem best_less {new cs : List Nat} {a c : Nat} {row : List Di} {it x : Di} (h : BestJ new cs a row c it) (hl : cI x + cs.getD (a + wideI x) 0 < c) : BestJ new cs a (row ++ [x]) (cI x + cs.getD (a + wideI x) 0) x := by
  refine ⟨by have := h.le; omega, fun y hy => ?_, .inr ⟨by have := h.le; omega, List.mem_append_right _ (List.mem_singleton.mpr rfl), rfl, fun y hy e => ?_⟩⟩
  · rcases List.mem_append.mp hy with hy | hy
    · have := h.all y hy; omega
    · rw [List.mem_singleton.mp hy]; exact Nat.le_refl _
  · rcases List.mem_append.mp hy with hy | hy
    · have := h.all y hy; omega
    · rw [List.mem_singleton.mp hy]; exact ltC_irr _
theorem best_stay {new cs : List Nat} {a c : Nat} {row : List Di} {it x : Di} (h : BestJ new cs a row c it) (hl : ¬ cI x + cs.getD (a + wideI x) 0 < c) (hp : ∀ y ∈ row, ¬ ltC x y) : BestJ new cs a (row ++ [x]) c it := by
  refine ⟨h.le, fun y hy => ?_, ?_⟩
  · rcases List.mem_append.mp hy with hy | hy
    · exact h.all y hy
    · rw [List.mem_singleton.mp hy]; omega
  · rcases h.is with q | ⟨q1, q2, q3, q4⟩
    · exact .inl q
    · refine .inr ⟨q1, List.mem_append_left _ q2, q3, fun y hy e => ?_⟩
      rcases List.mem_append.mp hy with hy | hy
      · exact q4 y hy e
      · rw [List.mem_singleton.mp hy]; exact hp _ q2
theorem best_end {old new cs : List Nat} {a c : Nat} {row : List Di} {it : Di} (h : BestJ new cs a row c it) (hm : ∀ x, x ∈ row ↔ CpIt old new a x) (ha : a < cs.length) : LcAt old new (cs.set a c) a ∧ LTake old new (cs.set a c) a it := by
  have e0 : (cs.set a c).getD a 0 = c := getD_set_eq ha
  have e1 : (cs.set a c).getD (a + 1) 0 = cs.getD (a + 1) 0 := getD_set_ne (by omega)
  have e2 : ∀ x, CpIt old new a x → (cs.set a c).getD (a + wideI x) 0 = cs.getD (a + wideI x) 0 := fun x hx => getD_set_ne (by have := (cp_wide hx).1; omega)
  refine ⟨⟨by rw [e0, e1]; exact h.le, fun x hx => by rw [e0, e2 x hx]; exact h.all x ((hm x).mpr hx), ?_⟩, ?_⟩
  · rcases h.is with ⟨q, _⟩ | ⟨_, q2, q3, _⟩
    · exact .inl (by rw [e0, e1]; exact q)
    · exact .inr ⟨it, (hm it).mp q2, by rw [e0, e2 it ((hm it).mp q2)]; exact q3.symm⟩
  · rcases h.is with ⟨q, q'⟩ | ⟨q1, q2, q3, q4⟩
    · exact .inl ⟨by rw [e0, e1]; exact q.symm, q'⟩
    · refine .inr ⟨by rw [e0, e1]; omega, (hm it).mp q2, by unfold rchI; rw [e0, e2 it ((hm it).mp q2)]; exact q3, fun y hy e => q4 y ((hm y).mpr hy) ?_⟩
      unfold rchI at e
      rw [e0, e2 y hy] at e
      exact e
theorem lc_set {old new cs : List Nat} {a c t : Nat} (ht : a < t) (h : LcAt old new cs t) : LcAt old new (cs.set a c) t := by
  have e : ∀ q, t ≤ q → (cs.set a c).getD q 0 = cs.getD q 0 := fun q hq => getD_set_ne (by omega)
  refine ⟨by rw [e t (Nat.le_refl _), e _ (by omega)]; exact h.byte, fun it hi => by rw [e t (Nat.le_refl _), e _ (by omega)]; exact h.copy it hi, ?_⟩
  rcases h.some with q | ⟨it, h1, h2⟩
  · exact .inl (by rw [e t (Nat.le_refl _), e _ (by omega)]; exact q)
  · exact .inr ⟨it, h1, by rw [e t (Nat.le_refl _), e _ (by omega)]; exact h2⟩
theorem lt_set {old new cs : List Nat} {a c t : Nat} {it : Di} (ht : a < t) (h : LTake old new cs t it) : LTake old new (cs.set a c) t it := by
  have e : ∀ q, t ≤ q → (cs.set a c).getD q 0 = cs.getD q 0 := fun q hq => getD_set_ne (by omega)
  have r : ∀ x, rchI (cs.set a c) t x ↔ rchI cs t x := fun x => by
    unfold rchI
    rw [e t (Nat.le_refl _), e _ (by omega)]
  rcases h with ⟨h1, h2⟩ | ⟨h1, h2, h3, h4⟩
  · exact .inl ⟨by rw [e t (Nat.le_refl _), e _ (by omega)]; exact h1, h2⟩
  · exact .inr ⟨by rw [e t (Nat.le_refl _), e _ (by omega)]; exact h1, h2, (r it).mpr h3, fun x hx hr => h4 x hx ((r x).mp hr)⟩
def LTo (old new cs : List Nat) : Nat → List Di → Nat → Prop
  | s, [], e => s = e
  | s, it :: r, e => s < new.length ∧ LTake old new cs s it ∧ LTo old new cs (s + wideI it) r e
theorem LTo.snoc {old new cs : List Nat} {it : Di} : ∀ {r : List Di} {s e : Nat}, LTo old new cs s r e → e < new.length → LTake old new cs e it → LTo old new cs s (r ++ [it]) (e + wideI it)
  | [], s, e, h, he, ht => by
    have h : s = e := h
    subst h
    exact ⟨he, ht, rfl⟩
  | x :: r, s, e, ⟨h1, h2, h3⟩, he, ht => ⟨h1, h2, LTo.snoc h3 he ht⟩
theorem LTo.row {old new cs : List Nat} : ∀ {r : List Di} {s : Nat}, LTo old new cs s r new.length → LRow old new cs s r
  | [], _, h => h
  | _ :: _, _, ⟨h1, h2, h3⟩ => ⟨h1, h2, LTo.row h3⟩
theorem ltake_wide {old new cs : List Nat} {a : Nat} {it : Di} (ha : a < new.length) (h : LTake old new cs a it) : 1 ≤ wideI it ∧ a + wideI it ≤ new.length := by
  rcases h with ⟨_, rfl⟩ | ⟨_, h, _⟩
  · exact ⟨Nat.le_refl _, ha⟩
  · exact ⟨(cp_wide h).1, (cp_wide h).2.2⟩
section
variable {P : Program} {w : World} {K : PySem.W.Frag} {mg : Str → Option Value} {base : Heap}
def spDs : Sp := fun vs H Q _ => ∃ (po pn : Addr) (old new : List Nat), vs = [.ref po, .ref pn] ∧ H po = some (.lst (bys old)) ∧ H pn = some (.lst (bys new)) ∧ old.length ≤ 300 ∧ new.length ≤ 300 ∧
  ∀ H' t c r cs row, Same H H' → H t = none → H c = none → H r = none → H' t = some (.tup [.ref c, .ref r]) → H' c = some (.lst (bys cs)) → RwAt H' r row → LC old new cs → LRow old new cs 0 row → Q (.ref t) H'
theorem ok_ds {f fC fD fW : Addr} {fd fdC fdD fdW : FuncData} {j k1 k2 k3 : Nat} (F : Fun K "_law_diff_searched" "_law_diff_searched" sLDSearch f fd)
    (GC : FnOk P w K mg base CX0 k1 fC fdC ["_law_old", "_law_new", "_law_place"] (spCp K)) (bC : Binds K fdC ["_law_old", "_law_new", "_law_place"] []) (kC : PySem.W.keepIn K (.ref fC) = true) (gC : mg "_law_copies" = some (.ref fC)) (l1 : k1 ≤ j)
    (GD : FnOk P w K mg base CX0 k2 fD fdD ["_law_item"] spDc) (bD : Binds K fdD ["_law_item"] []) (kD : PySem.W.keepIn K (.ref fD) = true) (gD : mg "_law_diff_cost" = some (.ref fD)) (l2 : k2 ≤ j)
    (GW : FnOk P w K mg base CX0 k3 fW fdW ["_law_item"] spLw) (bW : Binds K fdW ["_law_item"] []) (kW : PySem.W.keepIn K (.ref fW) = true) (gW : mg "_law_wide" = some (.ref fW)) (l3 : k3 ≤ j)
    (m1 : mg "len" = none) (m2 : mg "range" = none) :
    FnOk P w K mg base CX0 (j + 1) f fd ["_law_old", "_law_new"] spDs := by
  refine F.ok scDs (fun vs H Q E h => ?_) (fun cdv A outer s H vs Q E hr h => ?_)
  · obtain ⟨po, pn, old, new, rfl, _⟩ := h
    rfl
  · obtain ⟨po, pn, old, new, rfl, hpo, hpn, hlo, hln, fin⟩ := h
    have hz := PySem.sizeLine_eq
    refine ⟨_, pss_cons (ps_par (i := 2) (j := 3) rfl scDs.nd rfl rfl (by decide) rfl rfl (pa_cons (pe_op op_rep (pe_lst (pa_cons pe_int pa_nil)) (pe_op op_add (pe_callB call_len_seq (by rfl) m1 PySem.boot_len (pa_cons (pv 1) pa_nil)) pe_int))
          (pa_cons (pe_op op_rep (pe_lst (pa_cons pe_non pa_nil)) (pe_callB call_len_seq (by rfl) m1 PySem.boot_len (pa_cons (pv 1) pa_nil))) pa_nil)) (by rfl))
      (pss_cons (ps_for PassesOwn.never rfl (pi_range3 (by rfl) m2 (pa_cons (pe_op op_sub (pe_callB call_len_seq (by rfl) m1 PySem.boot_len (pa_cons (pv 1) pa_nil)) pe_int) (pa_cons (pe_un un_neg pe_int) (pa_cons (pe_un un_neg pe_int) pa_nil)))) (pg_name (i := 4) scDs.nd rfl (.inl rfl))
        (pss_cons (ps_asg (pe_tup (pa_cons (pe_op op_add pe_int (pe_ix ix_list (pv 2) (pe_op op_add (pv 4) pe_int) (fun _ _ => rfl))) (pa_cons (pe_ix ix_list (pv 1) (pv 4) (fun _ _ => rfl)) pa_nil))) (pg_tup (by rfl) (pgs_cons (pg_sub (pv 2) (pv 4) set_list) (pgs_cons (pg_sub (pv 3) (pv 4) set_list) pgs_nil))))
        (pss_one (ps_for PassesOwn.never rfl (pi_list (pe_call GC (hr.mono l1) (by rfl) gC kC bC .nil pass0 (pa_cons (pv 0) (pa_cons (pv 1) (pa_cons (pv 4) pa_nil))))) (pg_name (i := 5) scDs.nd rfl (.inl rfl))
          (pss_one (ps_if (pt_cmpR op_lt (pe_op op_add (pe_call GD (hr.mono l2) (by rfl) gD kD bD .nil pass0 (pa_cons (pv 5) pa_nil)) (pe_ix ix_list (pv 2) (pe_op op_add (pv 4) (pe_ix ix_tup (pv 5) pe_int (fun _ _ => rfl))) (fun _ _ => rfl))) (pe_ix ix_list (pv 2) (pv 4) (fun _ _ => rfl)) (nomark _))
            (pss_cons (ps_asg (pe_op op_add (pe_call GD (hr.mono l2) (by rfl) gD kD bD .nil pass0 (pa_cons (pv 5) pa_nil)) (pe_ix ix_list (pv 2) (pe_op op_add (pv 4) (pe_ix ix_tup (pv 5) pe_int (fun _ _ => rfl))) (fun _ _ => rfl))) (pg_sub (pv 2) (pv 4) set_list))
              (pss_one (ps_asg (pv 5) (pg_sub (pv 3) (pv 4) set_list)))) pss_nil))))))
      (pss_cons (ps_par (i := 6) (j := 4) rfl scDs.nd rfl rfl (by decide) rfl rfl (pa_cons (pe_lst pa_nil) (pa_cons pe_int pa_nil)) (by rfl))
      (pss_cons (ps_while PassesOwn.never (pt_cmpR op_lt (pv 4) (pe_callB call_len_seq (by rfl) m1 PySem.boot_len (pa_cons (pv 1) pa_nil)) (nomark _))
        (pss_cons (ps_expr (pe_bm PySem.F.plainAttrs_list PySem.F.slot_list_append PySem.F.type_list_append mt_append (pv 6) (pa_cons (pe_ix ix_list (pv 3) (pv 4) (fun _ _ => rfl)) pa_nil)))
        (pss_one (ps_set (i := 4) scDs.nd rfl (.inl rfl) (pe_op op_add (pv 4) (pe_call GW (hr.mono l3) (by rfl) gW kW bW .nil pass0 (pa_cons (pe_ix ix_list (pv 3) (pv 4) (fun _ _ => rfl)) pa_nil)))))))
      (pss_one (ps_ret (pe_tup (pa_cons (pv 2) (pa_cons (pv 6) pa_nil)))))))), ?_⟩
    have hpn0 := hpn
    refine ⟨(by show 1 ≤ sizeLine; omega), fun z1 nz1 => ?_⟩
    have s1 := same_upd (o := .lst [.int 0]) nz1
    have hz1 : (upd H z1 (.lst [.int 0])) z1 = some (.lst [.int 0]) := upd_same
    generalize upd H z1 (.lst [.int 0]) = H1 at *
    refine ⟨_, rfl, pn, _, rfl, .inl (.inl (.inl (s1 _ _ hpn))), _, _, rfl, rfl, z1, _, _, rfl, rfl, hz1, by rw [bys_len]; omega, by rw [bys_len]; omega, (by show 1 * _ ≤ _; rw [bys_len]; omega), fun C nC => ?_⟩
    have e0 : (List.replicate (((bys new).length : Int) + 1).toNat [V.int 0]).flatten = bys (List.replicate (new.length + 1) 0) := by
      rw [bys_len, show ((new.length : Int) + 1).toNat = new.length + 1 by omega]
      unfold bys
      rw [List.map_replicate, List.map_replicate]
      generalize new.length + 1 = n
      induction n with
      | zero => rfl
      | succ n ih => rw [List.replicate_succ, List.replicate_succ, List.flatten_cons, ih]; rfl
    rw [e0]
    have nC0 := none_back s1 nC
    have s2 := same_upd (o := .lst (bys (List.replicate (new.length + 1) 0))) nC
    have hC2 : (upd H1 C (.lst (bys (List.replicate (new.length + 1) 0)))) C = some (.lst (bys (List.replicate (new.length + 1) 0))) := upd_same
    have sm2 := s1.trans s2
    generalize upd H1 C (.lst (bys (List.replicate (new.length + 1) 0))) = H2 at *
    refine ⟨(by show 1 ≤ sizeLine; omega), fun z2 nz2 => ?_⟩
    have s3 := same_upd (o := .lst [.non]) nz2
    have hz2 : (upd H2 z2 (.lst [.non])) z2 = some (.lst [.non]) := upd_same
    have sm3 := sm2.trans s3
    have hC3 := s3 _ _ hC2
    generalize upd H2 z2 (.lst [.non]) = H3 at *
    refine ⟨_, rfl, pn, _, rfl, .inl (.inl (.inl (sm3 _ _ hpn))), z2, _, _, rfl, rfl, hz2, by rw [bys_len]; omega, by rw [bys_len]; omega, (by show 1 * _ ≤ _; rw [bys_len]; omega), fun R nR => ⟨_, _, rfl, ?_⟩⟩
    obtain ⟨vs0, ev0⟩ : ∃ vs0, vs0 = (List.replicate (((bys new).length : Int)).toNat [V.non]).flatten := ⟨_, rfl⟩
    have hv0 : vs0.length = new.length := by
      rw [ev0, bys_len, Int.toNat_natCast]
      generalize new.length = n
      induction n with
      | zero => rfl
      | succ n ih => rw [List.replicate_succ, List.flatten_cons, List.length_append, ih]; show 1 + n = n + 1; omega
    rw [← ev0]
    have s4 := same_upd (o := .lst vs0) nR
    have hR4 : (upd H3 R (.lst vs0)) R = some (.lst vs0) := upd_same
    have nR0 := none_back sm3 nR
    have nCR : C ≠ R := ne_of_none hC3 nR
    have hC4 := s4 _ _ hC3
    have sm4 := sm3.trans s4
    generalize upd H3 R (.lst vs0) = H4 at *
    clear s1 s2 s3 s4 sm2 sm3 hz1 hz2 hC2 hC3 e0 ev0 nC nR
    dsimp only [tNext]
    refine ⟨_, rfl, pn, _, rfl, .inl (.inl (.inl (sm4 _ _ hpn))), _, _, rfl, rfl, 1, rfl, 1, rfl, _, _, _, _, rfl, RgC.neg (by rw [bys_len]; omega) (by rw [bys_len]; omega) (by decide) (by decide), ?_⟩
    have en : (((bys new).length : Int) - 1 - -1).toNat = new.length := by rw [bys_len]; omega
    refine for_rangeC (fun i σ H' => ∃ (y4 y5 y6 : Option V) (cs : List Nat) (vs : List V), σ = [some (.ref po), some (.ref pn), some (.ref C), some (.ref R), y4, y5, y6] ∧ Same H H' ∧ H' C = some (.lst (bys cs)) ∧ H' R = some (.lst vs) ∧ cs.length = new.length + 1 ∧ cs.getD new.length 0 = 0 ∧ vs.length = new.length ∧ ∀ t, new.length - i ≤ t → t < new.length → LcAt old new cs t ∧ ∃ it v, vs[t]? = some v ∧ DiAt H' it v ∧ LTake old new cs t it)
      ⟨_, _, _, List.replicate (new.length + 1) 0, vs0, rfl, sm4, hC4, hR4, List.length_replicate, ?_, hv0, fun t g1 g2 => by omega⟩ (fun i σ H' hi h => ?_) (fun σ H' h => ?_)
    · rw [List.getD_eq_getElem?_getD, List.getElem?_replicate]
      split <;> rfl
    · obtain ⟨y4, y5, y6, cs, vs, rfl, sm, hC, hR, hcl, hcn, hvl, hst⟩ := h
      have hi : i < new.length := by rw [← en]; exact hi
      obtain ⟨a, hadef⟩ : ∃ a : Nat, a = new.length - (i + 1) := ⟨_, rfl⟩
      have ea : ((bys new).length : Int) - 1 + (i : Nat) * -1 = (a : Int) := by rw [bys_len]; omega
      rw [ea]
      have ha : a < new.length := by omega
      have hpn1 := sm _ _ hpn
      have hpo1 := sm _ _ hpo
      dsimp only [gName]
      refine ⟨_, rfl, _, rfl, _, _, rfl, rfl, C, _, _, _, rfl, rfl, .inl (.inl hC), at_of' (k := a + 1) (by push_cast; rfl) (by omega), _, _, rfl, rfl, _, rfl, _, rfl, pn, _, _, _, rfl, rfl, .inl (.inl hpn1), at_of' (k := a) rfl ha, (by show 2 ≤ sizeLine; omega), fun tt ntt => ?_⟩
      have s5 := same_upd (o := .tup [.int (9 + ((cs.getD (a + 1) 0 : Nat) : Int)), .int ((new.getD a 0 : Nat) : Int)]) ntt
      have htt : (upd H' tt (.tup [.int (9 + ((cs.getD (a + 1) 0 : Nat) : Int)), .int ((new.getD a 0 : Nat) : Int)])) tt = some (.tup [.int (9 + ((cs.getD (a + 1) 0 : Nat) : Int)), .int ((new.getD a 0 : Nat) : Int)]) := upd_same
      have hC5 := s5 _ _ hC
      have hR5 := s5 _ _ hR
      have sm5 := sm.trans s5
      generalize upd H' tt (.tup [.int (9 + ((cs.getD (a + 1) 0 : Nat) : Int)), .int ((new.getD a 0 : Nat) : Int)]) = H5 at *
      have hR6 : ∀ o, (upd H5 C o) R = some (.lst vs) := fun o => by rw [upd_ne (Ne.symm nCR)]; exact hR5
      refine ⟨tt, _, rfl, .inl (.inl htt), rfl, _, _, rfl, _, rfl, _, rfl, C, _, _, a, rfl, rfl, hC5, ixN_natK (by rw [bys_len]; omega), _, _, rfl, _, rfl, _, rfl, R, _, _, a, rfl, rfl, hR6 _, ixN_natK (by rw [hvl]; exact ha), rfl, ?_⟩
      have ec : (bys cs).set a (.int (9 + ((cs.getD (a + 1) 0 : Nat) : Int))) = bys (cs.set a (9 + cs.getD (a + 1) 0)) := by
        rw [show (9 : Int) + ((cs.getD (a + 1) 0 : Nat) : Int) = ((9 + cs.getD (a + 1) 0 : Nat) : Int) by push_cast; rfl]
        unfold bys
        rw [List.map_set, List.map_set]
      have sm7 : Same H (upd (upd H5 C (.lst ((bys cs).set a (.int (9 + ((cs.getD (a + 1) 0 : Nat) : Int)))))) R (.lst (vs.set a (.int ((new.getD a 0 : Nat) : Int))))) := same_put (same_put sm5 nC0) nR0
      have hC7 : (upd (upd H5 C (.lst ((bys cs).set a (.int (9 + ((cs.getD (a + 1) 0 : Nat) : Int)))))) R (.lst (vs.set a (.int ((new.getD a 0 : Nat) : Int))))) C = some (.lst (bys (cs.set a (9 + cs.getD (a + 1) 0)))) := by rw [upd_ne nCR, upd_same, ec]
      have hR7 : (upd (upd H5 C (.lst ((bys cs).set a (.int (9 + ((cs.getD (a + 1) 0 : Nat) : Int)))))) R (.lst (vs.set a (.int ((new.getD a 0 : Nat) : Int))))) R = some (.lst (vs.set a (.int ((new.getD a 0 : Nat) : Int)))) := upd_same
      have k7 : ∀ b xs, H' b = some (.tup xs) → (upd (upd H5 C (.lst ((bys cs).set a (.int (9 + ((cs.getD (a + 1) 0 : Nat) : Int)))))) R (.lst (vs.set a (.int ((new.getD a 0 : Nat) : Int))))) b = some (.tup xs) := fun b xs e => tup_put (hR6 _) _ _ (tup_put hC5 _ _ (s5 _ _ e))
      clear hC hR hC5 hR5 sm5 htt hR6 s5
      generalize upd (upd H5 C (.lst ((bys cs).set a (.int (9 + ((cs.getD (a + 1) 0 : Nat) : Int)))))) R (.lst (vs.set a (.int ((new.getD a 0 : Nat) : Int)))) = H7 at *
      refine ⟨_, rfl, _, rfl, _, rfl, po, pn, old, new, a, rfl, sm7 _ _ hpo, sm7 _ _ hpn, hlo, hln, ha, fun H8 q row s8 nq hrw hm hp => ?_⟩
      obtain ⟨us, hq, hus⟩ := hrw
      have hul := hus.length
      have hC8 := s8 _ _ hC7
      have hR8 := s8 _ _ hR7
      have sm8 := sm7.trans s8
      have nqC : q ≠ C := (ne_of_none hC7 nq).symm
      have nqR : q ≠ R := (ne_of_none hR7 nq).symm
      refine ⟨q, rfl, ⟨_, .inl (.inl hq)⟩, ?_⟩
      refine for_list (K := K) (a := q) (xs := us) (fun j σ H' => ∃ (y5 : Option V) (c : Nat) (it : Di) (v : V), σ = [some (.ref po), some (.ref pn), some (.ref C), some (.ref R), some (.int (a : Int)), y5, y6] ∧ Same H H' ∧ H' C = some (.lst (bys (cs.set a c))) ∧ H' R = some (.lst (vs.set a v)) ∧ DiAt H' it v ∧ BestJ new cs a (row.take j) c it ∧ H' q = some (.lst us) ∧ ∀ b xs, H8 b = some (.tup xs) → H' b = some (.tup xs))
        ⟨_, _, .b (new.getD a 0), _, rfl, sm8, hC8, hR8, rfl, best_nil new cs a, hq, fun _ _ e => e⟩ (fun j σ H' _ h => ?_) (fun j x σ H' hx h => ?_) (fun σ H' h => ?_)
      · obtain ⟨_, _, _, _, _, _, _, _, _, _, hq, _⟩ := h
        exact .inl (.inl hq)
      · obtain ⟨y5, c, it, v, rfl, sm9, hC9, hR9, hd9, hb9, hq9, k9⟩ := h
        have hj : j < row.length := by have := (List.getElem?_eq_some_iff.mp hx).1; omega
        obtain ⟨x', e1, hd⟩ := paired_get hus (List.getElem?_eq_getElem hj)
        obtain rfl := Option.some.inj (e1.symm.trans hx)
        have hd := hd.keep k9
        have ej : row[j]? = some row[j] := List.getElem?_eq_getElem hj
        have hcp := (hm row[j]).mp (List.getElem_mem hj)
        have hpj : ∀ y ∈ row.take j, ¬ ltC row[j] y := fun y hy => by
          obtain ⟨n, hn, rfl⟩ := List.getElem_of_mem hy
          rw [List.length_take] at hn
          rw [List.getElem_take]
          exact List.pairwise_iff_getElem.mp hp n j (by omega) hj (by omega)
        rw [List.take_add_one, ej]
        generalize row[j] = x0 at *
        have hw := cp_wide hcp
        have g1 : (cs.set a c).getD (a + wideI x0) 0 = cs.getD (a + wideI x0) 0 := getD_set_ne (by omega)
        have g2 : (cs.set a c).getD a 0 = c := getD_set_eq (by omega)
        have hcsl : (cs.set a c).length = new.length + 1 := by rw [List.length_set]; exact hcl
        dsimp only [gName]
        match x0, hcp, hd, hw, g1 with
        | .c wd m p, hcp, hd, hw, g1 =>
          obtain ⟨t, rfl, ht⟩ := hd
          have hw : 1 ≤ m ∧ m ≤ 255 ∧ a + m ≤ new.length := hw
          have g1 : (cs.set a c).getD (a + m) 0 = cs.getD (a + m) 0 := g1
          refine ⟨_, rfl, .ref t, .c wd m p, rfl, ⟨t, rfl, ht⟩, _, rfl, _, rfl, _, rfl, t, _, 1, _, rfl, rfl, .inl (.inl ht), rfl, _, _, rfl, rfl, C, _, _, _, rfl, rfl, .inl (.inl hC9), at_of' (k := a + m) (by push_cast; rfl) (by omega), _, _, rfl, rfl, _, rfl, _, rfl, C, _, _, _, rfl, rfl, .inl (.inl hC9), at_of' (k := a) rfl (by omega), _, _, rfl, rfl, _, rfl, ?_⟩
          rw [g1, g2]
          refine ite2 (fun e => ?_) (fun e => ?_)
          · have e : cI (.c wd m p) + cs.getD (a + m) 0 < c := by have := of_decide_eq_true e; omega
            have hR10 : ∀ o, (upd H' C o) R = some (.lst (vs.set a v)) := fun o => by rw [upd_ne (Ne.symm nCR)]; exact hR9
            refine ⟨_, rfl, .ref t, .c wd m p, rfl, ⟨t, rfl, ht⟩, _, rfl, _, rfl, _, rfl, t, _, 1, _, rfl, rfl, .inl (.inl ht), rfl, _, _, rfl, rfl, C, _, _, _, rfl, rfl, .inl (.inl hC9), at_of' (k := a + m) (by push_cast; rfl) (by omega), _, _, rfl, rfl, _, rfl, _, rfl, C, _, _, a, rfl, rfl, hC9, ixN_natK (by rw [bys_len]; omega), ?_⟩
            refine ⟨_, rfl, _, rfl, _, rfl, R, _, _, a, rfl, rfl, hR10 _, ixN_natK (by rw [List.length_set, hvl]; exact ha), ?_⟩
            have ec : (bys (cs.set a c)).set a (.int (((cI (.c wd m p) : Nat) : Int) + (((cs.set a c).getD (a + m) 0 : Nat) : Int))) = bys (cs.set a (cI (.c wd m p) + cs.getD (a + m) 0)) := by
              rw [g1, show ((cI (.c wd m p) : Nat) : Int) + ((cs.getD (a + m) 0 : Nat) : Int) = ((cI (.c wd m p) + cs.getD (a + m) 0 : Nat) : Int) by push_cast; rfl]
              unfold bys
              rw [← List.map_set, ← List.map_set, List.set_set]
            have kk : ∀ b xs, H' b = some (.tup xs) → ∀ o o', (upd (upd H' C (.lst o)) R (.lst o')) b = some (.tup xs) := fun b xs e o o' => tup_put (hR10 _) _ _ (tup_put hC9 _ _ e)
            refine ⟨_, cI (.c wd m p) + cs.getD (a + m) 0, .c wd m p, .ref t, rfl, same_put (same_put sm9 nC0) nR0, by rw [upd_ne nCR, upd_same, ec], by rw [upd_same, List.set_set], ⟨t, rfl, kk _ _ ht _ _⟩, best_less hb9 e, by rw [upd_ne nqR, upd_ne nqC]; exact hq9, fun b xs e => kk _ _ (k9 _ _ e) _ _⟩
          · have e : ¬ cI (.c wd m p) + cs.getD (a + m) 0 < c := fun z => e (decide_eq_true (by omega))
            exact ⟨_, c, it, v, rfl, sm9, hC9, hR9, hd9, best_stay hb9 e hpj, hq9, k9⟩
      · obtain ⟨y5, c, it, v, rfl, sm9, hC9, hR9, hd9, hb9, hq9, k9⟩ := h
        rw [← hul, List.take_length] at hb9
        obtain ⟨b1, b2⟩ := best_end hb9 hm (by omega)
        refine ⟨_, _, _, cs.set a c, vs.set a v, rfl, sm9, hC9, hR9, by rw [List.length_set]; exact hcl, by rw [getD_set_ne (by omega)]; exact hcn, by rw [List.length_set]; exact hvl, fun t g1 g2 => ?_⟩
        by_cases et : t = a
        · subst et
          exact ⟨b1, it, v, List.getElem?_set_self (by omega), hd9, b2⟩
        · obtain ⟨c1, it1, v1, c2, c3, c4⟩ := hst t (by omega) g2
          exact ⟨lc_set (by omega) c1, it1, v1, by rw [List.getElem?_set_ne (Ne.symm et)]; exact c2, c3.keep fun b xs e => k9 _ _ (s8 _ _ (k7 _ _ e)), lt_set (by omega) c4⟩
    · obtain ⟨y4, y5, y6, cs, vs, rfl, sm, hC, hR, hcl, hcn, hvl, hst⟩ := h
      rw [en] at hst
      have lc : LC old new cs := ⟨hcl, hcn, fun a ha => (hst a (by omega) ha).1⟩
      have hst := fun t (g : t < new.length) => (hst t (by omega) g).2
      refine ⟨Nat.zero_le _, fun W nW => ⟨_, _, rfl, ?_⟩⟩
      have s5 := same_upd (o := .lst []) nW
      have hW5 : (upd H' W (.lst [])) W = some (.lst []) := upd_same
      have nW0 := none_back sm nW
      have nCW : C ≠ W := ne_of_none hC nW
      have nRW : R ≠ W := ne_of_none hR nW
      have hC5 := s5 _ _ hC
      have hR5 := s5 _ _ hR
      have sm5 := sm.trans s5
      have hst := fun t (g : t < new.length) => (by
        obtain ⟨it, v, c2, c3, c4⟩ := hst t g
        exact ⟨it, v, c2, c3.same s5, c4⟩ : ∃ it v, vs[t]? = some v ∧ DiAt (upd H' W (.lst [])) it v ∧ LTake old new cs t it)
      clear hC hR s5
      generalize upd H' W (.lst []) = H5 at *
      dsimp only [tNext]
      refine ⟨fun n9 σ9 H9 => ∃ (p : Nat) (row : List Di) (us : List V), σ9 = [some (.ref po), some (.ref pn), some (.ref C), some (.ref R), some (.int (p : Int)), y5, some (.ref W)] ∧ ButD W H5 H9 ∧ H9 W = some (.lst us) ∧ Paired (DiAt H9) row us ∧ n9 = new.length - p ∧ p ≤ new.length ∧ row.length ≤ p ∧ LTo old new cs 0 row p, ⟨_, 0, [], [], rfl, ButD.refl, hW5, .nil, rfl, Nat.zero_le _, Nat.le_refl _, rfl⟩, fun n9 σ9 H9 hW => ?_⟩
      obtain ⟨p, row, us, rfl, bd, hW, hus, rfl, hp, hrl, hlt⟩ := hW
      have smH : Same H H9 := ButD.same sm5 nW0 bd
      have hR9 := bd _ _ nRW hR5
      have hC9 := bd _ _ nCW hC5
      have hul := hus.length
      refine ⟨_, rfl, _, rfl, pn, _, rfl, .inl (.inl (.inl (smH _ _ hpn))), _, _, rfl, rfl, _, rfl, ite2 (fun e => ?_) (fun e => ?_)⟩
      · have e : p < new.length := by have := of_decide_eq_true e; rw [bys_len] at this; omega
        obtain ⟨it, v, c2, c3, c4⟩ := hst p e
        have hw := ltake_wide e c4
        have hR10 : ∀ o, (upd H9 W o) R = some (.lst vs) := fun o => by rw [upd_ne nRW]; exact hR9
        have hd9 : DiAt H9 it v := c3.keep fun b xs z => bd _ _ (ne_of z hW5 (fun z => nomatch z)) z
        refine ⟨_, fun _ _ h => h, ?_⟩
        refine ⟨_, rfl, .inl ⟨rfl, _, .inl (.inl hW)⟩, _, rfl, _, rfl, R, _, _, _, rfl, rfl, .inl (.inl hR9), atI_nat c2, W, _, _, rfl, rfl, hW, by omega, ?_⟩
        refine ⟨_, rfl, _, rfl, _, rfl, R, _, _, _, rfl, rfl, .inl (.inl (hR10 _)), atI_nat c2, v, it, rfl, hd9.put hW, _, _, rfl, rfl, new.length - (p + wideI it), by omega, p + wideI it, row ++ [it], us ++ [v], by push_cast; rfl, bd.put, upd_same, paired_app (hus.mono fun _ _ z => z.put hW) (.cons (hd9.put hW) .nil), rfl, hw.2, by rw [List.length_append]; show row.length + 1 ≤ _; omega, hlt.snoc e c4⟩
      · have e : p = new.length := by
          by_cases z : p < new.length
          · exact absurd (decide_eq_true (by rw [bys_len]; omega)) e
          · omega
        subst e
        refine ⟨_, rfl, _, rfl, (by show 2 ≤ sizeLine; omega), fun t nt => ?_⟩
        have s6 := same_upd (o := .tup [.ref C, .ref W]) nt
        exact fin _ t C W cs row (smH.trans s6) (none_back smH nt) nC0 nW0 upd_same (s6 _ _ hC9) ⟨us, s6 _ _ hW, hus.mono fun _ _ z => z.same s6⟩ lc hlt.row
end
end K9

namespace K9
open PySem PySem.Spec PyProof.Rows L2
/-! ### _law_origins, None where the row does not fit -/
def ShI : Di → Prop
  | .b n => n < 256
  | .c true m p => 3 ≤ m ∧ m ≤ 255 ∧ 1 ≤ p ∧ p ≤ 2000
  | .c false m _ => 1 ≤ m ∧ m ≤ 255
def wsum : List Di → Nat
  | [] => 0
  | i :: r => wideI i + wsum r
theorem wsum_len : ∀ {row : List Di}, (∀ i ∈ row, ShI i) → row.length ≤ wsum row
  | [], _ => Nat.le_refl _
  | i :: r, h => by
    have h1 := wsum_len fun j hj => h j (List.mem_cons_of_mem _ hj)
    have h2 : 1 ≤ wideI i := by
      have := h i (List.mem_cons_self ..)
      match i, this with
      | .b n, _ => exact Nat.le_refl _
      | .c true m p, g => have := g.1; show 1 ≤ m; omega
      | .c false m p, g => exact g.1
    show r.length + 1 ≤ wideI i + wsum r
    omega
section
variable {P : Program} {w : World} {K : PySem.W.Frag} {mg : Str → Option Value} {base : Heap}
def spLg2 : Sp := fun vs H Q _ => ∃ (r : Addr) (row : List Di) (old : Nat), vs = [.ref r, .int (old : Int)] ∧ RwAt H r row ∧ (∀ i ∈ row, ShI i) ∧ wsum row ≤ 2000 ∧
  (∀ n, fitR old 0 row = some n → ∀ H' q, Same H H' → H q = none → H' q = some (.lst (ogV (orig row))) → Q (.ref q) H') ∧ (fitR old 0 row = none → ∀ H', Same H H' → Q .non H')
theorem ok_lg2 {f : Addr} {fd : FuncData} {j : Nat} (F : Fun K "_law_origins" "_law_origins" sLOrig f fd) (m1 : mg "isinstance" = none) (m2 : mg "int" = none) (m3 : mg "range" = none) (m4 : mg "len" = none) :
    FnOk P w K mg base CX0 (j + 1) f fd ["_law_row", "_law_size"] spLg2 := by
  refine F.ok scLg (fun vs H Q E h => ?_) (fun cdv A outer s H vs Q E hr h => ?_)
  · obtain ⟨r, row, old, rfl, _⟩ := h
    rfl
  · obtain ⟨r, row, old, rfl, ⟨us, hr0, hus⟩, hsh, hws, q, q2⟩ := h
    have hz := PySem.sizeLine_eq
    refine ⟨_, pss_cons (ps_set (i := 2) scLg.nd rfl (.inl rfl) (pe_lst pa_nil))
      (pss_cons (ps_for PassesOwn.never rfl (pi_list (pv 0)) (pg_name (i := 3) scLg.nd rfl (.inr rfl))
        (pss_one (ps_if (pt_val (pe_callB call_isi (by rfl) m1 (by decide +kernel) (pa_cons (pv 3) (pa_cons (pe_bltn (v := .ty "int") (by rfl) m2 (by decide +kernel) rfl) pa_nil))))
          (pss_one (ps_expr (pe_bm PySem.F.plainAttrs_list PySem.F.slot_list_append PySem.F.type_list_append mt_append (pv 2) (pa_cons (pv 3) pa_nil))))
          (pss_one (ps_if (pt_cmpR op_eq (pe_ix ix_tup (pv 3) pe_int (fun _ _ => rfl)) pe_str (nomark _))
            (pss_cons (ps_if (pt_cmpR op_gt (pe_op op_add (pe_ix ix_tup (pv 3) pe_int (fun _ _ => rfl)) (pe_ix ix_tup (pv 3) pe_int (fun _ _ => rfl))) (pv 1) (nomark _)) (pss_one (ps_ret pe_non)) pss_nil)
              (pss_one (ps_set (i := 2) scLg.nd rfl (.inl rfl) (pe_op op_cat (pv 2) (pe_lc (own := [("_law_turn", 4)]) (g := gName 4) (tt := tYes) rfl scLg.nd (pi_range1 (by rfl) m3 (pa_cons (pe_ix ix_tup (pv 3) pe_int (fun _ _ => rfl)) pa_nil)) (blkOk_by (N := NLg) (sc := defScope sLOrig) (by decide +kernel))
                (fun _ _ _ _ _ => pg_name (i := 4) scLg.nd rfl (.inl rfl)) (fun _ _ _ _ _ => pts_nil) (fun _ _ _ _ _ => pe_op op_sub (pe_op op_sub (pe_un un_neg pe_int) (pe_ix (ixT K) (pv 3) pe_int (fun _ _ => rfl))) (pv 4)))))))
            (pss_one (ps_if (pt_cmpR op_gt (pe_ix ix_tup (pv 3) pe_int (fun _ _ => rfl)) (pe_callB call_len_seq (by rfl) m4 PySem.boot_len (pa_cons (pv 2) pa_nil)) (nomark _)) (pss_one (ps_ret pe_non))
              (pss_one (ps_for PassesOwn.never rfl (pi_range1 (by rfl) m3 (pa_cons (pe_ix ix_tup (pv 3) pe_int (fun _ _ => rfl)) pa_nil)) (pg_name (i := 4) scLg.nd rfl (.inl rfl))
                (pss_one (ps_expr (pe_bm PySem.F.plainAttrs_list PySem.F.slot_list_append PySem.F.type_list_append mt_append (pv 2) (pa_cons (pe_ix ix_list (pv 2) (pe_un un_neg (pe_ix ix_tup (pv 3) pe_int (fun _ _ => rfl))) (fun _ _ => rfl)) pa_nil)))))))))))))
      (pss_one (ps_ret (pv 2)))), ?_⟩
    refine ⟨Nat.zero_le _, fun D0 nD0 => ?_⟩
    have hlen := hus.length
    have hrl : row.length ≤ 2000 := by have := wsum_len hsh; omega
    obtain ⟨X, hX⟩ : ∃ X, X = fitR old 0 row := ⟨_, rfl⟩
    dsimp only [gName]
    refine ⟨_, rfl, r, rfl, ⟨_, .inl (.inl (same_upd nD0 _ _ hr0))⟩, ?_⟩
    refine for_list (K := K) (a := r) (xs := us) (fun i σ H' => ∃ (y3 y4 : Option V) (D : Addr) (os : List Og), σ = [some (.ref r), some (.int (old : Int)), some (.ref D), y3, y4] ∧ Same H H' ∧ H D = none ∧ H' D = some (.lst (ogV os)) ∧ os = (row.take i).foldl origS [] ∧ fitR old os.length (row.drop i) = X ∧ os.length + wsum (row.drop i) ≤ 2000)
      ⟨_, _, D0, [], rfl, same_upd nD0, nD0, upd_same, rfl, hX.symm, by rw [List.length_nil, Nat.zero_add]; exact hws⟩ (fun i σ H' _ h => ?_) (fun i x σ H' hx h => ?_) (fun σ H' h => ?_)
    · obtain ⟨_, _, _, _, _, sm, _⟩ := h
      exact .inl (.inl (sm _ _ hr0))
    · obtain ⟨y3, y4, D, os, rfl, sm, nD, hD, eos, ef, ew⟩ := h
      have hi : i < row.length := by have := (List.getElem?_eq_some_iff.mp hx).1; omega
      obtain ⟨x', e1, hd0⟩ := paired_get hus (List.getElem?_eq_getElem hi)
      obtain rfl := Option.some.inj (e1.symm.trans hx)
      have hd := hd0.same sm
      rw [List.drop_eq_getElem_cons hi] at ef ew
      have hshi := hsh row[i] (List.getElem_mem hi)
      have et : (row.take (i + 1)).foldl origS [] = origS os row[i] := by
        rw [List.take_add_one, List.getElem?_eq_getElem hi, List.foldl_append, ← eos]
        rfl
      rw [et]
      clear eos et hd0
      generalize row[i] = it at *
      have ew : os.length + (wideI it + wsum (row.drop (i + 1))) ≤ 2000 := ew
      have ef : (if fitI old os.length it = true then fitR old (os.length + wideI it) (row.drop (i + 1)) else none) = X := ef
      dsimp only [gName]
      cases it with
      | b k =>
        obtain rfl : x' = .int (k : Int) := hd
        have hf : fitI old os.length (.b k) = true := decide_eq_true hshi
        rw [if_pos hf, ← origS_len] at ef
        have ew : os.length + (1 + wsum (row.drop (i + 1))) ≤ 2000 := ew
        refine ⟨_, rfl, _, _, _, _, _, rfl, .ty "int", .base (.int _), kit_ty (a := "int") (r := true) (by decide +kernel), _, rfl, iteT ?_⟩
        refine ⟨_, rfl, .inl ⟨rfl, _, .inl (.inl hD)⟩, _, rfl, D, _, _, rfl, rfl, hD, by rw [ogV_len]; omega, ?_⟩
        exact ⟨_, _, D, os ++ [.b k], rfl, same_put sm nD, nD, by rw [upd_same, ogV_app]; rfl, rfl, ef, by rw [List.length_append]; show os.length + 1 + _ ≤ _; omega⟩
      | c nw m p =>
        obtain ⟨t, rfl, ht⟩ := hd
        have ew : os.length + (m + wsum (row.drop (i + 1))) ≤ 2000 := ew
        refine ⟨_, rfl, _, _, .type "tuple", _, _, rfl, .ty "int", .base (.tup ht), kit_ty (a := "tuple") (r := false) (by decide +kernel), _, rfl, iteF ?_⟩
        cases nw with
        | false =>
          have hshi : 1 ≤ m ∧ m ≤ 255 := hshi
          refine ⟨_, rfl, t, _, 0, _, rfl, rfl, .inl (.inl ht), rfl, rfl, _, rfl, iteT ?_⟩
          refine ⟨_, rfl, t, _, 2, _, rfl, rfl, .inl (.inl ht), rfl, _, rfl, t, _, 1, _, rfl, rfl, .inl (.inl ht), rfl, _, _, rfl, rfl, _, rfl, _, _, rfl, rfl, _, rfl, ?_⟩
          refine ite2 (fun z => ?_) (fun z => ?_)
          · have z := of_decide_eq_true z
            have hf : ¬ fitI old os.length (.c false m p) = true := fun y => by have := of_decide_eq_true (show decide (1 ≤ m ∧ m ≤ 255 ∧ p + m ≤ old) = true from y); omega
            rw [if_neg hf] at ef
            exact q2 (hX.symm.trans ef.symm) H' sm
          have z : p + m ≤ old := by
            by_cases y : p + m ≤ old
            · exact y
            · exact absurd (decide_eq_true (by omega)) z
          have hf : fitI old os.length (.c false m p) = true := decide_eq_true ⟨hshi.1, hshi.2, z⟩
          rw [if_pos hf, ← origS_len] at ef
          refine ⟨_, rfl, _, rfl, t, _, 1, _, rfl, rfl, .inl (.inl ht), rfl, m, rfl, by omega, by omega, fun B nB => ?_⟩
          have nB0 := none_back sm nB
          refine lc_range (lo := 0) (n := (m : Int).toNat) (fun k H3 => Same H' H3 ∧ H3 B = some (.lst (ogV ((List.range k).map fun t => Og.o (p + t))))) ⟨same_upd nB, upd_same⟩ (fun k H3 hk h => ?_) (fun H3 h => ?_)
          · obtain ⟨s3, hB⟩ := h
            refine ⟨rfl, yes ?_⟩
            refine ⟨1, rfl, _, rfl, t, _, 2, _, rfl, rfl, .inl (.inl (s3 _ _ ht)), rfl, _, _, rfl, rfl, _, rfl, _, _, rfl, rfl, _, hB, by rw [ogV_len, List.length_map, List.length_range]; omega, same_put s3 nB, ?_⟩
            rw [upd_same, List.range_succ, List.map_append, ogV_app]
            show some (HO.lst (_ ++ [V.int (-1 - (p : Int) - (0 + (k : Int)))])) = some (HO.lst (_ ++ [V.int (-1 - ((p + k : Nat) : Int))]))
            rw [show -1 - (p : Int) - (0 + (k : Int)) = -1 - ((p + k : Nat) : Int) by push_cast; omega]
          · obtain ⟨s3, hB⟩ := h
            rw [Int.toNat_natCast] at hB
            refine ⟨D, B, _, _, rfl, rfl, s3 _ _ hD, hB, by rw [ogV_len, ogV_len, List.length_map, List.length_range]; omega, fun D2 nD2 => ?_⟩
            have sm3 := sm.trans s3
            exact ⟨_, _, D2, os ++ (List.range m).map fun t => Og.o (p + t), rfl, sm3.trans (same_upd nD2), none_back sm3 nD2, by rw [upd_same, ogV_app], rfl, ef, by rw [List.length_append, List.length_map, List.length_range]; omega⟩
        | true =>
          have hshi : 3 ≤ m ∧ m ≤ 255 ∧ 1 ≤ p ∧ p ≤ 2000 := hshi
          refine ⟨_, rfl, t, _, 0, _, rfl, rfl, .inl (.inl ht), rfl, rfl, _, rfl, iteF ?_⟩
          refine ⟨_, rfl, t, _, 2, _, rfl, rfl, .inl (.inl ht), rfl, _, rfl, D, _, rfl, .inl (.inl (.inl hD)), _, _, rfl, rfl, _, rfl, ?_⟩
          refine ite2 (fun z => ?_) (fun z => ?_)
          · have z := of_decide_eq_true z
            rw [ogV_len] at z
            have hf : ¬ fitI old os.length (.c true m p) = true := fun y => by have := of_decide_eq_true (show decide (3 ≤ m ∧ m ≤ 255 ∧ 1 ≤ p ∧ p ≤ min 2000 os.length) = true from y); omega
            rw [if_neg hf] at ef
            exact q2 (hX.symm.trans ef.symm) H' sm
          have z : p ≤ os.length := by
            by_cases y : p ≤ os.length
            · exact y
            · exact absurd (decide_eq_true (by rw [ogV_len]; omega)) z
          have hf0 : fitI old os.length (.c true m p) = true := decide_eq_true ⟨hshi.1, hshi.2.1, hshi.2.2.1, by omega⟩
          rw [if_pos hf0, ← origS_len] at ef
          have hf := hshi
          refine ⟨_, rfl, t, _, 1, _, rfl, rfl, .inl (.inl ht), rfl, m, rfl, by omega, by omega, ?_⟩
          refine for_range (lo := 0) (n := (m : Int).toNat) (fun k σ H3 => ∃ (y4 : Option V), σ = [some (.ref r), some (.int (old : Int)), some (.ref D), some (.ref t), y4] ∧ Same H H3 ∧ H3 D = some (.lst (ogV (copyO p k os))) ∧ H3 t = some (.tup [.str (wdN true), .int (m : Int), .int (p : Int)])) ⟨_, rfl, sm, hD, ht⟩ (fun k σ H3 hk h => ?_) (fun σ H3 h => ?_)
          · obtain ⟨y4, rfl, s3, hD3, ht3⟩ := h
            have hcl := copyO_len p k os
            have hg : (ogV (copyO p k os))[(ogV (copyO p k os)).length - p]? = some (.int (ogI ((copyO p k os).getD ((copyO p k os).length - p) ogD))) := by
              rw [ogV_len]
              exact ogV_at (by omega)
            refine ⟨_, rfl, .inl ⟨rfl, _, .inl (.inl hD3)⟩, ?_⟩
            refine ⟨_, rfl, _, rfl, t, _, 2, _, rfl, rfl, .inl (.inl ht3), rfl, p, rfl, D, _, _, .int (ogI ((copyO p k os).getD ((copyO p k os).length - p) ogD)), rfl, rfl, .inl (.inl hD3), ?_, D, _, _, rfl, rfl, hD3, by rw [ogV_len]; omega, ?_⟩
            · rw [atI_back (by omega) (by rw [ogV_len]; omega)]
              exact hg
            · refine ⟨_, rfl, same_put s3 nD, ?_, tup_put hD3 _ _ ht3⟩
              rw [upd_same, copyO_succ, ogV_app]
              rfl
          · obtain ⟨y4, rfl, s3, hD3, ht3⟩ := h
            rw [Int.toNat_natCast] at hD3
            exact ⟨_, _, D, copyO p m os, rfl, s3, nD, hD3, rfl, ef, by rw [copyO_len]; omega⟩
    · obtain ⟨y3, y4, D, os, rfl, sm, nD, hD, eos, ef, _⟩ := h
      rw [← hlen, List.take_length] at eos
      rw [← hlen, List.drop_length] at ef
      have ef : some os.length = X := ef
      refine ⟨_, rfl, q os.length (hX.symm.trans ef.symm) H' D sm nD ?_⟩
      rw [show orig row = os from eos.symm]
      exact hD
end
end K9

namespace K9
open PySem PySem.Spec PyProof.Rows L2
/-! ### are_costs, row_bits, none_is_cheaper -/
def nonNeg : Option Int → Bool
  | none => true
  | some c => decide (0 ≤ c)
theorem opt_last {cs : List (Option Int)} (h : 1 ≤ cs.length) : atI (cs.map optV) (-1) = some (optV (cs.getD (cs.length - 1) none)) := by
  unfold atI ixN
  rw [if_neg (by omega), List.length_map, if_pos (by omega)]
  show (cs.map optV)[(-1 + (cs.length : Int)).toNat]? = _
  have e : (-1 + (cs.length : Int)).toNat = cs.length - 1 := by omega
  have hi : cs.length > cs.length - 1 := by omega
  rw [e, List.getElem?_map, List.getElem?_eq_getElem hi, List.getD_eq_getElem?_getD, List.getElem?_eq_getElem hi]
  rfl
def bitsD : List Di → Nat
  | [] => 0
  | i :: r => cI i + bitsD r
theorem bitsD_app : ∀ (a b : List Di), bitsD (a ++ b) = bitsD a + bitsD b
  | [], b => by show bitsD b = 0 + bitsD b; omega
  | i :: a, b => by
    show cI i + bitsD (a ++ b) = cI i + bitsD a + bitsD b
    rw [bitsD_app a b]
    omega
theorem scRb : FnScope ["row", "bits", "item"] ["row"] (defScope sRowBits) := ⟨rfl, rfl, rfl, by decide +kernel, rfl, by decide +kernel, by decide +kernel⟩
section
variable {P : Program} {w : World} {K : PySem.W.Frag} {mg : Str → Option Value} {base : Heap}
/-! ### are_costs -/
abbrev NAc : List Str := ["costs", "data", "one"]
theorem scAreC : FnScope NAc ["costs", "data"] (defScope sAreCosts) := ⟨rfl, rfl, rfl, by decide +kernel, rfl, by decide +kernel, by decide +kernel⟩
def areC (cs : List (Option Int)) (n : Nat) : Bool := decide (cs.length = n + 1) && (cs.all nonNeg && decide (cs.getD (cs.length - 1) none = some 0))
def spAreC : Sp := fun vs H Q _ => ∃ (pc : Addr) (cs : List (Option Int)) (data : List Nat), vs = [.ref pc, .byt (byB data)] ∧ H pc = some (.lst (cs.map optV)) ∧ cs.length ≤ 2001 ∧ data.length ≤ 2000 ∧ ∀ H', Same H H' → Q (.bl (areC cs data.length)) H'
theorem ok_areC {f fW : Addr} {fd fdW : FuncData} {j k1 : Nat} (F : Fun K "are_costs" "are_costs" sAreCosts f fd)
    (GW : FnOk P w K mg base CX0 k1 fW fdW ["told"] spWhole) (bW : Binds K fdW ["told"] []) (kW : PySem.W.keepIn K (.ref fW) = true) (gW : mg "is_whole" = some (.ref fW)) (l1 : k1 ≤ j)
    (m1 : mg "isinstance" = none) (m2 : mg "list" = none) (m3 : mg "len" = none) (m4 : mg "all" = none) : FnOk P w K mg base CX0 (j + 1) f fd ["costs", "data"] spAreC := by
  refine F.ok scAreC (fun vs H Q E h => ?_) (fun cdv A outer s H vs Q E hr h => ?_)
  · obtain ⟨pc, cs, data, rfl, _⟩ := h
    rfl
  · obtain ⟨pc, cs, data, rfl, hpc, hcl, hdl, q⟩ := h
    have hz := PySem.sizeLine_eq
    refine ⟨_, pss_cons (ps_if (PW.pt (pw_or (pt_not (pt_val (pe_callB call_isi (by rfl) m1 (by decide +kernel) (pa_cons (pv 0) (pa_cons (pe_bltn (v := .ty "list") (by rfl) m2 (by decide +kernel) rfl) pa_nil)))))
        (pw_or1 (pt_cmpR op_ne (pe_callB call_len_seq (by rfl) m3 PySem.boot_len (pa_cons (pv 0) pa_nil)) (pe_op op_add (pe_callB call_len (by rfl) m3 PySem.boot_len (pa_cons (pv 1) pa_nil)) pe_int) (nomark _))))) (pss_one (ps_ret pe_bl)) pss_nil)
      (pss_one (ps_ret (pe_and (pe_callB (cr_all rfl) (by rfl) m4 (by decide +kernel) (pa_cons (pe_lc (own := [("one", 2)]) (g := gName 2) (tt := tYes) rfl scAreC.nd (pi_list (pv 0)) (blkOk_by (N := NAc) (sc := defScope sAreCosts) (by decide +kernel))
          (fun _ _ _ _ _ => pg_name (i := 2) scAreC.nd rfl (.inl rfl)) (fun _ _ _ _ _ => pts_nil) (fun _ _ _ _ _ => pe_or (pe_cmpR op_isN (pv 2) pe_non (nomark _)) (pe_one (pe_and (pe_call GW (hr.mono l1) (by rfl) gW kW bW .nil pass0 (pa_cons (pv 2) pa_nil)) (pe_one (pe_cmpR op_ge (pv 2) pe_int (nomark _))))))) pa_nil))
        (pe_one (pe_cmpR op_eq (pe_ix ix_list (pv 0) (pe_un un_neg pe_int) (fun _ _ => rfl)) pe_int (nomark _)))))), ?_⟩
    refine ⟨_, rfl, _, _, .type "list", _, _, rfl, .ty "list", .base (.lst hpc), kit_ty (a := "list") (r := true) (by decide +kernel), _, rfl, iteF ?_⟩
    refine ⟨_, rfl, pc, _, rfl, .inl (.inl (.inl hpc)), _, rfl, _, (byB data).size, rfl, ⟨by rw [byB_size]; omega, rfl⟩, _, _, rfl, rfl, rfl, _, rfl, ite2 (fun e1 => ?_) (fun e1 => ?_)⟩
    · have hne : ¬ cs.length = data.length + 1 := fun z => by
        rw [byB_size, List.length_map, z] at e1
        simp at e1
      have := q H (Same.refl H)
      unfold areC at this
      rw [decide_eq_false hne] at this
      exact this
    · have hlen : cs.length = data.length + 1 := by
        rw [byB_size, List.length_map] at e1
        simp at e1
        omega
      refine ⟨_, rfl, pc, rfl, ⟨_, .inl (.inl hpc)⟩, fun D nD => ?_⟩
      refine lc_list (K := K) (a := pc) (xs := cs.map optV) (fun i H' => Same H H' ∧ H' D = some (.lst ((cs.take i).map fun o => .bl (nonNeg o)))) ⟨same_upd nD, upd_same⟩ (fun i H' _ h => .inl (.inl (h.1 _ _ hpc))) (fun i x H' hx h => ?_) (fun H' h => ?_)
      · rw [List.getElem?_map] at hx
        obtain ⟨o, ho, rfl⟩ := Option.map_eq_some_iff.mp hx
        have fin : ∃ acc, H' D = some (.lst acc) ∧ acc.length < sizeLine ∧ Same H (upd H' D (.lst (acc ++ [.bl (nonNeg o)]))) ∧ (upd H' D (.lst (acc ++ [.bl (nonNeg o)]))) D = some (.lst ((cs.take (i + 1)).map fun o => .bl (nonNeg o))) := by
          refine ⟨_, h.2, ?_, same_put h.1 nD, ?_⟩
          · rw [List.length_map, List.length_take, hz]
            omega
          · rw [upd_same, List.take_add_one, ho, List.map_append]
            rfl
        refine ⟨rfl, yes ?_⟩
        cases o with
        | none => exact ⟨_, rfl, rfl, _, rfl, iteT fin⟩
        | some c => exact ⟨_, rfl, rfl, _, rfl, iteF ⟨_, rfl, _, rfl, .inl ⟨c, rfl, _, rfl, iteT ⟨_, rfl, _, _, rfl, rfl, fin⟩⟩⟩⟩
      · obtain ⟨sm, hD⟩ := h
        rw [List.length_map, List.take_length] at hD
        have q' := q H' sm
        refine ⟨D, cs.map nonNeg, rfl, .inl (.inl (by rw [hD, List.map_map]; rfl)), _, rfl, ?_⟩
        have ea : (cs.map nonNeg).all id = cs.all nonNeg := by
          rw [List.all_map]
          rfl
        rw [ea]
        unfold areC at q'
        rw [decide_eq_true hlen, Bool.true_and] at q'
        refine ite2 (fun e3 => ?_) (fun e3 => ?_)
        · rw [e3, Bool.true_and] at q'
          refine ⟨_, rfl, 1, rfl, pc, _, -1, optV (cs.getD (cs.length - 1) none), rfl, rfl, .inl (.inl (sm _ _ hpc)), opt_last (by omega), (by cases cs.getD (cs.length - 1) none <;> rfl), ?_⟩
          have ed : decide (optV (cs.getD (cs.length - 1) none) = V.int 0) = decide (cs.getD (cs.length - 1) none = some 0) := by
            cases cs.getD (cs.length - 1) none with
            | none => simp [optV]
            | some x => simp [optV]
          rw [ed]
          exact q'
        · have e4 : cs.all nonNeg = false := by simpa using e3
          rw [e4] at q'
          exact q'
def spRb : Sp := fun vs H Q _ => ∃ (r : Addr) (row : List Di), vs = [.ref r] ∧ RwAt H r row ∧ row.length ≤ 2000 ∧ Q (.int ((bitsD row : Nat) : Int)) H
theorem ok_rb {f : Addr} {fd : FuncData} {j : Nat} {t1 t2 t3 t4 : Tok} (F : Fun K "row_bits" "row_bits" sRowBits f fd) (m1 : mg "isinstance" = none) (m2 : mg "tuple" = none) (c1 : mg "BYTE_BITS" = some (.int 9 t1)) (c2 : mg "NEW" = some (.str "new" t2)) (c3 : mg "NEW_BITS" = some (.int 20 t3)) (c4 : mg "OLD_BITS" = some (.int 24 t4)) :
    FnOk P w K mg base CX0 (j + 1) f fd ["row"] spRb := by
  refine F.ok scRb (fun vs H Q E h => ?_) (fun cdv A outer s H vs Q E hr h => ?_)
  · obtain ⟨r, row, rfl, _⟩ := h
    rfl
  · obtain ⟨r, row, rfl, ⟨us, hr0, hus⟩, hl, q⟩ := h
    have hlen := hus.length
    refine ⟨_, pss_cons (ps_set (i := 1) scRb.nd rfl (.inl rfl) pe_int)
      (pss_cons (ps_for PassesOwn.never rfl (pi_list (pv 0)) (pg_name (i := 2) scRb.nd rfl (.inl rfl))
        (pss_one (ps_if (pt_not (pt_val (pe_callB call_isi (by rfl) m1 (by decide +kernel) (pa_cons (pv 2) (pa_cons (pe_bltn (v := .ty "tuple") (by rfl) m2 (by decide +kernel) rfl) pa_nil)))))
          (pss_one (ps_aug (i := 1) scRb.nd rfl (.inl rfl) (pe_glob (v := .int 9) rfl c1 ⟨_, rfl⟩) ip_add))
          (pss_one (ps_aug (i := 1) scRb.nd rfl (.inl rfl) (pe_ifExp (pt_cmpR op_eq (pe_ix ix_tup (pv 2) pe_int (fun _ _ => rfl)) (pe_glob (v := .str "new") rfl c2 ⟨_, rfl⟩) (nomark _)) (pe_glob (v := .int 20) rfl c3 ⟨_, rfl⟩) (pe_glob (v := .int 24) rfl c4 ⟨_, rfl⟩)) ip_add)))))
      (pss_one (ps_ret (pv 1)))), ?_⟩
    dsimp only [gName]
    refine ⟨_, rfl, r, rfl, ⟨_, .inl (.inl hr0)⟩, ?_⟩
    refine for_list (K := K) (a := r) (xs := us) (fun i σ H' => ∃ (y2 : Option V), σ = [some (.ref r), some (.int ((bitsD (row.take i) : Nat) : Int)), y2] ∧ H' = H)
      ⟨_, rfl, rfl⟩ (fun i σ H' _ h => ?_) (fun i x σ H' hx h => ?_) (fun σ H' h => ?_)
    · obtain ⟨_, _, rfl⟩ := h
      exact .inl (.inl hr0)
    · obtain ⟨y2, rfl, rfl⟩ := h
      have hi : i < row.length := by have := (List.getElem?_eq_some_iff.mp hx).1; omega
      obtain ⟨x', e1, hd⟩ := paired_get hus (List.getElem?_eq_getElem hi)
      obtain rfl := Option.some.inj (e1.symm.trans hx)
      have et : bitsD (row.take (i + 1)) = bitsD (row.take i) + cI row[i] := by
        rw [List.take_add_one, List.getElem?_eq_getElem hi, bitsD_app]
        rfl
      rw [et]
      clear et
      generalize row[i] = it at *
      dsimp only [gName]
      cases it with
      | b n =>
        obtain rfl : x' = .int (n : Int) := hd
        refine ⟨_, rfl, _, _, .type "int", _, _, rfl, .ty "tuple", .base (.int _), kit_ty (a := "int") (r := false) (by decide +kernel), _, rfl, iteT ?_⟩
        exact ⟨_, rfl, _, _, rfl, rfl, _, by push_cast; rfl, rfl⟩
      | c nw m p =>
        obtain ⟨t, rfl, ht⟩ := hd
        refine ⟨_, rfl, _, _, .type "tuple", _, _, rfl, .ty "tuple", .base (.tup ht), kit_ty (a := "tuple") (r := true) (by decide +kernel), _, rfl, iteF ?_⟩
        refine ⟨_, rfl, _, rfl, t, _, 0, _, rfl, rfl, .inl (.inl ht), rfl, rfl, _, rfl, ?_⟩
        cases nw with
        | true => exact iteT ⟨_, _, rfl, rfl, _, by push_cast; rfl, rfl⟩
        | false => exact iteF ⟨_, _, rfl, rfl, _, by push_cast; rfl, rfl⟩
    · obtain ⟨y2, rfl, rfl⟩ := h
      rw [← hlen, List.take_length]
      exact ⟨_, rfl, q⟩
end
end K9

namespace K9
open PySem PySem.Spec PyProof.Rows L2
/-! ### none_is_cheaper -/
def okAt (old new ks : List Nat) (a : Nat) : Prop := ks.getD a 0 ≤ 9 + ks.getD (a + 1) 0 ∧ ∀ it, CpIt old new a it → ks.getD a 0 ≤ cI it + ks.getD (a + wideI it) 0
def someN (ks : List Nat) : List (Option Int) := ks.map fun (k : Nat) => some (k : Int)
def NIC (old new : List Nat) (cs : List (Option Int)) : Prop := ∃ ks : List Nat, cs = someN ks ∧ ∀ a, a < new.length → okAt old new ks a
theorem someN_inj : ∀ {a b : List Nat}, someN a = someN b → a = b
  | [], [], _ => rfl
  | [], _ :: _, h => by cases h
  | _ :: _, [], h => by cases h
  | x :: a, y :: b, h => by
    have h : some (x : Int) :: someN a = some (y : Int) :: someN b := h
    have h1 := (List.cons.inj h).1
    have h2 := someN_inj (List.cons.inj h).2
    have : (x : Int) = (y : Int) := Option.some.inj h1
    rw [h2, show x = y by omega]
theorem someN_V (ks : List Nat) : (someN ks).map optV = bys ks := by
  unfold someN bys
  rw [List.map_map, List.map_map]
  rfl
theorem someN_of : ∀ {cs : List (Option Int)}, cs.all nonNeg = true → cs.any (fun o => o.isNone) = false → ∃ ks : List Nat, cs = someN ks
  | [], _, _ => ⟨[], rfl⟩
  | o :: cs, h, k => by
    rw [List.all_cons, Bool.and_eq_true] at h
    rw [List.any_cons, Bool.or_eq_false_iff] at k
    obtain ⟨ks, rfl⟩ := someN_of h.2 k.2
    cases o with
    | none => cases k.1
    | some c =>
      have : 0 ≤ c := of_decide_eq_true h.1
      exact ⟨c.toNat :: ks, by show some c :: someN ks = some ((c.toNat : Nat) : Int) :: someN ks; rw [Int.toNat_of_nonneg this]⟩
theorem someN_any (ks : List Nat) : (someN ks).any (fun o => o.isNone) = false := by
  unfold someN
  rw [List.any_map]
  induction ks with
  | nil => rfl
  | cons k ks ih => rw [List.any_cons, ih]; rfl
theorem in_none : ∀ cs : List (Option Int), inV .non (cs.map optV) = cs.any fun o => o.isNone
  | [] => rfl
  | o :: cs => by
    have := in_none cs
    unfold inV at *
    rw [List.map_cons, List.any_cons, List.any_cons, this]
    cases o <;> rfl
theorem flat_opt : ∀ cs : List (Option Int), (cs.map optV).all flatV = true
  | [] => rfl
  | o :: cs => by
    rw [List.map_cons, List.all_cons, flat_opt cs]
    cases o <;> rfl
theorem sl_mem {ks : List Nat} {s c y : Nat} (h : s + c ≤ ks.length) : y ∈ (ks.drop s).take c ↔ ∃ i, i < c ∧ y = ks.getD (s + i) 0 := by
  constructor
  · intro m
    obtain ⟨i, hi, rfl⟩ := List.getElem_of_mem m
    rw [List.length_take, List.length_drop] at hi
    refine ⟨i, by omega, ?_⟩
    rw [List.getElem_take, List.getElem_drop, List.getD_eq_getElem?_getD, List.getElem?_eq_getElem (by omega)]
    rfl
  · rintro ⟨i, hi, rfl⟩
    have hl : i < ((ks.drop s).take c).length := by rw [List.length_take, List.length_drop]; omega
    have e : ks.getD (s + i) 0 = ((ks.drop s).take c)[i] := by
      rw [List.getElem_take, List.getElem_drop, List.getD_eq_getElem?_getD, List.getElem?_eq_getElem (by omega)]
      rfl
    rw [e]
    exact List.getElem_mem hl
theorem ok_at {old new ms ls ks : List Nat} (R : ReOk old new ms ls) {a : Nat} (ha : a < new.length) : okAt old new ks a ↔
    (ks.getD a 0 ≤ 9 + ks.getD (a + 1) 0 ∧ (3 ≤ ms.getD a 0 → ∀ l, 3 ≤ l → l ≤ ms.getD a 0 → ks.getD a 0 ≤ 20 + ks.getD (a + l) 0)) ∧ (1 ≤ ls.getD a 0 → ∀ l, 1 ≤ l → l ≤ ls.getD a 0 → ks.getD a 0 ≤ 24 + ks.getD (a + l) 0) := by
  have hm := R.hm a ha
  have hl := R.hl a ha
  have bm : ms.getD a 0 ≤ 255 ∧ ms.getD a 0 ≤ new.length - a := ⟨Nat.le_trans hm.1 (Nat.min_le_left _ _), Nat.le_trans hm.1 (Nat.min_le_right _ _)⟩
  have bl : ls.getD a 0 ≤ 255 ∧ ls.getD a 0 ≤ new.length - a := ⟨Nat.le_trans hl.1 (Nat.min_le_left _ _), Nat.le_trans hl.1 (Nat.min_le_right _ _)⟩
  constructor
  · rintro ⟨h1, h2⟩
    refine ⟨⟨h1, fun _ l g1 g2 => ?_⟩, fun _ l g1 g2 => ?_⟩
    · obtain ⟨p, hp⟩ := new_cp (old := old) (cpN_pre hm.2.1 g2) g1 (by omega) (by omega)
      exact h2 _ hp
    · obtain ⟨p, hp⟩ := old_cp (new := new) (cpO_pre hl.2.1 g2) g1 (by omega) (by omega)
      exact h2 _ hp
  · rintro ⟨⟨h1, h2⟩, h3⟩
    refine ⟨h1, fun it hc => ?_⟩
    have w := cp_wide hc
    match it, hc, w with
    | .c true m p, hc, w =>
      have w : 1 ≤ m ∧ m ≤ 255 ∧ a + m ≤ new.length := w
      have le := longN_most hm (cp_new hc) (most_of w.2.1 w.2.2)
      have h3' : 3 ≤ m := hc.1
      exact h2 (by omega) m h3' le
    | .c false m p, hc, w =>
      have w : 1 ≤ m ∧ m ≤ 255 ∧ a + m ≤ new.length := w
      have le := longO_most hl (cp_old hc) (most_of w.2.1 w.2.2)
      exact h3 (by omega) m w.1 le
abbrev NNc : List Str := ["reaches", "costs", "at", "found"]
theorem scNc : FnScope NNc ["reaches", "costs"] (defScope sNone) := ⟨rfl, rfl, rfl, by decide +kernel, rfl, by decide +kernel, by decide +kernel⟩
theorem bys_cut' {ks : List Nat} {a b : Nat} (h1 : a ≤ ks.length) (h2 : b ≤ ks.length) : cutV (bys ks) (some (a : Int)) (some (b : Int)) = bys ((ks.drop a).take (b - a)) := by
  rw [bys_cut, Nat.min_eq_left h1, Nat.min_eq_left h2]
theorem le_snoc {fs : List Nat} {k y : Nat} {P Q : Prop} (h : (∀ z ∈ fs, k ≤ z) ↔ P) (hy : k ≤ y ↔ Q) : (∀ z ∈ fs ++ [y], k ≤ z) ↔ P ∧ Q := by
  rw [← h, ← hy]
  constructor
  · exact fun g => ⟨fun z hz => g z (List.mem_append_left _ hz), g y (List.mem_append_right _ (List.mem_singleton.mpr rfl))⟩
  · rintro ⟨g1, g2⟩ z hz
    rcases List.mem_append.mp hz with hz | hz
    · exact g1 z hz
    · rw [List.mem_singleton.mp hz]; exact g2
section
variable {P : Program} {w : World} {K : PySem.W.Frag} {mg : Str → Option Value} {base : Heap} {C fI fA fO : Addr}
def spNc (C : Addr) : Sp := fun vs H Q _ => ∃ (x pc : Addr) (old new ms ls : List Nat) (cs : List (Option Int)), vs = [.ref x, .ref pc] ∧ ReAt C H x old new ms ls ∧ OnOk old new ∧ H pc = some (.lst (cs.map optV)) ∧ cs.length = new.length + 1 ∧ cs.all nonNeg = true ∧
  ∀ H' b, Same H H' → (b = true ↔ NIC old new cs) → Q (.bl b) H'
theorem ok_nc (T : ReTxt K mg C fI fA fO) {f : Addr} {fd : FuncData} {j : Nat} {t1 t2 t3 t4 t5 : Tok} (F : Fun K "none_is_cheaper" "none_is_cheaper" sNone f fd)
    (m1 : mg "range" = none) (m2 : mg "len" = none) (m3 : mg "min" = none) (c1 : mg "BYTE_BITS" = some (.int 9 t1)) (c2 : mg "FEWEST_NEW" = some (.int 3 t2)) (c3 : mg "FEWEST_OLD" = some (.int 1 t3)) (c4 : mg "NEW_BITS" = some (.int 20 t4)) (c5 : mg "OLD_BITS" = some (.int 24 t5)) :
    FnOk P w K mg base CX0 (j + 1) f fd ["reaches", "costs"] (spNc C) := by
  refine F.ok scNc (fun vs H Q E h => ?_) (fun cdv A outer s H vs Q E hr h => ?_)
  · obtain ⟨x, pc, old, new, ms, ls, cs, rfl, _⟩ := h
    rfl
  · obtain ⟨x, pc, old, new, ms, ls, cs, rfl, ⟨dx, p, q0, hx, hp, hq, RO⟩, ON, hpc, hcl, hnn, fin⟩ := h
    have hz := PySem.sizeLine_eq
    have hln := ON.ln
    refine ⟨_, pss_cons (ps_if (pt_cmpR op_in_seq pe_non (pv 1) (by with_unfolding_all rfl)) (pss_one (ps_ret pe_bl)) pss_nil)
      (pss_cons (ps_for PassesOwn.never rfl (pi_range1 (by rfl) m1 (pa_cons (pe_callB call_len (by rfl) m2 PySem.boot_len (pa_cons (pe_fld (pv 0) rfl) pa_nil)) pa_nil)) (pg_name (i := 2) scNc.nd rfl (.inl rfl))
        (pss_cons (ps_set (i := 3) scNc.nd rfl (.inl rfl) (pe_lst (pa_cons (pe_op op_add (pe_glob (v := .int 9) rfl c1 ⟨_, rfl⟩) (pe_ix ix_list (pv 1) (pe_op op_add (pv 2) pe_int) (fun _ _ => rfl))) pa_nil)))
        (pss_cons (ps_if (pt_cmpR op_ge (pe_ix ix_list (pe_fld (pv 0) rfl) (pv 2) (fun _ _ => rfl)) (pe_glob (v := .int 3) rfl c2 ⟨_, rfl⟩) (nomark _))
          (pss_one (ps_expr (pe_bm PySem.F.plainAttrs_list PySem.F.slot_list_append PySem.F.type_list_append mt_append (pv 3) (pa_cons (pe_op op_add (pe_glob (v := .int 20) rfl c4 ⟨_, rfl⟩) (pe_callB (cr_min rfl) (by rfl) m3 (by decide +kernel) (pa_cons (pe_slice sl_list (pv 1) (po_some (pe_op op_add (pv 2) (pe_glob (v := .int 3) rfl c2 ⟨_, rfl⟩))) (po_some (pe_op op_add (pe_op op_add (pv 2) (pe_ix ix_list (pe_fld (pv 0) rfl) (pv 2) (fun _ _ => rfl))) pe_int))) pa_nil))) pa_nil)))) pss_nil)
        (pss_cons (ps_if (pt_cmpR op_ge (pe_ix ix_list (pe_fld (pv 0) rfl) (pv 2) (fun _ _ => rfl)) (pe_glob (v := .int 1) rfl c3 ⟨_, rfl⟩) (nomark _))
          (pss_one (ps_expr (pe_bm PySem.F.plainAttrs_list PySem.F.slot_list_append PySem.F.type_list_append mt_append (pv 3) (pa_cons (pe_op op_add (pe_glob (v := .int 24) rfl c5 ⟨_, rfl⟩) (pe_callB (cr_min rfl) (by rfl) m3 (by decide +kernel) (pa_cons (pe_slice sl_list (pv 1) (po_some (pe_op op_add (pv 2) (pe_glob (v := .int 1) rfl c3 ⟨_, rfl⟩))) (po_some (pe_op op_add (pe_op op_add (pv 2) (pe_ix ix_list (pe_fld (pv 0) rfl) (pv 2) (fun _ _ => rfl))) pe_int))) pa_nil))) pa_nil)))) pss_nil)
        (pss_one (ps_if (pt_cmpR op_lt (pe_callB (cr_min rfl) (by rfl) m3 (by decide +kernel) (pa_cons (pv 3) pa_nil)) (pe_ix ix_list (pv 1) (pv 2) (fun _ _ => rfl)) (nomark _)) (pss_one (ps_ret pe_bl)) pss_nil))))))
      (pss_one (ps_ret pe_bl))), ?_⟩
    refine ⟨_, rfl, pc, _, rfl, .inl (.inl (.inl hpc)), rfl, flat_opt _, _, rfl, ?_⟩
    show (if inV V.non (cs.map optV) = true then _ else _)
    rw [in_none]
    cases hany : cs.any fun o => o.isNone with
    | true =>
      refine iteT (fin H false (Same.refl H) ⟨fun z => (by cases z), fun ⟨ks, e, _⟩ => ?_⟩)
      rw [e, someN_any] at hany
      cases hany
    | false =>
      obtain ⟨ks, rfl⟩ := someN_of hnn hany
      clear hany hnn
      rw [someN_V] at hpc
      have hcl : ks.length = new.length + 1 := by
        unfold someN at hcl
        rwa [List.length_map] at hcl
      have fin : ∀ H' b, Same H H' → (b = true ↔ ∀ a, a < new.length → okAt old new ks a) → Q (.bl b) H' := fun H' b s e => fin H' b s (e.trans ⟨fun g => ⟨ks, rfl, g⟩, fun ⟨ks', e', g⟩ => by rw [someN_inj e']; exact g⟩)
      refine iteF ?_
      refine ⟨_, rfl, x, C, dx, _, _, rfl, hx, T.cl, T.nN, reF_n _ _ _ _, _, (byB new).size, rfl, ⟨by rw [byB_size]; omega, rfl⟩, ((byB new).size : Int), rfl, by rw [byB_size]; omega, by rw [byB_size]; omega, ?_⟩
      refine for_range (lo := 0) (n := (((byB new).size : Nat) : Int).toNat) (fun i σ H' => ∃ (y2 y3 : Option V), σ = [some (.ref x), some (.ref pc), y2, y3] ∧ Same H H' ∧ ∀ t, t < i → okAt old new ks t) ⟨_, _, rfl, Same.refl H, fun t z => absurd z (Nat.not_lt_zero _)⟩ (fun a σ H2 ha h => ?_) (fun σ H' h => ?_)
      · obtain ⟨y2, y3, rfl, sm, hok⟩ := h
        rw [Int.toNat_natCast, byB_size] at ha
        rw [show (0 : Int) + (a : Int) = (a : Int) by omega]
        have hm1 : atI (bys ms) ((a : Nat) : Int) = some (.int ((ms.getD a 0 : Nat) : Int)) := at_of' rfl (by rw [RO.lm]; exact ha)
        have hl1 : atI (bys ls) ((a : Nat) : Int) = some (.int ((ls.getD a 0 : Nat) : Int)) := at_of' rfl (by rw [RO.ll]; exact ha)
        have bm : ms.getD a 0 ≤ new.length - a := Nat.le_trans (RO.hm a ha).1 (Nat.min_le_right _ _)
        have bl : ls.getD a 0 ≤ new.length - a := Nat.le_trans (RO.hl a ha).1 (Nat.min_le_right _ _)
        have hokA := ok_at (ks := ks) RO ha
        dsimp only [gName]
        refine ⟨_, rfl, _, rfl, _, _, rfl, rfl, pc, _, _, _, rfl, rfl, .inl (.inl (sm _ _ hpc)), at_of' (k := a + 1) (by push_cast; rfl) (by omega), _, _, rfl, rfl, (by show 1 ≤ sizeLine; omega), fun D nD0 => ?_⟩
        have nD := none_back sm nD0
        have s2 := same_upd (o := .lst [.int (9 + ((ks.getD (a + 1) 0 : Nat) : Int))]) nD0
        have hD3 : (upd H2 D (.lst [.int (9 + ((ks.getD (a + 1) 0 : Nat) : Int))])) D = some (.lst (bys [9 + ks.getD (a + 1) 0])) := by
          rw [upd_same]
          exact congrArg (fun z => some (HO.lst [V.int z])) (by push_cast; rfl)
        have s3 := sm.trans s2
        generalize upd H2 D (.lst [.int (9 + ((ks.getD (a + 1) 0 : Nat) : Int))]) = H3 at *
        have hle0 : (∀ z ∈ [9 + ks.getD (a + 1) 0], ks.getD a 0 ≤ z) ↔ ks.getD a 0 ≤ 9 + ks.getD (a + 1) 0 := ⟨fun g => g _ (List.mem_singleton.mpr rfl), fun g z hz => by rw [List.mem_singleton.mp hz]; exact g⟩
        dsimp only [gName]
        obtain ⟨M, hM⟩ : ∃ M : L2.St → Hp → Prop, M = (fun σ' H' => ∃ (fs : List Nat), σ' = [some (.ref x), some (.ref pc), some (.int (a : Int)), some (.ref D)] ∧ Same H H' ∧ H' D = some (.lst (bys fs)) ∧ 0 < fs.length ∧ fs.length ≤ 2 ∧ ((∀ z ∈ fs, ks.getD a 0 ≤ z) ↔ ks.getD a 0 ≤ 9 + ks.getD (a + 1) 0 ∧ (3 ≤ ms.getD a 0 → ∀ l, 3 ≤ l → l ≤ ms.getD a 0 → ks.getD a 0 ≤ 20 + ks.getD (a + l) 0))) := ⟨_, rfl⟩
        with_reducible refine seq_mid M (fun N hN => ?_) (fun σ4 H4 h => ?_)
        · refine ⟨_, rfl, x, C, dx, _, _, rfl, s3 _ _ hx, T.cl, T.nM, reF_p _ _ _ _, _, rfl, p, _, _, _, rfl, rfl, .inl (.inl (s3 _ _ hp)), hm1, _, _, rfl, rfl, _, rfl, ite2 (fun e => ?_) (fun e => ?_)⟩
          · have e : 3 ≤ ms.getD a 0 := by have := of_decide_eq_true e; omega
            refine ⟨_, rfl, .inl ⟨rfl, _, .inl (.inl hD3)⟩, _, rfl, _, rfl, _, _, rfl, rfl, _, rfl, _, rfl, _, rfl, x, C, dx, _, _, rfl, s3 _ _ hx, T.cl, T.nM, reF_p _ _ _ _, _, rfl, p, _, _, _, rfl, rfl, .inl (.inl (s3 _ _ hp)), hm1, _, _, rfl, rfl, _, _, rfl, rfl, _, rfl, pc, _, rfl, .inl (.inl (s3 _ _ hpc)), fun q1 nq1 => ?_⟩
            have ecut : cutV (bys ks) (some ((a : Int) + 3)) (some ((a : Int) + ((ms.getD a 0 : Nat) : Int) + 1)) = bys ((ks.drop (a + 3)).take (a + ms.getD a 0 + 1 - (a + 3))) := by
              rw [show (a : Int) + 3 = ((a + 3 : Nat) : Int) by push_cast; rfl, show (a : Int) + ((ms.getD a 0 : Nat) : Int) + 1 = ((a + ms.getD a 0 + 1 : Nat) : Int) by push_cast; rfl]
              exact bys_cut' (by omega) (by omega)
            dsimp only
            rw [ecut]
            have s5 := same_upd (o := .lst (bys ((ks.drop (a + 3)).take (a + ms.getD a 0 + 1 - (a + 3))))) nq1
            have hq5 : (upd H3 q1 (.lst (bys ((ks.drop (a + 3)).take (a + ms.getD a 0 + 1 - (a + 3)))))) q1 = some (.lst (bys ((ks.drop (a + 3)).take (a + ms.getD a 0 + 1 - (a + 3))))) := upd_same
            have hD5 := s5 _ _ hD3
            have sm5 := s3.trans s5
            generalize upd H3 q1 (.lst (bys ((ks.drop (a + 3)).take (a + ms.getD a 0 + 1 - (a + 3))))) = H5 at *
            refine ⟨q1, _, rfl, .inl (.inl hq5), by rw [List.length_map, List.length_take, List.length_drop]; omega, fun mm g1 g2 => ?_⟩
            obtain ⟨mn, rfl, g3, g4⟩ := nats_min g1 g2
            refine ⟨_, _, rfl, rfl, D, _, _, rfl, rfl, hD5, by rw [bys_len]; show 1 < sizeLine; omega, ?_⟩
            refine hN _ _ ?_
            rw [hM]
            refine ⟨[9 + ks.getD (a + 1) 0] ++ [20 + mn], rfl, same_put sm5 nD, by rw [upd_same, ← bys_app]; exact congrArg (fun z => some (HO.lst (bys [9 + ks.getD (a + 1) 0] ++ [V.int z]))) (by push_cast; rfl), by rw [List.length_append]; show 0 < _ + 1; omega, by rw [List.length_append]; show _ + 1 ≤ 2; exact Nat.le_refl _, le_snoc hle0 ⟨fun g _ l l1 l2 => ?_, fun g => ?_⟩⟩
            · have := g4 (ks.getD (a + l) 0) ((sl_mem (by omega)).mpr ⟨l - 3, by omega, by rw [show a + 3 + (l - 3) = a + l by omega]⟩)
              omega
            · obtain ⟨t, ht, et⟩ := (sl_mem (by omega)).mp g3
              have := g e (3 + t) (by omega) (by omega)
              rw [show a + (3 + t) = a + 3 + t by omega, ← et] at this
              exact this
          · have e : ¬ 3 ≤ ms.getD a 0 := fun z => e (decide_eq_true (by omega))
            refine hN _ _ ?_
            rw [hM]
            exact ⟨[9 + ks.getD (a + 1) 0], rfl, s3, hD3, Nat.le_refl 1, Nat.le_succ _, hle0.trans ⟨fun g => ⟨g, fun z => absurd z e⟩, fun g => g.1⟩⟩
        rw [hM] at h
        obtain ⟨fs, rfl, s4, hD4, hf1, hf2, hle⟩ := h
        clear hM M
        obtain ⟨M, hM⟩ : ∃ M : L2.St → Hp → Prop, M = (fun σ' H' => ∃ (fs : List Nat), σ' = [some (.ref x), some (.ref pc), some (.int (a : Int)), some (.ref D)] ∧ Same H H' ∧ H' D = some (.lst (bys fs)) ∧ 0 < fs.length ∧ fs.length ≤ 3 ∧ ((∀ z ∈ fs, ks.getD a 0 ≤ z) ↔ (ks.getD a 0 ≤ 9 + ks.getD (a + 1) 0 ∧ (3 ≤ ms.getD a 0 → ∀ l, 3 ≤ l → l ≤ ms.getD a 0 → ks.getD a 0 ≤ 20 + ks.getD (a + l) 0)) ∧ (1 ≤ ls.getD a 0 → ∀ l, 1 ≤ l → l ≤ ls.getD a 0 → ks.getD a 0 ≤ 24 + ks.getD (a + l) 0))) := ⟨_, rfl⟩
        with_reducible refine seq_mid M (fun N hN => ?_) (fun σ5 H5 h => ?_)
        · refine ⟨_, rfl, x, C, dx, _, _, rfl, s4 _ _ hx, T.cl, T.nL, reF_q _ _ _ _, _, rfl, q0, _, _, _, rfl, rfl, .inl (.inl (s4 _ _ hq)), hl1, _, _, rfl, rfl, _, rfl, ite2 (fun e => ?_) (fun e => ?_)⟩
          · have e : 1 ≤ ls.getD a 0 := by have := of_decide_eq_true e; omega
            refine ⟨_, rfl, .inl ⟨rfl, _, .inl (.inl hD4)⟩, _, rfl, _, rfl, _, _, rfl, rfl, _, rfl, _, rfl, _, rfl, x, C, dx, _, _, rfl, s4 _ _ hx, T.cl, T.nL, reF_q _ _ _ _, _, rfl, q0, _, _, _, rfl, rfl, .inl (.inl (s4 _ _ hq)), hl1, _, _, rfl, rfl, _, _, rfl, rfl, _, rfl, pc, _, rfl, .inl (.inl (s4 _ _ hpc)), fun q1 nq1 => ?_⟩
            have ecut : cutV (bys ks) (some ((a : Int) + 1)) (some ((a : Int) + ((ls.getD a 0 : Nat) : Int) + 1)) = bys ((ks.drop (a + 1)).take (a + ls.getD a 0 + 1 - (a + 1))) := by
              rw [show (a : Int) + 1 = ((a + 1 : Nat) : Int) by push_cast; rfl, show (a : Int) + ((ls.getD a 0 : Nat) : Int) + 1 = ((a + ls.getD a 0 + 1 : Nat) : Int) by push_cast; rfl]
              exact bys_cut' (by omega) (by omega)
            dsimp only
            rw [ecut]
            have s5 := same_upd (o := .lst (bys ((ks.drop (a + 1)).take (a + ls.getD a 0 + 1 - (a + 1))))) nq1
            have hq5 : (upd H4 q1 (.lst (bys ((ks.drop (a + 1)).take (a + ls.getD a 0 + 1 - (a + 1)))))) q1 = some (.lst (bys ((ks.drop (a + 1)).take (a + ls.getD a 0 + 1 - (a + 1))))) := upd_same
            have hD5 := s5 _ _ hD4
            have sm5 := s4.trans s5
            generalize upd H4 q1 (.lst (bys ((ks.drop (a + 1)).take (a + ls.getD a 0 + 1 - (a + 1))))) = H5 at *
            refine ⟨q1, _, rfl, .inl (.inl hq5), by rw [List.length_map, List.length_take, List.length_drop]; omega, fun mm g1 g2 => ?_⟩
            obtain ⟨mn, rfl, g3, g4⟩ := nats_min g1 g2
            refine ⟨_, _, rfl, rfl, D, _, _, rfl, rfl, hD5, by rw [bys_len]; omega, ?_⟩
            refine hN _ _ ?_
            rw [hM]
            refine ⟨fs ++ [24 + mn], rfl, same_put sm5 nD, by rw [upd_same, ← bys_app]; exact congrArg (fun z => some (HO.lst (bys fs ++ [V.int z]))) (by push_cast; rfl), by rw [List.length_append]; show 0 < _ + 1; omega, by rw [List.length_append]; show _ + 1 ≤ 3; omega, le_snoc hle ⟨fun g _ l l1 l2 => ?_, fun g => ?_⟩⟩
            · have := g4 (ks.getD (a + l) 0) ((sl_mem (by omega)).mpr ⟨l - 1, by omega, by rw [show a + 1 + (l - 1) = a + l by omega]⟩)
              omega
            · obtain ⟨t, ht, et⟩ := (sl_mem (by omega)).mp g3
              have := g e (1 + t) (by omega) (by omega)
              rw [show a + (1 + t) = a + 1 + t by omega, ← et] at this
              exact this
          · have e : ¬ 1 ≤ ls.getD a 0 := fun z => e (decide_eq_true (by omega))
            refine hN _ _ ?_
            rw [hM]
            exact ⟨fs, rfl, s4, hD4, hf1, by omega, hle.trans ⟨fun g => ⟨g, fun z => absurd z e⟩, fun g => g.1⟩⟩
        rw [hM] at h
        obtain ⟨fs5, rfl, s5, hD5, hf5, hf6, hle5⟩ := h
        clear hM M
        refine ⟨_, rfl, D, _, rfl, .inl (.inl hD5), by rw [List.length_map]; exact hf5, fun mm g1 g2 => ?_⟩
        obtain ⟨mn, rfl, g3, g4⟩ := nats_min g1 g2
        refine ⟨_, rfl, _, rfl, pc, _, _, _, rfl, rfl, .inl (.inl (s5 _ _ hpc)), at_of' (k := a) rfl (by omega), _, _, rfl, rfl, _, rfl, ite2 (fun e => ?_) (fun e => ?_)⟩
        · have e : mn < ks.getD a 0 := by have := of_decide_eq_true e; omega
          refine fin H5 false s5 ⟨fun z => (by cases z), fun g => ?_⟩
          have := (hle5.mpr (hokA.mp (g a ha))) mn g3
          omega
        · have e : ks.getD a 0 ≤ mn := by
            by_cases z : mn < ks.getD a 0
            · exact absurd (decide_eq_true (by omega)) e
            · omega
          refine ⟨_, _, rfl, s5, fun t ht => ?_⟩
          by_cases z : t < a
          · exact hok t z
          · rw [show t = a by omega]
            exact hokA.mpr (hle5.mp fun y hy => Nat.le_trans e (g4 y hy))
      · obtain ⟨y2, y3, rfl, sm, hok⟩ := h
        rw [Int.toNat_natCast, byB_size] at hok
        exact fin H' true sm ⟨fun _ => hok, fun _ => rfl⟩
end
end K9

namespace K9
open PySem PySem.Spec PyProof.Rows L2
/-! ### put_on that may raise -/
def good (d : Dfv) (old : List Nat) : Prop := d.ok = true ∧ d.old = (old.length, mrk old) ∧ d.new = ((makeB (orig d.row) old).length, mrk (makeB (orig d.row) old))
section
variable {P : Program} {w : World} {K : PySem.W.Frag} {mg : Str → Option Value} {base : Heap}
def spPoN (C : Addr) : Sp := fun vs H Q E => ∃ (t : Addr) (x : DfA) (d : Dfv) (old : List Nat), vs = [.byt (byB old), .ref t] ∧ DfAt H t x d ∧ d.Low ∧ (∀ k ∈ old, k < 256) ∧ old.length ≤ 2000 ∧
  (good d old → ∀ H', Same H H' → Q (.byt (byB (makeB (orig d.row) old))) H') ∧ (¬ good d old → ∀ H', Same H H' → E (.ref C) none H')
theorem ok_poN {CD : Addr} (TB : BdTxt K mg CD) {f fB fR fM fP fG : Addr} {fd fdB fdR fdM fdP fdG : FuncData} {j k1 k2 k3 k4 k5 : Nat} (F : Fun K "put_on" "put_on" sPutOn f fd)
    (GB : FnOk P w K mg base CX0 k1 fB fdB ["told"] spRefB) (bB : Binds K fdB ["told"] []) (kB : PySem.W.keepIn K (.ref fB) = true) (gB : mg "refuse_bytes" = some (.ref fB)) (l1 : k1 ≤ j)
    (GR : FnOk P w K mg base (L2N.CX P w) k2 fR fdR ["told"] (spRefDN CD)) (bR : Binds K fdR ["told"] []) (kR : PySem.W.keepIn K (.ref fR) = true) (gR : mg "refuse_difference" = some (.ref fR)) (l2 : k2 ≤ j)
    (GM : FnOk P w K mg base CX0 k3 fM fdM ["data"] spMark) (bM : Binds K fdM ["data"] []) (kM : PySem.W.keepIn K (.ref fM) = true) (gM : mg "mark_of" = some (.ref fM)) (l3 : k3 ≤ j)
    (GP : FnOk P w K mg base CX0 k4 fP fdP ["origins", "old"] spPt) (bP : Binds K fdP ["origins", "old"] []) (kP : PySem.W.keepIn K (.ref fP) = true) (gP : mg "put_together" = some (.ref fP)) (l4 : k4 ≤ j)
    (GG : FnOk P w K mg base CX0 k5 fG fdG ["row"] spOr) (bG : Binds K fdG ["row"] []) (kG : PySem.W.keepIn K (.ref fG) = true) (gG : mg "origins_of" = some (.ref fG)) (l5 : k5 ≤ j) :
    FnOk P w K mg base (L2N.CX P w) (j + 1) f fd ["old", "difference"] (spPoN CD) := by
  refine okN F scPo (fun vs H Q E h => ?_) (fun cdv A outer s H vs Q E hr h => ?_)
  · obtain ⟨t, x, d, old, rfl, _⟩ := h
    rfl
  · obtain ⟨t, x, d, old, rfl, hD, hL, ko, lo, fin, ex⟩ := h
    have hn2 := hL.2.2.1
    refine ⟨_, pss_cons (ps_expr (pe_call GB (hr.mono l1) (by rfl) gB kB bB .nil pass0 (pa_cons (pv 0) pa_nil))) (pss_cons (ps_expr (pe_call GR (hr.mono l2) (by rfl) gR kR bR .nil (L2N.passes_call (L2N.takes_of rfl rfl rfl rfl) (fun _ _ _ _ h => h)) (pa_cons (pv 1) pa_nil)))
      (pss_cons (ps_if (pt_cmpR (op_neD hr.units) (pe_call GM (hr.mono l3) (by rfl) gM kM bM .nil pass0 (pa_cons (pv 0) pa_nil)) (pe_ix ix_tup (pv 1) pe_int (fun _ _ => rfl)) (nomark _)) (pss_one (L2N.ps_raise rfl (L2N.takes_of rfl rfl rfl rfl) (L2N.pmk_own PySem.F.excBase_ValueError TB.x TB.gC TB.k (raises_own TB.b TB.t) rfl))) pss_nil)
      (pss_cons (ps_set (i := 2) scPo.nd rfl (.inl rfl) (pe_call GP (hr.mono l4) (by rfl) gP kP bP .nil pass0 (pa_cons (pe_call GG (hr.mono l5) (by rfl) gG kG bG .nil pass0 (pa_cons (pe_ix ix_tup (pv 1) pe_int (fun _ _ => rfl)) pa_nil)) (pa_cons (pv 0) pa_nil))))
      (pss_cons (ps_if (pt_cmpR (op_neD hr.units) (pe_call GM (hr.mono l3) (by rfl) gM kM bM .nil pass0 (pa_cons (pv 2) pa_nil)) (pe_ix ix_tup (pv 1) pe_int (fun _ _ => rfl)) (nomark _)) (pss_one (L2N.ps_raise rfl (L2N.takes_of rfl rfl rfl rfl) (L2N.pmk_own PySem.F.excBase_ValueError TB.x TB.gC TB.k (raises_own TB.b TB.t) rfl))) pss_nil)
      (pss_one (ps_ret (pv 2))))))), ?_⟩
    refine ⟨_, rfl, old, rfl, lo, _, rfl, t, x, d, rfl, hD, hL, fun hok => ?_, fun hok => ex (fun z => by rw [z.1] at hok; cases hok) H (Same.refl H)⟩
    have hfit := of_decide_eq_true (show decide (fitR d.old.1 0 d.row = some d.new.1) = true from hok)
    refine ⟨_, rfl, old, rfl, ko, lo, fun H1 a s1 na hma => ?_⟩
    have hD1 := hD.same s1
    refine ⟨_, rfl, t, _, 0, _, rfl, rfl, .inl (.inl hD1.1), rfl, _, _, dp_mk hma, dp_mk hD1.2.1, sh_mk _, sh_mk _, ?_⟩
    rw [eqv_mk]
    by_cases eo : (old.length, mrk old) = d.old
    · rw [decide_eq_true eo]
      have eo := eo.symm
      obtain ⟨hol, hoo⟩ := orig_ok (acc := []) (fun o z => by cases z) hfit
      have hol : (orig d.row).length = d.new.1 := hol
      rw [eo] at hoo
      have hoo : ∀ o ∈ orig d.row, OgOk old.length o := hoo
      refine ⟨_, rfl, iteF ?_⟩
      refine ⟨_, rfl, t, _, 2, _, rfl, rfl, .inl (.inl hD1.1), rfl, x.r, d.row, d.old.1, d.new.1, rfl, hD1.2.2.2, hfit, hn2, fun H2 q s2 nq hOs => ?_⟩
      refine ⟨_, rfl, q, orig d.row, old, rfl, hOs, by rw [hol]; exact hn2, hoo, ko, lo, fun H3 s3 => ?_⟩
      have s13 := (s1.trans s2).trans s3
      dsimp only [gName]
      refine ⟨_, rfl, makeB (orig d.row) old, rfl, makeB_lt ko hoo, by rw [makeB_len, hol]; exact hn2, fun H4 b s4 nb hmb => ?_⟩
      have hD4 := (hD1.same (s2.trans s3)).same s4
      refine ⟨_, rfl, t, _, 1, _, rfl, rfl, .inl (.inl hD4.1), rfl, _, _, dp_mk hmb, dp_mk hD4.2.2.1, sh_mk _, sh_mk _, ?_⟩
      rw [eqv_mk]
      by_cases en : ((makeB (orig d.row) old).length, mrk (makeB (orig d.row) old)) = d.new
      · rw [decide_eq_true en]
        exact ⟨_, rfl, iteF ⟨_, rfl, fin ⟨hok, eo, en.symm⟩ _ (s13.trans s4)⟩⟩
      · rw [decide_eq_false en]
        exact ⟨_, rfl, iteT (ex (fun z => en z.2.2.symm) _ (s13.trans s4))⟩
    · rw [decide_eq_false eo]
      exact ⟨_, rfl, iteT (ex (fun z => eo z.2.1.symm) _ s1)⟩
end
end K9

namespace K9
open PySem PySem.Spec PyProof.Rows L2
/-! ### shown -/
def shOk (old new : List Nat) (d : Dfv) (cs : List (Option Int)) : Prop := d.old = (old.length, mrk old) ∧ d.new = (new.length, mrk new) ∧ makeB (orig d.row) old = new ∧ areC cs new.length = true ∧ cs.getD 0 none = some ((bitsD d.row : Nat) : Int) ∧ NIC old new cs
abbrev NSh : List Str := ["old", "new", "difference", "costs", "row"]
theorem scSh : FnScope NSh ["old", "new", "difference", "costs"] (defScope sShown) := ⟨rfl, rfl, rfl, by decide +kernel, rfl, by decide +kernel, by decide +kernel⟩
theorem eqv_2m (a b c d : Nat × Nat) : PyData.eqv (.tuple [mkD a, mkD b]) (.tuple [mkD c, mkD d]) = decide (a = c ∧ b = d) := by
  simp only [PyData.eqv, PyData.eqvAll, eqv_mk]
  by_cases h1 : a = c <;> by_cases h2 : b = d <;> simp [h1, h2]
theorem sh_2m (a b : Nat × Nat) : SeqAt.shaped (.tuple [mkD a, mkD b]) = true := rfl
theorem opt_at0 {cs : List (Option Int)} (h : 0 < cs.length) : atI (cs.map optV) 0 = some (optV (cs.getD 0 none)) := by
  refine atI_nat (j := 0) ?_
  rw [List.getElem?_map, List.getElem?_eq_getElem h, List.getD_eq_getElem?_getD, List.getElem?_eq_getElem h]
  rfl
theorem optV_int {o : Option Int} {i : Int} (h : optV o = .int i) : o = some i := by
  cases o with
  | none => cases h
  | some c => injection h with h; rw [h]
theorem iteC2 {A B : Prop} {c : Bool} (hc : c = false) (h : B) : if c = true then A else B := by
  rw [hc]
  exact h
section
variable {P : Program} {w : World} {K : PySem.W.Frag} {mg : Str → Option Value} {base : Heap} {C fI fA fO : Addr}
def spShN (CD : Addr) : Sp := fun vs H Q E => ∃ (t : Addr) (x : DfA) (d : Dfv) (old new : List Nat) (pc : Addr) (cs : List (Option Int)), vs = [.byt (byB old), .byt (byB new), .ref t, .ref pc] ∧ DfAt H t x d ∧ d.Low ∧ OnOk old new ∧ H pc = some (.lst (cs.map optV)) ∧ cs.length ≤ 2001 ∧
  (d.ok = true → ∀ H' b, Same H H' → (b = true ↔ shOk old new d cs) → Q (.bl b) H') ∧ (d.ok = false → E (.ref CD) none H)
def spSh : Sp := fun vs H Q _ => ∃ (t : Addr) (x : DfA) (d : Dfv) (old new : List Nat) (pc : Addr) (cs : List (Option Int)), vs = [.byt (byB old), .byt (byB new), .ref t, .ref pc] ∧ DfAt H t x d ∧ d.Low ∧ d.ok = true ∧ OnOk old new ∧ H pc = some (.lst (cs.map optV)) ∧ cs.length ≤ 2001 ∧
  ∀ H' b, Same H H' → (b = true ↔ shOk old new d cs) → Q (.bl b) H'
theorem ok_sh {CD : Addr} (T : ReTxt K mg C fI fA fO) {f fB fR fM fP fG fW fX fY : Addr} {fd fdB fdR fdM fdP fdG fdW fdX fdY fdI : FuncData} {j k1 k2 k3 k4 k5 k6 k7 k8 k9 : Nat} (F : Fun K "shown" "shown" sShown f fd)
    (GB : FnOk P w K mg base CX0 k1 fB fdB ["told"] spRefB) (bB : Binds K fdB ["told"] []) (kB : PySem.W.keepIn K (.ref fB) = true) (gB : mg "refuse_bytes" = some (.ref fB)) (l1 : k1 ≤ j)
    (GR : FnOk P w K mg base CX0 k2 fR fdR ["told"] spRefD) (bR : Binds K fdR ["told"] []) (kR : PySem.W.keepIn K (.ref fR) = true) (gR : mg "refuse_difference" = some (.ref fR)) (l2 : k2 ≤ j)
    (GM : FnOk P w K mg base CX0 k3 fM fdM ["data"] spMark) (bM : Binds K fdM ["data"] []) (kM : PySem.W.keepIn K (.ref fM) = true) (gM : mg "mark_of" = some (.ref fM)) (l3 : k3 ≤ j)
    (GP : FnOk P w K mg base CX0 k4 fP fdP ["origins", "old"] spPt) (bP : Binds K fdP ["origins", "old"] []) (kP : PySem.W.keepIn K (.ref fP) = true) (gP : mg "put_together" = some (.ref fP)) (l4 : k4 ≤ j)
    (GG : FnOk P w K mg base CX0 k5 fG fdG ["row"] spOr) (bG : Binds K fdG ["row"] []) (kG : PySem.W.keepIn K (.ref fG) = true) (gG : mg "origins_of" = some (.ref fG)) (l5 : k5 ≤ j)
    (GW : FnOk P w K mg base CX0 k6 fW fdW ["costs", "data"] spAreC) (bW : Binds K fdW ["costs", "data"] []) (kW : PySem.W.keepIn K (.ref fW) = true) (gW : mg "are_costs" = some (.ref fW)) (l6 : k6 ≤ j)
    (GX : FnOk P w K mg base CX0 k7 fX fdX ["row"] spRb) (bX : Binds K fdX ["row"] []) (kX : PySem.W.keepIn K (.ref fX) = true) (gX : mg "row_bits" = some (.ref fX)) (l7 : k7 ≤ j)
    (GY : FnOk P w K mg base CX0 k8 fY fdY ["reaches", "costs"] (spNc C)) (bY : Binds K fdY ["reaches", "costs"] []) (kY : PySem.W.keepIn K (.ref fY) = true) (gY : mg "none_is_cheaper" = some (.ref fY)) (l8 : k8 ≤ j)
    (GI : FnOk P w K mg base CX0 k9 fI fdI ["self", "old", "new"] (spReI C)) (bI : Binds K fdI ["self", "old", "new"] []) (l9 : k9 + 1 ≤ j)
    (m1 : mg "isinstance" = none) (m2 : mg "list" = none) :
    FnOk P w K mg base CX0 (j + 1) f fd ["old", "new", "difference", "costs"] spSh := by
  refine F.ok scSh (fun vs H Q E h => ?_) (fun cdv A outer s H vs Q E hr h => ?_)
  · obtain ⟨t, x, d, old, new, pc, cs, rfl, _⟩ := h
    rfl
  · obtain ⟨t, x, d, old, new, pc, cs, rfl, hD, hL, hok, ON, hpc, hcl, fin⟩ := h
    have hz := PySem.sizeLine_eq
    have hn2 := hL.2.2.1
    refine ⟨_, pss_cons (ps_expr (pe_call GB (hr.mono l1) (by rfl) gB kB bB .nil pass0 (pa_cons (pv 0) pa_nil))) (pss_cons (ps_expr (pe_call GB (hr.mono l1) (by rfl) gB kB bB .nil pass0 (pa_cons (pv 1) pa_nil)))
      (pss_cons (ps_expr (pe_call GR (hr.mono l2) (by rfl) gR kR bR .nil pass0 (pa_cons (pv 2) pa_nil)))
      (pss_cons (ps_if (pt_not (pt_val (pe_callB call_isi (by rfl) m1 (by decide +kernel) (pa_cons (pv 3) (pa_cons (pe_bltn (v := .ty "list") (by rfl) m2 (by decide +kernel) rfl) pa_nil))))) (pss_one ps_never) pss_nil)
      (pss_cons (ps_set (i := 4) scSh.nd rfl (.inl rfl) (pe_ix ix_tup (pv 2) pe_int (fun _ _ => rfl)))
      (pss_cons (ps_if (PW.pt (pw_or (pt_cmpR (op_neD hr.units) (pe_slice sl_tup (pv 2) po_none (po_some pe_int)) (pe_tup (pa_cons (pe_call GM (hr.mono l3) (by rfl) gM kM bM .nil pass0 (pa_cons (pv 0) pa_nil)) (pa_cons (pe_call GM (hr.mono l3) (by rfl) gM kM bM .nil pass0 (pa_cons (pv 1) pa_nil)) pa_nil))) (nomark _))
          (pw_or1 (pt_cmpR op_ne (pe_call GP (hr.mono l4) (by rfl) gP kP bP .nil pass0 (pa_cons (pe_call GG (hr.mono l5) (by rfl) gG kG bG .nil pass0 (pa_cons (pv 4) pa_nil)) (pa_cons (pv 0) pa_nil))) (pv 1) (nomark _))))) (pss_one (ps_ret pe_bl)) pss_nil)
      (pss_cons (ps_if (PW.pt (pw_or (pt_not (pt_val (pe_call GW (hr.mono l6) (by rfl) gW kW bW .nil pass0 (pa_cons (pv 3) (pa_cons (pv 1) pa_nil)))))
          (pw_or1 (pt_cmpR op_ne (pe_call GX (hr.mono l7) (by rfl) gX kX bX .nil pass0 (pa_cons (pv 4) pa_nil)) (pe_ix ix_list (pv 3) pe_int (fun _ _ => rfl)) (nomark _))))) (pss_one (ps_ret pe_bl)) pss_nil)
      (pss_one (ps_ret (pe_call GY (hr.mono l8) (by rfl) gY kY bY .nil pass0 (pa_cons (pe_make T.made GI (hr.mono l9) (by rfl) T.gC bI .nil pass0 (pa_cons (pv 0) (pa_cons (pv 1) pa_nil))) (pa_cons (pv 3) pa_nil))))))))))), ?_⟩
    refine ⟨_, rfl, old, rfl, ON.lo, _, rfl, new, rfl, ON.ln, _, rfl, t, x, d, rfl, hD, hL, hok, ?_⟩
    have hfit := of_decide_eq_true (show decide (fitR d.old.1 0 d.row = some d.new.1) = true from hok)
    refine ⟨_, rfl, _, _, .type "list", _, _, rfl, .ty "list", .base (.lst hpc), kit_ty (a := "list") (r := true) (by decide +kernel), _, rfl, iteF ?_⟩
    refine ⟨_, rfl, t, _, 2, _, rfl, rfl, .inl (.inl hD.1), rfl, ?_⟩
    dsimp only [gName]
    refine ⟨_, rfl, _, rfl, t, _, rfl, .inl (.inl hD.1), (show ¬ (HT.sIx 3 0 none = 0 ∧ HT.sIx 3 3 (some 2) = 3) by decide), fun t2 nt2 => ?_⟩
    have s1 := same_upd (o := .tup (cutV [V.ref x.a, V.ref x.b, V.ref x.r] none (some 2))) nt2
    have ht2 : (upd H t2 (.tup (cutV [V.ref x.a, V.ref x.b, V.ref x.r] none (some 2)))) t2 = some (.tup [.ref x.a, .ref x.b]) := upd_same
    have hD1 := hD.same s1
    have hpc1 := s1 _ _ hpc
    generalize upd H t2 (.tup (cutV [V.ref x.a, V.ref x.b, V.ref x.r] none (some 2))) = H1 at *
    refine ⟨_, rfl, old, rfl, ON.ko, ON.lo, fun H2 a s2 na hma => ?_⟩
    refine ⟨_, rfl, new, rfl, ON.kn, ON.ln, fun H3 b s3 nb hmb => ?_⟩
    refine ⟨(by show 2 ≤ sizeLine; omega), fun t3 nt3 => ?_⟩
    have s4 := same_upd (o := .tup [.ref a, .ref b]) nt3
    have ht3 : (upd H3 t3 (.tup [.ref a, .ref b])) t3 = some (.tup [.ref a, .ref b]) := upd_same
    have hma := s4 _ _ (s3 _ _ hma)
    have hmb := s4 _ _ hmb
    have s24 := (s2.trans s3).trans s4
    have hD4 := hD1.same s24
    have ht2 := s24 _ _ ht2
    have hpc4 := s24 _ _ hpc1
    have sm4 := s1.trans s24
    generalize upd H3 t3 (.tup [.ref a, .ref b]) = H4 at *
    refine ⟨_, _, .tup (.inl (.inl ht2)) (.cons (dp_mk hD4.2.1) (.cons (dp_mk hD4.2.2.1) .nil)), .tup (.inl (.inl ht3)) (.cons (dp_mk hma) (.cons (dp_mk hmb) .nil)), sh_2m _ _, sh_2m _ _, ?_⟩
    rw [eqv_2m]
    by_cases em : d.old = (old.length, mrk old) ∧ d.new = (new.length, mrk new)
    · rw [decide_eq_true em]
      refine ⟨_, rfl, iteF ?_⟩
      obtain ⟨eo, en⟩ := em
      obtain ⟨hol, hoo⟩ := orig_ok (acc := []) (fun o z => by cases z) hfit
      have hol : (orig d.row).length = d.new.1 := hol
      rw [eo] at hoo
      have hoo : ∀ o ∈ orig d.row, OgOk old.length o := hoo
      refine ⟨_, rfl, x.r, d.row, d.old.1, d.new.1, rfl, hD4.2.2.2, hfit, hn2, fun H5 q s5 nq hOs => ?_⟩
      refine ⟨_, rfl, q, orig d.row, old, rfl, hOs, by rw [hol]; exact hn2, hoo, ON.ko, ON.lo, fun H6 s6 => ?_⟩
      have s56 := s5.trans s6
      have sm6 := sm4.trans s56
      have hpc6 := s56 _ _ hpc4
      have hD6 := hD4.same s56
      refine ⟨_, rfl, rfl, ?_⟩
      by_cases ek : makeB (orig d.row) old = new
      · rw [ek, decide_eq_true rfl]
        refine ⟨_, rfl, iteF ?_⟩
        refine ⟨_, rfl, _, rfl, pc, cs, new, rfl, hpc6, hcl, ON.ln, fun H7 s7 => ?_⟩
        have sm7 := sm6.trans s7
        have hpc7 := s7 _ _ hpc6
        cases hA : areC cs new.length with
        | false =>
          refine ⟨_, rfl, iteC rfl ?_⟩
          exact iteT (fin _ false sm7 ⟨fun z => (by cases z), fun z => by have := z.2.2.2.1; rw [hA] at this; cases this⟩)
        | true =>
          have hA2 := hA
          unfold areC at hA2
          rw [Bool.and_eq_true, Bool.and_eq_true] at hA2
          have hlen := of_decide_eq_true hA2.1
          refine ⟨_, rfl, iteF ?_⟩
          refine ⟨_, rfl, x.r, d.row, rfl, (hD6.same s7).2.2.2, hL.2.2.2.2, _, rfl, pc, _, 0, optV (cs.getD 0 none), rfl, rfl, .inl (.inl hpc7), opt_at0 (by omega), (by cases cs.getD 0 none <;> rfl), _, rfl, ?_⟩
          by_cases eb : cs.getD 0 none = some ((bitsD d.row : Nat) : Int)
          · rw [eb]
            refine iteC2 (by show (!decide (V.int _ = V.int _)) = false; rw [decide_eq_true rfl]; rfl) ?_
            refine ⟨_, rfl, _, rfl, ?_⟩
            intro y dx nx nd ne
            refine ⟨y, dx, old, new, rfl, upd_same, ON, fun H8 ms ls k1' hRe => ⟨rfl, ?_⟩⟩
            have s8 := make_same nx nd k1'
            refine ⟨_, rfl, y, pc, old, new, ms, ls, cs, rfl, hRe, ON, s8 _ _ hpc7, hlen, hA2.2.1, fun H9 r s9 hr9 => ?_⟩
            exact fin _ r (sm7.trans (s8.trans s9)) (hr9.trans ⟨fun z => ⟨eo, en, ek, hA, eb, z⟩, fun z => z.2.2.2.2.2⟩)
          · refine iteC (by rw [Bool.not_eq_true', decide_eq_false_iff_not]; intro z; exact eb (optV_int z.symm)) ?_
            exact fin _ false sm7 ⟨fun z => (by cases z), fun z => absurd z.2.2.2.2.1 eb⟩
      · refine ⟨_, rfl, iteC (by rw [Bool.not_eq_true', decide_eq_false_iff_not]; intro z; injection z with z; exact ek (byB_inj (makeB_lt ON.ko hoo) ON.kn z)) ?_⟩
        exact fin _ false sm6 ⟨fun z => (by cases z), fun z => absurd z.2.2.1 ek⟩
    · rw [decide_eq_false em]
      refine ⟨_, rfl, iteT ?_⟩
      exact iteT (fin _ false sm4 ⟨fun z => (by cases z), fun z => absurd ⟨z.1, z.2.1⟩ em⟩)
theorem ok_shN {CD : Addr} (T : ReTxt K mg C fI fA fO) {f fB fR fM fP fG fW fX fY : Addr} {fd fdB fdR fdM fdP fdG fdW fdX fdY fdI : FuncData} {j k1 k2 k3 k4 k5 k6 k7 k8 k9 : Nat} (F : Fun K "shown" "shown" sShown f fd)
    (GB : FnOk P w K mg base CX0 k1 fB fdB ["told"] spRefB) (bB : Binds K fdB ["told"] []) (kB : PySem.W.keepIn K (.ref fB) = true) (gB : mg "refuse_bytes" = some (.ref fB)) (l1 : k1 ≤ j)
    (GR : FnOk P w K mg base (L2N.CX P w) k2 fR fdR ["told"] (spRefDN CD)) (bR : Binds K fdR ["told"] []) (kR : PySem.W.keepIn K (.ref fR) = true) (gR : mg "refuse_difference" = some (.ref fR)) (l2 : k2 ≤ j)
    (GM : FnOk P w K mg base CX0 k3 fM fdM ["data"] spMark) (bM : Binds K fdM ["data"] []) (kM : PySem.W.keepIn K (.ref fM) = true) (gM : mg "mark_of" = some (.ref fM)) (l3 : k3 ≤ j)
    (GP : FnOk P w K mg base CX0 k4 fP fdP ["origins", "old"] spPt) (bP : Binds K fdP ["origins", "old"] []) (kP : PySem.W.keepIn K (.ref fP) = true) (gP : mg "put_together" = some (.ref fP)) (l4 : k4 ≤ j)
    (GG : FnOk P w K mg base CX0 k5 fG fdG ["row"] spOr) (bG : Binds K fdG ["row"] []) (kG : PySem.W.keepIn K (.ref fG) = true) (gG : mg "origins_of" = some (.ref fG)) (l5 : k5 ≤ j)
    (GW : FnOk P w K mg base CX0 k6 fW fdW ["costs", "data"] spAreC) (bW : Binds K fdW ["costs", "data"] []) (kW : PySem.W.keepIn K (.ref fW) = true) (gW : mg "are_costs" = some (.ref fW)) (l6 : k6 ≤ j)
    (GX : FnOk P w K mg base CX0 k7 fX fdX ["row"] spRb) (bX : Binds K fdX ["row"] []) (kX : PySem.W.keepIn K (.ref fX) = true) (gX : mg "row_bits" = some (.ref fX)) (l7 : k7 ≤ j)
    (GY : FnOk P w K mg base CX0 k8 fY fdY ["reaches", "costs"] (spNc C)) (bY : Binds K fdY ["reaches", "costs"] []) (kY : PySem.W.keepIn K (.ref fY) = true) (gY : mg "none_is_cheaper" = some (.ref fY)) (l8 : k8 ≤ j)
    (GI : FnOk P w K mg base CX0 k9 fI fdI ["self", "old", "new"] (spReI C)) (bI : Binds K fdI ["self", "old", "new"] []) (l9 : k9 + 1 ≤ j)
    (m1 : mg "isinstance" = none) (m2 : mg "list" = none) :
    FnOk P w K mg base (L2N.CX P w) (j + 1) f fd ["old", "new", "difference", "costs"] (spShN CD) := by
  refine okN F scSh (fun vs H Q E h => ?_) (fun cdv A outer s H vs Q E hr h => ?_)
  · obtain ⟨t, x, d, old, new, pc, cs, rfl, _⟩ := h
    rfl
  · obtain ⟨t, x, d, old, new, pc, cs, rfl, hD, hL, ON, hpc, hcl, fin, ex⟩ := h
    have hz := PySem.sizeLine_eq
    have hn2 := hL.2.2.1
    refine ⟨_, pss_cons (ps_expr (pe_call GB (hr.mono l1) (by rfl) gB kB bB .nil pass0 (pa_cons (pv 0) pa_nil))) (pss_cons (ps_expr (pe_call GB (hr.mono l1) (by rfl) gB kB bB .nil pass0 (pa_cons (pv 1) pa_nil)))
      (pss_cons (ps_expr (pe_call GR (hr.mono l2) (by rfl) gR kR bR .nil (L2N.passes_call (L2N.takes_of rfl rfl rfl rfl) (fun _ _ _ _ h => h)) (pa_cons (pv 2) pa_nil)))
      (pss_cons (ps_if (pt_not (pt_val (pe_callB call_isi (by rfl) m1 (by decide +kernel) (pa_cons (pv 3) (pa_cons (pe_bltn (v := .ty "list") (by rfl) m2 (by decide +kernel) rfl) pa_nil))))) (pss_one ps_never) pss_nil)
      (pss_cons (ps_set (i := 4) scSh.nd rfl (.inl rfl) (pe_ix ix_tup (pv 2) pe_int (fun _ _ => rfl)))
      (pss_cons (ps_if (PW.pt (pw_or (pt_cmpR (op_neD hr.units) (pe_slice sl_tup (pv 2) po_none (po_some pe_int)) (pe_tup (pa_cons (pe_call GM (hr.mono l3) (by rfl) gM kM bM .nil pass0 (pa_cons (pv 0) pa_nil)) (pa_cons (pe_call GM (hr.mono l3) (by rfl) gM kM bM .nil pass0 (pa_cons (pv 1) pa_nil)) pa_nil))) (nomark _))
          (pw_or1 (pt_cmpR op_ne (pe_call GP (hr.mono l4) (by rfl) gP kP bP .nil pass0 (pa_cons (pe_call GG (hr.mono l5) (by rfl) gG kG bG .nil pass0 (pa_cons (pv 4) pa_nil)) (pa_cons (pv 0) pa_nil))) (pv 1) (nomark _))))) (pss_one (ps_ret pe_bl)) pss_nil)
      (pss_cons (ps_if (PW.pt (pw_or (pt_not (pt_val (pe_call GW (hr.mono l6) (by rfl) gW kW bW .nil pass0 (pa_cons (pv 3) (pa_cons (pv 1) pa_nil)))))
          (pw_or1 (pt_cmpR op_ne (pe_call GX (hr.mono l7) (by rfl) gX kX bX .nil pass0 (pa_cons (pv 4) pa_nil)) (pe_ix ix_list (pv 3) pe_int (fun _ _ => rfl)) (nomark _))))) (pss_one (ps_ret pe_bl)) pss_nil)
      (pss_one (ps_ret (pe_call GY (hr.mono l8) (by rfl) gY kY bY .nil pass0 (pa_cons (pe_make T.made GI (hr.mono l9) (by rfl) T.gC bI .nil pass0 (pa_cons (pv 0) (pa_cons (pv 1) pa_nil))) (pa_cons (pv 3) pa_nil))))))))))), ?_⟩
    refine ⟨_, rfl, old, rfl, ON.lo, _, rfl, new, rfl, ON.ln, _, rfl, t, x, d, rfl, hD, hL, fun hok => ?_, fun hok => ex hok⟩
    have fin := fin hok
    have hfit := of_decide_eq_true (show decide (fitR d.old.1 0 d.row = some d.new.1) = true from hok)
    refine ⟨_, rfl, _, _, .type "list", _, _, rfl, .ty "list", .base (.lst hpc), kit_ty (a := "list") (r := true) (by decide +kernel), _, rfl, iteF ?_⟩
    refine ⟨_, rfl, t, _, 2, _, rfl, rfl, .inl (.inl hD.1), rfl, ?_⟩
    dsimp only [gName]
    refine ⟨_, rfl, _, rfl, t, _, rfl, .inl (.inl hD.1), (show ¬ (HT.sIx 3 0 none = 0 ∧ HT.sIx 3 3 (some 2) = 3) by decide), fun t2 nt2 => ?_⟩
    have s1 := same_upd (o := .tup (cutV [V.ref x.a, V.ref x.b, V.ref x.r] none (some 2))) nt2
    have ht2 : (upd H t2 (.tup (cutV [V.ref x.a, V.ref x.b, V.ref x.r] none (some 2)))) t2 = some (.tup [.ref x.a, .ref x.b]) := upd_same
    have hD1 := hD.same s1
    have hpc1 := s1 _ _ hpc
    generalize upd H t2 (.tup (cutV [V.ref x.a, V.ref x.b, V.ref x.r] none (some 2))) = H1 at *
    refine ⟨_, rfl, old, rfl, ON.ko, ON.lo, fun H2 a s2 na hma => ?_⟩
    refine ⟨_, rfl, new, rfl, ON.kn, ON.ln, fun H3 b s3 nb hmb => ?_⟩
    refine ⟨(by show 2 ≤ sizeLine; omega), fun t3 nt3 => ?_⟩
    have s4 := same_upd (o := .tup [.ref a, .ref b]) nt3
    have ht3 : (upd H3 t3 (.tup [.ref a, .ref b])) t3 = some (.tup [.ref a, .ref b]) := upd_same
    have hma := s4 _ _ (s3 _ _ hma)
    have hmb := s4 _ _ hmb
    have s24 := (s2.trans s3).trans s4
    have hD4 := hD1.same s24
    have ht2 := s24 _ _ ht2
    have hpc4 := s24 _ _ hpc1
    have sm4 := s1.trans s24
    generalize upd H3 t3 (.tup [.ref a, .ref b]) = H4 at *
    refine ⟨_, _, .tup (.inl (.inl ht2)) (.cons (dp_mk hD4.2.1) (.cons (dp_mk hD4.2.2.1) .nil)), .tup (.inl (.inl ht3)) (.cons (dp_mk hma) (.cons (dp_mk hmb) .nil)), sh_2m _ _, sh_2m _ _, ?_⟩
    rw [eqv_2m]
    by_cases em : d.old = (old.length, mrk old) ∧ d.new = (new.length, mrk new)
    · rw [decide_eq_true em]
      refine ⟨_, rfl, iteF ?_⟩
      obtain ⟨eo, en⟩ := em
      obtain ⟨hol, hoo⟩ := orig_ok (acc := []) (fun o z => by cases z) hfit
      have hol : (orig d.row).length = d.new.1 := hol
      rw [eo] at hoo
      have hoo : ∀ o ∈ orig d.row, OgOk old.length o := hoo
      refine ⟨_, rfl, x.r, d.row, d.old.1, d.new.1, rfl, hD4.2.2.2, hfit, hn2, fun H5 q s5 nq hOs => ?_⟩
      refine ⟨_, rfl, q, orig d.row, old, rfl, hOs, by rw [hol]; exact hn2, hoo, ON.ko, ON.lo, fun H6 s6 => ?_⟩
      have s56 := s5.trans s6
      have sm6 := sm4.trans s56
      have hpc6 := s56 _ _ hpc4
      have hD6 := hD4.same s56
      refine ⟨_, rfl, rfl, ?_⟩
      by_cases ek : makeB (orig d.row) old = new
      · rw [ek, decide_eq_true rfl]
        refine ⟨_, rfl, iteF ?_⟩
        refine ⟨_, rfl, _, rfl, pc, cs, new, rfl, hpc6, hcl, ON.ln, fun H7 s7 => ?_⟩
        have sm7 := sm6.trans s7
        have hpc7 := s7 _ _ hpc6
        cases hA : areC cs new.length with
        | false =>
          refine ⟨_, rfl, iteC rfl ?_⟩
          exact iteT (fin _ false sm7 ⟨fun z => (by cases z), fun z => by have := z.2.2.2.1; rw [hA] at this; cases this⟩)
        | true =>
          have hA2 := hA
          unfold areC at hA2
          rw [Bool.and_eq_true, Bool.and_eq_true] at hA2
          have hlen := of_decide_eq_true hA2.1
          refine ⟨_, rfl, iteF ?_⟩
          refine ⟨_, rfl, x.r, d.row, rfl, (hD6.same s7).2.2.2, hL.2.2.2.2, _, rfl, pc, _, 0, optV (cs.getD 0 none), rfl, rfl, .inl (.inl hpc7), opt_at0 (by omega), (by cases cs.getD 0 none <;> rfl), _, rfl, ?_⟩
          by_cases eb : cs.getD 0 none = some ((bitsD d.row : Nat) : Int)
          · rw [eb]
            refine iteC2 (by show (!decide (V.int _ = V.int _)) = false; rw [decide_eq_true rfl]; rfl) ?_
            refine ⟨_, rfl, _, rfl, ?_⟩
            intro y dx nx nd ne
            refine ⟨y, dx, old, new, rfl, upd_same, ON, fun H8 ms ls k1' hRe => ⟨rfl, ?_⟩⟩
            have s8 := make_same nx nd k1'
            refine ⟨_, rfl, y, pc, old, new, ms, ls, cs, rfl, hRe, ON, s8 _ _ hpc7, hlen, hA2.2.1, fun H9 r s9 hr9 => ?_⟩
            exact fin _ r (sm7.trans (s8.trans s9)) (hr9.trans ⟨fun z => ⟨eo, en, ek, hA, eb, z⟩, fun z => z.2.2.2.2.2⟩)
          · refine iteC (by rw [Bool.not_eq_true', decide_eq_false_iff_not]; intro z; exact eb (optV_int z.symm)) ?_
            exact fin _ false sm7 ⟨fun z => (by cases z), fun z => absurd z.2.2.2.2.1 eb⟩
      · refine ⟨_, rfl, iteC (by rw [Bool.not_eq_true', decide_eq_false_iff_not]; intro z; injection z with z; exact ek (byB_inj (makeB_lt ON.ko hoo) ON.kn z)) ?_⟩
        exact fin _ false sm6 ⟨fun z => (by cases z), fun z => absurd z.2.2.1 ek⟩
    · rw [decide_eq_false em]
      refine ⟨_, rfl, iteT ?_⟩
      exact iteT (fin _ false sm4 ⟨fun z => (by cases z), fun z => absurd ⟨z.1, z.2.1⟩ em⟩)
end
end K9

namespace K9
open PySem PySem.Spec PyProof.Rows L2
/-! ### _law_shown -/
abbrev NLs : List Str := ["_law_old", "_law_new", "_law_row", "_law_costs", "_law_item", "_law_place"]
theorem scLs : FnScope NLs ["_law_old", "_law_new", "_law_row", "_law_costs"] (defScope sLShown) := ⟨rfl, rfl, rfl, by decide +kernel, rfl, by decide +kernel, by decide +kernel⟩
theorem bits_sum : ∀ row : List Di, (row.map fun i => ((cI i : Nat) : Int)).sum = ((bitsD row : Nat) : Int)
  | [] => rfl
  | i :: r => by
    rw [List.map_cons, List.sum_cons, bits_sum r]
    show _ = ((cI i + bitsD r : Nat) : Int)
    push_cast
    rfl
def lshOk (old new : List Nat) (row : List Di) (cs : List (Option Int)) : Prop := cs.getD (cs.length - 1) none = some 0 ∧ cs.getD 0 none = some ((bitsD row : Nat) : Int) ∧ NIC old new cs
section
variable {P : Program} {w : World} {K : PySem.W.Frag} {mg : Str → Option Value} {base : Heap}
def spLs : Sp := fun vs H Q _ => ∃ (po pn pr pc : Addr) (old new : List Nat) (row : List Di) (cs : List (Option Int)), vs = [.ref po, .ref pn, .ref pr, .ref pc] ∧ H po = some (.lst (bys old)) ∧ H pn = some (.lst (bys new)) ∧ RwAt H pr row ∧ H pc = some (.lst (cs.map optV)) ∧ old.length ≤ 300 ∧ new.length ≤ 300 ∧ row.length ≤ 2000 ∧ cs.length = new.length + 1 ∧ cs.all nonNeg = true ∧
  ∀ H' b, Same H H' → (b = true ↔ lshOk old new row cs) → Q (.bl b) H'
theorem ok_ls {f fC fD : Addr} {fd fdC fdD : FuncData} {j k1 k2 : Nat} (F : Fun K "_law_shown" "_law_shown" sLShown f fd)
    (GC : FnOk P w K mg base CX0 k1 fC fdC ["_law_old", "_law_new", "_law_place"] (spCp K)) (bC : Binds K fdC ["_law_old", "_law_new", "_law_place"] []) (kC : PySem.W.keepIn K (.ref fC) = true) (gC : mg "_law_copies" = some (.ref fC)) (l1 : k1 ≤ j)
    (GD : FnOk P w K mg base CX0 k2 fD fdD ["_law_item"] spDc) (bD : Binds K fdD ["_law_item"] []) (kD : PySem.W.keepIn K (.ref fD) = true) (gD : mg "_law_diff_cost" = some (.ref fD)) (l2 : k2 ≤ j)
    (m1 : mg "len" = none) (m2 : mg "range" = none) (m3 : mg "min" = none) (m4 : mg "sum" = none) :
    FnOk P w K mg base CX0 (j + 1) f fd ["_law_old", "_law_new", "_law_row", "_law_costs"] spLs := by
  refine F.ok scLs (fun vs H Q E h => ?_) (fun cdv A outer s H vs Q E hr h => ?_)
  · obtain ⟨po, pn, pr, pc, old, new, row, cs, rfl, _⟩ := h
    rfl
  · obtain ⟨po, pn, pr, pc, old, new, row, cs, rfl, hpo, hpn, ⟨us, hpr, hus⟩, hpc, hlo, hln, hrl, hcl, hnn, fin⟩ := h
    have hz := PySem.sizeLine_eq
    have hul := hus.length
    refine ⟨_, pss_cons (ps_if (PW.pt (pw_or (pt_cmpR op_ne (pe_callB call_len_seq (by rfl) m1 PySem.boot_len (pa_cons (pv 3) pa_nil)) (pe_op op_add (pe_callB call_len_seq (by rfl) m1 PySem.boot_len (pa_cons (pv 1) pa_nil)) pe_int) (nomark _))
          (pw_or (pt_cmpR op_ne (pe_ix ix_list (pv 3) (pe_un un_neg pe_int) (fun _ _ => rfl)) pe_int (nomark _))
          (pw_or (pt_cmpR op_in_seq pe_non (pv 3) (by with_unfolding_all rfl))
          (pw_or1 (pt_cmpR op_lt (pe_callB (cr_min rfl) (by rfl) m3 (by decide +kernel) (pa_cons (pv 3) pa_nil)) pe_int (nomark _))))))) (pss_one (ps_ret pe_bl)) pss_nil)
      (pss_cons (ps_if (pt_cmpR op_ne (pe_callB (cr_sum rfl) (by rfl) m4 (by decide +kernel) (pa_cons (pe_lc (own := [("_law_item", 4)]) (g := gName 4) (tt := tYes) rfl scLs.nd (pi_list (pv 2)) (blkOk_by (N := NLs) (sc := defScope sLShown) (by decide +kernel))
            (fun _ _ _ _ _ => pg_name (i := 4) scLs.nd rfl (.inl rfl)) (fun _ _ _ _ _ => pts_nil) (fun _ _ _ _ _ => pe_call GD (hr.mono l2) (by rfl) gD kD bD .nil pass0 (pa_cons (pv 4) pa_nil))) pa_nil)) (pe_ix ix_list (pv 3) pe_int (fun _ _ => rfl)) (nomark _)) (pss_one (ps_ret pe_bl)) pss_nil)
      (pss_cons (ps_for PassesOwn.never rfl (pi_range1 (by rfl) m2 (pa_cons (pe_callB call_len_seq (by rfl) m1 PySem.boot_len (pa_cons (pv 1) pa_nil)) pa_nil)) (pg_name (i := 5) scLs.nd rfl (.inl rfl))
        (pss_cons (ps_if (pt_cmpR op_lt (pe_op op_add pe_int (pe_ix ix_list (pv 3) (pe_op op_add (pv 5) pe_int) (fun _ _ => rfl))) (pe_ix ix_list (pv 3) (pv 5) (fun _ _ => rfl)) (nomark _)) (pss_one (ps_ret pe_bl)) pss_nil)
        (pss_one (ps_for PassesOwn.never rfl (pi_list (pe_call GC (hr.mono l1) (by rfl) gC kC bC .nil pass0 (pa_cons (pv 0) (pa_cons (pv 1) (pa_cons (pv 5) pa_nil))))) (pg_name (i := 4) scLs.nd rfl (.inl rfl))
          (pss_one (ps_if (pt_cmpR op_lt (pe_op op_add (pe_call GD (hr.mono l2) (by rfl) gD kD bD .nil pass0 (pa_cons (pv 4) pa_nil)) (pe_ix ix_list (pv 3) (pe_op op_add (pv 5) (pe_ix ix_tup (pv 4) pe_int (fun _ _ => rfl))) (fun _ _ => rfl))) (pe_ix ix_list (pv 3) (pv 5) (fun _ _ => rfl)) (nomark _)) (pss_one (ps_ret pe_bl)) pss_nil))))))
      (pss_one (ps_ret pe_bl)))), ?_⟩
    refine ⟨_, rfl, pc, _, rfl, .inl (.inl (.inl hpc)), _, rfl, pn, _, rfl, .inl (.inl (.inl hpn)), _, _, rfl, rfl, rfl, _, rfl, iteC2 (by rw [Bool.not_eq_false', decide_eq_true_eq, List.length_map, bys_len, hcl]; push_cast; rfl) ?_⟩
    refine ⟨_, rfl, 1, rfl, pc, _, -1, optV (cs.getD (cs.length - 1) none), rfl, rfl, .inl (.inl hpc), opt_last (by omega), (by cases cs.getD (cs.length - 1) none <;> rfl), _, rfl, ?_⟩
    by_cases e1 : cs.getD (cs.length - 1) none = some 0
    · rw [e1]
      refine iteC2 (by show (!decide (V.int _ = V.int _)) = false; rw [decide_eq_true rfl]; rfl) ?_
      refine ⟨_, rfl, pc, _, rfl, .inl (.inl (.inl hpc)), rfl, flat_opt _, _, rfl, ?_⟩
      show (if inV V.non (cs.map optV) = true then _ else _)
      rw [in_none]
      cases hany : cs.any fun o => o.isNone with
      | true =>
        refine iteT (iteT (fin H false (Same.refl H) ⟨fun z => (by cases z), fun ⟨_, _, ks, e, _⟩ => ?_⟩))
        rw [e, someN_any] at hany
        cases hany
      | false =>
        obtain ⟨ks, rfl⟩ := someN_of hnn hany
        clear hany hnn
        rw [someN_V] at hpc
        have hcl0 := hcl
        have hcl : ks.length = new.length + 1 := by
          unfold someN at hcl
          rwa [List.length_map] at hcl
        have fin : ∀ H' b, Same H H' → (b = true ↔ ((someN ks).getD 0 none = some ((bitsD row : Nat) : Int) ∧ ∀ a, a < new.length → okAt old new ks a)) → Q (.bl b) H' := fun H' b s e => fin H' b s (e.trans ⟨fun g => ⟨e1, g.1, ks, rfl, g.2⟩, fun ⟨_, g1, ks', e', g⟩ => ⟨g1, by rw [someN_inj e']; exact g⟩⟩)
        refine iteF ?_
        refine ⟨_, rfl, pc, _, rfl, .inl (.inl hpc), by rw [List.length_map]; omega, fun mm g1 g2 => ?_⟩
        obtain ⟨mn, rfl, g3, g4⟩ := nats_min g1 g2
        refine ⟨_, _, rfl, rfl, _, rfl, iteC2 (decide_eq_false (by omega)) ?_⟩
        clear g1 g2 g3 g4 mn
        refine ⟨_, rfl, pr, rfl, ⟨_, .inl (.inl hpr)⟩, fun B nB => ?_⟩
        refine lc_list (K := K) (a := pr) (xs := us) (fun i H' => Same H H' ∧ H' B = some (.lst (((row.map fun d => ((cI d : Nat) : Int)).take i).map V.int))) ⟨same_upd nB, upd_same⟩ (fun i H' _ h => .inl (.inl (h.1 _ _ hpr))) (fun i x H' hx h => ?_) (fun H' h => ?_)
        · obtain ⟨sm, hB⟩ := h
          have hi : i < row.length := by have := (List.getElem?_eq_some_iff.mp hx).1; omega
          obtain ⟨x', e2, hd⟩ := paired_get hus (List.getElem?_eq_getElem hi)
          obtain rfl := Option.some.inj (e2.symm.trans hx)
          have et : (row.map fun d => ((cI d : Nat) : Int)).take (i + 1) = (row.map fun d => ((cI d : Nat) : Int)).take i ++ [((cI row[i] : Nat) : Int)] := by
            rw [List.take_add_one, List.getElem?_map, List.getElem?_eq_getElem hi]
            rfl
          rw [et]
          refine ⟨rfl, yes ?_⟩
          refine ⟨_, rfl, x', row[i], rfl, hd.same sm, _, hB, by rw [List.length_map, List.length_take, List.length_map]; omega, same_put sm nB, by rw [upd_same, List.map_append]; rfl⟩
        · obtain ⟨sm, hB⟩ := h
          rw [← hul, List.take_of_length_le (by rw [List.length_map]; exact Nat.le_refl _)] at hB
          refine ⟨B, _, rfl, .inl (.inl hB), ?_⟩
          rw [bits_sum]
          have hpc2 := sm _ _ hpc
          refine ⟨_, rfl, pc, _, 0, .int ((ks.getD 0 0 : Nat) : Int), rfl, rfl, .inl (.inl hpc2), at_of' (k := 0) rfl (by omega), rfl, _, rfl, ?_⟩
          have ek : (someN ks).getD 0 none = some ((ks.getD 0 0 : Nat) : Int) := by
            unfold someN
            rw [List.getD_eq_getElem?_getD, List.getElem?_map, List.getD_eq_getElem?_getD, List.getElem?_eq_getElem (by omega)]
            rfl
          rw [ek] at fin
          by_cases eb : bitsD row = ks.getD 0 0
          · rw [eb]
            refine iteC2 (by show (!decide (V.int _ = V.int _)) = false; rw [decide_eq_true rfl]; rfl) ?_
            have fin : ∀ H' b, Same H H' → (b = true ↔ ∀ a, a < new.length → okAt old new ks a) → Q (.bl b) H' := fun H' b s e => fin H' b s (e.trans ⟨fun g => ⟨by rw [eb], g⟩, fun g => g.2⟩)
            refine ⟨_, rfl, pn, _, rfl, .inl (.inl (.inl (sm _ _ hpn))), _, rfl, by rw [bys_len]; omega, by rw [bys_len]; omega, ?_⟩
            refine for_range (lo := 0) (n := (((bys new).length : Nat) : Int).toNat) (fun i σ H' => ∃ (y4 y5 : Option V), σ = [some (.ref po), some (.ref pn), some (.ref pr), some (.ref pc), y4, y5] ∧ Same H H' ∧ ∀ t, t < i → okAt old new ks t) ⟨_, _, rfl, sm, fun t z => absurd z (Nat.not_lt_zero _)⟩ (fun a σ H2 ha h => ?_) (fun σ H' h => ?_)
            · obtain ⟨y4, y5, rfl, s2, hok⟩ := h
              rw [Int.toNat_natCast, bys_len] at ha
              rw [show (0 : Int) + (a : Int) = (a : Int) by omega]
              have hpc3 := s2 _ _ hpc
              dsimp only [gName]
              refine ⟨_, rfl, _, rfl, _, _, rfl, rfl, pc, _, _, _, rfl, rfl, .inl (.inl hpc3), at_of' (k := a + 1) (by push_cast; rfl) (by omega), _, _, rfl, rfl, _, rfl, _, rfl, pc, _, _, _, rfl, rfl, .inl (.inl hpc3), at_of' (k := a) rfl (by omega), _, _, rfl, rfl, _, rfl, ite2 (fun e => ?_) (fun e => ?_)⟩
              · have e := of_decide_eq_true e
                exact fin H2 false s2 ⟨fun z => (by cases z), fun g => by have := (g a ha).1; omega⟩
              · have e : ks.getD a 0 ≤ 9 + ks.getD (a + 1) 0 := by
                  by_cases z : 9 + ks.getD (a + 1) 0 < ks.getD a 0
                  · exact absurd (decide_eq_true (by omega)) e
                  · omega
                refine ⟨_, rfl, _, rfl, _, rfl, po, pn, old, new, a, rfl, s2 _ _ hpo, s2 _ _ hpn, hlo, hln, ha, fun H3 q rw3 s3 nq hrw hm hp => ?_⟩
                obtain ⟨us3, hq, hus3⟩ := hrw
                have hul3 := hus3.length
                have s23 := s2.trans s3
                have hpc4 := s23 _ _ hpc
                refine ⟨q, rfl, ⟨_, .inl (.inl hq)⟩, ?_⟩
                refine for_list (K := K) (a := q) (xs := us3) (fun j σ H' => ∃ (y4 : Option V), σ = [some (.ref po), some (.ref pn), some (.ref pr), some (.ref pc), y4, some (.int (a : Int))] ∧ H' = H3 ∧ ∀ x ∈ rw3.take j, ks.getD a 0 ≤ cI x + ks.getD (a + wideI x) 0) ⟨_, rfl, rfl, fun x z => (by cases z)⟩ (fun j σ H' _ h => ?_) (fun j x σ H' hx h => ?_) (fun σ H' h => ?_)
                · obtain ⟨_, _, rfl, _⟩ := h
                  exact .inl (.inl hq)
                · obtain ⟨y4, rfl, rfl, hall⟩ := h
                  have hj : j < rw3.length := by have := (List.getElem?_eq_some_iff.mp hx).1; omega
                  obtain ⟨x', e2, hd⟩ := paired_get hus3 (List.getElem?_eq_getElem hj)
                  obtain rfl := Option.some.inj (e2.symm.trans hx)
                  have ej : rw3[j]? = some rw3[j] := List.getElem?_eq_getElem hj
                  have hcp := (hm rw3[j]).mp (List.getElem_mem hj)
                  rw [List.take_add_one, ej]
                  generalize rw3[j] = x0 at *
                  have hw := cp_wide hcp
                  dsimp only [gName]
                  match x0, hcp, hd, hw with
                  | .c wd m p, hcp, hd, hw =>
                    obtain ⟨t, rfl, ht⟩ := hd
                    have hw : 1 ≤ m ∧ m ≤ 255 ∧ a + m ≤ new.length := hw
                    refine ⟨_, rfl, .ref t, .c wd m p, rfl, ⟨t, rfl, ht⟩, _, rfl, _, rfl, _, rfl, t, _, 1, _, rfl, rfl, .inl (.inl ht), rfl, _, _, rfl, rfl, pc, _, _, _, rfl, rfl, .inl (.inl hpc4), at_of' (k := a + m) (by push_cast; rfl) (by omega), _, _, rfl, rfl, _, rfl, _, rfl, pc, _, _, _, rfl, rfl, .inl (.inl hpc4), at_of' (k := a) rfl (by omega), _, _, rfl, rfl, _, rfl, ite2 (fun e => ?_) (fun e => ?_)⟩
                    · have e := of_decide_eq_true e
                      exact fin H' false s23 ⟨fun z => (by cases z), fun g => by have : ks.getD a 0 ≤ cI (.c wd m p) + ks.getD (a + m) 0 := (g a ha).2 _ hcp; omega⟩
                    · have e : ks.getD a 0 ≤ cI (.c wd m p) + ks.getD (a + m) 0 := by
                        by_cases z : cI (.c wd m p) + ks.getD (a + m) 0 < ks.getD a 0
                        · exact absurd (decide_eq_true (by omega)) e
                        · omega
                      refine ⟨_, rfl, rfl, fun x hx => ?_⟩
                      rcases List.mem_append.mp hx with hx | hx
                      · exact hall x hx
                      · rw [List.mem_singleton.mp hx]; exact e
                · obtain ⟨y4, rfl, rfl, hall⟩ := h
                  rw [← hul3, List.take_length] at hall
                  refine ⟨_, _, rfl, s23, fun t ht => ?_⟩
                  by_cases z : t < a
                  · exact hok t z
                  · rw [show t = a by omega]
                    exact ⟨e, fun it hc => hall it ((hm it).mpr hc)⟩
            · obtain ⟨y4, y5, rfl, s2, hok⟩ := h
              rw [Int.toNat_natCast, bys_len] at hok
              exact fin H' true s2 ⟨fun _ => hok, fun _ => rfl⟩
          · refine iteC (by show (!decide (V.int _ = V.int _)) = true; rw [Bool.not_eq_true', decide_eq_false_iff_not]; intro z; injection z with z; exact eb (by omega)) ?_
            exact fin H' false sm ⟨fun z => (by cases z), fun z => absurd (Option.some.inj z.1) (fun y => eb (by omega))⟩
    · refine iteC (by rw [Bool.not_eq_true', decide_eq_false_iff_not]; intro z; exact e1 (optV_int z)) ?_
      exact iteT (fin H false (Same.refl H) ⟨fun z => (by cases z), fun z => absurd z.1 e1⟩)
end
end K9

namespace K9
open PySem PySem.Spec PyProof.Rows L2
/-! ### _law_spoilt_right -/
abbrev NSp : List Str := ["_law_cell", "_law_old", "_law_new", "_law_row", "_law_costs", "_law_items", "_law_other", "_law_at", "_law_laid", "_law_sources", "_law_fine", "_law_data_here", "_law_late", "_law_made", "_law_found", "_law_one"]
theorem scSp : FnScope NSp ["_law_cell", "_law_old", "_law_new", "_law_row", "_law_costs"] (defScope sSpoilt) := ⟨rfl, rfl, rfl, by decide +kernel, rfl, by decide +kernel, by decide +kernel⟩
theorem takes0N {X : Cx} : L2N.Takes X (fun _ _ _ _ => False) := fun _ _ z => by
  obtain ⟨_, _, _, _, _, _, _, _, _, _, _, _, _, _, _, _, q⟩ := z
  exact q.elim
theorem neDK {X : Cx} (K : PySem.W.Frag) (hu : X.A.units + 64 < cLine) (h : X.K = K := by rfl) : OpR X (compareOp .NotEq) (rNeD K) := by subst h; exact op_neD hu
theorem eqDK {X : Cx} (K : PySem.W.Frag) (hu : X.A.units + 64 < cLine) (h : X.K = K := by rfl) : OpR X (compareOp .Eq) (rEqD K) := by subst h; exact op_eqD hu
theorem hot_suite {X : Cx} {a : Addr} {oe : Obj} {cls : Value} {d : Option Addr} {pn : List (Addr × Obj)} (hz : L2N.Zn cls d oe) (hf : ∃ vs, oe.data = .fields vs) : L2H.HotC (X.suite a ((a, oe) :: pn)) := ⟨(a, oe), ⟨rfl, by obtain ⟨fv, e⟩ := hf; exact ⟨fv, e, hz.2.2 fv e⟩⟩, List.mem_cons_self ..⟩
/-! #### pure -/
theorem nat_list : ∀ {a b : List Nat}, (a.map fun (k : Nat) => (k : Int)) = (b.map fun (k : Nat) => (k : Int)) → a = b
  | [], [], _ => rfl
  | [], _ :: _, h => by cases h
  | _ :: _, [], h => by cases h
  | x :: a, y :: b, h => by
    have h : (x : Int) :: (a.map fun (k : Nat) => (k : Int)) = (y : Int) :: (b.map fun (k : Nat) => (k : Int)) := h
    have h1 := (List.cons.inj h).1
    rw [nat_list (List.cons.inj h).2, show x = y by omega]
theorem og_at {L : List V} {p : Nat} {v : V} (h : L[p]? = some v) : atI L (-1 - ogI (.o p)) = some v := by
  show atI L (-1 - (-1 - (p : Int))) = _
  rw [show -1 - (-1 - (p : Int)) = (p : Int) by omega]
  exact atI_nat h
theorem makeB_V (os : List Og) (old : List Nat) : bys (makeB os old) = os.map fun o => V.int ((byteO old o : Nat) : Int) := by
  unfold bys makeB
  rw [List.map_map, List.map_map]
  rfl
theorem bys_getV {ks : List Nat} {p : Nat} (h : p < ks.length) : (bys ks)[p]? = some (.int ((ks.getD p 0 : Nat) : Int)) := by
  rw [bys_eq, List.getElem?_map, List.getElem?_eq_getElem h, List.getD_eq_getElem?_getD, List.getElem?_eq_getElem h]
  rfl
theorem lrow_sh {old new ks : List Nat} (hk : ∀ k ∈ new, k < 256) (hl : new.length ≤ 2000) : ∀ {row : List Di} {s : Nat}, LRow old new ks s row → (∀ it ∈ row, ShI it) ∧ s + wsum row = new.length
  | [], s, h => ⟨fun _ z => (by cases z), h⟩
  | it :: r, s, ⟨h1, h2, h3⟩ => by
    obtain ⟨g1, g2⟩ := lrow_sh hk hl h3
    have hi : ShI it := by
      rcases h2 with ⟨_, rfl⟩ | ⟨_, h, _⟩
      · exact hk _ (getD_mem' h1)
      · match it, h with
        | .c true m p, h => exact ⟨h.1, h.2.1, h.2.2.2.1, by have := h.2.2.2.2.1; omega⟩
        | .c false m p, h => exact ⟨h.1, h.2.1⟩
    refine ⟨fun i hm => ?_, by show s + (wideI it + wsum r) = _; omega⟩
    rcases List.mem_cons.mp hm with rfl | hm
    · exact hi
    · exact g1 i hm
theorem wsum_set : ∀ (row : List Di) (i : Nat) (x : Di), wsum (row.set i x) ≤ wsum row + wideI x
  | [], i, x => Nat.zero_le _
  | a :: r, 0, x => by show wideI x + wsum r ≤ wideI a + wsum r + wideI x; omega
  | a :: r, i + 1, x => by
    have := wsum_set r i x
    show wideI a + wsum (r.set i x) ≤ wideI a + wsum r + wideI x
    omega
theorem sh_set {row : List Di} {i : Nat} {x : Di} (h : ∀ it ∈ row, ShI it) (hx : ShI x) : ∀ it ∈ row.set i x, ShI it := fun it hm => by
  rcases List.mem_or_eq_of_mem_set hm with g | rfl
  · exact h it g
  · exact hx
theorem paired_set {α β : Type} {R : α → β → Prop} : ∀ {as : List α} {bs : List β} {i : Nat} {a : α} {b : β}, Paired R as bs → R a b → Paired R (as.set i a) (bs.set i b)
  | _, _, _, _, _, .nil, _ => .nil
  | _, _, 0, _, _, .cons h t, r => .cons r t
  | _, _, i + 1, _, _, .cons h t, r => .cons h (paired_set t r)
theorem fmod_nat {x : Int} {n : Nat} (h : 0 < n) : ∃ q : Nat, x.fmod (n : Int) = (q : Int) ∧ q < n := by
  have h1 := Int.fmod_nonneg_of_pos x (show (0 : Int) < n by omega)
  have h2 := Int.fmod_lt_of_pos x (show (0 : Int) < n by omega)
  exact ⟨(x.fmod n).toNat, by omega, by omega⟩
theorem all_set {cs : List (Option Int)} {i : Nat} {o : Option Int} (h : cs.all nonNeg = true) (ho : nonNeg o = true) : (cs.set i o).all nonNeg = true := by
  rw [List.all_eq_true] at *
  intro y hy
  rcases List.mem_or_eq_of_mem_set hy with g | rfl
  · exact h y g
  · exact ho
theorem someN_nn (ks : List Nat) : (someN ks).all nonNeg = true := by
  rw [List.all_eq_true]
  intro y hy
  obtain ⟨k, _, rfl⟩ := List.mem_map.mp hy
  show decide (0 ≤ (k : Int)) = true
  exact decide_eq_true (by omega)
theorem bys_setO {ks : List Nat} {q : Nat} {o : Option Int} : (bys ks).set q (optV o) = ((someN ks).set q o).map optV := by
  rw [List.map_set, someN_V]
theorem four (k r : Nat) (hr : r < 4) {mx : Int} (hm : 0 ≤ mx) : ∃ o, atI [V.non, .int 0, .int ((k : Int) + 1), .int mx] (r : Int) = some (optV o) ∧ nonNeg o = true := by
  rcases (show r = 0 ∨ r = 1 ∨ r = 2 ∨ r = 3 by omega) with rfl | rfl | rfl | rfl
  · exact ⟨none, rfl, rfl⟩
  · exact ⟨some 0, rfl, rfl⟩
  · exact ⟨some ((k : Int) + 1), rfl, by show decide (0 ≤ (k : Int) + 1) = true; exact decide_eq_true (by omega)⟩
  · exact ⟨some mx, rfl, by show decide (0 ≤ mx) = true; exact decide_eq_true hm⟩
theorem five {H : Hp} {t1 t2 t3 : Addr} (e r : Nat) (hr : r < 5) (he : e < 256) (h1 : H t1 = some (.tup [.str "old", .int 1, .int 0])) (h2 : H t2 = some (.tup [.str "new", .int 3, .int 1])) (h3 : H t3 = some (.tup [.str "old", .int 3, .int 1])) :
    ∃ v it, atI [V.int 97, .ref t1, .ref t2, .ref t3, .int (e : Int)] (r : Int) = some v ∧ DiAt H it v ∧ ShI it ∧ wideI it ≤ 3 := by
  rcases (show r = 0 ∨ r = 1 ∨ r = 2 ∨ r = 3 ∨ r = 4 by omega) with rfl | rfl | rfl | rfl | rfl
  · exact ⟨_, .b 97, rfl, rfl, (by decide : 97 < 256), (by decide : 1 ≤ 3)⟩
  · exact ⟨_, .c false 1 0, rfl, ⟨t1, rfl, h1⟩, ⟨by decide, by decide⟩, (by decide : 1 ≤ 3)⟩
  · exact ⟨_, .c true 3 1, rfl, ⟨t2, rfl, h2⟩, ⟨by decide, by decide, by decide, by decide⟩, (by decide : 3 ≤ 3)⟩
  · exact ⟨_, .c false 3 1, rfl, ⟨t3, rfl, h3⟩, ⟨by decide, by decide⟩, (by decide : 3 ≤ 3)⟩
  · exact ⟨_, .b e, rfl, rfl, he, (by decide : 1 ≤ 3)⟩
theorem last_at {ks : List Nat} (h : 0 < ks.length) : atI (bys ks) (-1) = some (.int ((ks.getD (ks.length - 1) 0 : Nat) : Int)) := by
  unfold atI ixN
  rw [if_neg (by omega), bys_len, if_pos (by omega)]
  show (bys ks)[(-1 + (ks.length : Int)).toNat]? = _
  rw [show (-1 + (ks.length : Int)).toNat = ks.length - 1 by omega, bys_eq, List.getElem?_map, List.getElem?_eq_getElem (by omega), List.getD_eq_getElem?_getD, List.getElem?_eq_getElem (by omega)]
  rfl
section
variable {P : Program} {w : World} {K : PySem.W.Frag} {mg : Str → Option Value} {base : Heap} {CD : Addr}
def spSp (K : PySem.W.Frag) : Sp := fun vs H Q _ => ∃ (c : Int) (po pn pr pc : Addr) (old new ks : List Nat) (row : List Di), vs = [.int c, .ref po, .ref pn, .ref pr, .ref pc] ∧ H po = some (.lst (bys old)) ∧ H pn = some (.lst (bys new)) ∧ RwAt H pr row ∧ H pc = some (.lst (bys ks)) ∧ (∀ k ∈ old, k < 256) ∧ (∀ k ∈ new, k < 256) ∧ old.length ≤ 300 ∧ new.length ≤ 300 ∧ LC old new ks ∧ LRow old new ks 0 row ∧
  ∀ H', Same H H' → Q (.bl true) H'
theorem ok_spr (TB : BdTxt K mg CD) (eT : PySem.W.exmOne K (.ref CD) (.ref CD) = some true) {f fLm fLg fOh fHx fSh fLs fPo : Addr} {fd fdLm fdLg fdOh fdHx fdSh fdLs fdPo : FuncData} {j k1 k2 k3 k4 k5 k6 k7 k8 : Nat} (F : Fun K "_law_spoilt_right" "_law_spoilt_right" sSpoilt f fd)
    (GLm : FnOk P w K mg base CX0 k1 fLm fdLm ["_law_numbers_here"] spLm) (bLm : Binds K fdLm ["_law_numbers_here"] []) (kLm : PySem.W.keepIn K (.ref fLm) = true) (gLm : mg "_law_mark" = some (.ref fLm)) (l1 : k1 ≤ j)
    (GLg : FnOk P w K mg base CX0 k2 fLg fdLg ["_law_row", "_law_size"] spLg2) (bLg : Binds K fdLg ["_law_row", "_law_size"] []) (kLg : PySem.W.keepIn K (.ref fLg) = true) (gLg : mg "_law_origins" = some (.ref fLg)) (l2 : k2 ≤ j)
    (GOh : FnOk P w K mg base CX0 k3 fOh fdOh ["text"] spOfHex) (bOh : Binds K fdOh ["text"] []) (kOh : PySem.W.keepIn K (.ref fOh) = true) (gOh : mg "of_hex" = some (.ref fOh)) (l3 : k3 ≤ j)
    (GHx : FnOk P w K mg base CX0 k4 fHx fdHx ["_law_numbers_here"] spHex) (bHx : Binds K fdHx ["_law_numbers_here"] []) (kHx : PySem.W.keepIn K (.ref fHx) = true) (gHx : mg "_law_hex" = some (.ref fHx)) (l4 : k4 ≤ j)
    (GSh : FnOk P w K mg base (L2N.CX P w) k5 fSh fdSh ["old", "new", "difference", "costs"] (spShN CD)) (bSh : Binds K fdSh ["old", "new", "difference", "costs"] []) (kSh : PySem.W.keepIn K (.ref fSh) = true) (gSh : mg "shown" = some (.ref fSh)) (l5 : k5 ≤ j)
    (GLs : FnOk P w K mg base CX0 k6 fLs fdLs ["_law_old", "_law_new", "_law_row", "_law_costs"] spLs) (bLs : Binds K fdLs ["_law_old", "_law_new", "_law_row", "_law_costs"] []) (kLs : PySem.W.keepIn K (.ref fLs) = true) (gLs : mg "_law_shown" = some (.ref fLs)) (l6 : k6 ≤ j)
    (GPo : FnOk P w K mg base (L2N.CX P w) k7 fPo fdPo ["old", "difference"] (spPoN CD)) (bPo : Binds K fdPo ["old", "difference"] []) (kPo : PySem.W.keepIn K (.ref fPo) = true) (gPo : mg "put_on" = some (.ref fPo)) (l7 : k7 ≤ j)
    (GMH : L2H.FnH P w K mg base CX0 k8 fLm fdLm ["_law_numbers_here"] spLm) (l8 : k8 ≤ j)
    (m1 : mg "list" = none) (m2 : mg "len" = none) (m3 : mg "max" = none) :
    FnOk P w K mg base CX0 (j + 1) f fd ["_law_cell", "_law_old", "_law_new", "_law_row", "_law_costs"] (spSp K) := by
  refine F.ok scSp (fun vs H Q E h => ?_) (fun cdv A outer s H vs Q E hr h => ?_)
  · obtain ⟨c, po, pn, pr, pc, old, new, ks, row, rfl, _⟩ := h
    rfl
  · obtain ⟨c, po, pn, pr, pc, old, new, ks, row, rfl, hpo, hpn, hpr, hpc, hko, hkn, hlo, hln, hLC, hLR, fin⟩ := h
    have hz := PySem.sizeLine_eq
    refine ⟨_, pss_cons (ps_par (i := 5) (j := 6) rfl scSp.nd rfl rfl (by decide) rfl rfl (pa_cons (pe_callTy call_list_of (by rfl) m1 (by decide +kernel) (pa_cons (pv 3) pa_nil)) (pa_cons (pe_callTy call_list_of (by rfl) m1 (by decide +kernel) (pa_cons (pv 4) pa_nil)) pa_nil)) (by rfl))
      (pss_cons (ps_if (pt_cmpR op_eq (pe_op op_modN (pv 0) pe_int) pe_int (nomark _))
          (pss_cons (ps_set (i := 7) scSp.nd rfl (.inl rfl) (pe_op op_modN (pe_op op_fdivN (pv 0) pe_int) (pe_callB call_len_seq (by rfl) m2 PySem.boot_len (pa_cons (pv 6) pa_nil))))
            (pss_one (ps_asg (pe_ix ix_list (pe_lst (pa_cons pe_non (pa_cons pe_int (pa_cons (pe_op op_add (pe_ix ix_list (pv 6) (pv 7) (fun _ _ => rfl)) pe_int) (pa_cons (pe_callB (call_max2 rfl) (by rfl) m3 (by decide +kernel) (pa_cons pe_int (pa_cons (pe_op op_sub (pe_ix ix_list (pv 6) (pv 7) (fun _ _ => rfl)) pe_int) pa_nil))) pa_nil))))) (pe_op op_modN (pe_op op_fdivN (pv 0) pe_int) pe_int) (fun _ _ => rfl)) (pg_sub (pv 6) (pv 7) set_list))))
          (pss_one (ps_if (pt_cmpR (neDK K hr.units) (pv 5) (pe_lst pa_nil) (nomark _))
            (pss_cons (ps_set (i := 7) scSp.nd rfl (.inl rfl) (pe_op op_modN (pe_op op_fdivN (pv 0) pe_int) (pe_callB call_len_seq (by rfl) m2 PySem.boot_len (pa_cons (pv 5) pa_nil))))
              (pss_one (ps_asg (pe_ix ix_list (pe_lst (pa_cons pe_int (pa_cons (pe_tup (pa_cons pe_str (pa_cons pe_int (pa_cons pe_int pa_nil)))) (pa_cons (pe_tup (pa_cons pe_str (pa_cons pe_int (pa_cons pe_int pa_nil)))) (pa_cons (pe_tup (pa_cons pe_str (pa_cons pe_int (pa_cons pe_int pa_nil)))) (pa_cons (pe_ix ix_list (pv 2) (pe_un un_neg pe_int) (fun _ _ => rfl)) pa_nil)))))) (pe_op op_modN (pe_op op_fdivN (pv 0) pe_int) pe_int) (fun _ _ => rfl)) (pg_sub (pv 5) (pv 7) set_list)))) pss_nil)))
      (pss_cons (ps_set (i := 8) scSp.nd rfl (.inl rfl) (pe_tup (pa_cons (pe_call GLm (hr.mono l1) (by rfl) gLm kLm bLm .nil pass0 (pa_cons (pv 1) pa_nil)) (pa_cons (pe_call GLm (hr.mono l1) (by rfl) gLm kLm bLm .nil pass0 (pa_cons (pv 2) pa_nil)) (pa_cons (pv 5) pa_nil)))))
      (pss_cons (ps_set (i := 9) scSp.nd rfl (.inl rfl) (pe_call GLg (hr.mono l2) (by rfl) gLg kLg bLg .nil pass0 (pa_cons (pv 5) (pa_cons (pe_callB call_len_seq (by rfl) m2 PySem.boot_len (pa_cons (pv 1) pa_nil)) pa_nil))))
      (pss_cons (ps_set (i := 10) scSp.nd rfl (.inl rfl) (pe_and (pe_cmpR op_notN (pv 9) pe_non (nomark _)) (pe_one (pe_cmpR op_eq (pe_callB call_len_seq (by rfl) m2 PySem.boot_len (pa_cons (pv 9) pa_nil)) (pe_callB call_len_seq (by rfl) m2 PySem.boot_len (pa_cons (pv 2) pa_nil)) (nomark _)))))
      (pss_cons (ps_par (i := 11) (j := 12) rfl scSp.nd rfl rfl (by decide) rfl rfl (pa_cons (pe_call GOh (hr.mono l3) (by rfl) gOh kOh bOh .nil pass0 (pa_cons (pe_call GHx (hr.mono l4) (by rfl) gHx kHx bHx .nil pass0 (pa_cons (pv 1) pa_nil)) pa_nil)) (pa_cons (pe_call GOh (hr.mono l3) (by rfl) gOh kOh bOh .nil pass0 (pa_cons (pe_call GHx (hr.mono l4) (by rfl) gHx kHx bHx .nil pass0 (pa_cons (pv 2) pa_nil)) pa_nil)) pa_nil)) (by rfl))
      (pss_cons (ps_set (i := 13) scSp.nd rfl (.inl rfl) (pe_ifExp (pt_val (pv 10)) (pe_lc (own := [("_law_one", 15)]) (g := gName 15) (tt := tYes) rfl scSp.nd (pi_list (pv 9)) (blkOk_by (N := NSp) (sc := defScope sSpoilt) (by decide +kernel)) (fun _ _ _ _ _ => pg_name (i := 15) scSp.nd rfl (.inl rfl)) (fun _ _ _ _ _ => pts_nil)
            (fun _ _ _ _ _ => pe_ifExp (pt_cmpR op_ge (pv 15) pe_int (nomark _)) (pv 15) (pe_ix (ixL K) (pv 1) (pe_op op_sub (pe_un un_neg pe_int) (pv 15)) (fun _ _ => rfl)))) (pe_lst pa_nil)))
      (pss_cons (L2N.ps_try_many (tb := _) (l := [(.ref CD, _)]) (Wout := fun _ _ _ _ => False) rfl rfl takes0N
          (fun W pn xe tk _ => pss_one (ps_set (i := 14) scSp.nd rfl (.inl rfl) (pe_callS GSh (hr.mono l5) (by rfl) gSh kSh bSh (fun σ => L2N.passAt tk σ) (pa_cons (pv 11) (pa_cons (pv 12) (pa_cons (pv 8) (pa_cons (pv 6) pa_nil)))))))
          (.cons ⟨rfl, by decide, Or.inl TB.gC⟩ (fun a oe cls d pn hz hf => pss_one (ps_ret (pe_not (pv 10)))) .nil))
      (pss_cons (ps_if (PW.pt (pw_or (pt_not (pt_val (pv 10))) (pw_or1 (pt_cmpR op_ne (pv 14) (pe_and (pe_cmpR (op_eqD hr.units) (pv 13) (pv 2) (nomark _)) (pe_one (pe_call GLs (hr.mono l6) (by rfl) gLs kLs bLs .nil pass0 (pa_cons (pv 1) (pa_cons (pv 2) (pa_cons (pv 5) (pa_cons (pv 6) pa_nil))))))) (nomark _))))) (pss_one (ps_ret pe_bl)) pss_nil)
      (pss_one (L2N.ps_try_many (tb := _) (l := [(.ref CD, _)]) (Wout := fun _ _ _ _ => False) rfl rfl takes0N
          (fun W pn xe tk _ => pss_one (ps_ret (pe_and (pe_cmpR (eqDK K hr.units) (pe_listOfB rfl (by rfl) m1 (pe_callS GPo (hr.mono l7) (by rfl) gPo kPo bPo (fun σ => L2N.passAt tk σ) (pa_cons (pv 11) (pa_cons (pv 8) pa_nil)))) (pv 13) (nomark _)) (pe_one (pe_cmpR (eqDK K hr.units) (pe_call GLm (hr.mono l1) (by rfl) gLm kLm bLm .nil pass0 (pa_cons (pv 13) pa_nil)) (pe_ix (ixT K) (pv 8) pe_int (fun _ _ => rfl)) (nomark _))))))
          (.cons ⟨rfl, by decide, Or.inl TB.gC⟩ (fun a oe cls d pn hz hf => pss_one (ps_ret (pe_cmpR (neDK K hr.units) (L2H.pe_callH (E := fun _ => E0) GMH ⟨(hr.mono l8).dp, (hr.mono l8).un⟩ (hot_suite hz hf) (by rfl) gLm kLm bLm (fun σ _ _ _ _ _ _ z => z.elim) (pa_cons (pv 13) pa_nil)) (pe_ix (ixT K) (pv 8) pe_int (fun _ _ => rfl)) (nomark _)))) .nil))))))))))), ?_⟩
    obtain ⟨us, hpr0, hus⟩ := hpr
    have hul := hus.length
    obtain ⟨hsh, hws⟩ := lrow_sh hkn (by omega) hLR
    have hrl := wsum_len hsh
    have hkl := hLC.len
    refine ⟨_, rfl, pr, _, rfl, .inl (.inl (.inl hpr0)), fun I nI => ?_⟩
    have s1 := same_upd (o := .lst us) nI
    have hI1 : (upd H I (.lst us)) I = some (.lst us) := upd_same
    generalize upd H I (.lst us) = H1 at *
    refine ⟨_, rfl, pc, _, rfl, .inl (.inl (.inl (s1 _ _ hpc))), fun O nO => ⟨_, _, rfl, ?_⟩⟩
    have s2 := same_upd (o := .lst (bys ks)) nO
    have hO2 : (upd H1 O (.lst (bys ks))) O = some (.lst (bys ks)) := upd_same
    have hI2 := s2 _ _ hI1
    have sm2 := s1.trans s2
    have nO0 := none_back s1 nO
    have nIO : I ≠ O := ne_of_none hI1 nO
    generalize upd H1 O (.lst (bys ks)) = H2 at *
    clear s1 s2 hI1 nO
    dsimp only [tNext]
    obtain ⟨M, hM⟩ : ∃ M : L2.St → Hp → Prop, M = (fun σ' H' => ∃ (y7 : Option V) (items : List Di) (other : List (Option Int)) (vs : List V), σ' = [some (.int c), some (.ref po), some (.ref pn), some (.ref pr), some (.ref pc), some (.ref I), some (.ref O), y7, none, none, none, none, none, none, none, none] ∧ Same H H' ∧ H' I = some (.lst vs) ∧ Paired (DiAt H') items vs ∧ H' O = some (.lst (other.map optV)) ∧ (∀ it ∈ items, ShI it) ∧ wsum items ≤ 303 ∧ other.length = new.length + 1 ∧ other.all nonNeg = true) := ⟨_, rfl⟩
    with_reducible refine seq_mid M (fun N hN => ?_) (fun σ3 H3 h => ?_)
    · refine ⟨_, rfl, _, _, rfl, rfl, (by show (2 : Int) ≠ 0; decide), rfl, _, rfl, ite2 (fun e => ?_) (fun e => ?_)⟩
      · obtain ⟨q, eq, hq⟩ := fmod_nat (x := c.fdiv 2) (n := ks.length) (by omega)
        refine ⟨_, rfl, _, _, rfl, rfl, ⟨by decide, by decide⟩, _, rfl, O, _, rfl, .inl (.inl (.inl hO2)), _, _, rfl, rfl, (by rw [bys_len]; omega), ?_⟩
        dsimp only [gName]
        rw [bys_len, eq]
        have hat : atI (bys ks) ((q : Nat) : Int) = some (.int ((ks.getD q 0 : Nat) : Int)) := at_of' rfl hq
        refine ⟨_, rfl, _, rfl, O, _, _, _, rfl, rfl, .inl (.inl hO2), hat, _, _, rfl, rfl, _, rfl, _, rfl, O, _, _, _, rfl, rfl, .inl (.inl hO2), hat, _, _, rfl, rfl, _, _, rfl, (by show 4 ≤ sizeLine; omega), fun L nL => ?_⟩
        obtain ⟨r, er, hr4⟩ := fmod_nat (x := c.fdiv 200) (n := 4) (by decide)
        obtain ⟨o, eo, ho⟩ := four (ks.getD q 0) r hr4 (mx := if ((ks.getD q 0 : Nat) : Int) - 1 > 0 then ((ks.getD q 0 : Nat) : Int) - 1 else 0) (by split <;> omega)
        have s3 := same_upd (o := .lst [.non, .int 0, .int (((ks.getD q 0 : Nat) : Int) + 1), .int (if ((ks.getD q 0 : Nat) : Int) - 1 > 0 then ((ks.getD q 0 : Nat) : Int) - 1 else 0)]) nL
        refine ⟨_, rfl, _, _, rfl, rfl, ⟨by decide, by decide⟩, _, _, rfl, rfl, (by show (4 : Int) ≠ 0; decide), L, _, _, optV o, rfl, rfl, .inl (.inl upd_same), er ▸ eo, ?_⟩
        have hO3 := s3 _ _ hO2
        refine ⟨_, rfl, _, rfl, O, _, _, q, rfl, rfl, hO3, ixN_natK (by rw [bys_len]; exact hq), ?_⟩
        refine hN _ _ ?_
        rw [hM]
        have sm3 := sm2.trans s3
        refine ⟨_, row, (someN ks).set q o, us, rfl, same_put sm3 nO0, by rw [upd_ne nIO]; exact s3 _ _ hI2, (hus.mono fun _ _ z => (z.same sm3).put hO3), by rw [upd_same, bys_setO], hsh, by omega, by rw [List.length_set]; unfold someN; rw [List.length_map]; exact hkl, all_set (someN_nn ks) ho⟩
      · have hI2d : RwAt H2 I row := ⟨us, hI2, hus.mono fun _ _ z => z.same sm2⟩
        refine ⟨_, rfl, Nat.zero_le _, fun z1 nz1 => ?_⟩
        have s3 := same_upd (o := .lst []) nz1
        have hz1 : (upd H2 z1 (.lst [])) z1 = some (.lst []) := upd_same
        have hI3 := hI2d.same s3
        have hI3l := s3 _ _ hI2
        have hO3 := s3 _ _ hO2
        have sm3 := sm2.trans s3
        generalize upd H2 z1 (.lst []) = H3 at *
        refine ⟨_, rowD [], dp_row hI3, .lst (ds := []) (.inl (.inl hz1)) .nil, sh_row _, sh_row _, ?_⟩
        rw [eqv_row]
        by_cases er0 : row = []
        · rw [decide_eq_true er0]
          refine ⟨_, rfl, iteF ?_⟩
          refine hN _ _ ?_
          rw [hM]
          exact ⟨_, row, someN ks, us, rfl, sm3, hI3l, hus.mono fun _ _ z => z.same sm3, by rw [someN_V]; exact hO3, hsh, by omega, by unfold someN; rw [List.length_map]; exact hkl, someN_nn ks⟩
        · rw [decide_eq_false er0]
          refine ⟨_, rfl, iteT ?_⟩
          have hr0 : 0 < row.length := List.length_pos_iff.mpr er0
          have hn0 : 0 < new.length := by omega
          obtain ⟨q, eq, hq⟩ := fmod_nat (x := c.fdiv 2) (n := us.length) (by omega)
          refine ⟨_, rfl, _, _, rfl, rfl, ⟨by decide, by decide⟩, _, rfl, I, _, rfl, .inl (.inl (.inl hI3l)), _, _, rfl, rfl, (by show ((us.length : Nat) : Int) ≠ 0; omega), ?_⟩
          dsimp only [gName]
          rw [eq]
          refine ⟨(by show 3 ≤ sizeLine; omega), fun t1 nt1 => ?_⟩
          have s4 := same_upd (o := .tup [.str "old", .int 1, .int 0]) nt1
          have ht1 : (upd H3 t1 (.tup [.str "old", .int 1, .int 0])) t1 = some (.tup [.str "old", .int 1, .int 0]) := upd_same
          generalize upd H3 t1 (.tup [.str "old", .int 1, .int 0]) = H4 at *
          refine ⟨(by show 3 ≤ sizeLine; omega), fun t2 nt2 => ?_⟩
          have s5 := same_upd (o := .tup [.str "new", .int 3, .int 1]) nt2
          have ht2 : (upd H4 t2 (.tup [.str "new", .int 3, .int 1])) t2 = some (.tup [.str "new", .int 3, .int 1]) := upd_same
          have ht1 := s5 _ _ ht1
          generalize upd H4 t2 (.tup [.str "new", .int 3, .int 1]) = H5 at *
          refine ⟨(by show 3 ≤ sizeLine; omega), fun t3 nt3 => ?_⟩
          have s6 := same_upd (o := .tup [.str "old", .int 3, .int 1]) nt3
          have ht3 : (upd H5 t3 (.tup [.str "old", .int 3, .int 1])) t3 = some (.tup [.str "old", .int 3, .int 1]) := upd_same
          have ht1 := s6 _ _ ht1
          have ht2 := s6 _ _ ht2
          generalize upd H5 t3 (.tup [.str "old", .int 3, .int 1]) = H6 at *
          have s46 := (s4.trans s5).trans s6
          have sm6 := sm3.trans s46
          refine ⟨_, rfl, 1, rfl, pn, _, -1, _, rfl, rfl, .inl (.inl (sm6 _ _ hpn)), last_at hn0, (by show 5 ≤ sizeLine; omega), fun L nL => ?_⟩
          have s7 := same_upd (o := .lst [.int 97, .ref t1, .ref t2, .ref t3, .int ((new.getD (new.length - 1) 0 : Nat) : Int)]) nL
          obtain ⟨r, er, hr5⟩ := fmod_nat (x := c.fdiv 200) (n := 5) (by decide)
          obtain ⟨v, it, ev, hd, hs1, hw1⟩ := five (H := H6) (new.getD (new.length - 1) 0) r hr5 (hkn _ (getD_mem' (by omega))) ht1 ht2 ht3
          have hI7 := s7 _ _ (s46 _ _ hI3l)
          have hO7 := s7 _ _ (s46 _ _ hO3)
          have sm7 := sm6.trans s7
          refine ⟨_, rfl, _, _, rfl, rfl, ⟨by decide, by decide⟩, _, _, rfl, rfl, (by show (5 : Int) ≠ 0; decide), L, _, _, v, rfl, rfl, .inl (.inl upd_same), er ▸ ev, ?_⟩
          refine ⟨_, rfl, _, rfl, I, _, _, q, rfl, rfl, hI7, ixN_natK hq, ?_⟩
          refine hN _ _ ?_
          rw [hM]
          refine ⟨_, row.set q it, someN ks, us.set q v, rfl, same_put sm7 nI, upd_same, (paired_set (hus.mono fun _ _ z => z.same sm7) (hd.same s7)).mono fun _ _ z => z.put hI7, by rw [upd_ne (Ne.symm nIO), someN_V]; exact hO7, sh_set hsh hs1, by have := wsum_set row q it; omega, by unfold someN; rw [List.length_map]; exact hkl, someN_nn ks⟩
    rw [hM] at h
    obtain ⟨y7, items, other, vs, rfl, sm3, hI, hps, hO, hsh3, hws3, hol3, hnn3⟩ := h
    clear hM M hI2 hO2 hul hrl hws hsh hus
    have hil := wsum_len hsh3
    refine ⟨_, rfl, po, old, rfl, sm3 _ _ hpo, hko, by omega, fun H4 a s4 na hma => ?_⟩
    refine ⟨_, rfl, pn, new, rfl, (sm3.trans s4) _ _ hpn, hkn, by omega, fun H5 b s5 nb hmb => ?_⟩
    refine ⟨_, rfl, (by show 3 ≤ sizeLine; omega), fun tl ntl => ?_⟩
    have s6 := same_upd (o := .tup [.ref a, .ref b, .ref I]) ntl
    have s46 := (s4.trans s5).trans s6
    obtain ⟨d, hd⟩ : ∃ d : Dfv, d = ⟨(old.length, mrk old), (new.length, mrk new), items⟩ := ⟨_, rfl⟩
    have hdl : DfAt (upd H5 tl (.tup [.ref a, .ref b, .ref I])) tl ⟨a, b, I⟩ d := by
      rw [hd]
      exact ⟨upd_same, (s5.trans s6) _ _ hma, s6 _ _ hmb, vs, s46 _ _ hI, hps.mono fun _ _ z => z.same s46⟩
    have hO6 := s46 _ _ hO
    have sm6 := sm3.trans s46
    clear hma hmb hI hps hO s46 s6 s5 s4
    generalize upd H5 tl (.tup [.ref a, .ref b, .ref I]) = H6 at *
    dsimp only [gName]
    obtain ⟨M, hM⟩ : ∃ M : L2.St → Hp → Prop, M = (fun σ' H' => ∃ (vS : V), σ' = [some (.int c), some (.ref po), some (.ref pn), some (.ref pr), some (.ref pc), some (.ref I), some (.ref O), y7, some (.ref tl), some vS, none, none, none, none, none, none] ∧ Same H6 H' ∧ ((fitR old.length 0 items = none ∧ vS = .non) ∨ ∃ (S : Addr) (n : Nat), fitR old.length 0 items = some n ∧ vS = .ref S ∧ H' S = some (.lst (ogV (orig items))))) := ⟨_, rfl⟩
    with_reducible refine seq_mid M (fun N hN => ?_) (fun σ7 H7 h => ?_)
    · refine ⟨_, rfl, _, rfl, po, _, rfl, .inl (.inl (.inl (sm6 _ _ hpo))), I, items, old.length, by rw [bys_len]; rfl, by have := hdl.2.2.2; rw [hd] at this; exact this, hsh3, by omega, fun n hfit H7 S s7 nS hS => ?_, fun hfit H7 s7 => ?_⟩
      · refine hN _ _ ?_
        rw [hM]
        exact ⟨.ref S, rfl, s7, .inr ⟨S, n, hfit, rfl, hS⟩⟩
      · refine hN _ _ ?_
        rw [hM]
        exact ⟨.non, rfl, s7, .inl ⟨hfit, rfl⟩⟩
    rw [hM] at h
    obtain ⟨vS, rfl, s7, hvS⟩ := h
    clear hM M
    have hdl := hdl.same s7
    have hO7 := s7 _ _ hO6
    have sm7 := sm6.trans s7
    clear hO6 s7
    obtain ⟨fb, hfb⟩ : ∃ fb, fb = decide (fitR old.length 0 items = some new.length) := ⟨_, rfl⟩
    obtain ⟨M, hM⟩ : ∃ M : L2.St → Hp → Prop, M = (fun σ' H' => σ' = [some (.int c), some (.ref po), some (.ref pn), some (.ref pr), some (.ref pc), some (.ref I), some (.ref O), y7, some (.ref tl), some vS, some (.bl fb), none, none, none, none, none] ∧ H' = H7) := ⟨_, rfl⟩
    with_reducible refine seq_mid M (fun N hN => ?_) (fun σ8 H8 h => ?_)
    · rcases hvS with ⟨hf, rfl⟩ | ⟨S, n, hf, rfl, hS⟩
      · refine ⟨_, rfl, rfl, _, rfl, iteF ?_⟩
        refine hN _ _ ?_
        rw [hM, hfb, hf, decide_eq_false (fun z => by cases z)]
        exact ⟨rfl, rfl⟩
      · obtain ⟨hol, hoo⟩ := orig_ok (acc := []) (fun o z => by cases z) hf
        have hol : (orig items).length = n := hol
        refine ⟨_, rfl, rfl, _, rfl, iteT ?_⟩
        refine ⟨_, rfl, S, _, rfl, .inl (.inl (.inl hS)), _, rfl, pn, _, rfl, .inl (.inl (.inl (sm7 _ _ hpn))), rfl, ?_⟩
        have e9 : decide (V.int (((ogV (orig items)).length : Nat) : Int) = V.int (((bys new).length : Nat) : Int)) = fb := by
          rw [hfb, hf, ogV_len, bys_len, hol]
          by_cases z : n = new.length
          · rw [z, decide_eq_true rfl, decide_eq_true rfl]
          · rw [decide_eq_false (fun y => by injection y with y; omega), decide_eq_false (fun y => z (Option.some.inj y))]
        refine hN _ _ ?_
        rw [hM]
        refine ⟨?_, rfl⟩
        rw [← e9]
        rfl
    rw [hM] at h
    obtain ⟨rfl, rfl⟩ := h
    clear hM M
    refine ⟨_, rfl, po, old, rfl, by rw [sm7 _ _ hpo, bys_eq], hko, by omega, fun H9 s9 => ⟨old, rfl, hko, by omega, fun H10 s10 => ?_⟩⟩
    have sm10 := (sm7.trans s9).trans s10
    refine ⟨_, rfl, pn, new, rfl, by rw [sm10 _ _ hpn, bys_eq], hkn, by omega, fun H11 s11 => ⟨new, rfl, hkn, by omega, fun H12 s12 => ⟨_, _, rfl, ?_⟩⟩⟩
    have s812 := ((s9.trans s10).trans s11).trans s12
    have sm12 := sm7.trans s812
    have hdl := hdl.same s812
    have hO12 := s812 _ _ hO7
    clear hO7 s9 s10 s11 s12 sm10
    dsimp only [tNext]
    obtain ⟨md, hmd⟩ : ∃ md : List Nat, md = if fb = true then makeB (orig items) old else [] := ⟨_, rfl⟩
    have hfit : fb = true → fitR old.length 0 items = some new.length := fun z => of_decide_eq_true (hfb ▸ z)
    have hog : fb = true → (orig items).length = new.length ∧ ∀ o ∈ orig items, OgOk old.length o := fun z => by
      obtain ⟨g1, g2⟩ := orig_ok (acc := []) (fun o z => by cases z) (hfit z)
      exact ⟨g1, g2⟩
    have hmk : ∀ k ∈ md, k < 256 := fun k hk => by
      rw [hmd] at hk
      split at hk
      · rename_i z
        exact makeB_lt hko (hog z).2 k hk
      · cases hk
    have hml : md.length ≤ 300 := by
      rw [hmd]
      split
      · rename_i z
        rw [makeB_len, (hog z).1]
        exact hln
      · exact Nat.zero_le _
    obtain ⟨M, hM⟩ : ∃ M : L2.St → Hp → Prop, M = (fun σ' H' => ∃ (Md : Addr), σ' = [some (.int c), some (.ref po), some (.ref pn), some (.ref pr), some (.ref pc), some (.ref I), some (.ref O), y7, some (.ref tl), some vS, some (.bl fb), some (.byt (byB old)), some (.byt (byB new)), some (.ref Md), none, none] ∧ Same H12 H' ∧ H' Md = some (.lst (bys md))) := ⟨_, rfl⟩
    with_reducible refine seq_mid M (fun N hN => ?_) (fun σ13 H13 h => ?_)
    · refine ⟨_, rfl, fb, rfl, ?_⟩
      cases efb : fb with
      | false =>
        refine iteF ?_
        refine ⟨Nat.zero_le _, fun z nz => ?_⟩
        refine hN _ _ ?_
        rw [hM]
        exact ⟨z, by rw [efb]; rfl, same_upd nz, by rw [hmd, efb]; exact upd_same⟩
      | true =>
        refine iteT ?_
        obtain ⟨g1, oo⟩ := hog efb
        rcases hvS with ⟨hf, rfl⟩ | ⟨S, n, hf, rfl, hS⟩
        · rw [hfit efb] at hf; cases hf
        have hqs := s812 _ _ hS
        have hqo := sm12 _ _ hpo
        refine ⟨_, rfl, S, rfl, ⟨_, .inl (.inl hqs)⟩, fun B nB => ?_⟩
        refine lc_list (K := K) (a := S) (xs := ogV (orig items)) (fun i H' => Same H12 H' ∧ H' B = some (.lst (((orig items).map (fun o => V.int ((byteO old o : Nat) : Int))).take i))) ⟨same_upd nB, by rw [upd_same]; rfl⟩ (fun i H' _ h => .inl (.inl (h.1 _ _ hqs))) (fun i x' H' hx' h => ?_) (fun H' h => ?_)
        · obtain ⟨s5, hB⟩ := h
          have hi : i < (orig items).length := by have := (List.getElem?_eq_some_iff.mp hx').1; rw [ogV_len] at this; exact this
          have ex : x' = .int (ogI (orig items)[i]) := by
            unfold ogV at hx'
            rw [List.getElem?_map, List.getElem?_eq_getElem hi] at hx'
            exact (Option.some.inj hx').symm
          subst ex
          have eo : ((orig items).map (fun o => V.int ((byteO old o : Nat) : Int)))[i]? = some ((fun o => V.int ((byteO old o : Nat) : Int)) (orig items)[i]) := by rw [List.getElem?_map, List.getElem?_eq_getElem hi]; rfl
          rw [take_snocG eo]
          have hok := oo (orig items)[i] (List.getElem_mem hi)
          have hsz : (((orig items).map (fun o => V.int ((byteO old o : Nat) : Int))).take i).length < sizeLine := by
            rw [List.length_take, List.length_map]
            omega
          clear hx' eo
          generalize (orig items)[i] = o at *
          refine ⟨rfl, yes ?_⟩
          cases o with
          | b k =>
            exact ⟨_, rfl, _, _, rfl, rfl, _, rfl, iteC (decide_eq_true (show (0 : Int) ≤ (k : Int) by omega)) ⟨_, rfl, _, hB, hsz, same_put s5 nB, by rw [upd_same] <;> rfl⟩⟩
          | o pl =>
            refine ⟨_, rfl, _, _, rfl, rfl, _, rfl, ite2 (fun e => absurd (of_decide_eq_true e) (by show ¬ (0 : Int) ≤ -1 - (pl : Int); omega)) (fun _ => ?_)⟩
            exact ⟨_, rfl, 1, rfl, _, rfl, _, _, rfl, rfl, po, _, _, (fun o => V.int ((byteO old o : Nat) : Int)) (.o pl), rfl, rfl, .inl (.inl (s5 _ _ hqo)), og_at (bys_getV hok), _, hB, hsz, same_put s5 nB, by rw [upd_same] <;> rfl⟩
        · obtain ⟨s5, hB⟩ := h
          rw [ogV_len, ← List.length_map (f := fun o => V.int ((byteO old o : Nat) : Int)) (as := (orig items)), List.take_length, ← makeB_V] at hB
          refine hN _ _ ?_
          rw [hM]
          exact ⟨B, by rw [efb]; rfl, s5, by rw [hmd, efb]; exact hB⟩
    rw [hM] at h
    obtain ⟨Md, rfl, s13, hMd⟩ := h
    clear hM M hvS
    have hdl := hdl.same s13
    have hO13 := s13 _ _ hO12
    have sm13 := sm12.trans s13
    clear hO12 s13
    have dL : d.Low := by
      rw [hd]
      exact ⟨by show old.length ≤ 2000; omega, mrk_lt _, by show new.length ≤ 2000; omega, mrk_lt _, by show items.length ≤ 2000; omega⟩
    have dok : d.ok = fb := by rw [hd, hfb]; rfl
    have bM : d.old = (old.length, mrk old) ∧ d.new = (new.length, mrk new) ∧ d.row = items := by rw [hd]; exact ⟨rfl, rfl, rfl⟩
    refine ⟨_, rfl, _, rfl, _, rfl, _, rfl, tl, ⟨a, b, I⟩, d, old, new, O, other, rfl, hdl, dL, ⟨hko, by omega, hkn, by omega⟩, hO13, by omega, fun hok H14 bb s14 hbb => ?_, fun hok => ?_⟩
    · have efb : fb = true := dok.symm.trans hok
      have emd : md = makeB (orig items) old := by rw [hmd, efb]; rfl
      have hdl := hdl.same s14
      have hO14 := s14 _ _ hO13
      have hMd := s14 _ _ hMd
      have sm14 := sm13.trans s14
      clear hO13 s14
      have hpn14 := sm14 _ _ hpn
      dsimp only [gName]
      obtain ⟨M, hM⟩ : ∃ M : L2.St → Hp → Prop, M = (fun σ' H' => σ' = [some (.int c), some (.ref po), some (.ref pn), some (.ref pr), some (.ref pc), some (.ref I), some (.ref O), y7, some (.ref tl), some vS, some (.bl fb), some (.byt (byB old)), some (.byt (byB new)), some (.ref Md), some (.bl bb), none] ∧ Same H14 H') := ⟨_, rfl⟩
      with_reducible refine seq_mid M (fun N hN => ?_) (fun σ15 H15 h => ?_)
      · refine ⟨_, rfl, fb, rfl, iteC2 (by rw [efb]; rfl) ?_⟩
        refine ⟨_, rfl, _, rfl, _, rfl, _, _, .lst (.inl (.inl hMd)) (dp_ints _), .lst (.inl (.inl hpn14)) (dp_ints _), shaped_intsQ _, shaped_intsQ _, ?_⟩
        rw [eqv_ints]
        by_cases emn : md = new
        · rw [emn, decide_eq_true rfl]
          refine ⟨_, rfl, iteT ?_⟩
          refine ⟨_, rfl, _, rfl, _, rfl, _, rfl, po, pn, I, O, old, new, items, other, rfl, sm14 _ _ hpo, hpn14, by have := hdl.2.2.2; rw [hd] at this; exact this, hO14, hlo, hln, by omega, hol3, hnn3, fun H15 b2 s15 hb2 => ?_⟩
          have e2 : bb = b2 := by
            have : (bb = true ↔ b2 = true) := by
              rw [hbb, hb2]
              constructor
              · rintro ⟨_, _, _, g4, g5, g6⟩
                unfold areC at g4
                rw [Bool.and_eq_true, Bool.and_eq_true] at g4
                exact ⟨of_decide_eq_true g4.2.2, by rw [← bM.2.2]; exact g5, g6⟩
              · rintro ⟨g1, g2, g3⟩
                refine ⟨bM.1, bM.2.1, by rw [bM.2.2, ← emd]; exact emn, ?_, by rw [bM.2.2]; exact g2, g3⟩
                unfold areC
                rw [decide_eq_true hol3, hnn3, decide_eq_true g1]
                rfl
            cases bb <;> cases b2 <;> simp_all
          refine ⟨rfl, _, rfl, iteC2 (by rw [e2]; show (!decide (V.bl b2 = V.bl b2)) = false; rw [decide_eq_true rfl]; rfl) ?_⟩
          refine hN _ _ ?_
          rw [hM]
          exact ⟨rfl, s15⟩
        · rw [decide_eq_false (fun z => emn (nat_list z))]
          refine ⟨_, rfl, iteF ?_⟩
          have e2 : bb = false := by
            cases e : bb with
            | false => rfl
            | true =>
              have := (hbb.mp e).2.2.1
              rw [bM.2.2, ← emd] at this
              exact absurd this emn
          refine ⟨rfl, _, rfl, iteC2 (by rw [e2]; show (!decide (V.bl false = V.bl false)) = false; rw [decide_eq_true rfl]; rfl) ?_⟩
          refine hN _ _ ?_
          rw [hM]
          exact ⟨rfl, Same.refl _⟩
      rw [hM] at h
      obtain ⟨rfl, s15⟩ := h
      clear hM M
      have hdl := hdl.same s15
      have hMd := s15 _ _ hMd
      have sm15 := sm14.trans s15
      clear hO14 s15 hpn14
      have hmo := (hog efb)
      have hmk2 : makeB (orig d.row) old = md := by rw [bM.2.2, emd]
      refine ⟨_, rfl, _, rfl, tl, ⟨a, b, I⟩, d, old, rfl, hdl, dL, hko, by omega, fun hg H16 s16 => ?_, fun hg H16 s16 => ?_⟩
      · rw [hmk2]
        refine ⟨_, rfl, by rw [byB_size]; omega, fun qa nqa => ?_⟩
        have s17 := same_upd (o := .lst ((bi (byB md)).map V.int)) nqa
        have hqa : (upd H16 qa (.lst ((bi (byB md)).map V.int))) qa = some (.lst (bys md)) := by rw [upd_same, bi_byB hmk]
        have s167 := s16.trans s17
        have hMd := s167 _ _ hMd
        have hdl := hdl.same s167
        have sm17 := sm15.trans s167
        generalize upd H16 qa (.lst ((bi (byB md)).map V.int)) = H17 at *
        refine ⟨_, rfl, _, _, .lst (.inl (.inl hqa)) (dp_ints _), .lst (.inl (.inl hMd)) (dp_ints _), shaped_intsQ _, shaped_intsQ _, ?_⟩
        rw [eqv_ints, decide_eq_true rfl]
        refine ⟨_, rfl, iteT ?_⟩
        refine ⟨_, rfl, Md, md, rfl, hMd, hmk, by omega, fun H18 m s18 nm hmm => ?_⟩
        have hdl := hdl.same s18
        refine ⟨_, rfl, tl, _, 1, _, rfl, rfl, .inl (.inl hdl.1), rfl, _, _, dp_mk hmm, dp_mk hdl.2.2.1, sh_mk _, sh_mk _, ?_⟩
        rw [eqv_mk, decide_eq_true (by rw [hg.2.2, hmk2])]
        exact fin _ (sm17.trans s18)
      · refine ⟨true, eT, fun _ a0 ha0 => ?_, fun z => Bool.noConfusion z⟩
        have hMd := s16 _ _ hMd
        have hdl := hdl.same s16
        have sm16 := sm15.trans s16
        refine ⟨_, rfl, Md, md, rfl, hMd, hmk, by omega, fun H18 m s18 nm hmm => ?_⟩
        have hdl := hdl.same s18
        refine ⟨_, rfl, tl, _, 1, _, rfl, rfl, .inl (.inl hdl.1), rfl, _, _, dp_mk hmm, dp_mk hdl.2.2.1, sh_mk _, sh_mk _, ?_⟩
        rw [eqv_mk, decide_eq_false (fun z => hg ⟨dok.trans efb, bM.1, by rw [hmk2]; exact z.symm⟩)]
        exact fin _ (sm16.trans s18)
    · have efb : fb = false := dok.symm.trans hok
      refine ⟨true, eT, fun _ a0 ha0 => ?_, fun z => Bool.noConfusion z⟩
      refine ⟨_, rfl, fb, rfl, ?_⟩
      rw [efb]
      exact fin _ sm13
end
end K9

namespace K9
open PySem PySem.Spec PyProof.Rows L2
/-! ### the least row makes the new bytes, and costs what the first place costs -/
theorem take_succN {e : List Nat} {n : Nat} (h : n < e.length) : e.take (n + 1) = e.take n ++ [e.getD n 0] := by
  rw [List.take_add_one, List.getElem?_eq_getElem h, List.getD_eq_getElem?_getD, List.getElem?_eq_getElem h]
  rfl
theorem makeB_app (a b : List Og) (old : List Nat) : makeB (a ++ b) old = makeB a old ++ makeB b old := List.map_append
theorem slice_get {e f : List Nat} {s i m t : Nat} (h : sliceN e s m = sliceN f i m) (ht : t < m) (h1 : s + m ≤ e.length) (h2 : i + m ≤ f.length) : e.getD (s + t) 0 = f.getD (i + t) 0 := by
  have e1 : ∀ (g : List Nat) (q : Nat), q + m ≤ g.length → (sliceN g q m)[t]? = some (g.getD (q + t) 0) := fun g q hg => by
    unfold sliceN
    rw [List.getElem?_take, if_pos ht, List.getElem?_drop, List.getElem?_eq_getElem (by omega), List.getD_eq_getElem?_getD, List.getElem?_eq_getElem (by omega)]
    rfl
  have := e1 e s h1
  rw [h, e1 f i h2] at this
  exact (Option.some.inj this).symm
theorem make_olds {old new : List Nat} {a p : Nat} : ∀ m, a + m ≤ new.length → (∀ t, t < m → old.getD (p + t) 0 = new.getD (a + t) 0) → makeB ((List.range m).map fun t => Og.o (p + t)) old = (new.drop a).take m
  | 0, _, _ => rfl
  | m + 1, hm, h => by
    rw [List.range_succ, List.map_append, makeB_app, make_olds m (by omega) fun t ht => h t (by omega)]
    show (new.drop a).take m ++ [old.getD (p + m) 0] = _
    rw [h m (Nat.lt_succ_self m)]
    exact (slice_succ (e := new) (s := a) (m := m) (by omega)).symm
theorem take_drop_take {e : List Nat} {a m : Nat} : e.take a ++ (e.drop a).take m = e.take (a + m) := by
  rw [List.take_add]
theorem make_news {old new : List Nat} {a p : Nat} (hp : 1 ≤ p) (hpa : p ≤ a) {acc : List Og} (ha : makeB acc old = new.take a) (hl : acc.length = a) : ∀ m, a + m ≤ new.length → (∀ t, t < m → new.getD (a - p + t) 0 = new.getD (a + t) 0) → makeB (copyO p m acc) old = new.take (a + m)
  | 0, _, _ => ha
  | m + 1, hm, h => by
    have ih := make_news hp hpa ha hl m (by omega) fun t ht => h t (by omega)
    have hcl : (copyO p m acc).length = a + m := by rw [copyO_len, hl]
    rw [copyO_succ, makeB_app, ih, hcl]
    show new.take (a + m) ++ [byteO old ((copyO p m acc).getD (a + m - p) ogD)] = new.take (a + m + 1)
    rw [take_succN (by omega)]
    congr 2
    have e1 : (makeB (copyO p m acc) old)[a + m - p]? = some (byteO old ((copyO p m acc).getD (a + m - p) ogD)) := by
      unfold makeB
      rw [List.getElem?_map, List.getElem?_eq_getElem (by omega), List.getD_eq_getElem?_getD, List.getElem?_eq_getElem (by omega)]
      rfl
    rw [ih, List.getElem?_take, if_pos (by omega), List.getElem?_eq_getElem (by omega)] at e1
    rw [← Option.some.inj e1, ← h m (Nat.lt_succ_self m), List.getD_eq_getElem?_getD, show a - p + m = a + m - p by omega, List.getElem?_eq_getElem (by omega)]
    rfl
theorem make_step {old new ks : List Nat} {a : Nat} {it : Di} {acc : List Og} (ha : a < new.length) (h : LTake old new ks a it) (hm : makeB acc old = new.take a) (hl : acc.length = a) : makeB (origS acc it) old = new.take (a + wideI it) := by
  rcases h with ⟨_, rfl⟩ | ⟨_, h, _⟩
  · show makeB (acc ++ [Og.b (new.getD a 0)]) old = new.take (a + 1)
    rw [makeB_app, hm, take_succN ha]
    rfl
  · match it, h with
    | .c true m p, h => exact make_news h.2.2.2.1 h.2.2.2.2.1 hm hl m h.2.2.1 fun t ht => slice_get h.2.2.2.2.2 ht (by have := h.2.2.1; omega) h.2.2.1
    | .c false m p, h =>
      show makeB (acc ++ _) old = new.take (a + m)
      rw [makeB_app, hm, make_olds m h.2.2.1 fun t ht => slice_get h.2.2.2.2 ht h.2.2.2.1 h.2.2.1, take_drop_take]
theorem lrow_make {old new ks : List Nat} : ∀ {r : List Di} {s : Nat} {acc : List Og}, makeB acc old = new.take s → acc.length = s → LRow old new ks s r → makeB (r.foldl origS acc) old = new
  | [], s, acc, h, hl, e => by
    have e : s = new.length := e
    show makeB acc old = new
    rw [h, e, List.take_length]
  | it :: r, s, acc, h, hl, ⟨h1, h2, h3⟩ => by
    refine lrow_make (r := r) (make_step h1 h2 h hl) ?_ h3
    rw [origS_len, hl]
theorem row_makes {old new ks : List Nat} {r : List Di} (h : LRow old new ks 0 r) : makeB (orig r) old = new := lrow_make (acc := []) rfl rfl h
theorem row_costs {old new ks : List Nat} (L : LC old new ks) : ∀ {r : List Di} {s : Nat}, LRow old new ks s r → bitsD r = ks.getD s 0
  | [], s, h => by
    have h : s = new.length := h
    rw [h, L.last]
    rfl
  | it :: r, s, ⟨h1, h2, h3⟩ => by
    show cI it + bitsD r = _
    rw [row_costs L h3]
    rcases h2 with ⟨g, rfl⟩ | ⟨_, _, g, _⟩
    · exact g
    · exact g
theorem lc_nic {old new ks : List Nat} (L : LC old new ks) : NIC old new (someN ks) := ⟨ks, rfl, fun a ha => ⟨(L.step a ha).byte, (L.step a ha).copy⟩⟩
theorem fit_of {old new ks : List Nat} (hk : ∀ k ∈ new, k < 256) (hl : new.length ≤ 2000) : ∀ {r : List Di} {s : Nat}, LRow old new ks s r → fitR old.length s r = some new.length
  | [], s, h => by
    have h : s = new.length := h
    rw [h]
    rfl
  | it :: r, s, ⟨h1, h2, h3⟩ => by
    have hf : fitI old.length s it = true := by
      rcases h2 with ⟨_, rfl⟩ | ⟨_, h, _⟩
      · exact decide_eq_true (hk _ (getD_mem' h1))
      · match it, h with
        | .c true m p, h => exact decide_eq_true ⟨h.1, h.2.1, h.2.2.2.1, by have := h.2.2.2.2.1; omega⟩
        | .c false m p, h => exact decide_eq_true ⟨h.1, h.2.1, h.2.2.2.1⟩
    show (if fitI old.length s it = true then fitR old.length (s + wideI it) r else none) = _
    rw [if_pos hf]
    exact fit_of hk hl h3
theorem sh_ok {old new ks : List Nat} {r : List Di} (L : LC old new ks) (h : LRow old new ks 0 r) : shOk old new ⟨(old.length, mrk old), (new.length, mrk new), r⟩ (someN ks) := by
  refine ⟨rfl, rfl, row_makes h, ?_, ?_, lc_nic L⟩
  · unfold areC
    have hl : (someN ks).length = ks.length := List.length_map _
    have e : (someN ks).getD ((someN ks).length - 1) none = some 0 := by
      rw [hl, L.len]
      show (someN ks).getD new.length none = some 0
      unfold someN
      rw [List.getD_eq_getElem?_getD, List.getElem?_map, List.getElem?_eq_getElem (by rw [L.len]; omega)]
      have := L.last
      rw [List.getD_eq_getElem?_getD, List.getElem?_eq_getElem (by rw [L.len]; omega)] at this
      show some (((ks[new.length]'(by rw [L.len]; omega)) : Nat) : Int) = some 0
      rw [show ks[new.length]'(by rw [L.len]; omega) = 0 from this]
      rfl
    rw [e, hl, L.len, decide_eq_true rfl, someN_nn, decide_eq_true rfl]
    rfl
  · rw [row_costs L h]
    unfold someN
    rw [List.getD_eq_getElem?_getD, List.getElem?_map, List.getD_eq_getElem?_getD, List.getElem?_eq_getElem (by rw [L.len]; omega)]
    rfl
end K9

namespace K9
open PySem PySem.Spec PyProof.Rows L2
/-! ### _law_all_right -/
abbrev NAl : List Str := ["_law_script", "_law_k", "_law_old", "_law_new", "_law_costs", "_law_row", "_law_data_here", "_law_late", "_law_due", "_law_turn"]
theorem scAl : FnScope NAl ["_law_script"] (defScope sAll) := ⟨rfl, rfl, rfl, by decide +kernel, rfl, by decide +kernel, by decide +kernel⟩
def dueD (d : Dfv) (cs : List Nat) : PyData := .tuple [dfD d, .list ((cs.map fun (k : Nat) => (k : Int)).map .int)]
theorem eqv_due (a b : Dfv) (cs ds : List Nat) : PyData.eqv (dueD a cs) (dueD b ds) = decide ((a.old = b.old ∧ a.new = b.new ∧ a.row = b.row) ∧ (cs.map fun (k : Nat) => (k : Int)) = ds.map fun (k : Nat) => (k : Int)) := by
  unfold dueD
  rw [PyData.eqv, PyData.eqvAll, eqv_df, PyData.eqvAll, eqv_ints, PyData.eqvAll]
  by_cases h1 : a.old = b.old ∧ a.new = b.new ∧ a.row = b.row <;> by_cases h2 : (cs.map fun (k : Nat) => (k : Int)) = ds.map fun (k : Nat) => (k : Int) <;> simp [h1, h2]
theorem sh_due (d : Dfv) (cs : List Nat) : SeqAt.shaped (dueD d cs) = true := by
  have h1 := sh_df d
  have h2 := shaped_intsQ (cs.map fun (k : Nat) => (k : Int))
  unfold SeqAt.shaped at *
  rw [Bool.and_eq_true] at *
  have hd : (dfD d).depth ≤ 63 := by
    have g1 := dep_mk d.old
    have g2 := dep_mk d.new
    have g3 := dep_dis d.row
    show PyData.depth (.tuple [mkD d.old, mkD d.new, .list (d.row.map diD)]) ≤ 63
    simp only [PyData.depth, PyData.depthAll, g1, g2]
    omega
  have hi : PyData.depth (.list ((cs.map fun (k : Nat) => (k : Int)).map .int)) ≤ 63 := by
    have := PySem.W.depth_ints (cs.map fun (k : Nat) => (k : Int))
    simp only [PyData.depth, this]
    omega
  refine ⟨?_, decide_eq_true ?_⟩
  · show ((dfD d).canLay0 && ((PyData.list ((cs.map fun (k : Nat) => (k : Int)).map .int)).canLay0 && true)) = true
    rw [h1.1, h2.1]
    rfl
  · show PyData.depth (.tuple [dfD d, .list ((cs.map fun (k : Nat) => (k : Int)).map .int)]) ≤ 64
    generalize dfD d = x at *
    generalize PyData.list ((cs.map fun (k : Nat) => (k : Int)).map .int) = y at *
    simp only [PyData.depth, PyData.depthAll]
    omega
def spAl (K : PySem.W.Frag) : Sp := fun vs H Q _ => ∃ (p : Addr) (xs : List Int), vs = [.ref p] ∧ SqL K H p (xs.map V.int) ∧ ∀ H', Q (.bl true) H'
section
variable {P : Program} {w : World} {K : PySem.W.Frag} {mg : Str → Option Value} {base : Heap} {CD : Addr}
theorem ok_al (TB : BdTxt K mg CD) (eT : PySem.W.exmOne K (.ref CD) (.ref CD) = some true) {f fPa fC fDs fLm fOh fHx fPo fDi fSh fSp : Addr} {fd fdPa fdC fdDs fdLm fdOh fdHx fdPo fdDi fdSh fdSp : FuncData} {j k1 k2 k3 k4 k5 k6 k7 k8 k9 k10 k11 k12 k13 : Nat} (F : Fun K "_law_all_right" "_law_all_right" sAll f fd)
    (GPa : FnOk P w K mg base CX0 k1 fPa fdPa ["_law_script", "_law_at"] (spPa K)) (bPa : Binds K fdPa ["_law_script", "_law_at"] []) (kPa : PySem.W.keepIn K (.ref fPa) = true) (gPa : mg "_law_pair" = some (.ref fPa)) (l1 : k1 ≤ j)
    (GC : FnOk P w K mg base CX0 k2 fC fdC ["_law_script", "_law_k"] (K9.spCell K)) (bC : Binds K fdC ["_law_script", "_law_k"] []) (kC : PySem.W.keepIn K (.ref fC) = true) (gC : mg "_law_cell_at" = some (.ref fC)) (l2 : k2 ≤ j)
    (GDs : FnOk P w K mg base CX0 k3 fDs fdDs ["_law_old", "_law_new"] spDs) (bDs : Binds K fdDs ["_law_old", "_law_new"] []) (kDs : PySem.W.keepIn K (.ref fDs) = true) (gDs : mg "_law_diff_searched" = some (.ref fDs)) (l3 : k3 ≤ j)
    (GLm : FnOk P w K mg base CX0 k4 fLm fdLm ["_law_numbers_here"] spLm) (bLm : Binds K fdLm ["_law_numbers_here"] []) (kLm : PySem.W.keepIn K (.ref fLm) = true) (gLm : mg "_law_mark" = some (.ref fLm)) (l4 : k4 ≤ j)
    (GOh : FnOk P w K mg base CX0 k5 fOh fdOh ["text"] spOfHex) (bOh : Binds K fdOh ["text"] []) (kOh : PySem.W.keepIn K (.ref fOh) = true) (gOh : mg "of_hex" = some (.ref fOh)) (l5 : k5 ≤ j)
    (GHx : FnOk P w K mg base CX0 k6 fHx fdHx ["_law_numbers_here"] spHex) (bHx : Binds K fdHx ["_law_numbers_here"] []) (kHx : PySem.W.keepIn K (.ref fHx) = true) (gHx : mg "_law_hex" = some (.ref fHx)) (l6 : k6 ≤ j)
    (GPo : FnOk P w K mg base CX0 k7 fPo fdPo ["old", "difference"] spPo) (bPo : Binds K fdPo ["old", "difference"] []) (kPo : PySem.W.keepIn K (.ref fPo) = true) (gPo : mg "put_on" = some (.ref fPo)) (l7 : k7 ≤ j)
    (GDi : FnOk P w K mg base CX0 k8 fDi fdDi ["old", "new"] spDi) (bDi : Binds K fdDi ["old", "new"] []) (kDi : PySem.W.keepIn K (.ref fDi) = true) (gDi : mg "difference" = some (.ref fDi)) (l8 : k8 ≤ j)
    (GSh : FnOk P w K mg base CX0 k9 fSh fdSh ["old", "new", "difference", "costs"] spSh) (bSh : Binds K fdSh ["old", "new", "difference", "costs"] []) (kSh : PySem.W.keepIn K (.ref fSh) = true) (gSh : mg "shown" = some (.ref fSh)) (l9 : k9 ≤ j)
    (GSp : FnOk P w K mg base CX0 k10 fSp fdSp ["_law_cell", "_law_old", "_law_new", "_law_row", "_law_costs"] (spSp K)) (bSp : Binds K fdSp ["_law_cell", "_law_old", "_law_new", "_law_row", "_law_costs"] []) (kSp : PySem.W.keepIn K (.ref fSp) = true) (gSp : mg "_law_spoilt_right" = some (.ref fSp)) (l10 : k10 ≤ j)
    (GPN : FnOk P w K mg base (L2N.CX P w) k11 fPo fdPo ["old", "difference"] (spPoN CD)) (l11 : k11 ≤ j)
    (GPH : L2H.FnH P w K mg base CX0 k12 fPo fdPo ["old", "difference"] spPo) (l12 : k12 ≤ j)
    (GDH : L2H.FnH P w K mg base CX0 k13 fDi fdDi ["old", "new"] spDi) (l13 : k13 ≤ j)
    (m1 : mg "range" = none) :
    FnOk P w K mg base CX0 (j + 1) f fd ["_law_script"] (spAl K) := by
  refine F.ok scAl (fun vs H Q E h => ?_) (fun cdv A outer s H vs Q E hr h => ?_)
  · obtain ⟨p, xs, rfl, _⟩ := h
    rfl
  · obtain ⟨p, xs, rfl, hp, q⟩ := h
    have hz := PySem.sizeLine_eq
    refine ⟨_, pss_cons (ps_for PassesOwn.never rfl (pi_range1 (by rfl) m1 (pa_cons pe_int pa_nil)) (pg_name (i := 1) scAl.nd rfl (.inl rfl))
        (pss_cons (ps_asg (pe_call GPa (hr.mono l1) (by rfl) gPa kPa bPa .nil pass0 (pa_cons (pv 0) (pa_cons (pe_op op_mul pe_int (pv 1)) pa_nil))) (pg_tup (by rfl) (pgs_cons (pg_name (i := 2) scAl.nd rfl (.inl rfl)) (pgs_cons (pg_name (i := 3) scAl.nd rfl (.inl rfl)) pgs_nil))))
        (pss_cons (ps_asg (pe_call GDs (hr.mono l3) (by rfl) gDs kDs bDs .nil pass0 (pa_cons (pv 2) (pa_cons (pv 3) pa_nil))) (pg_tup (by rfl) (pgs_cons (pg_name (i := 4) scAl.nd rfl (.inl rfl)) (pgs_cons (pg_name (i := 5) scAl.nd rfl (.inl rfl)) pgs_nil))))
        (pss_cons (ps_par (i := 6) (j := 7) rfl scAl.nd rfl rfl (by decide) rfl rfl (pa_cons (pe_call GOh (hr.mono l5) (by rfl) gOh kOh bOh .nil pass0 (pa_cons (pe_call GHx (hr.mono l6) (by rfl) gHx kHx bHx .nil pass0 (pa_cons (pv 2) pa_nil)) pa_nil)) (pa_cons (pe_call GOh (hr.mono l5) (by rfl) gOh kOh bOh .nil pass0 (pa_cons (pe_call GHx (hr.mono l6) (by rfl) gHx kHx bHx .nil pass0 (pa_cons (pv 3) pa_nil)) pa_nil)) pa_nil)) (by rfl))
        (pss_cons (ps_set (i := 8) scAl.nd rfl (.inl rfl) (pe_tup (pa_cons (pe_tup (pa_cons (pe_call GLm (hr.mono l4) (by rfl) gLm kLm bLm .nil pass0 (pa_cons (pv 2) pa_nil)) (pa_cons (pe_call GLm (hr.mono l4) (by rfl) gLm kLm bLm .nil pass0 (pa_cons (pv 3) pa_nil)) (pa_cons (pv 5) pa_nil)))) (pa_cons (pv 4) pa_nil))))
        (pss_cons (ps_if (PW.pt (pw_or (pt_cmpR (op_neD hr.units) (pe_call GDi (hr.mono l8) (by rfl) gDi kDi bDi .nil pass0 (pa_cons (pv 6) (pa_cons (pv 7) pa_nil))) (pv 8) (nomark _))
            (pw_or (pt_cmpR op_ne (pe_call GPo (hr.mono l7) (by rfl) gPo kPo bPo .nil pass0 (pa_cons (pv 6) (pa_cons (pe_ix ix_tup (pv 8) pe_int (fun _ _ => rfl)) pa_nil))) (pv 7) (nomark _))
            (pw_or1 (pt_not (pt_val (pe_call GSh (hr.mono l9) (by rfl) gSh kSh bSh .nil pass0 (pa_cons (pv 6) (pa_cons (pv 7) (pa_cons (pe_ix ix_tup (pv 8) pe_int (fun _ _ => rfl)) (pa_cons (pv 4) pa_nil))))))))))) (pss_one (ps_ret pe_bl)) pss_nil)
        (pss_cons (ps_for PassesOwn.never rfl (pi_range1 (by rfl) m1 (pa_cons pe_int pa_nil)) (pg_name (i := 9) scAl.nd rfl (.inl rfl))
          (pss_one (ps_if (pt_not (pt_val (pe_call GSp (hr.mono l10) (by rfl) gSp kSp bSp .nil pass0 (pa_cons (pe_call GC (hr.mono l2) (by rfl) gC kC bC .nil pass0 (pa_cons (pv 0) (pa_cons (pe_op op_add (pe_op op_add pe_int (pe_op op_mul pe_int (pv 1))) (pv 9)) pa_nil))) (pa_cons (pv 2) (pa_cons (pv 3) (pa_cons (pv 5) (pa_cons (pv 4) pa_nil)))))))) (pss_one (ps_ret pe_bl)) pss_nil)))
        (pss_one (L2N.ps_try_many (tb := _) (l := [(.ref CD, _)]) (Wout := fun _ _ _ _ => False) rfl rfl takes0N
          (fun W pn xe tk _ => pss_cons (ps_expr (pe_callS GPN (hr.mono l11) (by rfl) gPo kPo bPo (fun σ => L2N.passAt tk σ) (pa_cons (pe_call GOh (hr.mono l5) (by rfl) gOh kOh bOh .nil pass0 (pa_cons (pe_call GHx (hr.mono l6) (by rfl) gHx kHx bHx .nil pass0 (pa_cons (pe_op op_cat (pv 2) (pe_lst (pa_cons pe_int pa_nil))) pa_nil)) pa_nil)) (pa_cons (pe_ix (ixT K) (pv 8) pe_int (fun _ _ => rfl)) pa_nil)))) (pss_one (ps_ret pe_bl)))
          (.cons ⟨rfl, by decide, Or.inl TB.gC⟩ (fun a oe cls d pn hz hf =>
            pss_one (ps_if (pt_cmpR op_ne (L2H.pe_callH (E := fun _ => E0) GPH ⟨(hr.mono l12).dp, (hr.mono l12).un⟩ (hot_suite hz hf) (by rfl) gPo kPo bPo (fun σ _ _ _ _ _ _ z => z.elim) (pa_cons (pv 6)
              (pa_cons (pe_ix (ixT K) (L2H.pe_callH (E := fun _ => E0) GDH ⟨(hr.mono l13).dp, (hr.mono l13).un⟩ (hot_suite hz hf) (by rfl) gDi kDi bDi (fun σ _ _ _ _ _ _ z => z.elim) (pa_cons (pv 6) (pa_cons (pv 6) pa_nil))) pe_int (fun _ _ => rfl)) pa_nil))) (pv 6) (nomark _)) (pss_one (ps_ret pe_bl)) pss_nil)) .nil))))))))))
      (pss_one (ps_ret pe_bl)), ?_⟩
    refine ⟨2, rfl, by decide, by decide, ?_⟩
    refine for_range (lo := 0) (n := 2) (fun i σ H' => ∃ (y1 y2 y3 y4 y5 y6 y7 y8 y9 : Option V), σ = [some (.ref p), y1, y2, y3, y4, y5, y6, y7, y8, y9] ∧ Same H H') ⟨_, _, _, _, _, _, _, _, _, rfl, Same.refl H⟩ (fun i σ H1 hi h => ?_) (fun σ H' h => q _)
    obtain ⟨y1, y2, y3, y4, y5, y6, y7, y8, y9, rfl, sm1⟩ := h
    have hp1 := sm1.seq hp
    have e0 : (0 : Int) + (i : Int) = (i : Int) := by omega
    rw [e0]
    refine ⟨_, rfl, _, rfl, _, _, rfl, rfl, .inl ⟨by decide, by decide⟩, p, xs, 50 * i, by push_cast; rfl, hp1, by omega, fun H2 t po pn old new s2 nt ht hpo hpn npo npn hko hkn hlo hln => ?_⟩
    refine ⟨t, _, rfl, .inl (.inl ht), rfl, _, _, rfl, _, _, rfl, rfl, ?_⟩
    dsimp only [gName]
    refine ⟨_, rfl, _, rfl, po, pn, old, new, rfl, hpo, hpn, by omega, by omega, fun H3 t3 cL rL ks row s3 nt3 nc nr ht3 hc3 hr3 hLC hLR => ?_⟩
    refine ⟨t3, _, rfl, .inl (.inl ht3), rfl, _, _, rfl, _, _, rfl, rfl, ?_⟩
    dsimp only [gName]
    have sm3 := (sm1.trans s2).trans s3
    have hpo3 := s3 _ _ hpo
    have hpn3 := s3 _ _ hpn
    clear hpo hpn ht ht3
    have hwid : (∀ it ∈ row, ShI it) ∧ 0 + wsum row = new.length := lrow_sh hkn (by omega) hLR
    have hrl : row.length ≤ 90 := by have := wsum_len hwid.1; omega
    have hfit := fit_of hkn (by omega) hLR
    have hmk := row_makes hLR
    refine ⟨_, rfl, po, old, rfl, by rw [hpo3, bys_eq], hko, by omega, fun H4 s4 => ⟨old, rfl, hko, by omega, fun H5 s5 => ?_⟩⟩
    refine ⟨_, rfl, pn, new, rfl, by rw [(s4.trans s5) _ _ hpn3, bys_eq], hkn, by omega, fun H6 s6 => ⟨new, rfl, hkn, by omega, fun H7 s7 => ⟨_, _, rfl, ?_⟩⟩⟩
    have s47 := ((s4.trans s5).trans s6).trans s7
    have hpo7 := s47 _ _ hpo3
    have hpn7 := s47 _ _ hpn3
    have hc7 := s47 _ _ hc3
    have hr7 := hr3.same s47
    have sm7 := sm3.trans s47
    clear hpo3 hpn3 hc3 hr3 s4 s5 s6 s7 s47
    dsimp only [tNext]
    refine ⟨_, rfl, po, old, rfl, hpo7, hko, by omega, fun H8 a s8 na hma => ?_⟩
    refine ⟨_, rfl, pn, new, rfl, s8 _ _ hpn7, hkn, by omega, fun H9 b s9 nb hmb => ?_⟩
    refine ⟨_, rfl, (by show 3 ≤ sizeLine; omega), fun dd ndd => ?_⟩
    have s10 := same_upd (o := .tup [.ref a, .ref b, .ref rL]) ndd
    have s810 := (s8.trans s9).trans s10
    obtain ⟨d, hd⟩ : ∃ d : Dfv, d = ⟨(old.length, mrk old), (new.length, mrk new), row⟩ := ⟨_, rfl⟩
    have hdd : DfAt (upd H9 dd (.tup [.ref a, .ref b, .ref rL])) dd ⟨a, b, rL⟩ d := by
      rw [hd]
      exact ⟨upd_same, (s9.trans s10) _ _ hma, s10 _ _ hmb, hr7.same s810⟩
    have hpo10 := s810 _ _ hpo7
    have hpn10 := s810 _ _ hpn7
    have hc10 := s810 _ _ hc7
    have sm10 := sm7.trans s810
    clear hpo7 hpn7 hc7 hr7 hma hmb s8 s9 s10 s810
    generalize upd H9 dd (.tup [.ref a, .ref b, .ref rL]) = H10 at *
    refine ⟨_, rfl, (by show 2 ≤ sizeLine; omega), fun du ndu => ?_⟩
    have s11 := same_upd (o := .tup [.ref dd, .ref cL]) ndu
    have hdu : (upd H10 du (.tup [.ref dd, .ref cL])) du = some (.tup [.ref dd, .ref cL]) := upd_same
    have hdd := hdd.same s11
    have hpo11 := s11 _ _ hpo10
    have hpn11 := s11 _ _ hpn10
    have hc11 := s11 _ _ hc10
    have sm11 := sm10.trans s11
    clear hpo10 hpn10 hc10 s11
    generalize upd H10 du (.tup [.ref dd, .ref cL]) = H11 at *
    have dL : d.Low := by
      rw [hd]
      exact ⟨by show old.length ≤ 2000; omega, mrk_lt _, by show new.length ≤ 2000; omega, mrk_lt _, by show row.length ≤ 2000; omega⟩
    have dok : d.ok = true := by
      rw [hd]
      exact decide_eq_true hfit
    have bM : d.old = (old.length, mrk old) ∧ d.new = (new.length, mrk new) ∧ d.row = row := by rw [hd]; exact ⟨rfl, rfl, rfl⟩
    have ON : OnOk old new := ⟨hko, by omega, hkn, by omega⟩
    dsimp only [gName]
    refine ⟨_, rfl, _, rfl, old, new, rfl, ON, fun H12 t5 d5 pc5 x5 row5 ms ls cs5 s12 nt5 ht5 hd5 hpc5 RO CK hrl5 hrow5 => ?_⟩
    obtain rfl : cs5 = ks := lc_unique (cost_lc RO CK) hLC
    obtain rfl : row5 = row := lrow_unique (row_lrow RO CK hrow5) hLR
    rw [← hd] at hd5
    refine ⟨_, rfl, dueD d cs5, dueD d cs5, .tup (.inl (.inl ht5)) (.cons (dp_df hd5) (.cons (.lst (.inl (.inl hpc5)) (dp_ints _)) .nil)), .tup (.inl (.inl (s12 _ _ hdu))) (.cons (dp_df (hdd.same s12)) (.cons (.lst (.inl (.inl (s12 _ _ hc11))) (dp_ints _)) .nil)), sh_due _ _, sh_due _ _, ?_⟩
    rw [eqv_due, decide_eq_true ⟨⟨rfl, rfl, rfl⟩, rfl⟩]
    refine ⟨_, rfl, iteF ?_⟩
    refine ⟨_, rfl, _, rfl, du, _, 0, _, rfl, rfl, .inl (.inl (s12 _ _ hdu)), rfl, dd, ⟨a, b, rL⟩, d, old, rfl, hdd.same s12, dL, dok, hko, by omega, bM.1, by rw [bM.2.2, hmk]; exact bM.2.1, fun H13 s13 => ?_⟩
    rw [bM.2.2, hmk]
    refine ⟨_, rfl, rfl, _, rfl, iteC2 (by show (!decide (V.byt (byB new) = V.byt (byB new))) = false; rw [decide_eq_true rfl]; rfl) ?_⟩
    have s123 := s12.trans s13
    have hdu := s123 _ _ hdu
    have hdd := hdd.same s123
    have hpo13 := s123 _ _ hpo11
    have hpn13 := s123 _ _ hpn11
    have hc13 := s123 _ _ hc11
    have sm13 := sm11.trans s123
    clear hpo11 hpn11 hc11 s12 s13 s123 ht5 hd5 hpc5
    refine ⟨_, rfl, _, rfl, _, rfl, du, _, 0, _, rfl, rfl, .inl (.inl hdu), rfl, _, rfl, dd, ⟨a, b, rL⟩, d, old, new, cL, someN cs5, rfl, hdd, dL, dok, ON, by rw [someN_V]; exact hc13, by unfold someN; rw [List.length_map, hLC.len]; omega, fun H14 b14 s14 hb14 => ?_⟩
    have e14 : b14 = true := hb14.mpr (by rw [hd]; exact sh_ok hLC hLR)
    subst e14
    refine ⟨_, rfl, ?_⟩
    have hdu := s14 _ _ hdu
    have hdd := hdd.same s14
    have hpo14 := s14 _ _ hpo13
    have hpn14 := s14 _ _ hpn13
    have hc14 := s14 _ _ hc13
    have sm14 := sm13.trans s14
    clear hpo13 hpn13 hc13 s14
    refine iteF ?_
    refine ⟨3, rfl, by decide, by decide, ?_⟩
    have hrr : RwAt H14 rL row5 := by have := hdd.2.2.2; rw [bM.2.2] at this; exact this
    refine for_range (lo := 0) (n := 3) (fun t σ H' => ∃ (y9 : Option V), σ = [some (.ref p), some (.int (i : Int)), some (.ref po), some (.ref pn), some (.ref cL), some (.ref rL), some (.byt (byB old)), some (.byt (byB new)), some (.ref du), y9] ∧ Same H14 H') ⟨_, rfl, Same.refl _⟩ (fun u σ H15 hu h => ?_) (fun σ H15 h => ?_)
    · obtain ⟨y9, rfl, s15⟩ := h
      rw [show (0 : Int) + (u : Int) = (u : Int) by omega]
      have sm15 := sm14.trans s15
      dsimp only [gName]
      refine ⟨_, rfl, _, rfl, _, _, rfl, rfl, .inl ⟨by decide, by decide⟩, _, _, rfl, rfl, _, rfl, _, _, rfl, rfl, p, xs, 110 + 3 * i + u, by push_cast; rfl, sm15.seq hp, by omega, fun H16 s16 => ?_⟩
      have s1516 := s15.trans s16
      refine ⟨_, rfl, _, rfl, _, rfl, _, rfl, _, po, pn, rL, cL, old, new, cs5, row5, rfl, s1516 _ _ hpo14, s1516 _ _ hpn14, hrr.same s1516, s1516 _ _ hc14, hko, hkn, by omega, by omega, hLC, hLR, fun H17 s17 => ?_⟩
      refine ⟨_, rfl, iteF ?_⟩
      exact ⟨_, rfl, s1516.trans s17⟩
    · obtain ⟨y9, rfl, s15⟩ := h
      have hdu := s15 _ _ hdu
      have hdd := hdd.same s15
      have hpo15 := s15 _ _ hpo14
      have sm15 := sm14.trans s15
      clear hpo14 hpn14 hc14 hrr s15
      dsimp only [tNext]
      refine ⟨_, rfl, (by show 1 ≤ sizeLine; omega), fun z nz => ?_⟩
      have s16 := same_upd (o := .lst [.int 1]) nz
      have hz16 : (upd H15 z (.lst [.int 1])) z = some (.lst (bys [1])) := upd_same
      have hpo16 := s16 _ _ hpo15
      have hdu := s16 _ _ hdu
      have hdd := hdd.same s16
      have sm16 := sm15.trans s16
      generalize upd H15 z (.lst [.int 1]) = H16 at *
      refine ⟨po, z, _, _, rfl, rfl, hpo16, hz16, (by rw [bys_len]; show old.length + 1 ≤ sizeLine; omega), fun r nr => ?_⟩
      have s17 := same_upd (o := .lst (bys old ++ bys [1])) nr
      have hr17 : (upd H16 r (.lst (bys old ++ bys [1]))) r = some (.lst (bys (old ++ [1]))) := by rw [upd_same, bys_app]
      have hdu := s17 _ _ hdu
      have hdd := hdd.same s17
      have sm17 := sm16.trans s17
      generalize upd H16 r (.lst (bys old ++ bys [1])) = H17 at *
      have hk1 : ∀ k ∈ old ++ [1], k < 256 := fun k hk => by
        rcases List.mem_append.mp hk with hk | hk
        · exact hko k hk
        · rw [List.mem_singleton.mp hk]; decide
      have hl1 : (old ++ [1]).length = old.length + 1 := by rw [List.length_append]; rfl
      refine ⟨r, old ++ [1], rfl, by rw [hr17, bys_eq], hk1, by omega, fun H18 s18 => ⟨old ++ [1], rfl, hk1, by omega, fun H19 s19 => ?_⟩⟩
      have s189 := s18.trans s19
      have hdu := s189 _ _ hdu
      have hdd := hdd.same s189
      have sm19 := sm17.trans s189
      clear hpo15 hpo16 hz16 hr17 s18 s19 s189
      have ngood : ¬ good d (old ++ [1]) := fun g => by
        have := g.2.1
        rw [bM.1, hl1] at this
        have := congrArg Prod.fst this
        have this : old.length = old.length + 1 := this
        omega
      refine ⟨_, rfl, du, _, 0, _, rfl, rfl, .inl (.inl hdu), rfl, dd, ⟨a, b, rL⟩, d, old ++ [1], rfl, hdd, dL, hk1, by omega, fun g => absurd g ngood, fun _ H20 s20 => ⟨true, eT, fun _ a0 ha0 => ?_, fun z => Bool.noConfusion z⟩⟩
      have sm20 := sm19.trans s20
      refine ⟨_, rfl, _, rfl, _, rfl, old, old, rfl, ⟨hko, by omega, hko, by omega⟩, fun H21 t6 d6 pc6 x6 row6 ms6 ls6 cs6 s21 nt6 ht6 hd6 hpc6 RO6 CK6 hrl6 hrow6 => ?_⟩
      have L6 := row_lrow RO6 CK6 hrow6
      have mk6 := row_makes L6
      have fit6 := fit_of hko (by omega) L6
      refine ⟨t6, _, 0, _, rfl, rfl, .inl (.inl ht6), rfl, d6, x6, _, old, rfl, hd6, ⟨by show old.length ≤ 2000; omega, mrk_lt _, by show old.length ≤ 2000; omega, mrk_lt _, by show row6.length ≤ 2000; omega⟩, decide_eq_true fit6, hko, by omega, rfl, by show (old.length, mrk old) = ((makeB (orig row6) old).length, mrk (makeB (orig row6) old)); rw [mk6], fun H22 s22 => ?_⟩
      rw [mk6]
      refine ⟨_, rfl, rfl, _, rfl, iteC2 (by show (!decide (V.byt (byB old) = V.byt (byB old))) = false; rw [decide_eq_true rfl]; rfl) ?_⟩
      exact ⟨_, _, _, _, _, _, _, _, _, rfl, (sm20.trans s21).trans s22⟩
end
end K9

namespace K9
open PySem PySem.Spec PyProof.Rows L2
/-! ### law -/
theorem scLaw : FnScope ["_law_script"] ["_law_script"] (defScope sLaw) := ⟨rfl, rfl, rfl, by decide +kernel, rfl, by decide +kernel, by decide +kernel⟩
section
variable {P : Program} {w : World} {K : PySem.W.Frag} {mg : Str → Option Value} {base : Heap}
theorem ok_law {f fA : Addr} {fd fdA : FuncData} {j k1 : Nat} (F : Fun K "law" "law" sLaw f fd)
    (GA : FnOk P w K mg base CX0 k1 fA fdA ["_law_script"] (spAl K)) (bA : Binds K fdA ["_law_script"] []) (kA : PySem.W.keepIn K (.ref fA) = true) (gA : mg "_law_all_right" = some (.ref fA)) (l1 : k1 ≤ j) : FnOk P w K mg base CX0 (j + 1) f fd ["_law_script"] (spAl K) := by
  refine F.ok scLaw (fun vs H Q E h => ?_) (fun cdv A outer s H vs Q E hr h => ?_)
  · obtain ⟨p, xs, rfl, _⟩ := h
    rfl
  · refine ⟨_, pss_one (ps_try_thru0 (pss_one (ps_ret (pe_call GA (hr.mono l1) (by rfl) gA kA bA .nil pass0 (pa_cons (pv 0) pa_nil))))), ?_⟩
    obtain ⟨p, xs, rfl, hp, q⟩ := h
    exact ⟨_, rfl, p, xs, rfl, hp, q⟩
end
end K9

namespace HY
open PySem PySem.Spec PyProof.Rows HotX
section
variable {prog : Program} {w : World} {A : Around} {E : Value → Shared → Prop} {s : Shared} {x1 : Addr}
theorem max_hot {a b : Int} {t u : Tok} {Q : Value → Shared → Prop} (hot : HotAt A x1 s.heap)
    (h : ∀ h' tk, (∀ c o, s.heap.get? c = some o → h'.get? c = some o) → Q (if b > a then .int b u else .int a t) { s with heap := h', toks := tk }) : wpAny (model prog w) A (call (.builtin "max") [.int a t, .int b u]) Q E s := by
  have hT : (s.heap.push { cls := .type "tuple", data := .seq #[.int a t, .int b u] }).IsTuple s.heap.objs.size (intItems #[(a, t), (b, u)]) := ⟨_, Heap.get?_push_size _ rfl, rfl, 0, by simp [intItems]⟩
  have sz : (s.heap.push { cls := .type "tuple", data := .seq #[.int a t, .int b u] }).objs.size = s.heap.objs.size + 1 := Heap.size_push ..
  have hx := hotLt hot
  refine call_max_two (wpAny_pyIter_tuple hT ⟨_, [_, s.heap.objs.size, x1], [_], _, _, _, _, rfl, walks_hot (A := A.in1) (x1 := x1) (ax := s.heap.objs.size) (items := intItems #[(a, t), (b, u)]) (by rw [sz]; exact Nat.ne_of_lt (Nat.lt_succ_self _)) (by rw [sz]; exact Nat.ne_of_lt (Nat.lt_succ_of_lt hx)),
    ⟨⟨_, Heap.get?_push_size _ rfl, rfl, rfl⟩, hT.push _, hotUp hot fun o e => Heap.get?_push_of_some _ (Heap.get?_push_of_some _ e)⟩, fun c hc => ?_, by simp [intItems], CmpOf.ints_gt (numAt #[(a, t), (b, u)]) (fun _ _ => intItems_at), fun v h' tk hP hk => ?_⟩)
  · show c < ((s.heap.push _).push _).objs.size; rw [Heap.size_push, sz]
    rcases List.mem_cons.mp hc with z | hc
    · rw [z, sz]; exact Nat.lt_succ_self _
    rcases List.mem_cons.mp hc with z | hc
    · rw [z]; exact Nat.lt_succ_of_lt (Nat.lt_succ_self _)
    · rw [List.mem_singleton.mp hc]; exact Nat.lt_succ_of_lt (Nat.lt_succ_of_lt hx)
  · have old : ∀ c o, s.heap.get? c = some o → h'.get? c = some o := fun c o e => by
      refine hk c o (fun hm => ?_) (Heap.get?_push_of_some _ (Heap.get?_push_of_some _ e))
      have z := Heap.lt_size e
      rw [List.mem_singleton.mp hm, sz] at z
      exact Nat.lt_irrefl _ (Nat.lt_of_succ_lt z)
    have q := h h' tk old
    have hv : v = if b > a then Value.int b u else Value.int a t := by
      have hP' : (intItems #[(a, t), (b, u)])[argBest (fun i j => decide (numAt #[(a, t), (b, u)] i > numAt #[(a, t), (b, u)] j)) 1]? = some v := by
        rw [show 1 = (intItems #[(a, t), (b, u)]).size - 1 by simp [intItems]]; exact hP
      by_cases hba : b > a
      · rw [show argBest (fun i j => decide (numAt #[(a, t), (b, u)] i > numAt #[(a, t), (b, u)] j)) 1 = 1 by simp [argBest, numAt, hba]] at hP'
        simpa [intItems, hba] using hP'.symm
      · rw [show argBest (fun i j => decide (numAt #[(a, t), (b, u)] i > numAt #[(a, t), (b, u)] j)) 1 = 0 by simp [argBest, numAt, hba]] at hP'
        simpa [intItems, hba] using hP'.symm
    rw [hv]; exact q
theorem walk_start {l : Addr} {vs : Array Value} {Q : Value → Shared → Prop} (hot : HotAt A x1 s.heap) (hl : s.heap.IsList l vs)
    (h : ∀ s₂ : Shared, s₂ = { s with heap := s.heap.push { cls := .type "list_iterator", data := .fields #[.ref l, .int 0 0] } } →
      Walks prog w A s.heap.objs.size [s.heap.objs.size, l, x1] [s.heap.objs.size] vs.size (fun i v => vs[i]? = some v) (fun i h => h.IsListIter s.heap.objs.size l i ∧ h.IsList l vs ∧ HotAt A x1 h) →
      (s₂.heap.IsListIter s.heap.objs.size l 0 ∧ s₂.heap.IsList l vs ∧ HotAt A x1 s₂.heap) → (∀ b ∈ [s.heap.objs.size, l, x1], b < s₂.heap.objs.size) → Q (.ref s.heap.objs.size) s₂) :
    wpAny (model prog w) A (pyIter (.ref l)) Q E s := by
  have hlt : l < s.heap.objs.size := by obtain ⟨_, e, _⟩ := hl; exact Heap.lt_size e
  have hx := hotLt hot
  refine wpAny_pyIter_list hl (h _ rfl (walksL_hot (Nat.ne_of_lt hlt) (Nat.ne_of_lt hx)) ⟨⟨_, Heap.get?_push_size _ rfl, rfl, rfl⟩, hl.push _, hotUp hot fun o e => Heap.get?_push_of_some _ e⟩ fun b hb => ?_)
  show b < (s.heap.push _).objs.size
  rw [Heap.size_push]
  rcases List.mem_cons.mp hb with z | hb
  · rw [z]; exact Nat.lt_succ_self _
  rcases List.mem_cons.mp hb with z | hb
  · rw [z]; exact Nat.lt_succ_of_lt hlt
  · rw [List.mem_singleton.mp hb]; exact Nat.lt_succ_of_lt hx
theorem kept_back {l : Addr} {h' : Heap} (hk : ∀ b o, b ∉ [s.heap.objs.size] → (s.heap.push { cls := .type "list_iterator", data := .fields #[.ref l, .int 0 0] }).get? b = some o → h'.get? b = some o) : ∀ b o, s.heap.get? b = some o → h'.get? b = some o := fun b o e => by
  refine hk b o (fun hm => ?_) (Heap.get?_push_of_some _ e)
  have := Heap.lt_size e
  rw [List.mem_singleton.mp hm] at this
  exact Nat.lt_irrefl _ this
theorem minl_hot {l : Addr} {its : List Value} {ns : List Int} {Q : Value → Shared → Prop} (hot : HotAt A x1 s.heap) (hl : s.heap.IsList l its.toArray) (hi : IntsAre its ns) (hne : 0 < ns.length)
    (h : ∀ h' tk M t', (∀ b o, s.heap.get? b = some o → h'.get? b = some o) → M ∈ ns → (∀ a, a ∈ ns → M ≤ a) → Q (.int M t') { s with heap := h', toks := tk }) : wpAny (model prog w) A (call (.builtin "min") [.ref l]) Q E s := by
  obtain ⟨xs, e⟩ := hi.allInts.items
  have hn : numsOf (intItems xs).toList = ns := by rw [← e]; exact hi.numsOf
  rw [nums_intItems] at hn
  subst hn
  rw [e] at hl
  have hsz : 0 < xs.size := by simpa using hne
  refine call_min_walk (walk_start (A := A.in1) (x1 := x1) hot hl fun s₂ e2 W st hfp => ?_)
  subst e2
  refine ⟨_, _, _, _, _, _, _, rfl, W, st, hfp, by simpa [intItems] using hsz, CmpOf.ints_lt (numAt xs) (fun _ _ => intItems_at), fun v h' tk hv hk => ?_⟩
  obtain ⟨t, rfl⟩ := intItems_at hv
  have hsz2 : (intItems xs).size = xs.size := by simp [intItems]
  rw [hsz2]
  obtain ⟨h1, h2⟩ := argBest_lt (numAt xs) (xs.size - 1)
  refine h h' tk _ t (kept_back hk) ?_ fun a ha => ?_
  · rw [numAt_eq]; exact PySem.getD_mem (by rw [List.length_map, Array.length_toList]; omega)
  · obtain ⟨j, hj, rfl⟩ := mem_getD ha
    rw [List.length_map, Array.length_toList] at hj
    rw [← numAt_eq]; exact h2 j (by omega)
theorem max_data_hot {l : Addr} {vs : Array Value} {x : PyData} {xs : List PyData} {as : List Addr} {Q : Value → Shared → Prop} (hot : HotAt A x1 s.heap) (hl : s.heap.IsList l vs) (hr : ReadsAll s.heap vs.toList (x :: xs) as) (ha : PySem.W.AlikeAll (x :: xs)) (hu : A.units + 1 + PyData.depthAll (x :: xs) < cLine)
    (h : ∀ (i : Nat) v h' tk, vs[i]? = some v → (x :: xs).getD i .none = PySem.W.maxD x xs → (∀ b o, s.heap.get? b = some o → h'.get? b = some o) → Q v { s with heap := h', toks := tk }) :
    wpAny (model prog w) A (call (.builtin "max") [.ref l]) Q E s := by
  have hn : vs.size = xs.length + 1 := PySem.W.readsAll_len hr
  refine call_max_walkH (walk_start (A := A.in1) (x1 := x1) hot hl fun s₂ e W st hfp => ?_)
  refine ⟨_, _, _, _, _, _, _, s.heap, _, rfl, W.toS, st, hfp, by omega, fun b o eb hb => ?_, fun b o eb => ?_, PySem.W.cmpIn_gt (A := A.in1) hr ha (by show A.units + 1 + _ < _; exact hu), fun v s' hP m => ?_⟩
  · have := Heap.lt_size eb
    rw [List.mem_singleton.mp hb] at this
    exact Nat.lt_irrefl _ this
  · rw [e]
    exact Heap.get?_push_of_some _ eb
  · obtain ⟨h', tk, rfl, hk'⟩ := PySem.W.moved_old e rfl m
    have e1 : vs.size - 1 = xs.length := by omega
    have e2 := (PySem.W.argBest_fold (fun a b => PySem.W.dataLt b a) PyData.none x xs xs.length (Nat.le_refl _)).2
    rw [List.take_length] at e2
    have hP' := hP
    rw [e1] at hP'
    exact h _ v h' tk hP' (by unfold PySem.W.maxD; rw [← e2]) hk'
end
end HY
namespace L2H
open PySem PySem.Spec PyProof.Rows L2 HotX HY
section
variable {X : Cx} {tg : Expr} {pos : Pos}
theorem pig_list {l : Expr} {tl : TE} (hl : PE X l tl) : PIG X tg l (iList X.K tl) := by
  refine ⟨fun pins s σ H R I h => ?_⟩
  refine thn (hl.run pins s σ H _ I h) fun v s1 ⟨x, H1, I1, r1, q1⟩ => ?_
  obtain ⟨a, e, ⟨xs, hq⟩, q⟩ := q1
  subst e
  cases r1
  obtain ⟨its, rv, p, hz⟩ := I1.list hq
  exact wpAny_pyIter_list p.isList (pie_oneG (tk := s1.toks) I1 _ (turnG_list a _) ⟨_, Heap.get?_push_size _ rfl, rfl, rfl⟩ q)
theorem call_max2H (hc : HotC X) : CallR X (.builtin "max") (fun xs H Q => ∃ i j, xs = [.int i, .int j] ∧ Q (.int (if j > i then j else i)) H) := by
  intro pins s σ H xs us Q I r h
  obtain ⟨i, j, rfl, q⟩ := h
  obtain ⟨u, w', rfl, ⟨t, rfl⟩, ⟨t', rfl⟩⟩ := vals2 r
  obtain ⟨x1, hot⟩ := hc.at I
  refine max_hot (x1 := x1) hot fun h' tk k => ⟨_, H, I.kept k, ?_, q⟩
  by_cases hj : j > i
  · (rw [if_pos hj, if_pos hj]); exact ⟨_, rfl⟩
  · (rw [if_neg hj, if_neg hj]); exact ⟨_, rfl⟩
theorem cr_minH (hc : HotC X) : CallR X (.builtin "min") (rMin X.K) := by
  intro pins s σ H vs us Q I r h
  obtain ⟨a, ns, rfl, hs, hne, q⟩ := h
  obtain ⟨its, rv, hl, _⟩ := I.list hs
  rw [Vals.ref1 r]
  obtain ⟨x1, hot⟩ := hc.at I
  exact minl_hot (x1 := x1) hot hl.isList rv.ints hne fun h' tk m t' hk h1 h2 => ⟨.int _, H, I.kept hk, ⟨_, rfl⟩, q m h1 h2⟩
theorem cr_maxPH (hc : HotC X) {j : Nat} (hr : RoomH j X.A) : CallR X (.builtin "max") (rMaxP X.K) := by
  intro pins s σ H vs us Q I r h
  obtain ⟨a, xs, p, ps, rfl, hs, hP, q⟩ := h
  obtain ⟨its, rv, hl, _⟩ := I.list hs
  rw [Vals.ref1 r]
  obtain ⟨as, hra⟩ := reads_pairs I hP rv
  obtain ⟨x1, hot⟩ := hc.at I
  have hu := hr.un
  refine max_data_hot (x := pD p) (xs := ps.map pD) (x1 := x1) hot (show s.heap.IsList a its.toArray from hl.isList) (by simpa using hra) ⟨fun x hx y hy => ?_, fun x hx z => ?_⟩ ?_ fun i v h' tk hv he hk => ?_
  · have hx : x ∈ (p :: ps).map pD := hx
    have hy : y ∈ (p :: ps).map pD := hy
    obtain ⟨a1, _, rfl⟩ := List.mem_map.mp hx
    obtain ⟨a2, _, rfl⟩ := List.mem_map.mp hy
    rfl
  · have hx : x ∈ (p :: ps).map pD := hx
    obtain ⟨a1, _, rfl⟩ := List.mem_map.mp hx
    cases z
  · show X.A.units + 1 + PyData.depthAll ((p :: ps).map pD) < cLine
    have := depth_pairs (p :: ps)
    omega
  · have hv : its[i]? = some v := by simpa using hv
    have hlen := hP.length
    have hil : i < xs.length := by rw [rv.length]; exact (List.getElem?_eq_some_iff.mp hv).1
    obtain ⟨u, hu2, ru⟩ := rv.get (List.getElem?_eq_getElem hil)
    obtain rfl := Option.some.inj (hv.symm.trans hu2)
    have hip : i < (p :: ps).length := by omega
    refine ⟨_, H, I.kept hk, ru, q i _ _ (List.getElem?_eq_getElem hip) (List.getElem?_eq_getElem hil) ?_⟩
    rw [← he]
    show pD (p :: ps)[i] = ((p :: ps).map pD).getD i PyData.none
    rw [List.getD_eq_getElem?_getD, List.getElem?_map, List.getElem?_eq_getElem hip]
    rfl
theorem turnG_rangeC {P : Program} {w : World} {K : PySem.W.Frag} (it : Addr) (lo c : Int) (n : Nat) : TurnG P w K tg (Itc lo c n) [it] it (fun i h => IsRangeIter h it (lo + (i : Nat) * c) ((n : Int) - (i : Nat)) c) where
  mem := by simp
  obj := (turn_rangeC (P := P) (w := w) (K := K) (tg := tg) it lo c n).obj
  keep := (turn_rangeC (P := P) (w := w) (K := K) (tg := tg) it lo c n).keep
  self := (turn_rangeC (P := P) (w := w) (K := K) (tg := tg) it lo c n).self
  item := by
    intro X hP hw hK x1 s hot hne i pins s' σ H E es I hf st hg
    subst hP hw hK es
    obtain ⟨f0, f1, f2, f3, f4, f5⟩ := hf it (by simp)
    have hlt : i < n := hg
    refine wpAny_pyNext_range_item st (by omega) fun h' st' sb => ?_
    have st2 : IsRangeIter h' it (lo + ((i + 1 : Nat) : Int) * c) ((n : Int) - ((i + 1 : Nat) : Int)) c := by
      have e1 : lo + ((i : Nat) : Int) * c + c = lo + ((i + 1 : Nat) : Int) * c := by
        push_cast
        rw [Int.add_mul, Int.one_mul, Int.add_assoc]
      have e2 : (n : Int) - ((i : Nat) : Int) - 1 = (n : Int) - ((i + 1 : Nat) : Int) := by omega
      rw [← e1, ← e2]
      exact st'
    have I1 : Inv X pins σ H { s' with heap := h', toks := s'.toks + 1 } := I.turned (fun b o hb e => (sb.2 b hb).trans e) f0 f1 f3 f4 f5
    exact ⟨_, rfl, go_of (s := { s' with heap := h', toks := s'.toks + 1 }) (n := "range_iterator") st2 rfl rfl (by decide) ⟨.int (lo + (i : Nat) * c), H, I1, ⟨s'.toks, rfl⟩, ⟨rfl, rfl⟩, st2, fun b hb => (hf b hb).1⟩⟩
  done := by
    intro X hP hw hK x1 s hot hne i pins s' σ H E es I hf st hg
    subst hP hw hK es
    obtain ⟨f0, f1, f2, f3, f4, f5⟩ := hf it (by simp)
    exact pyNext_range_end_hot (x1 := x1) hot st (by have : n ≤ i := hg; omega) fun h' eb => ⟨rfl, I.turned (t' := s'.toks) (fun b o _ e => eb b o e) f0 f1 f3 f4 f5⟩
theorem pi_revH {e : Expr} {tr : St → Hp → (Int → Int → Hp → Prop) → Prop} {p : Pos} (hg : Gl X "reversed") (hm : X.mg "reversed" = none) (he : PRg X e tr) (hs : starEach [e] X.env = (false, eval e X.env) :: starEach [] X.env := by rfl) :
    PIH X tg (.Call (.Name "reversed" p) [e] [] pos) (iRevR tr) := by
  refine pih_of ⟨fun pins s σ H R I h => ?_⟩
  refine Call_ (ld_blt I hg hm PyProof.Rows.boot_reversed (PyProof.Rows.callWith_type1 (args_cons (thn (he pins s σ H _ I h) fun u s1 hx => args_nil ?_) hs) hs rfl))
  obtain ⟨r, a, b, t, w1, v, H1, eu, hr, I1, b1, b2, b3, b4, q⟩ := hx
  subst eu
  have hn : Builtin.Range.rangeSize a b 1 = (((b - a).toNat : Nat) : Int) := rangeSize_nat a b
  refine call_reversed_range hr (smallRev_one b1 b2 b3 b4) (wpAny_pyIter_rangeiter (Heap.get?_push_size _ rfl) ?_)
  refine pie_oneG (tk := s1.toks) I1 _ (turnG_rangeC _ (a + (((b - a).toNat : Nat) : Int) - 1) (-1) (b - a).toNat) ?_ q
  have e1 : a + (((b - a).toNat : Nat) : Int) - 1 + ((0 : Nat) : Int) * (-1) = a + (Builtin.Range.rangeSize a b 1 - 1) * 1 := by rw [hn]; omega
  have e2 : (((b - a).toNat : Nat) : Int) - ((0 : Nat) : Int) = Builtin.Range.rangeSize a b 1 := by rw [hn]; omega
  show IsRangeIter _ _ (a + (((b - a).toNat : Nat) : Int) - 1 + ((0 : Nat) : Int) * (-1)) ((((b - a).toNat : Nat) : Int) - ((0 : Nat) : Int)) (-1)
  rw [e1, e2]
  exact Heap.get?_push_size _ rfl
theorem turnG_enum {P : Program} {w : World} {K : PySem.W.Frag} {elts : List Expr} {kk : Nat} {tpos : Pos} (a e it : Addr) :
    TurnG P w K (.Tuple elts kk tpos) (Ite K a) [e, it] e (fun i h => (∃ old, IsEnum h e it ((i : Nat) : Int) old) ∧ h.IsListIter it a i ∧ e ≠ it) where
  mem := (turn_enum (P := P) (w := w) (K := K) (elts := elts) (kk := kk) (tpos := tpos) a e it).mem
  obj := (turn_enum (P := P) (w := w) (K := K) (elts := elts) (kk := kk) (tpos := tpos) a e it).obj
  keep := (turn_enum (P := P) (w := w) (K := K) (elts := elts) (kk := kk) (tpos := tpos) a e it).keep
  self := (turn_enum (P := P) (w := w) (K := K) (elts := elts) (kk := kk) (tpos := tpos) a e it).self
  item := by
    intro X hP hw hK x1 s0 hot hne0 i pins s σ H E es I hf st hg
    subst hP hw hK es
    obtain ⟨⟨old, he⟩, hit, hne⟩ := st
    obtain ⟨xs, x, hq, hx⟩ := hg
    obtain ⟨its, rv, p, hz⟩ := I.list hq
    obtain ⟨u, hu, ru⟩ := rv.get hx
    have hel : e < s.heap.objs.size := Heap.lt_size he
    have hil : it < s.heap.objs.size := by (obtain ⟨_, q, _⟩ := hit); (exact Heap.lt_size q)
    refine wpAny_pyNext_enum_item he hit p.isList (x := u) (by simpa using hu) hne fun h' ho hit' hT hsz hk => ⟨_, rfl, wpAny_letOwnedTupleGo_enum (s := { s with heap := h', toks := s.toks + 1 }) ho fun h2 he2 sb => ?_⟩
    have hT2 : h2.get? s.heap.objs.size = some { cls := .type "tuple", data := .seq #[.int i s.toks, u] } := (sb.2 _ (Nat.ne_of_gt hel)).trans hT
    have new : ObjOk X.prog X.w (upd H s.heap.objs.size (.tup [.int (i : Nat), x])) h2 s.heap.objs.size (.tup [.int (i : Nat), x]) := ⟨(show 2 ≤ sizeLine by decide), [.int i s.toks, u], .cons ⟨_, rfl⟩ (.cons ru .nil), ⟨_, hT2, rfl, _, rfl⟩⟩
    have I1 : Inv X pins σ (upd H s.heap.objs.size (.tup [.int (i : Nat), x])) { s with heap := h2, toks := s.toks + 1 } := I.turnedNew (ch := [e, it]) (fun b ob hb q => (sb.2 b (fun z => hb (by simp [z]))).trans (hk b ob (fun z => hb (by simp [z])) (fun z => hb (by simp [z])) q)) hf (Nat.le_refl _) new
    refine ⟨.ref s.heap.objs.size, _, I1, rfl, ⟨_, x, rfl, I.hok.fresh (Nat.le_refl _), rfl, fun ys hy => by rw [I.list_inj hy hq]; exact hx⟩, ⟨⟨u, (by rw [show ((i + 1 : Nat) : Int) = (i : Int) + 1 by omega]; exact he2)⟩, hit'.at fun o q => (sb.2 it (Ne.symm hne)).trans q, hne⟩, fun b hb => ?_⟩
    have hb' : b < s.heap.objs.size := by
      rcases (show b = e ∨ b = it by simpa using hb) with z | z
      · (rw [z]); (exact hel)
      · (rw [z]); (exact hil)
    exact (upd_ne (Nat.ne_of_lt hb')).trans (hf b hb).1
  done := by
    intro X hP hw hK x1 s0 hot hne0 i pins s σ H E es I hf st hg
    subst hP hw hK es
    obtain ⟨⟨old, he⟩, hit, hne⟩ := st
    obtain ⟨xs, hq, hx⟩ := hg
    obtain ⟨its, rv, p, hz⟩ := I.list hq
    obtain ⟨f0, f1, f2, f3, f4, f5⟩ := hf it (by simp)
    have hl := rv.length
    exact enum_end_hot (x1 := x1) hot (hne0 it (by simp)) he hit p.isList (by simp; omega) fun h' eb => ⟨rfl, I.turned (t' := s.toks) (fun b o hb q => eb b o hb q) f0 f1 f3 f4 f5⟩
theorem pig_enumL {e : Expr} {ta : TA} {p pos tpos : Pos} {elts : List Expr} {kk : Nat} (hg : Gl X "enumerate") (hm : X.mg "enumerate" = none) (ha : PA X [e] ta) (hs : starEach [e] X.env = [(false, eval e X.env)] := by rfl) :
    PIG X (.Tuple elts kk tpos) (.Call (.Name "enumerate" p) [e] [] pos) (iEnum X.K ta) := by
  refine ⟨fun pins s σ H R I h => ?_⟩
  refine Call_ (ld_blt I hg hm boot_enumerate (PyProof.Rows.callWith_type1 (thn (ha.run pos pins s σ H _ I h) fun us s1 ⟨vs, H1, I1, r1, a, xs, ex, hq, q⟩ => ?_) hs rfl))
  subst ex
  cases r1 with
  | cons r rr =>
    cases rr
    cases r
    obtain ⟨its, rv, p', hz⟩ := I1.list hq
    refine call_enumerate_list p'.isList fun h' he hit hsz hk => wpAny_pyIter_enum he ⟨s1.heap.objs.size + 1, [s1.heap.objs.size + 1, s1.heap.objs.size], _, _, H1, rfl, I1.kept (t' := s1.toks) hk, turnG_enum a (s1.heap.objs.size + 1) s1.heap.objs.size, ⟨⟨.none, he⟩, hit, Nat.succ_ne_self _⟩, fun b hb => ?_, q⟩
    have hle : s1.heap.objs.size ≤ b := by
      rcases (show b = s1.heap.objs.size + 1 ∨ b = s1.heap.objs.size by simpa using hb) with z | z
      · (rw [z]); (exact Nat.le_add_right _ _)
      · (rw [z]); (exact Nat.le_refl _)
    exact I1.fpOk hle (I1.hok.fresh hle)
end
end L2H

namespace K9
open PySem PySem.Spec PyProof.Rows L2
/-! ### the same while an exception is handled -/
section
variable {P : Program} {w : World} {K : PySem.W.Frag} {mg : Str → Option Value} {base : Heap} {C fI fA fO : Addr}
theorem okh_ma {f : Addr} {fd : FuncData} {j : Nat} {t1 : Tok} (F : Fun K "most_at" "most_at" sMostAt f fd) (m1 : mg "min" = none) (m2 : mg "len" = none) (c1 : mg "MOST_AT_ONCE" = some (.int 255 t1)) :
    L2H.FnH P w K mg base CX0 (j + 1) f fd ["new", "at"] spMa := by
  refine okH F scMa (fun vs H Q E h => ?_) (fun cdv A outer s H vs Q E pn hot hr h => ?_)
  · obtain ⟨e, i, rfl, _⟩ := h
    rfl
  · obtain ⟨e, i, rfl, hl, hi, q⟩ := h
    have hcX : L2H.HotC (L2H.cxH CX0 P w K mg base ["new", "at"] "most_at" (defScope sMostAt) f cdv A outer s H E pn) := ⟨pn, hot, List.mem_singleton_self pn⟩
    have hz := PySem.sizeLine_eq
    refine ⟨_, pss_one (ps_ret (pe_callB (L2H.call_min2H hcX) (by rfl) m1 (by decide +kernel) (pa_cons (pe_glob (v := .int 255) rfl c1 ⟨_, rfl⟩) (pa_cons (pe_op op_sub (pe_callB call_len (by rfl) m2 PySem.boot_len (pa_cons (pv 0) pa_nil)) (pv 1)) pa_nil)))), ?_⟩
    refine ⟨_, rfl, _, (byB e).size, rfl, ⟨by rw [byB_size]; omega, rfl⟩, _, rfl, _, _, rfl, rfl, _, _, rfl, ?_⟩
    have e4 : (if ((byB e).size : Int) - (i : Int) < 255 then ((byB e).size : Int) - (i : Int) else 255) = ((mostN e i : Nat) : Int) := by
      unfold mostN
      rw [byB_size]
      split <;> omega
    rw [e4]
    exact q
theorem okh_ln {f fM : Addr} {fd fdM : FuncData} {j k1 : Nat} (F : Fun K "longest_new" "longest_new" sLongN f fd) (GM : L2H.FnH P w K mg base CX0 k1 fM fdM ["new", "at"] spMa) (bM : Binds K fdM ["new", "at"] []) (kM : PySem.W.keepIn K (.ref fM) = true) (gM : mg "most_at" = some (.ref fM)) (l1 : k1 ≤ j)
    (m1 : mg "range" = none) (m2 : mg "len" = none) (m3 : mg "max" = none) : L2H.FnH P w K mg base CX0 (j + 1) f fd ["new"] spLn := by
  refine okH F scLn (fun vs H Q E h => ?_) (fun cdv A outer s H vs Q E pn hot hr h => ?_)
  · obtain ⟨e, rfl, _⟩ := h
    rfl
  · obtain ⟨e, rfl, hk, hl, q⟩ := h
    have hcX : L2H.HotC (L2H.cxH CX0 P w K mg base NLn "longest_new" (defScope sLongN) f cdv A outer s H E pn) := ⟨pn, hot, List.mem_singleton_self pn⟩
    have hz := PySem.sizeLine_eq
    refine ⟨_, pss_cons (ps_set (i := 1) scLn.nd rfl (.inl rfl) (pe_lst pa_nil))
      (pss_cons (ps_set (i := 2) scLn.nd rfl (.inl rfl) pe_int)
      (pss_cons (L2H.ps_forH (passes_of rfl) hcX (L2H.pi_range1H (by rfl) m1 (pa_cons (pe_callB call_len (by rfl) m2 PySem.boot_len (pa_cons (pv 0) pa_nil)) pa_nil)) (pg_name (i := 3) scLn.nd rfl (.inl rfl))
        (pss_cons (ps_set (i := 2) scLn.nd rfl (.inl rfl) (pe_callB (L2H.call_max2H hcX) (by rfl) m3 (by decide +kernel) (pa_cons pe_int (pa_cons (pe_op op_sub (pv 2) pe_int) pa_nil))))
        (pss_cons (ps_while (passes_of rfl) (PW.pt (pw_and (pt_cmpR op_lt (pv 2) (L2H.pe_callH (E := fun _ => E0) GM (hr.mono l1) hcX (by rfl) gM kM bM (fun σ _ _ _ _ _ _ z => z.elim) (pa_cons (pv 0) (pa_cons (pv 3) pa_nil))) (nomark _))
            (pw_and1 (pt_cmpR op_ge (pe_bmB PySem.W.KBf.slot_find PySem.W.KBf.type_find mt_bfind4 (pv 0) (pa_cons (pe_slice sl_byt (pv 0) (po_some (pv 3)) (po_some (pe_op op_add (pe_op op_add (pv 3) (pv 2)) pe_int))) (pa_cons pe_int (pa_cons (pe_op op_add (pv 3) (pv 2)) pa_nil)))) pe_int (nomark _)))))
          (pss_one (ps_aug (i := 2) scLn.nd rfl (.inl rfl) pe_int ip_add)))
        (pss_one (ps_expr (pe_bm PySem.F.plainAttrs_list PySem.F.slot_list_append PySem.F.type_list_append mt_append (pv 1) (pa_cons (pv 2) pa_nil)))))))
      (pss_one (ps_ret (pv 1))))), ?_⟩
    refine ⟨Nat.zero_le _, fun D nD => ?_⟩
    try dsimp only [gName]
    refine ⟨_, rfl, _, (byB e).size, rfl, ⟨by rw [byB_size]; omega, rfl⟩, ((byB e).size : Int), rfl, by rw [byB_size]; omega, by rw [byB_size]; omega, ?_⟩
    refine for_range (lo := 0) (n := (((byB e).size : Nat) : Int).toNat) (fun i σ H' => ∃ (y3 : Option V) (m : Nat) (ms : List Nat), σ = [some (.byt (byB e)), some (.ref D), some (.int (m : Int)), y3] ∧ Same H H' ∧ H' D = some (.lst (bys ms)) ∧ ms.length = i ∧ (∀ t, t < ms.length → LongN e t (ms.getD t 0)) ∧ CpN e i (m - 1) ∧ m ≤ mostN e i + 1)
      ⟨_, 0, [], rfl, same_upd nD, upd_same, rfl, fun t z => absurd z (Nat.not_lt_zero _), .inl rfl, Nat.zero_le _⟩ (fun i σ H' hi h => ?_) (fun σ H' h => ?_)
    · obtain ⟨y3, m, ms, rfl, sm, hD, hml, hms, hcp, hmb⟩ := h
      rw [Int.toNat_natCast, byB_size] at hi
      have e0 : (0 : Int) + (i : Int) = (i : Int) := by omega
      rw [e0]
      refine ⟨_, rfl, _, _, rfl, rfl, _, _, rfl, ?_⟩
      have e1 : (if (m : Int) - 1 > 0 then (m : Int) - 1 else 0) = ((m - 1 : Nat) : Int) := by split <;> omega
      try dsimp only [gName]
      rw [e1]
      refine ⟨fun n σ H3 => ∃ m : Nat, σ = [some (.byt (byB e)), some (.ref D), some (.int (m : Int)), some (.int (i : Int))] ∧ H3 = H' ∧ m ≤ mostN e i ∧ n = mostN e i - m ∧ CpN e i m, ⟨_, m - 1, rfl, rfl, by omega, rfl, hcp⟩, fun n σ H3 hW => ?_⟩
      obtain ⟨m, rfl, rfl, hm, rfl, hc⟩ := hW
      have hmost : mostN e i ≤ 255 ∧ mostN e i ≤ e.length - i := ⟨Nat.min_le_left _ _, Nat.min_le_right _ _⟩
      have fin : LongN e i m → ∃ (z3 : Option V) (m_1 : Nat) (ms_1 : List Nat), [some (V.byt (byB e)), some (.ref D), some (.int (m : Int)), some (.int (i : Int))] = [some (.byt (byB e)), some (.ref D), some (.int (m_1 : Int)), z3] ∧ Same H (upd H3 D (.lst (bys ms ++ [.int (m : Int)]))) ∧ (upd H3 D (.lst (bys ms ++ [.int (m : Int)]))) D = some (.lst (bys ms_1)) ∧ ms_1.length = i + 1 ∧ (∀ t, t < ms_1.length → LongN e t (ms_1.getD t 0)) ∧ CpN e (i + 1) (m_1 - 1) ∧ m_1 ≤ mostN e (i + 1) + 1 := fun hL =>
        ⟨_, m, ms ++ [m], rfl, same_put sm nD, by rw [upd_same, ← bys_app]; rfl, by rw [List.length_append, hml]; rfl, getD_snoc (i := 0) (P := fun t x => LongN e t x) hms (by rw [hml]; exact hL), hc.next, by unfold mostN at *; omega⟩
      refine ⟨_, rfl, _, rfl, _, rfl, e, i, rfl, hl, by omega, _, _, rfl, rfl, _, rfl, ite2 (fun t1 => ?_) (fun t1 => ?_)⟩
      · have t1 : m < mostN e i := by have := of_decide_eq_true t1; omega
        refine ⟨_, rfl, ⟨_, rfl⟩, _, rfl, _, rfl, _, rfl, _, rfl, _, rfl, _, _, rfl, rfl, _, _, rfl, rfl, _, rfl, _, rfl, (by rw [byB_size]; omega), ?_⟩
        have e3 : PySem.W.KBy.picked (byB e) (some (i : Int)) (some ((i : Int) + (m : Int) + 1)) = byB (sliceN e i (m + 1)) := by
          rw [show (i : Int) + (m : Int) + 1 = ((i + (m + 1) : Nat) : Int) by push_cast; omega]
          exact picked_slice e i (m + 1) (by omega)
        dsimp only
        rw [e3]
        refine ⟨_, rfl, _, rfl, _, _, rfl, rfl, _, _, _, _, rfl, rfl, Int.le_refl 0, by omega, ?_⟩
        have FI := fnd_is hk (slice_lt hk (i := i) (m := m + 1)) 0 (i + m)
        have e4 : ((0 : Nat) : Int) = 0 := rfl
        have e5 : (i : Int) + (m : Int) = ((i + m : Nat) : Int) := by push_cast; rfl
        rw [e5]
        rw [e4] at FI
        obtain ⟨s1, s2⟩ := fndN_step (by omega) FI
        generalize BFX.fnd (byB e) (byB (sliceN e i (m + 1))) 0 ((i + m : Nat) : Int) = o at *
        refine ⟨_, _, rfl, rfl, _, rfl, ?_⟩
        cases o with
        | none =>
          refine iteF ?_
          refine ⟨_, rfl, .inl ⟨rfl, _, .inl (.inl hD)⟩, _, rfl, D, _, _, rfl, rfl, hD, by rw [bys_len]; omega, fin ⟨hm, hc, fun _ => s1 rfl⟩⟩
        | some x =>
          have hx : (0 : Int) ≤ (x : Int) := by omega
          refine iteC (decide_eq_true hx) ?_
          refine ⟨_, fun _ _ h => h, ?_⟩
          refine ⟨_, rfl, _, _, rfl, rfl, mostN e i - (m + 1), by omega, m + 1, by push_cast; rfl, rfl, by omega, rfl, s2 x rfl⟩
      · have t1 : ¬ m < mostN e i := fun z => t1 (decide_eq_true (by omega))
        refine iteF ?_
        refine ⟨_, rfl, .inl ⟨rfl, _, .inl (.inl hD)⟩, _, rfl, D, _, _, rfl, rfl, hD, by rw [bys_len]; omega, fin ⟨hm, hc, fun z => absurd z t1⟩⟩
    · obtain ⟨y3, m, ms, rfl, sm, hD, hml, hms, hcp, hmb⟩ := h
      rw [Int.toNat_natCast, byB_size] at hml
      exact ⟨_, rfl, q H' D ms sm nD hD hml (by rw [← hml]; exact hms)⟩
theorem okh_lo {f fM : Addr} {fd fdM : FuncData} {j k1 : Nat} (F : Fun K "longest_old" "longest_old" sLongO f fd) (GM : L2H.FnH P w K mg base CX0 k1 fM fdM ["new", "at"] spMa) (bM : Binds K fdM ["new", "at"] []) (kM : PySem.W.keepIn K (.ref fM) = true) (gM : mg "most_at" = some (.ref fM)) (l1 : k1 ≤ j)
    (m1 : mg "range" = none) (m2 : mg "len" = none) (m3 : mg "max" = none) : L2H.FnH P w K mg base CX0 (j + 1) f fd ["old", "new"] spLo := by
  refine okH F scLo (fun vs H Q E h => ?_) (fun cdv A outer s H vs Q E pn hot hr h => ?_)
  · obtain ⟨old, e, rfl, _⟩ := h
    rfl
  · obtain ⟨old, e, rfl, hko, hol, hk, hl, q⟩ := h
    have hcX : L2H.HotC (L2H.cxH CX0 P w K mg base NLo "longest_old" (defScope sLongO) f cdv A outer s H E pn) := ⟨pn, hot, List.mem_singleton_self pn⟩
    have hz := PySem.sizeLine_eq
    refine ⟨_, pss_cons (ps_set (i := 2) scLo.nd rfl (.inl rfl) (pe_lst pa_nil))
      (pss_cons (ps_set (i := 3) scLo.nd rfl (.inl rfl) pe_int)
      (pss_cons (L2H.ps_forH (passes_of rfl) hcX (L2H.pi_range1H (by rfl) m1 (pa_cons (pe_callB call_len (by rfl) m2 PySem.boot_len (pa_cons (pv 1) pa_nil)) pa_nil)) (pg_name (i := 4) scLo.nd rfl (.inl rfl))
        (pss_cons (ps_set (i := 3) scLo.nd rfl (.inl rfl) (pe_callB (L2H.call_max2H hcX) (by rfl) m3 (by decide +kernel) (pa_cons pe_int (pa_cons (pe_op op_sub (pv 3) pe_int) pa_nil))))
        (pss_cons (ps_while (passes_of rfl) (PW.pt (pw_and (pt_cmpR op_lt (pv 3) (L2H.pe_callH (E := fun _ => E0) GM (hr.mono l1) hcX (by rfl) gM kM bM (fun σ _ _ _ _ _ _ z => z.elim) (pa_cons (pv 1) (pa_cons (pv 4) pa_nil))) (nomark _))
            (pw_and1 (pt_cmpR op_ge (pe_bmB PySem.W.KBf.slot_find PySem.W.KBf.type_find mt_bfind1 (pv 0) (pa_cons (pe_slice sl_byt (pv 1) (po_some (pv 4)) (po_some (pe_op op_add (pe_op op_add (pv 4) (pv 3)) pe_int))) pa_nil)) pe_int (nomark _)))))
          (pss_one (ps_aug (i := 3) scLo.nd rfl (.inl rfl) pe_int ip_add)))
        (pss_one (ps_expr (pe_bm PySem.F.plainAttrs_list PySem.F.slot_list_append PySem.F.type_list_append mt_append (pv 2) (pa_cons (pv 3) pa_nil)))))))
      (pss_one (ps_ret (pv 2))))), ?_⟩
    refine ⟨Nat.zero_le _, fun D nD => ?_⟩
    try dsimp only [gName]
    refine ⟨_, rfl, _, (byB e).size, rfl, ⟨by rw [byB_size]; omega, rfl⟩, ((byB e).size : Int), rfl, by rw [byB_size]; omega, by rw [byB_size]; omega, ?_⟩
    refine for_range (lo := 0) (n := (((byB e).size : Nat) : Int).toNat) (fun i σ H' => ∃ (y3 : Option V) (m : Nat) (ms : List Nat), σ = [some (.byt (byB old)), some (.byt (byB e)), some (.ref D), some (.int (m : Int)), y3] ∧ Same H H' ∧ H' D = some (.lst (bys ms)) ∧ ms.length = i ∧ (∀ t, t < ms.length → LongO old e t (ms.getD t 0)) ∧ CpO old e i (m - 1) ∧ m ≤ mostN e i + 1)
      ⟨_, 0, [], rfl, same_upd nD, upd_same, rfl, fun t z => absurd z (Nat.not_lt_zero _), cpO_zero _ _ _, Nat.zero_le _⟩ (fun i σ H' hi h => ?_) (fun σ H' h => ?_)
    · obtain ⟨y3, m, ms, rfl, sm, hD, hml, hms, hcp, hmb⟩ := h
      rw [Int.toNat_natCast, byB_size] at hi
      have e0 : (0 : Int) + (i : Int) = (i : Int) := by omega
      rw [e0]
      refine ⟨_, rfl, _, _, rfl, rfl, _, _, rfl, ?_⟩
      have e1 : (if (m : Int) - 1 > 0 then (m : Int) - 1 else 0) = ((m - 1 : Nat) : Int) := by split <;> omega
      try dsimp only [gName]
      rw [e1]
      refine ⟨fun n σ H3 => ∃ m : Nat, σ = [some (.byt (byB old)), some (.byt (byB e)), some (.ref D), some (.int (m : Int)), some (.int (i : Int))] ∧ H3 = H' ∧ m ≤ mostN e i ∧ n = mostN e i - m ∧ CpO old e i m, ⟨_, m - 1, rfl, rfl, by omega, rfl, hcp⟩, fun n σ H3 hW => ?_⟩
      obtain ⟨m, rfl, rfl, hm, rfl, hc⟩ := hW
      have hmost : mostN e i ≤ 255 ∧ mostN e i ≤ e.length - i := ⟨Nat.min_le_left _ _, Nat.min_le_right _ _⟩
      have fin : LongO old e i m → ∃ (z3 : Option V) (m_1 : Nat) (ms_1 : List Nat), [some (V.byt (byB old)), some (V.byt (byB e)), some (.ref D), some (.int (m : Int)), some (.int (i : Int))] = [some (.byt (byB old)), some (.byt (byB e)), some (.ref D), some (.int (m_1 : Int)), z3] ∧ Same H (upd H3 D (.lst (bys ms ++ [.int (m : Int)]))) ∧ (upd H3 D (.lst (bys ms ++ [.int (m : Int)]))) D = some (.lst (bys ms_1)) ∧ ms_1.length = i + 1 ∧ (∀ t, t < ms_1.length → LongO old e t (ms_1.getD t 0)) ∧ CpO old e (i + 1) (m_1 - 1) ∧ m_1 ≤ mostN e (i + 1) + 1 := fun hL =>
        ⟨_, m, ms ++ [m], rfl, same_put sm nD, by rw [upd_same, ← bys_app]; rfl, by rw [List.length_append, hml]; rfl, getD_snoc (i := 0) (P := fun t x => LongO old e t x) hms (by rw [hml]; exact hL), hc.next, by unfold mostN at *; omega⟩
      refine ⟨_, rfl, _, rfl, _, rfl, e, i, rfl, hl, by omega, _, _, rfl, rfl, _, rfl, ite2 (fun t1 => ?_) (fun t1 => ?_)⟩
      · have t1 : m < mostN e i := by have := of_decide_eq_true t1; omega
        refine ⟨_, rfl, ⟨_, rfl⟩, _, rfl, _, rfl, _, rfl, _, rfl, _, rfl, _, _, rfl, rfl, _, _, rfl, rfl, _, rfl, _, rfl, (by rw [byB_size]; omega), ?_⟩
        have e3 : PySem.W.KBy.picked (byB e) (some (i : Int)) (some ((i : Int) + (m : Int) + 1)) = byB (sliceN e i (m + 1)) := by
          rw [show (i : Int) + (m : Int) + 1 = ((i + (m + 1) : Nat) : Int) by push_cast; omega]
          exact picked_slice e i (m + 1) (by omega)
        dsimp only
        rw [e3]
        refine ⟨_, _, rfl, rfl, ?_⟩
        have FI := fnd_is hko (slice_lt hk (i := i) (m := m + 1)) 0 old.length
        have e4 : ((0 : Nat) : Int) = 0 := rfl
        rw [byB_size]
        rw [e4] at FI
        obtain ⟨s1, s2⟩ := fndO_step (by omega) FI
        generalize BFX.fnd (byB old) (byB (sliceN e i (m + 1))) 0 (old.length : Int) = o at *
        refine ⟨_, _, rfl, rfl, _, rfl, ?_⟩
        cases o with
        | none =>
          refine iteF ?_
          refine ⟨_, rfl, .inl ⟨rfl, _, .inl (.inl hD)⟩, _, rfl, D, _, _, rfl, rfl, hD, by rw [bys_len]; omega, fin ⟨hm, hc, fun _ => s1 rfl⟩⟩
        | some x =>
          have hx : (0 : Int) ≤ (x : Int) := by omega
          refine iteC (decide_eq_true hx) ?_
          refine ⟨_, fun _ _ h => h, ?_⟩
          refine ⟨_, rfl, _, _, rfl, rfl, mostN e i - (m + 1), by omega, m + 1, by push_cast; rfl, rfl, by omega, rfl, s2 x rfl⟩
      · have t1 : ¬ m < mostN e i := fun z => t1 (decide_eq_true (by omega))
        refine iteF ?_
        refine ⟨_, rfl, .inl ⟨rfl, _, .inl (.inl hD)⟩, _, rfl, D, _, _, rfl, rfl, hD, by rw [bys_len]; omega, fin ⟨hm, hc, fun z => absurd z t1⟩⟩
    · obtain ⟨y3, m, ms, rfl, sm, hD, hml, hms, hcp, hmb⟩ := h
      rw [Int.toNat_natCast, byB_size] at hml
      exact ⟨_, rfl, q H' D ms sm nD hD hml (by rw [← hml]; exact hms)⟩
theorem okh_lm {f : Addr} {fd : FuncData} {j : Nat} (F : Fun K "_law_mark" "_law_mark" sLMark f fd) (m1 : mg "len" = none) (m2 : mg "sum" = none) (m3 : mg "enumerate" = none) :
    L2H.FnH P w K mg base CX0 (j + 1) f fd ["_law_numbers_here"] spLm := by
  refine okH F scLm (fun vs H Q E h => ?_) (fun cdv A outer s H vs Q E pn hot hr h => ?_)
  · obtain ⟨p, ks, rfl, _⟩ := h
    rfl
  · obtain ⟨p, ks, rfl, hp, hk, hl, q⟩ := h
    have hcX : L2H.HotC (L2H.cxH CX0 P w K mg base NLm "_law_mark" (defScope sLMark) f cdv A outer s H E pn) := ⟨pn, hot, List.mem_singleton_self pn⟩
    have hz := PySem.sizeLine_eq
    refine ⟨_, pss_one (ps_ret (pe_tup (pa_cons (pe_callB call_len_seq (by rfl) m1 PySem.boot_len (pa_cons (pv 0) pa_nil)) (pa_cons (pe_op op_modN (pe_callB (L2H.cr_sumH hcX) (by rfl) m2 (by decide +kernel) (pa_cons
      (L2H.pe_lcG (own := [("_law_at", 1), ("_law_one", 2)]) (g := gTup K 2 (gCons (gName 1) (gCons (gName 2) gNil))) (tt := tYes) hcX scLm.nd (L2H.pig_enumL (by rfl) m3 (pa_cons (pv 0) pa_nil)) (blkOk_by (N := NLm) (sc := defScope sLMark) (by decide +kernel))
        (fun _ _ _ _ _ => L2H.pgg_tup (pgs_cons (pg_name (i := 1) scLm.nd rfl (.inl rfl)) (pgs_cons (pg_name (i := 2) scLm.nd rfl (.inl rfl)) pgs_nil))) (fun _ _ _ _ _ => pts_nil)
        (fun _ _ _ _ _ => pe_op op_mul (pe_op op_add (pv 1) pe_int) (pv 2))) pa_nil)) pe_int) pa_nil)))), ?_⟩
    refine ⟨_, rfl, p, _, rfl, .inl (.inl (.inl hp)), ?_⟩
    refine ⟨_, rfl, p, _, rfl, .inl (.inl hp), fun D nD => ?_⟩
    refine lc_it (walk_enum (K := K) (a := p) (xs := bys ks)) (fun i H' => Same H H' ∧ H' D = some (.lst (((mrkL ks).take i).map V.int))) ⟨same_upd nD, by rw [upd_same]; rfl⟩ (fun i H' _ h => .inl (.inl (h.1 _ _ hp))) (fun i x H2 H3 hi z y => ?_) (fun H2 z => ?_)
    · obtain ⟨sm, hD⟩ := z
      rw [bys_len] at hi
      obtain ⟨T0, x0, y0, rfl, nT0, rfl, e0, e1⟩ := y
      obtain rfl := Option.some.inj e0
      have hki : ks[i]? = some ks[i] := List.getElem?_eq_getElem hi
      have hy : y0 = .int ((ks[i] : Nat) : Int) := by
        have e1 : (bys ks)[i]? = some y0 := e1
        rw [bys_eq, List.getElem?_map, hki] at e1
        exact (Option.some.inj e1).symm
      subst hy
      have hk2 := hk _ (List.getElem_mem hi)
      have hm1 := mrkL_at hki
      generalize ks[i] = c at *
      have sm2 : Same H2 (upd H2 T0 (.tup [.int (i : Nat), .int (c : Int)])) := same_upd nT0
      have hD2 := sm2 _ _ hD
      refine ⟨T0, _, rfl, .inl (.inl upd_same), rfl, _, _, rfl, _, _, rfl, rfl, rfl, yes ?_⟩
      refine ⟨_, rfl, _, _, rfl, rfl, _, rfl, _, _, rfl, rfl, .inl ⟨by omega, by omega⟩, _, hD2, ?_, same_put (sm.trans sm2) nD, ?_⟩
      · rw [List.length_map, List.length_take, mrkL_len, hz]
        omega
      · rw [upd_same, take_snocG hm1, List.map_append]
        push_cast
        rfl
    · obtain ⟨sm, hD⟩ := z
      rw [bys_len, ← mrkL_len, List.take_length] at hD
      refine ⟨D, mrkL ks, rfl, .inl (.inl hD), _, _, rfl, rfl, (by show (65521 : Int) ≠ 0; decide), ?_⟩
      dsimp only
      rw [mrkL_sum]
      refine ⟨(by show 2 ≤ sizeLine; omega), fun t nt => ?_⟩
      rw [bys_len]
      exact q _ t (sm.trans (same_upd nt)) (none_back sm nt) upd_same
theorem okh_reInit (T : ReTxt K mg C fI fA fO) {f1 f2 : Addr} {fd fd1 fd2 : FuncData} {j k1 k2 : Nat} (F : Fun K "__init__" "Reaches.__init__" sReInit fI fd)
    (G1 : L2H.FnH P w K mg base CX0 k1 f1 fd1 ["new"] spLn) (b1 : Binds K fd1 ["new"] []) (kk1 : PySem.W.keepIn K (.ref f1) = true) (g1 : mg "longest_new" = some (.ref f1)) (l1 : k1 ≤ j)
    (G2 : L2H.FnH P w K mg base CX0 k2 f2 fd2 ["old", "new"] spLo) (b2 : Binds K fd2 ["old", "new"] []) (kk2 : PySem.W.keepIn K (.ref f2) = true) (g2 : mg "longest_old" = some (.ref f2)) (l2 : k2 ≤ j) :
    L2H.FnH P w K mg base CX0 (j + 1) fI fd ["self", "old", "new"] (spReI C) := by
  refine okH F scReI (fun vs H Q E h => ?_) (fun cdv A outer s H vs Q E pn hot hr h => ?_)
  · obtain ⟨x, dx, old, new, rfl, _⟩ := h
    rfl
  · obtain ⟨x, dx, old, new, rfl, hx, ⟨ko, lo, kn, ln⟩, fin⟩ := h
    have hcX : L2H.HotC (L2H.cxH CX0 P w K mg base ["self", "old", "new"] "Reaches.__init__" (defScope sReInit) fI cdv A outer s H E pn) := ⟨pn, hot, List.mem_singleton_self pn⟩
    refine ⟨_, pss_cons (ps_fld (pv 0) (pv 1) rfl) (pss_cons (ps_fld (pv 0) (pv 2) rfl)
      (pss_cons (ps_fld (pv 0) (L2H.pe_callH (E := fun _ => E0) G1 (hr.mono l1) hcX (by rfl) g1 kk1 b1 (fun σ _ _ _ _ _ _ z => z.elim) (pa_cons (pv 2) pa_nil)) rfl)
      (pss_one (ps_fld (pv 0) (L2H.pe_callH (E := fun _ => E0) G2 (hr.mono l2) hcX (by rfl) g2 kk2 b2 (fun σ _ _ _ _ _ _ z => z.elim) (pa_cons (pv 1) (pa_cons (pv 2) pa_nil))) rfl)))), ?_⟩
    refine ⟨_, rfl, _, rfl, x, C, dx, _, rfl, hx, T.cl, T.nO, (by show 0 < 1000; decide), ?_⟩
    have k1 : ∀ b o, b ≠ x → H b = some o → (upd H x (.ins C dx (putF "old" (.byt (byB old)) []))) b = some o := fun b o n e => by rw [upd_ne n]; exact e
    have h1 : (upd H x (.ins C dx (putF "old" (.byt (byB old)) []))) x = some (.ins C dx (putF "old" (.byt (byB old)) [])) := upd_same
    generalize upd H x (.ins C dx (putF "old" (.byt (byB old)) [])) = H1 at *
    refine ⟨_, rfl, _, rfl, x, C, dx, _, rfl, h1, T.cl, T.nN, (by show 1 < 1000; decide), ?_⟩
    have k2 : ∀ b o, b ≠ x → H b = some o → (upd H1 x (.ins C dx (putF "new" (.byt (byB new)) (putF "old" (.byt (byB old)) [])))) b = some o := fun b o n e => by rw [upd_ne n]; exact k1 b o n e
    have h2 : (upd H1 x (.ins C dx (putF "new" (.byt (byB new)) (putF "old" (.byt (byB old)) [])))) x = some (.ins C dx (putF "new" (.byt (byB new)) (putF "old" (.byt (byB old)) []))) := upd_same
    generalize upd H1 x (.ins C dx (putF "new" (.byt (byB new)) (putF "old" (.byt (byB old)) []))) = H2 at *
    refine ⟨_, rfl, new, rfl, kn, ln, fun H3 p ms s3 np hp hml hms => ?_⟩
    have h3 := s3 _ _ h2
    have nxp : x ≠ p := ne_of_none h2 np
    refine ⟨_, rfl, x, C, dx, _, rfl, h3, T.cl, T.nM, (by show 2 < 1000; decide), ?_⟩
    have k4 : ∀ b o, b ≠ x → H b = some o → (upd H3 x (.ins C dx (putF "many_new" (.ref p) (putF "new" (.byt (byB new)) (putF "old" (.byt (byB old)) []))))) b = some o := fun b o n e => by rw [upd_ne n]; exact s3 _ _ (k2 b o n e)
    have h4 : (upd H3 x (.ins C dx (putF "many_new" (.ref p) (putF "new" (.byt (byB new)) (putF "old" (.byt (byB old)) []))))) x = some (.ins C dx (putF "many_new" (.ref p) (putF "new" (.byt (byB new)) (putF "old" (.byt (byB old)) [])))) := upd_same
    have hp4 : (upd H3 x (.ins C dx (putF "many_new" (.ref p) (putF "new" (.byt (byB new)) (putF "old" (.byt (byB old)) []))))) p = some (.lst (bys ms)) := by rw [upd_ne (Ne.symm nxp)]; exact hp
    generalize upd H3 x (.ins C dx (putF "many_new" (.ref p) (putF "new" (.byt (byB new)) (putF "old" (.byt (byB old)) [])))) = H4 at *
    refine ⟨_, rfl, _, rfl, old, new, rfl, ko, lo, kn, ln, fun H5 q ls s5 nq hq hll hls => ?_⟩
    have h5 := s5 _ _ h4
    have hp5 := s5 _ _ hp4
    have nxq : x ≠ q := ne_of_none h4 nq
    refine ⟨_, rfl, x, C, dx, _, rfl, h5, T.cl, T.nL, (by show 3 < 1000; decide), ?_⟩
    rw [reF_put]
    refine fin _ ms ls (fun b o n e => by rw [upd_ne n]; exact s5 _ _ (k4 b o n e)) ⟨dx, p, q, upd_same, ?_, ?_, ⟨hml, hll, hms, hls⟩⟩
    · rw [upd_ne (Ne.symm nxp)]
      exact hp5
    · rw [upd_ne (Ne.symm nxq)]
      exact hq
theorem okh_reA (T : ReTxt K mg C fI fA fO) {fd : FuncData} {j : Nat} {t1 t2 t3 t4 : Tok} (F : Fun K "copies_at" "Reaches.copies_at" sReAt fA fd) (c1 : mg "FEWEST_NEW" = some (.int 3 t1)) (c2 : mg "FEWEST_OLD" = some (.int 1 t2)) (c3 : mg "NEW_BITS" = some (.int 20 t3)) (c4 : mg "OLD_BITS" = some (.int 24 t4)) :
    L2H.FnH P w K mg base CX0 (j + 1) fA fd ["self", "at"] (spReA C) := by
  refine okH F scReA (fun vs H Q E h => ?_) (fun cdv A outer s H vs Q E pn hot hr h => ?_)
  · obtain ⟨x, old, new, ms, ls, i, rfl, _⟩ := h
    rfl
  · obtain ⟨x, old, new, ms, ls, i, rfl, ⟨dx, p, q0, hx, hp, hq, RO⟩, hi, fin⟩ := h
    have hcX : L2H.HotC (L2H.cxH CX0 P w K mg base ["self", "at", "copies"] "Reaches.copies_at" (defScope sReAt) fA cdv A outer s H E pn) := ⟨pn, hot, List.mem_singleton_self pn⟩
    have hz := PySem.sizeLine_eq
    refine ⟨_, pss_cons (ps_set (i := 2) scReA.nd rfl (.inl rfl) (pe_lst pa_nil))
      (pss_cons (ps_if (pt_cmpR op_ge (pe_ix ix_list (pe_fld (pv 0) rfl) (pv 1) (fun _ _ => rfl)) (pe_glob (v := .int 3) rfl c1 ⟨_, rfl⟩) (nomark _))
        (pss_one (ps_expr (pe_bm PySem.F.plainAttrs_list PySem.F.slot_list_append PySem.F.type_list_append mt_append (pv 2) (pa_cons (pe_tup (pa_cons (pe_ix ix_list (pe_fld (pv 0) rfl) (pv 1) (fun _ _ => rfl)) (pa_cons pe_bl (pa_cons (pe_glob (v := .int 20) rfl c3 ⟨_, rfl⟩) pa_nil)))) pa_nil)))) pss_nil)
      (pss_cons (ps_if (pt_cmpR op_ge (pe_ix ix_list (pe_fld (pv 0) rfl) (pv 1) (fun _ _ => rfl)) (pe_glob (v := .int 1) rfl c2 ⟨_, rfl⟩) (nomark _))
        (pss_one (ps_expr (pe_bm PySem.F.plainAttrs_list PySem.F.slot_list_append PySem.F.type_list_append mt_append (pv 2) (pa_cons (pe_tup (pa_cons (pe_ix ix_list (pe_fld (pv 0) rfl) (pv 1) (fun _ _ => rfl)) (pa_cons pe_bl (pa_cons (pe_glob (v := .int 24) rfl c4 ⟨_, rfl⟩) pa_nil)))) pa_nil)))) pss_nil)
      (pss_one (ps_ret (pv 2))))), ?_⟩
    refine ⟨Nat.zero_le _, fun D nD => ?_⟩
    have s1 := same_upd (o := .lst []) nD
    have hD1 : (upd H D (.lst [])) D = some (.lst []) := upd_same
    generalize upd H D (.lst []) = H1 at *
    try dsimp only [gName]
    have hm1 : atI (bys ms) ((i : Nat) : Int) = some (.int ((ms.getD i 0 : Nat) : Int)) := at_of' rfl (by rw [RO.lm]; exact hi)
    have hl1 : atI (bys ls) ((i : Nat) : Int) = some (.int ((ls.getD i 0 : Nat) : Int)) := at_of' rfl (by rw [RO.ll]; exact hi)
    generalize ms.getD i 0 = m at *
    generalize ls.getD i 0 = l at *
    obtain ⟨M, hM⟩ : ∃ M : L2.St → Hp → Prop, M = (fun σ' H' => ∃ us, σ' = [some (.ref x), some (.int (i : Int)), some (.ref D)] ∧ Same H H' ∧ H' D = some (.lst us) ∧ Paired (C3At H') (if 3 ≤ m then [(m, true, 20)] else []) us) := ⟨_, rfl⟩
    with_reducible refine seq_mid M (fun N hN => ?_) (fun σ2 H2 h => ?_)
    · refine ⟨_, rfl, x, C, dx, _, _, rfl, s1 _ _ hx, T.cl, T.nM, reF_p _ _ _ _, _, rfl, p, _, _, _, rfl, rfl, .inl (.inl (s1 _ _ hp)), hm1, _, _, rfl, rfl, _, rfl, ite2 (fun e => ?_) (fun e => ?_)⟩
      · have e := of_decide_eq_true e
        refine ⟨_, rfl, .inl ⟨rfl, _, .inl (.inl hD1)⟩, _, rfl, x, C, dx, _, _, rfl, s1 _ _ hx, T.cl, T.nM, reF_p _ _ _ _, _, rfl, p, _, _, _, rfl, rfl, .inl (.inl (s1 _ _ hp)), hm1, (by show 3 ≤ sizeLine; omega), fun t nt => ?_⟩
        have st := same_upd (o := .tup [.int (m : Int), .bl true, .int 20]) nt
        refine ⟨D, _, _, rfl, rfl, st _ _ hD1, by rw [hz]; decide, hN _ _ ?_⟩
        rw [hM, if_pos (by omega)]
        exact ⟨[.ref t], rfl, same_put (s1.trans st) nD, upd_same, .cons ⟨t, rfl, by rw [upd_ne (ne_of (upd_same (H := H1)) (st _ _ hD1) (fun z => nomatch z))]; exact upd_same⟩ .nil⟩
      · have e : ¬ (3 : Int) ≤ (m : Int) := fun z => e (decide_eq_true z)
        refine hN _ _ ?_
        rw [hM, if_neg (by omega)]
        exact ⟨[], rfl, s1, hD1, .nil⟩
    · rw [hM] at h
      obtain ⟨us, rfl, s2, hD2, hP⟩ := h
      have hul : us.length ≤ 1 := by
        rw [← hP.length]
        split
        · exact Nat.le_refl 1
        · exact Nat.zero_le _
      refine ⟨_, rfl, x, C, dx, _, _, rfl, s2 _ _ hx, T.cl, T.nL, reF_q _ _ _ _, _, rfl, q0, _, _, _, rfl, rfl, .inl (.inl (s2 _ _ hq)), hl1, _, _, rfl, rfl, _, rfl, ite2 (fun e => ?_) (fun e => ?_)⟩
      · have e := of_decide_eq_true e
        refine ⟨_, rfl, .inl ⟨rfl, _, .inl (.inl hD2)⟩, _, rfl, x, C, dx, _, _, rfl, s2 _ _ hx, T.cl, T.nL, reF_q _ _ _ _, _, rfl, q0, _, _, _, rfl, rfl, .inl (.inl (s2 _ _ hq)), hl1, (by show 3 ≤ sizeLine; omega), fun t nt => ?_⟩
        have st := same_upd (o := .tup [.int (l : Int), .bl false, .int 24]) nt
        refine ⟨D, _, _, rfl, rfl, st _ _ hD2, by omega, ?_⟩
        refine ⟨_, rfl, fin _ D (us ++ [.ref t]) (same_put (s2.trans st) nD) nD upd_same ?_⟩
        unfold copsL
        rw [if_pos (show 1 ≤ l by omega)]
        refine (hP.mono fun _ _ h => (h.same st).keep (tup_put (st _ _ hD2))).snoc ⟨t, rfl, ?_⟩
        rw [upd_ne (ne_of (upd_same (H := H2)) (st _ _ hD2) (fun z => nomatch z))]
        exact upd_same
      · have e : ¬ (1 : Int) ≤ (l : Int) := fun z => e (decide_eq_true z)
        refine ⟨_, rfl, fin _ D us s2 nD hD2 ?_⟩
        unfold copsL
        rw [if_neg (show ¬ 1 ≤ l by omega), List.append_nil]
        exact hP
theorem okh_reO (T : ReTxt K mg C fI fA fO) {fd : FuncData} {j : Nat} {t1 t2 : Tok} (F : Fun K "copy_at" "Reaches.copy_at" sReOne fO fd) (c1 : mg "NEW" = some (.str "new" t1)) (c2 : mg "OLD" = some (.str "old" t2)) :
    L2H.FnH P w K mg base CX0 (j + 1) fO fd ["self", "at", "many", "is_new"] (spReO C) := by
  refine okH F scReO (fun vs H Q E h => ?_) (fun cdv A outer s H vs Q E pn hot hr h => ?_)
  · obtain ⟨x, old, new, ms, ls, i, m, b, rfl, _⟩ := h
    rfl
  · obtain ⟨x, old, new, ms, ls, i, m, b, rfl, ⟨dx, p, q0, hx, hp, hq, RO⟩, ⟨ko, lo, kn, ln⟩, hm1, him, hcn, hco, fin⟩ := h
    have hcX : L2H.HotC (L2H.cxH CX0 P w K mg base ["self", "at", "many", "is_new", "wanted"] "Reaches.copy_at" (defScope sReOne) fO cdv A outer s H E pn) := ⟨pn, hot, List.mem_singleton_self pn⟩
    have hz := PySem.sizeLine_eq
    refine ⟨_, pss_cons (ps_set (i := 4) scReO.nd rfl (.inl rfl) (pe_slice sl_byt (pe_fld (pv 0) rfl) (po_some (pv 1)) (po_some (pe_op op_add (pv 1) (pv 2)))))
      (pss_cons (ps_if (pt_val (pv 3)) (pss_one (ps_ret (pe_tup (pa_cons (pe_glob (v := .str "new") rfl c1 ⟨_, rfl⟩) (pa_cons (pv 2) (pa_cons (pe_op op_sub (pv 1) (pe_bmB PySem.W.KBf.slot_rfind PySem.W.KBf.type_rfind mt_brfind4 (pe_fld (pv 0) rfl) (pa_cons (pv 4) (pa_cons pe_int (pa_cons (pe_op op_sub (pe_op op_add (pv 1) (pv 2)) pe_int) pa_nil))))) pa_nil)))))) pss_nil)
      (pss_one (ps_ret (pe_tup (pa_cons (pe_glob (v := .str "old") rfl c2 ⟨_, rfl⟩) (pa_cons (pv 2) (pa_cons (pe_bmB PySem.W.KBf.slot_find PySem.W.KBf.type_find mt_bfind1 (pe_fld (pv 0) rfl) (pa_cons (pv 4) pa_nil)) pa_nil))))))), ?_⟩
    refine ⟨_, rfl, x, C, dx, _, _, rfl, hx, T.cl, T.nN, reF_n _ _ _ _, _, rfl, _, rfl, _, rfl, _, rfl, _, _, rfl, rfl, _, rfl, _, rfl, (by rw [byB_size]; omega), ?_⟩
    have e3 : PySem.W.KBy.picked (byB new) (some (i : Int)) (some ((i : Int) + (m : Int))) = byB (sliceN new i m) := by
      rw [show (i : Int) + (m : Int) = ((i + m : Nat) : Int) by push_cast; rfl]
      exact picked_slice new i m (by omega)
    have hsl : (sliceN new i m).length = m := by rw [slice_len]; omega
    try dsimp only [gName]
    rw [e3]
    cases b with
    | true =>
      refine ⟨_, rfl, _, rfl, iteT ?_⟩
      refine ⟨_, rfl, _, rfl, _, rfl, x, C, dx, _, _, rfl, hx, T.cl, T.nN, reF_n _ _ _ _, ⟨_, rfl⟩, _, rfl, _, rfl, _, rfl, _, _, rfl, rfl, _, _, rfl, rfl, _, _, _, _, rfl, rfl, Int.le_refl 0, by omega, ?_⟩
      have FI := rfnd_is kn (slice_lt kn (i := i) (m := m)) 0 (i + m - 1)
      have e4 : ((0 : Nat) : Int) = 0 := rfl
      rw [e4] at FI
      have e5 : (i : Int) + (m : Int) - 1 = ((i + m - 1 : Nat) : Int) := by omega
      rw [e5]
      have no := FI.no
      have yes := FI.yes
      rw [hsl] at no yes
      generalize BFX.rfnd (byB new) (byB (sliceN new i m)) 0 ((i + m - 1 : Nat) : Int) = o at *
      cases o with
      | none =>
        exfalso
        rcases hcn rfl with z | ⟨s, z1, z2⟩
        · omega
        · exact no rfl s (Nat.zero_le _) (by omega) z2
      | some s =>
        obtain ⟨_, h2, h3, h4⟩ := yes s rfl
        refine ⟨_, _, rfl, rfl, (by show 3 ≤ sizeLine; omega), fun t nt => ?_⟩
        refine fin _ _ (.c true m (i - s)) (same_upd nt) ⟨_, rfl, fun _ => ⟨by omega, by omega, ?_, fun p' g1 g2 => ?_⟩, fun z => by cases z⟩ ⟨t, rfl, ?_⟩
        · rw [show i - (i - s) = s by omega]
          exact h3
        · exact h4 (i - p') (by omega) (by omega)
        · rw [upd_same]
          show some (HO.tup [V.str "new", V.int (m : Int), V.int ((i : Int) - (s : Int))]) = _
          rw [show (i : Int) - (s : Int) = ((i - s : Nat) : Int) by omega]
          rfl
    | false =>
      refine ⟨_, rfl, _, rfl, iteF ?_⟩
      refine ⟨_, rfl, _, rfl, x, C, dx, _, _, rfl, hx, T.cl, T.nO, reF_o _ _ _ _, ⟨_, rfl⟩, _, rfl, _, _, rfl, rfl, ?_⟩
      have FI := fnd_is ko (slice_lt kn (i := i) (m := m)) 0 old.length
      have e4 : ((0 : Nat) : Int) = 0 := rfl
      rw [e4] at FI
      rw [byB_size]
      have no := FI.no
      have yes := FI.yes
      rw [hsl] at no yes
      generalize BFX.fnd (byB old) (byB (sliceN new i m)) 0 (old.length : Int) = o at *
      cases o with
      | none =>
        exfalso
        obtain ⟨s, z1, z2⟩ := hco rfl
        exact no rfl s (Nat.zero_le _) (by omega) z2
      | some s =>
        obtain ⟨_, h2, h3, h4⟩ := yes s rfl
        refine ⟨(by show 3 ≤ sizeLine; omega), fun t nt => ?_⟩
        refine fin _ _ (.c false m s) (same_upd nt) ⟨_, rfl, fun z => (by cases z), fun _ => ⟨by omega, h3, fun p' g => h4 p' (Nat.zero_le _) g⟩⟩ ⟨t, rfl, ?_⟩
        rw [upd_same]
        rfl
end
end K9

namespace K9
open PySem PySem.Spec PyProof.Rows L2
/-! ### the same while an exception is handled -/
section
variable {P : Program} {w : World} {K : PySem.W.Frag} {mg : Str → Option Value} {base : Heap} {C fI fA fO : Addr}
theorem okh_co (T : ReTxt K mg C fI fA fO) {f : Addr} {fd fdA : FuncData} {j k1 : Nat} {t1 : Tok} (F : Fun K "costs_of" "costs_of" sCostsR f fd)
    (GA : L2H.FnH P w K mg base CX0 k1 fA fdA ["self", "at"] (spReA C)) (bA : Binds K fdA ["self", "at"] []) (l1 : k1 ≤ j)
    (m1 : mg "len" = none) (m2 : mg "reversed" = none) (m3 : mg "range" = none) (m4 : mg "min" = none) (c1 : mg "BYTE_BITS" = some (.int 9 t1)) :
    L2H.FnH P w K mg base CX0 (j + 1) f fd ["reaches"] (spCo C) := by
  refine okH F scCo (fun vs H Q E h => ?_) (fun cdv A outer s H vs Q E pn hot hr h => ?_)
  · obtain ⟨x, old, new, ms, ls, rfl, _⟩ := h
    rfl
  · obtain ⟨x, old, new, ms, ls, rfl, hRe, ON, fin⟩ := h
    have hcX : L2H.HotC (L2H.cxH CX0 P w K mg base NCo "costs_of" (defScope sCostsR) f cdv A outer s H E pn) := ⟨pn, hot, List.mem_singleton_self pn⟩
    obtain ⟨dx, p, q0, hx, hp, hq, RO⟩ := id hRe
    have hz := PySem.sizeLine_eq
    have hn := ON.ln
    refine ⟨_, pss_cons (ps_set (i := 1) scCo.nd rfl (.inr rfl) (pe_op op_rep (pe_lst (pa_cons pe_int pa_nil)) (pe_op op_add (pe_callB call_len (by rfl) m1 PySem.boot_len (pa_cons (pe_fld (pv 0) rfl) pa_nil)) pe_int)))
      (pss_cons (L2H.ps_forH (passes_of rfl) hcX (L2H.pi_revH (by rfl) m2 (prg_1 (by rfl) m3 (pe_callB call_len (by rfl) m1 PySem.boot_len (pa_cons (pe_fld (pv 0) rfl) pa_nil)))) (pg_name (i := 2) scCo.nd rfl (.inr rfl))
        (pss_cons (L2H.ps_setLcG (i := 3) (own := [("many", 4), ("_", 5), ("bits", 6)]) (g := gTup K 3 (gCons (gName 4) (gCons (gName 5) (gCons (gName 6) gNil)))) (tt := tYes) hcX scCo.nd rfl rfl (sw_true rfl rfl rfl (by decide +kernel))
            (L2H.pig_list (L2H.pe_methH (E := fun _ => E0) (pv 0) T.cl T.mA GA (hr.mono l1) hcX bA (fun σ _ _ _ _ _ _ z => z.elim) (pa_cons (pv 2) pa_nil))) (blkOk_by (N := NCo) (sc := defScope sCostsR) (by decide +kernel))
            (fun _ _ _ _ _ => L2H.pgg_tup (pgs_cons (pg_name (i := 4) scCo.nd rfl (.inl rfl)) (pgs_cons (pg_name (i := 5) scCo.nd rfl (.inl rfl)) (pgs_cons (pg_name (i := 6) scCo.nd rfl (.inl rfl)) pgs_nil)))) (fun _ _ _ _ _ => pts_nil)
            (fun _ _ _ _ _ => pe_op op_add (pv 6) (pe_ix (ixL K) (pv 1) (pe_op op_add (pv 2) (pv 4)) (fun _ _ => rfl))))
        (pss_one (ps_asg (pe_callB (L2H.cr_minH hcX) (by rfl) m4 (by decide +kernel) (pa_cons (pe_op op_cat (pe_lst (pa_cons (pe_op op_add (pe_glob (v := .int 9) rfl c1 ⟨_, rfl⟩) (pe_ix ix_list (pv 1) (pe_op op_add (pv 2) pe_int) (fun _ _ => rfl))) pa_nil)) (pv 3)) pa_nil)) (pg_sub (pv 1) (pv 2) set_list)))))
      (pss_one (ps_ret (pv 1)))), ?_⟩
    refine ⟨(by show 1 ≤ sizeLine; omega), fun z nz => ?_⟩
    have s1 := same_upd (o := .lst [.int 0]) nz
    have hz1 : (upd H z (.lst [.int 0])) z = some (.lst [.int 0]) := upd_same
    generalize upd H z (.lst [.int 0]) = H1 at *
    refine ⟨_, rfl, x, C, dx, _, _, rfl, s1 _ _ hx, T.cl, T.nN, reF_n _ _ _ _, _, (byB new).size, rfl, ⟨by rw [byB_size]; omega, rfl⟩, _, _, rfl, rfl, z, _, _, rfl, rfl, hz1, by rw [byB_size]; omega, by rw [byB_size]; omega, (by show 1 * _ ≤ _; rw [byB_size]; omega), fun D nD => ?_⟩
    have nD0 := none_back s1 nD
    have e0 : (List.replicate (((byB new).size : Int) + 1).toNat [V.int 0]).flatten = bys (List.replicate (new.length + 1) 0) := by
      rw [byB_size, show ((new.length : Int) + 1).toNat = new.length + 1 by omega]
      unfold bys
      rw [List.map_replicate, List.map_replicate]
      generalize new.length + 1 = n
      induction n with
      | zero => rfl
      | succ n ih => rw [List.replicate_succ, List.replicate_succ, List.flatten_cons, ih]; rfl
    rw [e0]
    have s2 := s1.trans (same_upd (o := .lst (bys (List.replicate (new.length + 1) 0))) nD)
    have hD2 : (upd H1 D (.lst (bys (List.replicate (new.length + 1) 0)))) D = some (.lst (bys (List.replicate (new.length + 1) 0))) := upd_same
    generalize upd H1 D (.lst (bys (List.replicate (new.length + 1) 0))) = H2 at *
    try dsimp only [gName]
    refine ⟨_, rfl, x, C, dx, _, _, rfl, s2 _ _ hx, T.cl, T.nN, reF_n _ _ _ _, _, (byB new).size, rfl, ⟨by rw [byB_size]; omega, rfl⟩, _, rfl, by omega, by omega, by rw [byB_size]; omega, by rw [byB_size]; omega, ?_⟩
    have en : (((byB new).size : Int) - 0).toNat = new.length := by rw [byB_size]; omega
    rw [en]
    refine for_rangeC (lo := 0 + ((new.length : Nat) : Int) - 1) (c := -1) (n := new.length) (fun i σ H' => ∃ (y2 y3 y4 y5 y6 : Option V) (cs : List Nat), σ = [some (.ref x), some (.ref D), y2, y3, y4, y5, y6] ∧ Same H H' ∧ H' D = some (.lst (bys cs)) ∧ cs.length = new.length + 1 ∧ cs.getD new.length 0 = 0 ∧ ∀ t, new.length - i ≤ t → t < new.length → CoAt cs ms ls t)
      ⟨_, _, _, _, _, List.replicate (new.length + 1) 0, rfl, s2, hD2, List.length_replicate, ?_, fun t g1 g2 => by omega⟩ (fun i σ H' hi h => ?_) (fun σ H' h => ?_)
    · rw [List.getD_eq_getElem?_getD, List.getElem?_replicate]
      split <;> rfl
    · obtain ⟨y2, y3, y4, y5, y6, cs, rfl, sm, hD, hcl, hcn, hst⟩ := h
      obtain ⟨a, ha⟩ : ∃ a : Nat, a = new.length - (i + 1) := ⟨_, rfl⟩
      have ea : 0 + ((new.length : Nat) : Int) - 1 + (i : Nat) * -1 = (a : Int) := by omega
      rw [ea]
      have han : a < new.length := by omega
      try dsimp only [gName]
      refine ⟨_, rfl, x, dx, _, rfl, sm _ _ hx, reF_no _ _ _ _ (by decide +kernel) (by decide +kernel) (by decide +kernel) (by decide +kernel), _, rfl, x, old, new, ms, ls, a, rfl, hRe.same sm, han, fun H3 q us s3 nq hqu hus => ?_⟩
      have hin := fun c => cops_in RO han (c := c)
      have hulen : us.length ≤ 2 := by
        rw [← hus.length]
        unfold copsL
        rw [List.length_append]
        split <;> split <;> simp
      have hD3 := s3 _ _ hD
      obtain ⟨cp, hcp⟩ : ∃ cp, cp = copsL (ms.getD a 0) (ls.getD a 0) := ⟨_, rfl⟩
      rw [← hcp] at hus hin
      have sm3 := sm.trans s3
      refine ⟨q, rfl, ⟨_, .inl (.inl hqu)⟩, fun B nB => ?_⟩
      have nB0 := none_back sm3 nB
      have neDB : D ≠ B := ne_of_none hD3 nB
      have s4 := same_upd (o := .lst []) nB
      refine lc_list (K := K) (a := q) (xs := us) (fun i H' => Same H3 H' ∧ H' B = some (.lst (bys ((cp.take i).map fun c => c.2.2 + cs.getD (a + c.1) 0)))) ⟨s4, upd_same⟩ (fun i H' _ h => .inl (.inl (h.1 _ _ hqu))) (fun i x' H' hx' h => ?_) (fun H' h => ?_)
      · obtain ⟨s5, hB⟩ := h
        have hi' : i < cp.length := by have := (List.getElem?_eq_some_iff.mp hx').1; have := hus.length; omega
        obtain ⟨v', e1, hc⟩ := paired_get hus (List.getElem?_eq_getElem hi')
        obtain rfl := Option.some.inj (e1.symm.trans hx')
        obtain ⟨t, rfl, ht⟩ := hc.same s5
        have hci := hin cp[i] (List.getElem_mem hi')
        rw [take_snocG (List.getElem?_eq_getElem hi'), List.map_append]
        generalize cp[i] = c at *
        refine ⟨t, _, rfl, .inl (.inl ht), rfl, _, _, rfl, _, _, rfl, _, _, rfl, rfl, rfl, yes ?_⟩
        refine ⟨_, rfl, _, rfl, _, rfl, _, rfl, _, _, rfl, rfl, D, _, _, _, rfl, rfl, .inl (.inl (s5 _ _ hD3)), at_of' (k := a + c.1) (by push_cast; rfl) (by omega), _, _, rfl, rfl, _, hB, ?_, same_put s5 nB, ?_⟩
        · have := hus.length
          rw [bys_len, List.length_map, List.length_take]
          omega
        · rw [upd_same, ← bys_app]
          have e9 : ((c.2.2 : Nat) : Int) + ((cs.getD (a + c.1) 0 : Nat) : Int) = ((c.2.2 + cs.getD (a + c.1) 0 : Nat) : Int) := by push_cast; rfl
          show some (HO.lst (_ ++ [V.int (((c.2.2 : Nat) : Int) + ((cs.getD (a + c.1) 0 : Nat) : Int))])) = _
          rw [e9]
          rfl
      · obtain ⟨s5, hB⟩ := h
        rw [← hus.length, List.take_length] at hB
        have hD5 := s5 _ _ hD3
        have sm5 := sm3.trans s5
        try dsimp only [gName]
        refine ⟨_, rfl, _, rfl, _, _, rfl, rfl, D, _, _, _, rfl, rfl, .inl (.inl hD5), at_of' (k := a + 1) (by push_cast; rfl) (by omega), _, _, rfl, rfl, (by show 1 ≤ sizeLine; omega), fun L nL => ?_⟩
        have s6 := same_upd (o := .lst [.int (9 + ((cs.getD (a + 1) 0 : Nat) : Int))]) nL
        have hL6 : (upd H' L (.lst [.int (9 + ((cs.getD (a + 1) 0 : Nat) : Int))])) L = some (.lst (bys [9 + cs.getD (a + 1) 0])) := by
          rw [upd_same]
          have e9 : (9 : Int) + ((cs.getD (a + 1) 0 : Nat) : Int) = ((9 + cs.getD (a + 1) 0 : Nat) : Int) := by push_cast; rfl
          rw [e9]
          rfl
        have hB6 := s6 _ _ hB
        have hD6 := s6 _ _ hD5
        have sm6 := sm5.trans s6
        generalize upd H' L (.lst [.int (9 + ((cs.getD (a + 1) 0 : Nat) : Int))]) = H6 at *
        refine ⟨_, rfl, L, B, _, _, rfl, rfl, hL6, hB6, (by rw [bys_len, bys_len, List.length_map]; have := hus.length; show 1 + _ ≤ _; omega), fun R nR => ?_⟩
        have s7 := same_upd (o := .lst (bys [9 + cs.getD (a + 1) 0] ++ bys (cp.map fun c => c.2.2 + cs.getD (a + c.1) 0))) nR
        have hR7 : (upd H6 R (.lst (bys [9 + cs.getD (a + 1) 0] ++ bys (cp.map fun c => c.2.2 + cs.getD (a + c.1) 0)))) R = some (.lst (bys (coL cs ms ls a))) := by
          rw [upd_same, bys_app]
          unfold coL
          rw [← hcp]
          rfl
        have hD7 := s7 _ _ hD6
        have sm7 := sm6.trans s7
        generalize upd H6 R (.lst (bys [9 + cs.getD (a + 1) 0] ++ bys (cp.map fun c => c.2.2 + cs.getD (a + c.1) 0))) = H7 at *
        refine ⟨R, (coL cs ms ls a).map (fun (k : Nat) => (k : Int)), rfl, .inl (.inl hR7), (by rw [List.length_map]; exact Nat.succ_pos _), fun m hm hmin => ?_⟩
        obtain ⟨k, rfl, hk1, hk2⟩ := nats_min hm hmin
        refine ⟨_, rfl, _, rfl, D, _, _, a, rfl, rfl, hD7, ixN_natK (by rw [bys_len]; omega), ?_⟩
        refine ⟨_, _, _, _, _, cs.set a k, rfl, same_put sm7 nD0, by rw [upd_same]; unfold bys; rw [List.map_set, List.map_set], by rw [List.length_set]; exact hcl, by rw [getD_set_ne (by omega)]; exact hcn, fun t g1 g2 => ?_⟩
        unfold CoAt
        rw [coL_set RO g2 (by omega)]
        by_cases et : t = a
        · subst et
          rw [getD_set_eq (by omega)]
          exact ⟨hk1, hk2⟩
        · rw [getD_set_ne et]
          exact hst t (by omega) g2
    · obtain ⟨y2, y3, y4, y5, y6, cs, rfl, sm, hD, hcl, hcn, hst⟩ := h
      exact ⟨_, rfl, fin H' D cs sm nD0 hD ⟨hcl, hcn, fun t g => hst t (by omega) g⟩⟩
theorem okh_lr (T : ReTxt K mg C fI fA fO) {f : Addr} {fd fdA fdO : FuncData} {j k1 k2 : Nat} {t1 : Tok} (F : Fun K "least_row" "least_row" sLeastR f fd)
    (GA : L2H.FnH P w K mg base CX0 k1 fA fdA ["self", "at"] (spReA C)) (bA : Binds K fdA ["self", "at"] []) (l1 : k1 ≤ j)
    (GO : L2H.FnH P w K mg base CX0 k2 fO fdO ["self", "at", "many", "is_new"] (spReO C)) (bO : Binds K fdO ["self", "at", "many", "is_new"] []) (l2 : k2 ≤ j)
    (m1 : mg "len" = none) (m2 : mg "max" = none) (c1 : mg "BYTE_BITS" = some (.int 9 t1)) :
    L2H.FnH P w K mg base CX0 (j + 1) f fd ["reaches", "costs"] (spLr C) := by
  refine okH F scLr (fun vs H Q E h => ?_) (fun cdv A outer s H vs Q E pn hot hr h => ?_)
  · obtain ⟨x, pc, old, new, ms, ls, cs, rfl, _⟩ := h
    rfl
  · obtain ⟨x, pc, old, new, ms, ls, cs, rfl, hRe, ON, hpc, CK, fin⟩ := h
    have hcX : L2H.HotC (L2H.cxH CX0 P w K mg base NLr "least_row" (defScope sLeastR) f cdv A outer s H E pn) := ⟨pn, hot, List.mem_singleton_self pn⟩
    obtain ⟨dx, p, q0, hx, hp, hq, RO⟩ := id hRe
    have hz := PySem.sizeLine_eq
    have hn := ON.ln
    have hcl := CK.len
    refine ⟨_, pss_cons (ps_set (i := 2) scLr.nd rfl (.inl rfl) (pe_lst pa_nil))
      (pss_cons (ps_set (i := 3) scLr.nd rfl (.inr rfl) pe_int)
      (pss_cons (ps_while (passes_of rfl) (pt_cmpR op_lt (pv 3) (pe_callB call_len (by rfl) m1 PySem.boot_len (pa_cons (pe_fld (pv 0) rfl) pa_nil)) (nomark _))
        (pss_cons (ps_if (pt_cmpR op_eq (pe_op op_add (pe_glob (v := .int 9) rfl c1 ⟨_, rfl⟩) (pe_ix ix_list (pv 1) (pe_op op_add (pv 3) pe_int) (fun _ _ => rfl))) (pe_ix ix_list (pv 1) (pv 3) (fun _ _ => rfl)) (nomark _))
          (pss_cons (ps_expr (pe_bm PySem.F.plainAttrs_list PySem.F.slot_list_append PySem.F.type_list_append mt_append (pv 2) (pa_cons (pe_item_byt (pe_fld (pv 0) rfl) (pv 3) (fun _ _ => rfl)) pa_nil)))
          (pss_cons (ps_aug (i := 3) scLr.nd rfl (.inr rfl) pe_int ip_add) (pss_one ps_continue))) pss_nil)
        (pss_cons (ps_asg (pe_callB (L2H.cr_maxPH hcX hr) (by rfl) m2 (by decide +kernel) (pa_cons
            (L2H.pe_lcG (own := [("many", 4), ("is_new", 5), ("bits", 6)]) (g := gTup K 3 (gCons (gName 4) (gCons (gName 5) (gCons (gName 6) gNil))))
              hcX scLr.nd
              (L2H.pig_list (L2H.pe_methH (E := fun _ => E0) (pv 0) T.cl T.mA GA (hr.mono l1) hcX bA (fun σ _ _ _ _ _ _ z => z.elim) (pa_cons (pv 3) pa_nil))) (blkOk_by (N := NLr) (sc := defScope sLeastR) (by decide +kernel))
              (fun _ _ _ _ _ => L2H.pgg_tup (pgs_cons (pg_name (i := 4) scLr.nd rfl (.inl rfl)) (pgs_cons (pg_name (i := 5) scLr.nd rfl (.inl rfl)) (pgs_cons (pg_name (i := 6) scLr.nd rfl (.inl rfl)) pgs_nil))))
              (fun _ _ _ _ _ => pts_one (pt_cmpR op_eq (pe_op op_add (pv 6) (pe_ix (ixL K) (pv 1) (pe_op op_add (pv 3) (pv 4)) (fun _ _ => rfl))) (pe_ix (ixL K) (pv 1) (pv 3) (fun _ _ => rfl)) (nomark _)))
              (fun _ _ _ _ _ => pe_tup (pa_cons (pv 4) (pa_cons (pv 5) pa_nil)))) pa_nil)) (L2H.pg_tupH hcX (pgs_cons (pg_name (i := 4) scLr.nd rfl (.inl rfl)) (pgs_cons (pg_name (i := 5) scLr.nd rfl (.inl rfl)) pgs_nil))))
        (pss_cons (ps_expr (pe_bm PySem.F.plainAttrs_list PySem.F.slot_list_append PySem.F.type_list_append mt_append (pv 2) (pa_cons (L2H.pe_methH (E := fun _ => E0) (pv 0) T.cl T.mO GO (hr.mono l2) hcX bO (fun σ _ _ _ _ _ _ z => z.elim) (pa_cons (pv 3) (pa_cons (pv 4) (pa_cons (pv 5) pa_nil)))) pa_nil)))
        (pss_one (ps_aug (i := 3) scLr.nd rfl (.inr rfl) (pv 4) ip_add))))))
      (pss_one (ps_ret (pv 2))))), ?_⟩
    refine ⟨Nat.zero_le _, fun D nD => ?_⟩
    have s1 := same_upd (o := .lst []) nD
    have hD1 : (upd H D (.lst [])) D = some (.lst []) := upd_same
    try dsimp only [gName]
    refine ⟨fun n σ H' => ∃ (y4 y5 y6 : Option V) (a : Nat) (row : List Di) (us : List V), σ = [some (.ref x), some (.ref pc), some (.ref D), some (.int (a : Int)), y4, y5, y6] ∧ Same H H' ∧ H' D = some (.lst us) ∧ Paired (DiAt H') row us ∧ RowIs old new cs ms ls 0 row a ∧ row.length ≤ a ∧ a ≤ new.length ∧ n = new.length - a,
      ⟨_, _, _, _, 0, [], [], rfl, s1, hD1, .nil, rfl, Nat.le_refl _, Nat.zero_le _, rfl⟩, fun n σ H' hW => ?_⟩
    obtain ⟨y4, y5, y6, a, row, us, rfl, sm, hD, hus, hrow, hrl, han, rfl⟩ := hW
    have hul := hus.length
    refine ⟨_, rfl, _, rfl, x, C, dx, _, _, rfl, sm _ _ hx, T.cl, T.nN, reF_n _ _ _ _, _, (byB new).size, rfl, ⟨by rw [byB_size]; omega, rfl⟩, _, _, rfl, rfl, _, rfl, ?_⟩
    by_cases hlt : a < new.length
    · refine iteC (decide_eq_true (by rw [byB_size]; omega)) ?_
      refine ⟨_, fun _ _ h => h, ?_⟩
      have hg1 : atI (bys cs) ((a : Int) + 1) = some (.int ((cs.getD (a + 1) 0 : Nat) : Int)) := at_of' (by push_cast; rfl) (by omega)
      have hg0 : atI (bys cs) (a : Int) = some (.int ((cs.getD a 0 : Nat) : Int)) := at_of' rfl (by omega)
      have hpc1 := sm _ _ hpc
      refine ⟨_, rfl, _, rfl, _, _, rfl, rfl, pc, _, _, _, rfl, rfl, .inl (.inl hpc1), hg1, _, _, rfl, rfl, _, rfl, _, rfl, pc, _, _, _, rfl, rfl, .inl (.inl hpc1), hg0, rfl, _, rfl, ite2 (fun e => ?_) (fun e => ?_)⟩
      · have e : V.int (9 + ((cs.getD (a + 1) 0 : Nat) : Int)) = V.int ((cs.getD a 0 : Nat) : Int) := of_decide_eq_true e
        have e := V.int.inj e
        refine ⟨_, rfl, .inl ⟨rfl, _, .inl (.inl hD)⟩, _, rfl, x, C, dx, _, _, rfl, sm _ _ hx, T.cl, T.nN, reF_n _ _ _ _, _, rfl, new.map Nat.toUInt8, (a : Int), rfl, rfl, by rw [List.length_map]; omega, by omega, by rw [List.length_map]; omega, ?_⟩
        rw [Int.toNat_natCast, byB_get ON.kn]
        refine ⟨D, _, _, rfl, rfl, hD, by omega, ?_⟩
        refine ⟨_, rfl, _, _, rfl, rfl, new.length - (a + 1), by omega, _, _, _, a + 1, row ++ [.b (new.getD a 0)], us ++ [.int ((new.getD a 0 : Nat) : Int)], by push_cast; rfl, same_put sm nD, upd_same, ?_, ?_, by rw [List.length_append]; show row.length + 1 ≤ _; omega, hlt, rfl⟩
        · exact (hus.mono fun _ _ h => h.put hD).snoc (show DiAt _ (.b (new.getD a 0)) (.int ((new.getD a 0 : Nat) : Int)) from rfl)
        · exact RowIs.snoc hrow hlt (.inl ⟨by omega, rfl⟩)
      · have e : 9 + cs.getD (a + 1) 0 ≠ cs.getD a 0 := fun z => e (decide_eq_true (by rw [← z]; push_cast; rfl))
        refine ⟨_, rfl, x, dx, _, rfl, sm _ _ hx, reF_no _ _ _ _ (by decide +kernel) (by decide +kernel) (by decide +kernel) (by decide +kernel), _, rfl, x, old, new, ms, ls, a, rfl, hRe.same sm, hlt, fun H3 q vs s3 nq hqv hvs => ?_⟩
        have sm3 := sm.trans s3
        have hD3 := s3 _ _ hD
        have hpc3 := s3 _ _ hpc1
        refine ⟨q, rfl, ⟨_, .inl (.inl hqv)⟩, fun B nB => ?_⟩
        have nB0 := none_back sm3 nB
        obtain ⟨cp, hcp⟩ : ∃ cp, cp = copsL (ms.getD a 0) (ls.getD a 0) := ⟨_, rfl⟩
        rw [← hcp] at hvs
        have hin := fun c (hc : c ∈ cp) => cops_in RO hlt (c := c) (by rw [← hcp]; exact hc)
        refine lc_list (K := K) (a := q) (xs := vs) (fun i H' => Same H3 H' ∧ ∃ zs, H' B = some (.lst zs) ∧ Paired (L2.PrAt H') (((cp.take i).filter fun c => decide (c.2.2 + cs.getD (a + c.1) 0 = cs.getD a 0)).map nb) zs) ⟨same_upd nB, [], upd_same, .nil⟩ (fun i H' _ h => .inl (.inl (h.1 _ _ hqv))) (fun i x' H' hx' h => ?_) (fun H' h => ?_)
        · obtain ⟨s5, zs, hB, hzs⟩ := h
          have hvl := hvs.length
          have hi' : i < cp.length := by have := (List.getElem?_eq_some_iff.mp hx').1; omega
          obtain ⟨v', e1, hc⟩ := paired_get hvs (List.getElem?_eq_getElem hi')
          obtain rfl := Option.some.inj (e1.symm.trans hx')
          obtain ⟨t, rfl, ht⟩ := hc.same s5
          have hci := hin cp[i] (List.getElem_mem hi')
          have hcl2 : cp.length ≤ 2 := by
            rw [hcp]
            unfold copsL
            rw [List.length_append]
            split <;> split <;> simp
          have hzl : zs.length ≤ 2 := by
            rw [← hzs.length, List.length_map]
            refine Nat.le_trans (List.length_filter_le _ _) ?_
            rw [List.length_take]
            omega
          rw [take_snocG (List.getElem?_eq_getElem hi'), List.filter_append, List.map_append]
          generalize cp[i] = c at *
          refine ⟨t, _, rfl, .inl (.inl ht), rfl, _, _, rfl, _, _, rfl, _, _, rfl, rfl, rfl, ?_⟩
          refine ⟨_, rfl, _, rfl, _, rfl, _, rfl, _, _, rfl, rfl, pc, _, _, _, rfl, rfl, .inl (.inl (s5 _ _ hpc3)), at_of' (k := a + c.1) (by push_cast; rfl) (by omega), _, _, rfl, rfl, _, rfl, _, rfl, pc, _, _, _, rfl, rfl, .inl (.inl (s5 _ _ hpc3)), hg0, rfl, _, rfl, ite2 (fun t2 => ?_) (fun t2 => ?_)⟩
          · have t2 : V.int (((c.2.2 : Nat) : Int) + ((cs.getD (a + c.1) 0 : Nat) : Int)) = V.int ((cs.getD a 0 : Nat) : Int) := of_decide_eq_true t2
            have t2 := V.int.inj t2
            refine ⟨_, rfl, _, rfl, (by show 2 ≤ sizeLine; omega), fun tt ntt => ?_⟩
            have st' := same_upd (o := .tup [.int (c.1 : Int), .bl c.2.1]) ntt
            refine ⟨_, st' _ _ hB, by omega, same_put (s5.trans st') nB, zs ++ [.ref tt], upd_same, ?_⟩
            rw [List.filter_cons_of_pos (p := fun c : Nat × Bool × Nat => decide (c.2.2 + cs.getD (a + c.1) 0 = cs.getD a 0)) (decide_eq_true (by omega))]
            have keep : ∀ {p : Int × Bool} {v : V}, L2.PrAt H' p v → L2.PrAt (upd (upd H' tt (.tup [.int (c.1 : Int), .bl c.2.1])) B (.lst (zs ++ [.ref tt]))) p v := fun ⟨t, e, ht⟩ => ⟨t, e, tup_put (st' _ _ hB) _ _ (st' _ _ ht)⟩
            exact (hzs.mono fun _ _ h => keep h).snoc ⟨tt, rfl, tup_put (st' _ _ hB) _ _ upd_same⟩
          · refine ⟨s5, zs, hB, ?_⟩
            rw [List.filter_cons_of_neg (p := fun c : Nat × Bool × Nat => decide (c.2.2 + cs.getD (a + c.1) 0 = cs.getD a 0)) (fun z => t2 (decide_eq_true (by have := of_decide_eq_true z; rw [← this]; push_cast; rfl)))]
            show Paired _ (_ ++ []) _
            rw [List.append_nil]
            exact hzs
        · obtain ⟨s5, zs, hB, hzs⟩ := h
          rw [← hvs.length, List.take_length] at hzs
          have hcand : (cp.filter fun c => decide (c.2.2 + cs.getD (a + c.1) 0 = cs.getD a 0)) = candC cs ms ls a := by rw [hcp]; rfl
          rw [hcand] at hzs
          obtain ⟨c0, r, hcr⟩ := cost_some CK hlt e
          rw [hcr] at hzs
          refine ⟨B, zs, nb c0, r.map nb, rfl, .inl (.inl hB), hzs, fun i' qv v' g1 g2 g3 => ?_⟩
          have g1 : ((c0 :: r).map nb)[i']? = some qv := g1
          rw [List.getElem?_map] at g1
          cases hci : (c0 :: r)[i']? with
          | none => rw [hci] at g1; cases g1
          | some c =>
            rw [hci] at g1
            have eqv : nb c = qv := Option.some.inj g1
            subst eqv
            have hcm : c ∈ candC cs ms ls a := by rw [hcr]; exact List.mem_of_getElem? hci
            have g1' : ((nb c0 :: r.map nb))[i']? = some (nb c) := by
              show ((c0 :: r).map nb)[i']? = _
              rw [List.getElem?_map, hci]
              rfl
            obtain ⟨v'', e2, hv⟩ := paired_get hzs g1'
            obtain rfl := Option.some.inj (e2.symm.trans g2)
            obtain ⟨t, rfl, ht⟩ := hv
            have hci := hin c (by rw [hcp]; exact cand_in hcm)
            have sm5 := sm3.trans s5
            have hD5 := s5 _ _ hD3
            have hus5 : Paired (DiAt H') row us := hus.mono fun _ _ h => (h.same s3).same s5
            refine ⟨t, _, rfl, .inl (.inl ht), rfl, _, _, rfl, _, _, rfl, rfl, ?_⟩
            try dsimp only [gName]
            refine ⟨_, rfl, .inl ⟨rfl, _, .inl (.inl hD5)⟩, _, rfl, x, dx, _, rfl, sm5 _ _ hx, reF_no _ _ _ _ (by decide +kernel) (by decide +kernel) (by decide +kernel) (by decide +kernel), _, rfl, _, rfl, _, rfl, x, old, new, ms, ls, a, c.1, c.2.1, rfl, hRe.same sm5, ON, hci.1, hci.2.1, fun z => (hci.2.2.2.1 z).2, hci.2.2.2.2, fun H6 v it s6 hci2 hit => ?_⟩
            have hw : wideI it = c.1 := by
              obtain ⟨p, rfl, _⟩ := hci2
              rfl
            refine ⟨D, _, _, rfl, rfl, s6 _ _ hD5, by omega, ?_⟩
            have ea : (a : Int) + (c.1 : Int) = ((a + c.1 : Nat) : Int) := by push_cast; rfl
            refine ⟨_, rfl, _, rfl, _, _, rfl, rfl, new.length - (a + c.1), by have := hci.1; have := hci.2.1; omega, ?_⟩
            dsimp only
            have ea2 : V.int ((fun i j => i + j) (a : Int) (c.1 : Int)) = V.int ((a + c.1 : Nat) : Int) := congrArg V.int ea
            refine ⟨_, _, _, a + c.1, row ++ [it], us ++ [v], by rw [← ea]; rfl, same_put (sm5.trans s6) nD, upd_same, ?_, ?_, ?_, hci.2.1, rfl⟩
            · exact (hus5.mono fun _ _ h => (h.same s6).put (s6 _ _ hD5)).snoc (hit.put (s6 _ _ hD5))
            · rw [← hw]
              exact RowIs.snoc hrow hlt (.inr ⟨e, c, nb c0, r.map nb, hcm, by rw [hcr]; rfl, g3, hci2⟩)
            · rw [List.length_append]
              show row.length + 1 ≤ _
              have := hci.1
              omega
    · refine ite2 (fun z => absurd (show a < new.length by have := of_decide_eq_true z; rw [byB_size] at this; omega) hlt) (fun _ => ?_)
      have ea : a = new.length := by omega
      subst ea
      exact ⟨_, rfl, fin H' D row sm nD ⟨us, hD, hus⟩ hrl hrow⟩
theorem okh_di (T : ReTxt K mg C fI fA fO) {f fB fC fM fL : Addr} {fd fdB fdC fdM fdL fdI : FuncData} {j k1 k2 k3 k4 k5 : Nat} (F : Fun K "difference" "difference" sDiff f fd)
    (GB : L2H.FnH P w K mg base CX0 k1 fB fdB ["told"] spRefB) (bB : Binds K fdB ["told"] []) (kB : PySem.W.keepIn K (.ref fB) = true) (gB : mg "refuse_bytes" = some (.ref fB)) (l1 : k1 ≤ j)
    (GI : L2H.FnH P w K mg base CX0 k2 fI fdI ["self", "old", "new"] (spReI C)) (bI : Binds K fdI ["self", "old", "new"] []) (l2 : k2 + 1 ≤ j)
    (GC : L2H.FnH P w K mg base CX0 k3 fC fdC ["reaches"] (spCo C)) (bC : Binds K fdC ["reaches"] []) (kC : PySem.W.keepIn K (.ref fC) = true) (gC : mg "costs_of" = some (.ref fC)) (l3 : k3 ≤ j)
    (GM : L2H.FnH P w K mg base CX0 k4 fM fdM ["data"] spMark) (bM : Binds K fdM ["data"] []) (kM : PySem.W.keepIn K (.ref fM) = true) (gM : mg "mark_of" = some (.ref fM)) (l4 : k4 ≤ j)
    (GL : L2H.FnH P w K mg base CX0 k5 fL fdL ["reaches", "costs"] (spLr C)) (bL : Binds K fdL ["reaches", "costs"] []) (kL : PySem.W.keepIn K (.ref fL) = true) (gL : mg "least_row" = some (.ref fL)) (l5 : k5 ≤ j) :
    L2H.FnH P w K mg base CX0 (j + 1) f fd ["old", "new"] spDi := by
  refine okH F scDi (fun vs H Q E h => ?_) (fun cdv A outer s H vs Q E pn hot hr h => ?_)
  · obtain ⟨old, new, rfl, _⟩ := h
    rfl
  · obtain ⟨old, new, rfl, ON, fin⟩ := h
    have hcX : L2H.HotC (L2H.cxH CX0 P w K mg base ["old", "new", "reaches", "costs"] "difference" (defScope sDiff) f cdv A outer s H E pn) := ⟨pn, hot, List.mem_singleton_self pn⟩
    have hz := PySem.sizeLine_eq
    refine ⟨_, pss_cons (ps_expr (L2H.pe_callH (E := fun _ => E0) GB (hr.mono l1) hcX (by rfl) gB kB bB (fun σ _ _ _ _ _ _ z => z.elim) (pa_cons (pv 0) pa_nil))) (pss_cons (ps_expr (L2H.pe_callH (E := fun _ => E0) GB (hr.mono l1) hcX (by rfl) gB kB bB (fun σ _ _ _ _ _ _ z => z.elim) (pa_cons (pv 1) pa_nil)))
      (pss_cons (ps_set (i := 2) scDi.nd rfl (.inl rfl) (L2H.pe_makeH T.made GI (hr.mono l2) hcX (by rfl) T.gC bI pass0 (pa_cons (pv 0) (pa_cons (pv 1) pa_nil))))
      (pss_cons (ps_set (i := 3) scDi.nd rfl (.inl rfl) (L2H.pe_callH (E := fun _ => E0) GC (hr.mono l3) hcX (by rfl) gC kC bC (fun σ _ _ _ _ _ _ z => z.elim) (pa_cons (pv 2) pa_nil)))
      (pss_one (ps_ret (pe_tup (pa_cons (pe_tup (pa_cons (L2H.pe_callH (E := fun _ => E0) GM (hr.mono l4) hcX (by rfl) gM kM bM (fun σ _ _ _ _ _ _ z => z.elim) (pa_cons (pv 0) pa_nil)) (pa_cons (L2H.pe_callH (E := fun _ => E0) GM (hr.mono l4) hcX (by rfl) gM kM bM (fun σ _ _ _ _ _ _ z => z.elim) (pa_cons (pv 1) pa_nil)) (pa_cons (L2H.pe_callH (E := fun _ => E0) GL (hr.mono l5) hcX (by rfl) gL kL bL (fun σ _ _ _ _ _ _ z => z.elim) (pa_cons (pv 2) (pa_cons (pv 3) pa_nil))) pa_nil)))) (pa_cons (pv 3) pa_nil)))))))), ?_⟩
    refine ⟨_, rfl, old, rfl, ON.lo, _, rfl, new, rfl, ON.ln, _, rfl, _, rfl, ?_⟩
    intro x dx nx nd ne
    refine ⟨x, dx, old, new, rfl, upd_same, ON, fun H1 ms ls k1' hRe => ⟨rfl, ?_⟩⟩
    have s1 := make_same nx nd k1'
    obtain ⟨_, _, _, _, _, _, RO⟩ := id hRe
    try dsimp only [gName]
    refine ⟨_, rfl, x, old, new, ms, ls, rfl, hRe, ON, fun H2 pc cs s2 npc hpc hCK => ?_⟩
    have s12 := s1.trans s2
    try dsimp only [gName]
    refine ⟨_, rfl, old, rfl, ON.ko, ON.lo, fun H3 a s3 na hma => ?_⟩
    refine ⟨_, rfl, new, rfl, ON.kn, ON.ln, fun H4 b s4 nb hmb => ?_⟩
    have hma := s4 _ _ hma
    have s24 := s3.trans s4
    refine ⟨_, rfl, _, rfl, x, pc, old, new, ms, ls, cs, rfl, (hRe.same s2).same s24, ON, s24 _ _ hpc, hCK, fun H5 r row s5 nr hrw hrl hrow => ?_⟩
    have hma := s5 _ _ hma
    have hmb := s5 _ _ hmb
    have s15 := (s12.trans s24).trans s5
    refine ⟨(by show 3 ≤ sizeLine; omega), fun d nd => ?_⟩
    have s6 := same_upd (o := .tup [.ref a, .ref b, .ref r]) nd
    have hd6 : (upd H5 d (.tup [.ref a, .ref b, .ref r])) d = some (.tup [.ref a, .ref b, .ref r]) := upd_same
    have s16 := s15.trans s6
    have hpc5 := s5 _ _ (s24 _ _ hpc)
    have hma := s6 _ _ hma
    have hmb := s6 _ _ hmb
    have hrw := hrw.same s6
    have hpc6 := s6 _ _ hpc5
    generalize upd H5 d (.tup [.ref a, .ref b, .ref r]) = H6 at *
    refine ⟨_, rfl, (by show 2 ≤ sizeLine; omega), fun t nt => ?_⟩
    have s7 := same_upd (o := .tup [.ref d, .ref pc]) nt
    exact fin _ t d pc ⟨a, b, r⟩ row ms ls cs (s16.trans s7) (none_back s16 nt) upd_same ⟨s7 _ _ hd6, s7 _ _ hma, s7 _ _ hmb, hrw.same s7⟩ (s7 _ _ hpc6) RO hCK hrl hrow
end
end K9

/-! ### bytes of a list of isI, while an exception is handled -/
namespace HY
open PySem PySem.Spec PyProof.Rows HotX
section
variable {prog : Program} {w : World} {A : Around} {E : Value → Shared → Prop} {s : Shared} {x1 : Addr}
theorem byl_hot {R : Result → Shared → Prop} {l I S : Addr} {vs : List Value} {ns : List Int} (isI : IntsAre vs ns) (lw : ∀ n ∈ ns, 0 ≤ n ∧ n < 256) (small : ns.length ≤ sizeLine) (dIS : I ≠ S) (dlI : l ≠ I) (dlS : l ≠ S) (nI : x1 ≠ I) (nS : x1 ≠ S) :
    ∀ (left at_ : Nat) (s : Shared), ns.length - at_ = left → at_ ≤ ns.length → HotAt A x1 s.heap → s.heap.IsList l vs.toArray → s.heap.IsListIter I l at_ → s.heap.get? S = some { cls := .type "bytearray", data := .bytearray (byteArr (ns.take at_)) } →
      (∀ h' t tk, (∀ b o, b ≠ I → b ≠ S → s.heap.get? b = some o → h'.get? b = some o) → R (.ok (.ret (.bytes (byteArr ns) t))) { s with heap := h', toks := tk }) →
      codeAny (model prog w) A (.builtin "bytes.__new__.loop" ⟨[.type "bytes", .ref I, .ref S], []⟩) R s := by
  have sizes : vs.length = ns.length := isI.length
  intro left; induction left with
  | zero =>
    intro at_ s e1 e2 hot lst itr buf dn
    obtain rfl : at_ = ns.length := by omega
    refine codeAny_builtin F.bm_entry_loop ?_; rw [Around.under_plainId F.bm_plain_loop _]
    show wpAny _ A.in1 (pyNext (.ref I) >>= _) _ _ s; refine wpAny_bind (list_endP_hot (A := A.in1) (x1 := x1) hot nI itr lst (by simp [sizes]) fun h' kept => ?_)
    have buf' : h'.get? S = some { cls := .type "bytearray", data := .bytearray (byteArr (ns.take ns.length)) } := kept S _ (Ne.symm dIS) buf
    refine wpAny_bind ?_; unfold Builtin.Bytes.payload Builtin.Bytes.payload?; refine wpAny_bind (wpAny_bind (wpAny_load buf' (wpAny_pure (wpAny_pure ?_))))
    rw [List.take_length]; refine wpAny_bind (wpAny_mkBytes ?_ (by rw [byteArr_size]; exact small))
    show wpAny _ _ (if (Value.type "bytes" == Value.type "bytes") = true then _ else _) _ _ _; refine bm_if_true (by decide) ?_
    first | exact wpAny_pure (dn h' _ _ fun b o hb _ e => kept b o hb e) | exact wpAny_bind (wpAny_pure (wpAny_pure (dn h' _ _ fun b o hb _ e => kept b o hb e)))
  | succ left ih =>
    intro at_ s e1 e2 hot lst itr buf dn
    have here : at_ < ns.length := by omega
    obtain ⟨x, hx⟩ : ∃ x, vs[at_]? = some x := ⟨vs[at_]'(by omega), List.getElem?_eq_getElem (by omega)⟩
    obtain ⟨n, t, rfl, hn⟩ := IntsAre.at isI at_ x hx
    obtain ⟨n0, n1⟩ := lw n (List.mem_of_getElem? hn)
    refine codeAny_builtin F.bm_entry_loop ?_; rw [Around.under_plainId F.bm_plain_loop _]
    show wpAny _ A.in1 (pyNext (.ref I) >>= _) _ _ s; refine wpAny_bind (wpAny_pyNext_list_item (x := .int n t) itr lst (by simpa using hx) fun h' itr' sb => ?_)
    have buf' : h'.get? S = some { cls := .type "bytearray", data := .bytearray (byteArr (ns.take at_)) } := (sb.2 S (Ne.symm dIS)).trans buf
    refine wpAny_bind (wpAny_holding (wpAny_of_eq (rfl : asIndex (.int n t) = pure n) ?_)); refine wpAny_bind (wpAny_letGo (bm_if_false (by simp only [Bool.or_eq_false_iff, decide_eq_false_iff_not]; omega) ?_))
    refine wpAny_bind ?_; show wpAny _ _ (updateBytearray S (·.push n.toNat.toUInt8)) _ _ _; unfold updateBytearray; refine wpAny_bind (wpAny_load buf' ?_)
    show wpAny _ _ (update S (Obj.mapBytearray (·.push n.toNat.toUInt8)) >>= fun _ => lookBehind S) _ _ _; refine wpAny_bind (wpAny_update buf' ?_)
    have buf2 : (h'.update S (Obj.mapBytearray (·.push n.toNat.toUInt8))).get? S = some { cls := .type "bytearray", data := .bytearray (byteArr (ns.take (at_ + 1))) } := by rw [byteArr_take hn]; exact Heap.get?_update_self (Obj.mapBytearray (·.push n.toNat.toUInt8)) buf' rfl
    refine wpAny_lookBehind buf2 (by show (if (byteArr (ns.take (at_ + 1))).size > sizeLine then some "bytearray:memory" else none) = none; rw [if_neg]; rw [byteArr_size, List.length_take]; omega) ?_
    refine wpAny_pure ⟨plainId_quiet F.bm_plain_loop _, ih (at_ + 1) { s with heap := h'.update S (Obj.mapBytearray (·.push n.toNat.toUInt8)) } (by omega) here (hotUp hot fun o e => (Heap.get?_update_other _ _ (Ne.symm nS)).trans ((sb.2 x1 nI).trans e)) ((lst.extBut sb.extBut dlI).extBut (Heap.SameBut.update ..).extBut dlS) (itr'.extBut (Heap.SameBut.update ..).extBut dIS) buf2 fun h3 t' k' hk3 => ?_⟩
    exact dn h3 t' k' fun b o hbI hbS e => hk3 b o hbI hbS ((Heap.get?_update_other _ _ (Ne.symm hbS)).trans (sb.extBut b o hbI e))
theorem byn_hot {l : Addr} {vs : List Value} {ns : List Int} {Q : Value → Shared → Prop} (hot : HotAt A x1 s.heap) (lst : s.heap.IsList l vs.toArray) (isI : IntsAre vs ns) (lw : ∀ n ∈ ns, 0 ≤ n ∧ n < 256) (small : ns.length ≤ sizeLine)
    (dn : ∀ h' t k, (∀ b o, s.heap.get? b = some o → h'.get? b = some o) → Q (.bytes (byteArr ns) t) { s with heap := h', toks := k }) :
    codeAny (model prog w) A (.call (.builtin "bytes.__new__") ⟨[.type "bytes", .ref l], []⟩) (wants Q E) s := by
  refine codeAny_of_tree ?_
  show wpAny _ A.in1 (do checkBuiltinCall "bytes.__new__" ⟨[.type "bytes", .ref l], []⟩; again (.builtin "bytes.__new__" ⟨[.type "bytes", .ref l], []⟩)) _ _ s; refine wpAny_bind (wpAny_of_eq (F.bm_newCall _) (wpAny_pure ⟨plainId_quiet F.bm_plain _, codeAny_builtin F.bm_entry ?_⟩))
  rw [Around.under_plainId F.bm_plain _]
  have isl : s.TypeIs (.ref l) "list" := lst.typeIs
  obtain ⟨ol, hol, hoc, nl, hod⟩ := id lst
  unfold Builtin.«bytes.__new__»
  refine wpAny_bind (wpAny_of_eq (a := true) rfl (bm_if_false rfl (wpAny_bind (wpAny_of_eq F.bm_sub (bm_if_false rfl (wpAny_bind (wpAny_of_eq (F.bm_bind _) ?_)))))))
  refine wpAny_bind (wpAny_of_eq (a := ()) rfl (wpAny_bind (wpAny_of_eq (a := ()) rfl (bm_if_false rfl (wpAny_bind (wpAny_specialOf isl F.bm_no_bytes (wpAny_bind (wpAny_bind ?_))))))))
  show wpAny _ _ (load l >>= _) _ _ _; refine wpAny_bind (wpAny_load hol ?_); rw [hod]
  refine wpAny_pure (wpAny_pure (bm_if_false rfl (wpAny_bind (wpAny_specialOf isl F.bm_no_index (bm_if_true rfl ?_)))))
  first | show wpAny _ _ (Builtin.Bytes.buffer? "bytes.__new__" (.ref l) true >>= _) _ _ _ | (refine wpAny_bind ?_; show wpAny _ _ (Builtin.Bytes.buffer? "bytes.__new__" (.ref l) true >>= _) _ _ _)
  refine wpAny_bind ?_; unfold Builtin.Bytes.buffer?; refine wpAny_bind (wpAny_specialOf isl F.bm_no_buffer (wpAny_bind (wpAny_specialOf isl F.bm_no_buffer (wpAny_pure (wpAny_bind (wpAny_tryCatch (wpAny_pyIter_list lst ?_)))))))
  have lst1 : (s.heap.push { cls := .type "list_iterator", data := .fields #[.ref l, .int 0 0] }).IsList l vs.toArray := lst.push _
  have isl1 : ({ s with heap := s.heap.push { cls := .type "list_iterator", data := .fields #[.ref l, .int 0 0] } } : Shared).TypeIs (.ref l) "list" := Heap.IsList.typeIs (s := { s with heap := s.heap.push { cls := .type "list_iterator", data := .fields #[.ref l, .int 0 0] } }) lst1
  refine wpAny_bind (wpAny_holding ?_); unfold Builtin.Bytes.lengthHint; refine wpAny_bind (wpAny_specialOf isl1 slot_list_len.lookup ?_)
  dsimp only; rw [F.bm_split]; dsimp only
  refine wpAny_bind (wpAny_isInstance isl1 F.bm_sub_list (bm_if_false rfl (bm_if_true (by decide +kernel) (wpAny_pure (wpAny_bind ?_))))); unfold Builtin.Bytes.newBytearray; refine wpAny_newObj_type ?_ (Nat.zero_le _)
  have itr : ((s.heap.push { cls := .type "list_iterator", data := .fields #[.ref l, .int 0 0] }).push { cls := .type "bytearray", data := .bytearray #[] }).IsListIter s.heap.objs.size l 0 := ⟨_, Heap.get?_push_of_some _ (Heap.get?_push_size _ rfl), rfl, rfl⟩
  have old : l < s.heap.objs.size := Heap.lt_size hol
  have hx := hotLt hot
  have sz : (s.heap.push { cls := .type "list_iterator", data := .fields #[.ref l, .int 0 0] }).objs.size = s.heap.objs.size + 1 := Heap.size_push _ _
  have main := byl_hot (prog := prog) (w := w) (A := A) (x1 := x1) (R := wants Q E) (l := l) (I := s.heap.objs.size) (S := (s.heap.push { cls := .type "list_iterator", data := .fields #[.ref l, .int 0 0] }).objs.size) isI lw small (by rw [sz]; exact Nat.ne_of_lt (Nat.lt_succ_self _)) (Nat.ne_of_lt old) (by rw [sz]; exact Nat.ne_of_lt (Nat.lt_succ_of_lt old)) (Nat.ne_of_lt hx) (by rw [sz]; exact Nat.ne_of_lt (Nat.lt_succ_of_lt hx))
    ns.length 0 { s with heap := (s.heap.push { cls := .type "list_iterator", data := .fields #[.ref l, .int 0 0] }).push { cls := .type "bytearray", data := .bytearray #[] } } rfl (Nat.zero_le _) (hotUp hot fun o e => Heap.get?_push_of_some _ (Heap.get?_push_of_some _ e)) (lst1.push _) itr (Heap.get?_push_size _ rfl)
    fun h' t k hk => dn h' t k fun b o e => by have hb := Heap.lt_size e; exact hk b o (Nat.ne_of_lt hb) (by rw [sz]; exact Nat.ne_of_lt (Nat.lt_succ_of_lt hb)) (Heap.get?_push_of_some _ (Heap.get?_push_of_some _ e))
  first | exact wpAny_pure ⟨plainId_quiet F.bm_plain_loop _, main⟩ | exact wpAny_pure (wpAny_pure ⟨plainId_quiet F.bm_plain_loop _, main⟩)
theorem by_hot {l : Addr} {vs : List Value} {ns : List Int} {Q : Value → Shared → Prop} (hot : HotAt A x1 s.heap) (lst : s.heap.IsList l vs.toArray) (isI : IntsAre vs ns) (lw : ∀ n ∈ ns, 0 ≤ n ∧ n < 256) (small : ns.length ≤ sizeLine)
    (dn : ∀ h' t k, (∀ b o, s.heap.get? b = some o → h'.get? b = some o) → Q (.bytes (byteArr ns) t) { s with heap := h', toks := k }) : wpAny (model prog w) A (call (.type "bytes") [.ref l]) Q E s := by
  refine callType_codes (Q₁ := fun obj s₁ => s₁.TypeIs obj "bytes" ∧ Q obj s₁) F.bm_called (F.bm_typeCall _) F.entry_object_init (byn_hot (x1 := x1) hot lst isI lw small fun h' t k hk => ⟨PySem.W.typeIs_bytes _ _ _, dn h' t k hk⟩) fun obj s₁ h₁ => ?_
  exact ⟨h₁.1, F.args_object_init_2 obj _, object_init_meets F.bm_called.init.lookup F.bm_called.made (by decide) prog w A.in1 _ s₁ ⟨h₁.1, rfl, h₁.2⟩⟩
end
end HY
namespace L2H
open PySem PySem.Spec PyProof.Rows L2 HotX HY
theorem RoomH.units {k : Nat} {A : Around} (r : RoomH k A) : A.units + 64 < cLine := by have := r.un; omega
theorem call_bytes_listH {X : Cx} (hc : HotC X) : CallR X (.type "bytes") (fun xs H Q => ∃ p ns, xs = [.ref p] ∧ SqL X.K H p (ns.map V.int) ∧ B8 ns ∧ Q (.byt (byteArr ns)) H) := by
  intro pins s σ H xs us Q I r h
  obtain ⟨p, ns, rfl, hp, hn, q⟩ := h
  obtain ⟨u, rfl, rx⟩ := vals1 r; obtain rfl : u = Value.ref p := rx
  obtain ⟨its, rv, pl, hz⟩ := I.list hp
  obtain ⟨x1, hot⟩ := hc.at I
  have hl := rv.length; have hl2 := (ints_vals rv).length
  exact by_hot (x1 := x1) hot pl.isList (ints_vals rv) hn (by omega) fun h' t k hk => ⟨.byt (byteArr ns), H, I.kept hk, ⟨_, rfl⟩, q⟩
theorem rl_bytesH {X : Cx} (hc : HotC X) (pins : List (Addr × Obj)) (s : Shared) (σ : St) (H : Hp) (x : V) (v : Value) (Q : VK) (I : Inv X pins σ H s) (r : RelV x v) (h : kByts X.K x H Q) : wpAny (model X.prog X.w) X.A (call (.type "bytes") [v]) (EP X pins σ Q) X.xe s := by
  rcases h with ⟨b, rfl, q⟩ | ⟨p, ns, rfl, hs, lw, q⟩
  · obtain ⟨t, rfl⟩ := r; exact ZB.call_bytes_bytes ⟨.byt b, H, I, ⟨_, rfl⟩, q⟩
  · obtain rfl : v = .ref p := r
    obtain ⟨its, rv, pl, hz⟩ := I.list hs
    have hl := rv.length
    obtain ⟨x1, hot⟩ := hc.at I
    have hl2 := (ints_of_vals rv).length
    exact by_hot (x1 := x1) hot pl.isList (ints_of_vals rv) lw (by omega) fun h' t k hk => ⟨.byt (byteArr ns), H, I.kept hk, ⟨_, rfl⟩, q⟩
theorem pe_bytesOfH {X : Cx} {a : Expr} {ta : TE} {p pos : Pos} (hc : HotC X) (hg : Gl X "bytes") (hm : X.mg "bytes" = none) (ha : PE X a ta) (na : starEach [a] X.env = (false, eval a X.env) :: starEach [] X.env := by rfl) :
    PE X (.Call (.Name "bytes" p) [a] [] pos) (tThenZ ta (kByts X.K)) := pe_callTy (call_r1 (rl_bytesH hc)) hg hm (by decide +kernel) (pa_cons ha pa_nil na) (he := na)
end L2H

namespace K9
open PySem PySem.Spec PyProof.Rows L2
/-! ### the same while an exception is handled -/
section
variable {P : Program} {w : World} {K : PySem.W.Frag} {mg : Str → Option Value} {base : Heap}
theorem okh_pt {f : Addr} {fd : FuncData} {j : Nat} (F : Fun K "put_together" "put_together" sPutTo f fd) (m1 : mg "isinstance" = none) (m2 : mg "tuple" = none) (m3 : mg "bytes" = none) :
    L2H.FnH P w K mg base CX0 (j + 1) f fd ["origins", "old"] spPt := by
  refine okH F scPt (fun vs H Q E h => ?_) (fun cdv A outer s H vs Q E pn hot hr h => ?_)
  · obtain ⟨r, os, old, rfl, _⟩ := h
    rfl
  · obtain ⟨r, os, old, rfl, ⟨us, hr0, hus⟩, hl, ho, hk, hol, q⟩ := h
    have hcX : L2H.HotC (L2H.cxH CX0 P w K mg base NPt "put_together" (defScope sPutTo) f cdv A outer s H E pn) := ⟨pn, hot, List.mem_singleton_self pn⟩
    have hz := PySem.sizeLine_eq
    refine ⟨_, pss_one (ps_ret (pe_callTy (L2H.call_bytes_listH hcX) (by rfl) m3 (by decide +kernel) (pa_cons
      (L2H.pe_lcG (own := [("origin", 2)]) (g := gName 2) (tt := tYes) hcX scPt.nd (L2H.pig_list (pv 0)) (blkOk_by (N := NPt) (sc := defScope sPutTo) (by decide +kernel)) (fun _ _ _ _ _ => L2H.pgg_of (pg_name (i := 2) scPt.nd rfl (.inl rfl))) (fun _ _ _ _ _ => pts_nil)
        (fun _ _ _ _ _ => pe_ifExp (pt_val (pe_callB (isiK K) (by rfl) m1 (by decide +kernel) (pa_cons (pv 2) (pa_cons (pe_bltn (v := .ty "tuple") (by rfl) m2 (by decide +kernel) rfl) pa_nil)))) (pe_item_byt (pv 1) (pe_ix (ixT K) (pv 2) pe_int (fun _ _ => rfl)) (fun _ _ => rfl)) (pv 2))) pa_nil))), ?_⟩
    have hlen := hus.length
    refine ⟨_, rfl, r, rfl, ⟨_, .inl (.inl hr0)⟩, fun D nD => ?_⟩
    refine lc_list (K := K) (a := r) (xs := us) (fun i H' => Same H H' ∧ H' D = some (.lst (bys ((makeB os old).take i)))) ⟨same_upd nD, by rw [upd_same]; rfl⟩ (fun i H' _ h => .inl (.inl (h.1 _ _ hr0))) (fun i x H' hx h => ?_) (fun H' h => ?_)
    · obtain ⟨sm, hD⟩ := h
      have hi : i < os.length := by have := (List.getElem?_eq_some_iff.mp hx).1; omega
      obtain ⟨x', e1, hd0⟩ := paired_get hus (List.getElem?_eq_getElem hi)
      obtain rfl := Option.some.inj (e1.symm.trans hx)
      have hd := hd0.same sm
      have hok := ho os[i] (List.getElem_mem hi)
      have em : (makeB os old)[i]? = some (byteO old os[i]) := by
        unfold makeB
        rw [List.getElem?_map, List.getElem?_eq_getElem hi]
        rfl
      rw [take_snocG em]
      have done : H' D = some (.lst (bys ((makeB os old).take i))) → ∀ k : Nat, k = byteO old os[i] → ∃ acc, H' D = some (.lst acc) ∧ acc.length < sizeLine ∧ (Same H (upd H' D (.lst (acc ++ [.int (k : Int)]))) ∧ (upd H' D (.lst (acc ++ [.int (k : Int)]))) D = some (.lst (bys ((makeB os old).take i ++ [byteO old os[i]])))) := fun hD k ek => ⟨_, hD, by rw [bys_len, List.length_take, makeB_len]; omega, same_put sm nD, by rw [upd_same, ← bys_app, ek]; rfl⟩
      clear hd0
      generalize os[i] = o at *
      refine ⟨rfl, yes ?_⟩
      cases o with
      | b k =>
        obtain rfl : x' = .int (k : Int) := hd
        refine ⟨_, rfl, _, _, _, _, _, rfl, .ty "tuple", .base (.int _), kit_ty (a := "int") (r := false) (by decide +kernel), _, rfl, iteF ?_⟩
        exact ⟨_, rfl, done hD k rfl⟩
      | o p =>
        obtain ⟨t, rfl, ht⟩ := hd
        have hp : p < old.length := hok
        refine ⟨_, rfl, _, _, .type "tuple", _, _, rfl, .ty "tuple", .base (.tup ht), kit_ty (a := "tuple") (r := true) (by decide +kernel), _, rfl, iteT ?_⟩
        refine ⟨_, rfl, _, rfl, t, _, 0, _, rfl, rfl, .inl (.inl ht), rfl, old.map Nat.toUInt8, (p : Int), rfl, rfl, by rw [List.length_map]; omega, by omega, by rw [List.length_map]; omega, ?_⟩
        rw [Int.toNat_natCast, byB_get hk]
        exact done hD _ rfl
    · obtain ⟨sm, hD⟩ := h
      rw [← hlen, ← makeB_len os old, List.take_length] at hD
      refine ⟨D, (makeB os old).map fun (k : Nat) => (k : Int), rfl, .inl (.inl ?_), ?_, ?_⟩
      · exact hD
      · intro n hn
        obtain ⟨k, hk2, rfl⟩ := List.mem_map.mp hn
        have := makeB_lt hk ho k hk2
        exact ⟨by omega, by omega⟩
      · rw [byB_of]
        exact q H' sm
theorem okh_po {f fB fR fM fP fG : Addr} {fd fdB fdR fdM fdP fdG : FuncData} {j k1 k2 k3 k4 k5 : Nat} (F : Fun K "put_on" "put_on" sPutOn f fd)
    (GB : L2H.FnH P w K mg base CX0 k1 fB fdB ["told"] spRefB) (bB : Binds K fdB ["told"] []) (kB : PySem.W.keepIn K (.ref fB) = true) (gB : mg "refuse_bytes" = some (.ref fB)) (l1 : k1 ≤ j)
    (GR : L2H.FnH P w K mg base CX0 k2 fR fdR ["told"] spRefD) (bR : Binds K fdR ["told"] []) (kR : PySem.W.keepIn K (.ref fR) = true) (gR : mg "refuse_difference" = some (.ref fR)) (l2 : k2 ≤ j)
    (GM : L2H.FnH P w K mg base CX0 k3 fM fdM ["data"] spMark) (bM : Binds K fdM ["data"] []) (kM : PySem.W.keepIn K (.ref fM) = true) (gM : mg "mark_of" = some (.ref fM)) (l3 : k3 ≤ j)
    (GP : L2H.FnH P w K mg base CX0 k4 fP fdP ["origins", "old"] spPt) (bP : Binds K fdP ["origins", "old"] []) (kP : PySem.W.keepIn K (.ref fP) = true) (gP : mg "put_together" = some (.ref fP)) (l4 : k4 ≤ j)
    (GG : L2H.FnH P w K mg base CX0 k5 fG fdG ["row"] spOr) (bG : Binds K fdG ["row"] []) (kG : PySem.W.keepIn K (.ref fG) = true) (gG : mg "origins_of" = some (.ref fG)) (l5 : k5 ≤ j) :
    L2H.FnH P w K mg base CX0 (j + 1) f fd ["old", "difference"] spPo := by
  refine okH F scPo (fun vs H Q E h => ?_) (fun cdv A outer s H vs Q E pn hot hr h => ?_)
  · obtain ⟨t, x, d, old, rfl, _⟩ := h
    rfl
  · obtain ⟨t, x, d, old, rfl, hD, hL, hok, ko, lo, eo, en, fin⟩ := h
    have hcX : L2H.HotC (L2H.cxH CX0 P w K mg base ["old", "difference", "new"] "put_on" (defScope sPutOn) f cdv A outer s H E pn) := ⟨pn, hot, List.mem_singleton_self pn⟩
    have hfit := of_decide_eq_true (show decide (fitR d.old.1 0 d.row = some d.new.1) = true from hok)
    obtain ⟨hol, hoo⟩ := orig_ok (acc := []) (fun o z => by cases z) hfit
    have hol : (orig d.row).length = d.new.1 := hol
    rw [eo] at hoo
    have hoo : ∀ o ∈ orig d.row, OgOk old.length o := hoo
    have hn2 := hL.2.2.1
    refine ⟨_, pss_cons (ps_expr (L2H.pe_callH (E := fun _ => E0) GB (hr.mono l1) hcX (by rfl) gB kB bB (fun σ _ _ _ _ _ _ z => z.elim) (pa_cons (pv 0) pa_nil))) (pss_cons (ps_expr (L2H.pe_callH (E := fun _ => E0) GR (hr.mono l2) hcX (by rfl) gR kR bR (fun σ _ _ _ _ _ _ z => z.elim) (pa_cons (pv 1) pa_nil)))
      (pss_cons (ps_if (pt_cmpR (op_neD hr.units) (L2H.pe_callH (E := fun _ => E0) GM (hr.mono l3) hcX (by rfl) gM kM bM (fun σ _ _ _ _ _ _ z => z.elim) (pa_cons (pv 0) pa_nil)) (pe_ix ix_tup (pv 1) pe_int (fun _ _ => rfl)) (nomark _)) (pss_one ps_never) pss_nil)
      (pss_cons (ps_set (i := 2) scPo.nd rfl (.inl rfl) (L2H.pe_callH (E := fun _ => E0) GP (hr.mono l4) hcX (by rfl) gP kP bP (fun σ _ _ _ _ _ _ z => z.elim) (pa_cons (L2H.pe_callH (E := fun _ => E0) GG (hr.mono l5) hcX (by rfl) gG kG bG (fun σ _ _ _ _ _ _ z => z.elim) (pa_cons (pe_ix ix_tup (pv 1) pe_int (fun _ _ => rfl)) pa_nil)) (pa_cons (pv 0) pa_nil))))
      (pss_cons (ps_if (pt_cmpR (op_neD hr.units) (L2H.pe_callH (E := fun _ => E0) GM (hr.mono l3) hcX (by rfl) gM kM bM (fun σ _ _ _ _ _ _ z => z.elim) (pa_cons (pv 2) pa_nil)) (pe_ix ix_tup (pv 1) pe_int (fun _ _ => rfl)) (nomark _)) (pss_one ps_never) pss_nil)
      (pss_one (ps_ret (pv 2))))))), ?_⟩
    refine ⟨_, rfl, old, rfl, lo, _, rfl, t, x, d, rfl, hD, hL, hok, ?_⟩
    refine ⟨_, rfl, old, rfl, ko, lo, fun H1 a s1 na hma => ?_⟩
    have hD1 := hD.same s1
    refine ⟨_, rfl, t, _, 0, _, rfl, rfl, .inl (.inl hD1.1), rfl, _, _, dp_mk hma, dp_mk hD1.2.1, sh_mk _, sh_mk _, ?_⟩
    rw [eqv_mk, eo, decide_eq_true rfl]
    refine ⟨_, rfl, iteF ?_⟩
    refine ⟨_, rfl, t, _, 2, _, rfl, rfl, .inl (.inl hD1.1), rfl, x.r, d.row, d.old.1, d.new.1, rfl, hD1.2.2.2, hfit, hn2, fun H2 q s2 nq hOs => ?_⟩
    refine ⟨_, rfl, q, orig d.row, old, rfl, hOs, by rw [hol]; exact hn2, hoo, ko, lo, fun H3 s3 => ?_⟩
    have s13 := (s1.trans s2).trans s3
    try dsimp only [gName]
    refine ⟨_, rfl, makeB (orig d.row) old, rfl, makeB_lt ko hoo, by rw [makeB_len, hol]; exact hn2, fun H4 b s4 nb hmb => ?_⟩
    have hD4 := (hD1.same (s2.trans s3)).same s4
    refine ⟨_, rfl, t, _, 1, _, rfl, rfl, .inl (.inl hD4.1), rfl, _, _, dp_mk hmb, dp_mk hD4.2.2.1, sh_mk _, sh_mk _, ?_⟩
    rw [eqv_mk, en, decide_eq_true rfl]
    exact ⟨_, rfl, iteF ⟨_, rfl, fin _ (s13.trans s4)⟩⟩
end
end K9


namespace K9
open PySem PySem.Spec PyProof.Rows L2
theorem exm_own {K : PySem.W.Frag} {S : Addr} (h1 : PySem.W.subIn K (.ref S) (.type "BaseException") = some true) (h2 : PySem.W.isClsIn K S = true) (h3 : PySem.W.typeIn K (.ref S) = some (.type "type")) (h4 : PySem.W.subIn K (.ref S) (.ref S) = some true) : PySem.W.exmOne K (.ref S) (.ref S) = some true := by
  have a : (PySem.W.subIn K (.ref S) (.type "BaseException") == some true) = true := by rw [h1]; rfl
  have b : ((PySem.W.clsIn K S).isSome && PySem.W.typeIn K (.ref S) == some (.type "type")) = true := by
    rw [show (PySem.W.clsIn K S).isSome = true from h2, h3]; rfl
  exact (if_pos a).trans ((if_pos b).trans h4)
theorem all_mk {l : PySem.W.OpenLaw} {w : World} {K : PySem.W.Frag} {h : Heap} {mg : Str → Option Value} {fa : Addr} (X : K.In h) (G : h.Ns mainGlobals mg) (hfa : mg "law" = some (.ref fa))
    {f0 f1 f2 f3 f4 f5 f6 f7 f8 f9 f10 f11 f12 f13 f14 f15 f16 f17 f18 f19 f20 f21 f22 f23 f24 f25 f26 f27 f28 f29 f30 f31 f32 f33 f34 f35 f36 f37 f38 f39 f40 f41 C_Reaches CB : Addr} {od0 an0 od1 an1 od2 an2 od3 an3 od4 an4 od5 an5 od6 an6 od7 an7 od8 an8 od9 an9 od10 an10 od11 an11 od12 an12 od13 an13 od14 an14 od15 an15 od16 an16 od17 an17 od18 an18 od19 an19 od20 an20 od21 an21 od22 an22 od23 an23 od24 an24 od25 an25 od26 an26 od27 an27 od28 an28 od29 an29 od30 an30 od31 an31 od32 an32 od33 an33 od34 an34 od35 an35 od36 an36 od37 an37 od38 an38 od39 an39 od40 an40 od41 an41 : Option Addr} {sl0 sl1 sl2 sl3 sl4 sl5 sl6 sl7 sl8 sl9 sl10 sl11 sl12 sl13 sl14 sl15 sl16 sl17 sl18 sl19 sl20 sl21 sl22 sl23 sl24 sl25 sl26 sl27 sl28 sl29 sl30 sl31 sl32 sl33 sl34 sl35 sl36 sl37 sl38 sl39 sl40 sl41 : Array (Option Value)} {oc0 kV0 dc0 pm0 ct0 cd0 oc1 kV1 dc1 pm1 ct1 cd1 oc2 kV2 dc2 pm2 ct2 cd2 oc3 kV3 dc3 pm3 ct3 cd3 oc4 kV4 dc4 pm4 ct4 cd4 oc5 kV5 dc5 pm5 ct5 cd5 oc6 kV6 dc6 pm6 ct6 cd6 oc7 kV7 dc7 pm7 ct7 cd7 oc8 kV8 dc8 pm8 ct8 cd8 oc9 kV9 dc9 pm9 ct9 cd9 oc10 kV10 dc10 pm10 ct10 cd10 oc11 kV11 dc11 pm11 ct11 cd11 oc12 kV12 dc12 pm12 ct12 cd12 oc13 kV13 dc13 pm13 ct13 cd13 oc14 kV14 dc14 pm14 ct14 cd14 oc15 kV15 dc15 pm15 ct15 cd15 oc16 kV16 dc16 pm16 ct16 cd16 oc17 kV17 dc17 pm17 ct17 cd17 oc18 kV18 dc18 pm18 ct18 cd18 oc19 kV19 dc19 pm19 ct19 cd19 oc20 kV20 dc20 pm20 ct20 cd20 oc21 kV21 dc21 pm21 ct21 cd21 oc22 kV22 dc22 pm22 ct22 cd22 oc23 kV23 dc23 pm23 ct23 cd23 oc24 kV24 dc24 pm24 ct24 cd24 oc25 kV25 dc25 pm25 ct25 cd25 oc26 kV26 dc26 pm26 ct26 cd26 oc27 kV27 dc27 pm27 ct27 cd27 oc28 kV28 dc28 pm28 ct28 cd28 oc29 kV29 dc29 pm29 ct29 cd29 oc30 kV30 dc30 pm30 ct30 cd30 oc31 kV31 dc31 pm31 ct31 cd31 oc32 kV32 dc32 pm32 ct32 cd32 oc33 kV33 dc33 pm33 ct33 cd33 oc34 kV34 dc34 pm34 ct34 cd34 oc35 kV35 dc35 pm35 ct35 cd35 oc36 kV36 dc36 pm36 ct36 cd36 oc37 kV37 dc37 pm37 ct37 cd37 oc38 kV38 dc38 pm38 ct38 cd38 oc39 kV39 dc39 pm39 ct39 cd39 oc40 kV40 dc40 pm40 ct40 cd40 oc41 kV41 dc41 pm41 ct41 cd41 : Value} {tS tN tO tv_MODULUS tv_MOST_BYTES tv_FEWEST_NEW tv_FEWEST_OLD tv_MOST_AT_ONCE tv_NEW_BITS tv_OLD_BITS tv_BYTE_BITS : Tok}
    (a0 : PySem.W.nsIn K mainGlobals "is_whole" = some (some (.ref f0))) (l0 : K.lookup f0 = some ⟨oc0, od0, .func (PySem.W.fnOf "is_whole" "is_whole" (defArgs sWhole) (defBody sWhole) (defScope sWhole) .none kV0 dc0 pm0 an0 cd0 ct0), sl0⟩) (c0 : PySem.W.codeIn K cd0 "is_whole" = true) (k0 : PySem.W.keepIn K (.ref f0) = true)
    (a1 : PySem.W.nsIn K mainGlobals "is_number" = some (some (.ref f1))) (l1 : K.lookup f1 = some ⟨oc1, od1, .func (PySem.W.fnOf "is_number" "is_number" (defArgs sIsNum) (defBody sIsNum) (defScope sIsNum) .none kV1 dc1 pm1 an1 cd1 ct1), sl1⟩) (c1 : PySem.W.codeIn K cd1 "is_number" = true) (k1 : PySem.W.keepIn K (.ref f1) = true)
    (a2 : PySem.W.nsIn K mainGlobals "_law_cell_at" = some (some (.ref f2))) (l2 : K.lookup f2 = some ⟨oc2, od2, .func (PySem.W.fnOf "_law_cell_at" "_law_cell_at" (defArgs sCell) (defBody sCell) (defScope sCell) .none kV2 dc2 pm2 an2 cd2 ct2), sl2⟩) (c2 : PySem.W.codeIn K cd2 "_law_cell_at" = true) (k2 : PySem.W.keepIn K (.ref f2) = true)
    (a3 : PySem.W.nsIn K mainGlobals "_law_numbers" = some (some (.ref f3))) (l3 : K.lookup f3 = some ⟨oc3, od3, .func (PySem.W.fnOf "_law_numbers" "_law_numbers" (defArgs sNums) (defBody sNums) (defScope sNums) .none kV3 dc3 pm3 an3 cd3 ct3), sl3⟩) (c3 : PySem.W.codeIn K cd3 "_law_numbers" = true) (k3 : PySem.W.keepIn K (.ref f3) = true)
    (a4 : PySem.W.nsIn K mainGlobals "of_hex" = some (some (.ref f4))) (l4 : K.lookup f4 = some ⟨oc4, od4, .func (PySem.W.fnOf "of_hex" "of_hex" (defArgs sOfHex) (defBody sOfHex) (defScope sOfHex) .none kV4 dc4 pm4 an4 cd4 ct4), sl4⟩) (c4 : PySem.W.codeIn K cd4 "of_hex" = true) (k4 : PySem.W.keepIn K (.ref f4) = true)
    (a5 : PySem.W.nsIn K mainGlobals "_law_hex" = some (some (.ref f5))) (l5 : K.lookup f5 = some ⟨oc5, od5, .func (PySem.W.fnOf "_law_hex" "_law_hex" (defArgs sHex) (defBody sHex) (defScope sHex) .none kV5 dc5 pm5 an5 cd5 ct5), sl5⟩) (c5 : PySem.W.codeIn K cd5 "_law_hex" = true) (k5 : PySem.W.keepIn K (.ref f5) = true)
    (a6 : PySem.W.nsIn K mainGlobals "_law_data" = some (some (.ref f6))) (l6 : K.lookup f6 = some ⟨oc6, od6, .func (PySem.W.fnOf "_law_data" "_law_data" (defArgs sData) (defBody sData) (defScope sData) .none kV6 dc6 pm6 an6 cd6 ct6), sl6⟩) (c6 : PySem.W.codeIn K cd6 "_law_data" = true) (k6 : PySem.W.keepIn K (.ref f6) = true)
    (a7 : PySem.W.nsIn K mainGlobals "are_bytes" = some (some (.ref f7))) (l7 : K.lookup f7 = some ⟨oc7, od7, .func (PySem.W.fnOf "are_bytes" "are_bytes" (defArgs sAreBytes) (defBody sAreBytes) (defScope sAreBytes) .none kV7 dc7 pm7 an7 cd7 ct7), sl7⟩) (c7 : PySem.W.codeIn K cd7 "are_bytes" = true) (k7 : PySem.W.keepIn K (.ref f7) = true)
    (a8 : PySem.W.nsIn K mainGlobals "mark_of" = some (some (.ref f8))) (l8 : K.lookup f8 = some ⟨oc8, od8, .func (PySem.W.fnOf "mark_of" "mark_of" (defArgs sMarkOf) (defBody sMarkOf) (defScope sMarkOf) .none kV8 dc8 pm8 an8 cd8 ct8), sl8⟩) (c8 : PySem.W.codeIn K cd8 "mark_of" = true) (k8 : PySem.W.keepIn K (.ref f8) = true)
    (a9 : PySem.W.nsIn K mainGlobals "is_mark" = some (some (.ref f9))) (l9 : K.lookup f9 = some ⟨oc9, od9, .func (PySem.W.fnOf "is_mark" "is_mark" (defArgs sIsMark) (defBody sIsMark) (defScope sIsMark) .none kV9 dc9 pm9 an9 cd9 ct9), sl9⟩) (c9 : PySem.W.codeIn K cd9 "is_mark" = true) (k9 : PySem.W.keepIn K (.ref f9) = true)
    (a10 : PySem.W.nsIn K mainGlobals "many_of" = some (some (.ref f10))) (l10 : K.lookup f10 = some ⟨oc10, od10, .func (PySem.W.fnOf "many_of" "many_of" (defArgs sManyOf) (defBody sManyOf) (defScope sManyOf) .none kV10 dc10 pm10 an10 cd10 ct10), sl10⟩) (c10 : PySem.W.codeIn K cd10 "many_of" = true) (k10 : PySem.W.keepIn K (.ref f10) = true)
    (a11 : PySem.W.nsIn K mainGlobals "tells_as_many" = some (some (.ref f11))) (l11 : K.lookup f11 = some ⟨oc11, od11, .func (PySem.W.fnOf "tells_as_many" "tells_as_many" (defArgs sTellsM) (defBody sTellsM) (defScope sTellsM) .none kV11 dc11 pm11 an11 cd11 ct11), sl11⟩) (c11 : PySem.W.codeIn K cd11 "tells_as_many" = true) (k11 : PySem.W.keepIn K (.ref f11) = true)
    (a12 : PySem.W.nsIn K mainGlobals "is_difference" = some (some (.ref f12))) (l12 : K.lookup f12 = some ⟨oc12, od12, .func (PySem.W.fnOf "is_difference" "is_difference" (defArgs sIsDif) (defBody sIsDif) (defScope sIsDif) .none kV12 dc12 pm12 an12 cd12 ct12), sl12⟩) (c12 : PySem.W.codeIn K cd12 "is_difference" = true) (k12 : PySem.W.keepIn K (.ref f12) = true)
    (a13 : PySem.W.nsIn K mainGlobals "refuse_difference" = some (some (.ref f13))) (l13 : K.lookup f13 = some ⟨oc13, od13, .func (PySem.W.fnOf "refuse_difference" "refuse_difference" (defArgs sRefD) (defBody sRefD) (defScope sRefD) .none kV13 dc13 pm13 an13 cd13 ct13), sl13⟩) (c13 : PySem.W.codeIn K cd13 "refuse_difference" = true) (k13 : PySem.W.keepIn K (.ref f13) = true)
    (a14 : PySem.W.nsIn K mainGlobals "refuse_bytes" = some (some (.ref f14))) (l14 : K.lookup f14 = some ⟨oc14, od14, .func (PySem.W.fnOf "refuse_bytes" "refuse_bytes" (defArgs sRefB) (defBody sRefB) (defScope sRefB) .none kV14 dc14 pm14 an14 cd14 ct14), sl14⟩) (c14 : PySem.W.codeIn K cd14 "refuse_bytes" = true) (k14 : PySem.W.keepIn K (.ref f14) = true)
    (a15 : PySem.W.nsIn K mainGlobals "origins_of" = some (some (.ref f15))) (l15 : K.lookup f15 = some ⟨oc15, od15, .func (PySem.W.fnOf "origins_of" "origins_of" (defArgs sOrig) (defBody sOrig) (defScope sOrig) .none kV15 dc15 pm15 an15 cd15 ct15), sl15⟩) (c15 : PySem.W.codeIn K cd15 "origins_of" = true) (k15 : PySem.W.keepIn K (.ref f15) = true)
    (a16 : PySem.W.nsIn K mainGlobals "put_together" = some (some (.ref f16))) (l16 : K.lookup f16 = some ⟨oc16, od16, .func (PySem.W.fnOf "put_together" "put_together" (defArgs sPutTo) (defBody sPutTo) (defScope sPutTo) .none kV16 dc16 pm16 an16 cd16 ct16), sl16⟩) (c16 : PySem.W.codeIn K cd16 "put_together" = true) (k16 : PySem.W.keepIn K (.ref f16) = true)
    (a17 : PySem.W.nsIn K mainGlobals "most_at" = some (some (.ref f17))) (l17 : K.lookup f17 = some ⟨oc17, od17, .func (PySem.W.fnOf "most_at" "most_at" (defArgs sMostAt) (defBody sMostAt) (defScope sMostAt) .none kV17 dc17 pm17 an17 cd17 ct17), sl17⟩) (c17 : PySem.W.codeIn K cd17 "most_at" = true) (k17 : PySem.W.keepIn K (.ref f17) = true)
    (a18 : PySem.W.nsIn K mainGlobals "longest_new" = some (some (.ref f18))) (l18 : K.lookup f18 = some ⟨oc18, od18, .func (PySem.W.fnOf "longest_new" "longest_new" (defArgs sLongN) (defBody sLongN) (defScope sLongN) .none kV18 dc18 pm18 an18 cd18 ct18), sl18⟩) (c18 : PySem.W.codeIn K cd18 "longest_new" = true) (k18 : PySem.W.keepIn K (.ref f18) = true)
    (a19 : PySem.W.nsIn K mainGlobals "longest_old" = some (some (.ref f19))) (l19 : K.lookup f19 = some ⟨oc19, od19, .func (PySem.W.fnOf "longest_old" "longest_old" (defArgs sLongO) (defBody sLongO) (defScope sLongO) .none kV19 dc19 pm19 an19 cd19 ct19), sl19⟩) (c19 : PySem.W.codeIn K cd19 "longest_old" = true) (k19 : PySem.W.keepIn K (.ref f19) = true)
    (m20 : PySem.W.findIn K (.ref C_Reaches) "__init__" = some (some (.ref f20))) (n20 : PySem.W.isFn K (.ref f20) = true) (l20 : K.lookup f20 = some ⟨oc20, od20, .func (PySem.W.fnOf "__init__" "Reaches.__init__" (defArgs sReInit) (defBody sReInit) (defScope sReInit) .none kV20 dc20 pm20 an20 cd20 ct20), sl20⟩) (c20 : PySem.W.codeIn K cd20 "Reaches.__init__" = true) (k20 : PySem.W.keepIn K (.ref f20) = true)
    (m21 : PySem.W.findIn K (.ref C_Reaches) "copies_at" = some (some (.ref f21))) (n21 : PySem.W.isFn K (.ref f21) = true) (l21 : K.lookup f21 = some ⟨oc21, od21, .func (PySem.W.fnOf "copies_at" "Reaches.copies_at" (defArgs sReAt) (defBody sReAt) (defScope sReAt) .none kV21 dc21 pm21 an21 cd21 ct21), sl21⟩) (c21 : PySem.W.codeIn K cd21 "Reaches.copies_at" = true) (k21 : PySem.W.keepIn K (.ref f21) = true)
    (m22 : PySem.W.findIn K (.ref C_Reaches) "copy_at" = some (some (.ref f22))) (n22 : PySem.W.isFn K (.ref f22) = true) (l22 : K.lookup f22 = some ⟨oc22, od22, .func (PySem.W.fnOf "copy_at" "Reaches.copy_at" (defArgs sReOne) (defBody sReOne) (defScope sReOne) .none kV22 dc22 pm22 an22 cd22 ct22), sl22⟩) (c22 : PySem.W.codeIn K cd22 "Reaches.copy_at" = true) (k22 : PySem.W.keepIn K (.ref f22) = true)
    (a23 : PySem.W.nsIn K mainGlobals "costs_of" = some (some (.ref f23))) (l23 : K.lookup f23 = some ⟨oc23, od23, .func (PySem.W.fnOf "costs_of" "costs_of" (defArgs sCostsR) (defBody sCostsR) (defScope sCostsR) .none kV23 dc23 pm23 an23 cd23 ct23), sl23⟩) (c23 : PySem.W.codeIn K cd23 "costs_of" = true) (k23 : PySem.W.keepIn K (.ref f23) = true)
    (a24 : PySem.W.nsIn K mainGlobals "least_row" = some (some (.ref f24))) (l24 : K.lookup f24 = some ⟨oc24, od24, .func (PySem.W.fnOf "least_row" "least_row" (defArgs sLeastR) (defBody sLeastR) (defScope sLeastR) .none kV24 dc24 pm24 an24 cd24 ct24), sl24⟩) (c24 : PySem.W.codeIn K cd24 "least_row" = true) (k24 : PySem.W.keepIn K (.ref f24) = true)
    (a25 : PySem.W.nsIn K mainGlobals "difference" = some (some (.ref f25))) (l25 : K.lookup f25 = some ⟨oc25, od25, .func (PySem.W.fnOf "difference" "difference" (defArgs sDiff) (defBody sDiff) (defScope sDiff) .none kV25 dc25 pm25 an25 cd25 ct25), sl25⟩) (c25 : PySem.W.codeIn K cd25 "difference" = true) (k25 : PySem.W.keepIn K (.ref f25) = true)
    (a26 : PySem.W.nsIn K mainGlobals "put_on" = some (some (.ref f26))) (l26 : K.lookup f26 = some ⟨oc26, od26, .func (PySem.W.fnOf "put_on" "put_on" (defArgs sPutOn) (defBody sPutOn) (defScope sPutOn) .none kV26 dc26 pm26 an26 cd26 ct26), sl26⟩) (c26 : PySem.W.codeIn K cd26 "put_on" = true) (k26 : PySem.W.keepIn K (.ref f26) = true)
    (a27 : PySem.W.nsIn K mainGlobals "_law_mark" = some (some (.ref f27))) (l27 : K.lookup f27 = some ⟨oc27, od27, .func (PySem.W.fnOf "_law_mark" "_law_mark" (defArgs sLMark) (defBody sLMark) (defScope sLMark) .none kV27 dc27 pm27 an27 cd27 ct27), sl27⟩) (c27 : PySem.W.codeIn K cd27 "_law_mark" = true) (k27 : PySem.W.keepIn K (.ref f27) = true)
    (a28 : PySem.W.nsIn K mainGlobals "_law_wide" = some (some (.ref f28))) (l28 : K.lookup f28 = some ⟨oc28, od28, .func (PySem.W.fnOf "_law_wide" "_law_wide" (defArgs sLWide) (defBody sLWide) (defScope sLWide) .none kV28 dc28 pm28 an28 cd28 ct28), sl28⟩) (c28 : PySem.W.codeIn K cd28 "_law_wide" = true) (k28 : PySem.W.keepIn K (.ref f28) = true)
    (a29 : PySem.W.nsIn K mainGlobals "_law_origins" = some (some (.ref f29))) (l29 : K.lookup f29 = some ⟨oc29, od29, .func (PySem.W.fnOf "_law_origins" "_law_origins" (defArgs sLOrig) (defBody sLOrig) (defScope sLOrig) .none kV29 dc29 pm29 an29 cd29 ct29), sl29⟩) (c29 : PySem.W.codeIn K cd29 "_law_origins" = true) (k29 : PySem.W.keepIn K (.ref f29) = true)
    (a30 : PySem.W.nsIn K mainGlobals "_law_pair" = some (some (.ref f30))) (l30 : K.lookup f30 = some ⟨oc30, od30, .func (PySem.W.fnOf "_law_pair" "_law_pair" (defArgs sLPair) (defBody sLPair) (defScope sLPair) .none kV30 dc30 pm30 an30 cd30 ct30), sl30⟩) (c30 : PySem.W.codeIn K cd30 "_law_pair" = true) (k30 : PySem.W.keepIn K (.ref f30) = true)
    (a31 : PySem.W.nsIn K mainGlobals "_law_diff_cost" = some (some (.ref f31))) (l31 : K.lookup f31 = some ⟨oc31, od31, .func (PySem.W.fnOf "_law_diff_cost" "_law_diff_cost" (defArgs sLDCost) (defBody sLDCost) (defScope sLDCost) .none kV31 dc31 pm31 an31 cd31 ct31), sl31⟩) (c31 : PySem.W.codeIn K cd31 "_law_diff_cost" = true) (k31 : PySem.W.keepIn K (.ref f31) = true)
    (a32 : PySem.W.nsIn K mainGlobals "_law_copies" = some (some (.ref f32))) (l32 : K.lookup f32 = some ⟨oc32, od32, .func (PySem.W.fnOf "_law_copies" "_law_copies" (defArgs sLCopies) (defBody sLCopies) (defScope sLCopies) .none kV32 dc32 pm32 an32 cd32 ct32), sl32⟩) (c32 : PySem.W.codeIn K cd32 "_law_copies" = true) (k32 : PySem.W.keepIn K (.ref f32) = true)
    (a33 : PySem.W.nsIn K mainGlobals "_law_diff_searched" = some (some (.ref f33))) (l33 : K.lookup f33 = some ⟨oc33, od33, .func (PySem.W.fnOf "_law_diff_searched" "_law_diff_searched" (defArgs sLDSearch) (defBody sLDSearch) (defScope sLDSearch) .none kV33 dc33 pm33 an33 cd33 ct33), sl33⟩) (c33 : PySem.W.codeIn K cd33 "_law_diff_searched" = true) (k33 : PySem.W.keepIn K (.ref f33) = true)
    (a34 : PySem.W.nsIn K mainGlobals "are_costs" = some (some (.ref f34))) (l34 : K.lookup f34 = some ⟨oc34, od34, .func (PySem.W.fnOf "are_costs" "are_costs" (defArgs sAreCosts) (defBody sAreCosts) (defScope sAreCosts) .none kV34 dc34 pm34 an34 cd34 ct34), sl34⟩) (c34 : PySem.W.codeIn K cd34 "are_costs" = true) (k34 : PySem.W.keepIn K (.ref f34) = true)
    (a35 : PySem.W.nsIn K mainGlobals "row_bits" = some (some (.ref f35))) (l35 : K.lookup f35 = some ⟨oc35, od35, .func (PySem.W.fnOf "row_bits" "row_bits" (defArgs sRowBits) (defBody sRowBits) (defScope sRowBits) .none kV35 dc35 pm35 an35 cd35 ct35), sl35⟩) (c35 : PySem.W.codeIn K cd35 "row_bits" = true) (k35 : PySem.W.keepIn K (.ref f35) = true)
    (a36 : PySem.W.nsIn K mainGlobals "none_is_cheaper" = some (some (.ref f36))) (l36 : K.lookup f36 = some ⟨oc36, od36, .func (PySem.W.fnOf "none_is_cheaper" "none_is_cheaper" (defArgs sNone) (defBody sNone) (defScope sNone) .none kV36 dc36 pm36 an36 cd36 ct36), sl36⟩) (c36 : PySem.W.codeIn K cd36 "none_is_cheaper" = true) (k36 : PySem.W.keepIn K (.ref f36) = true)
    (a37 : PySem.W.nsIn K mainGlobals "shown" = some (some (.ref f37))) (l37 : K.lookup f37 = some ⟨oc37, od37, .func (PySem.W.fnOf "shown" "shown" (defArgs sShown) (defBody sShown) (defScope sShown) .none kV37 dc37 pm37 an37 cd37 ct37), sl37⟩) (c37 : PySem.W.codeIn K cd37 "shown" = true) (k37 : PySem.W.keepIn K (.ref f37) = true)
    (a38 : PySem.W.nsIn K mainGlobals "_law_shown" = some (some (.ref f38))) (l38 : K.lookup f38 = some ⟨oc38, od38, .func (PySem.W.fnOf "_law_shown" "_law_shown" (defArgs sLShown) (defBody sLShown) (defScope sLShown) .none kV38 dc38 pm38 an38 cd38 ct38), sl38⟩) (c38 : PySem.W.codeIn K cd38 "_law_shown" = true) (k38 : PySem.W.keepIn K (.ref f38) = true)
    (a39 : PySem.W.nsIn K mainGlobals "_law_spoilt_right" = some (some (.ref f39))) (l39 : K.lookup f39 = some ⟨oc39, od39, .func (PySem.W.fnOf "_law_spoilt_right" "_law_spoilt_right" (defArgs sSpoilt) (defBody sSpoilt) (defScope sSpoilt) .none kV39 dc39 pm39 an39 cd39 ct39), sl39⟩) (c39 : PySem.W.codeIn K cd39 "_law_spoilt_right" = true) (k39 : PySem.W.keepIn K (.ref f39) = true)
    (a40 : PySem.W.nsIn K mainGlobals "_law_all_right" = some (some (.ref f40))) (l40 : K.lookup f40 = some ⟨oc40, od40, .func (PySem.W.fnOf "_law_all_right" "_law_all_right" (defArgs sAll) (defBody sAll) (defScope sAll) .none kV40 dc40 pm40 an40 cd40 ct40), sl40⟩) (c40 : PySem.W.codeIn K cd40 "_law_all_right" = true) (k40 : PySem.W.keepIn K (.ref f40) = true)
    (a41 : PySem.W.nsIn K mainGlobals "law" = some (some (.ref f41))) (l41 : K.lookup f41 = some ⟨oc41, od41, .func (PySem.W.fnOf "law" "law" (defArgs sLaw) (defBody sLaw) (defScope sLaw) .none kV41 dc41 pm41 an41 cd41 ct41), sl41⟩) (c41 : PySem.W.codeIn K cd41 "law" = true) (k41 : PySem.W.keepIn K (.ref f41) = true)
    (aC_Reaches : PySem.W.nsIn K mainGlobals "Reaches" = some (some (.ref C_Reaches))) (pg_Reaches : PySem.W.plainGet K C_Reaches Str.empty = true) (hd_Reaches : PySem.W.hasDictIn K C_Reaches = true) (po_Reaches : PySem.W.plainOver K C_Reaches = true) (sa_Reaches : PySem.W.findIn K (.ref C_Reaches) "__setattr__" = some (some (.builtin "object.__setattr__"))) (mk_Reaches : PySem.W.makesIn K C_Reaches = true) (kp_Reaches : PySem.W.keepIn K (.ref C_Reaches) = true) (at_old_Reaches : PySem.W.findIn K (.ref C_Reaches) "old" = some none) (at_new_Reaches : PySem.W.findIn K (.ref C_Reaches) "new" = some none) (at_many_new_Reaches : PySem.W.findIn K (.ref C_Reaches) "many_new" = some none) (at_many_old_Reaches : PySem.W.findIn K (.ref C_Reaches) "many_old" = some none)
    (bd0 : PySem.W.nsIn K mainGlobals "BadDifference" = some (some (.ref CB)))
    (bd1 : PySem.W.excIn K CB [.type "ValueError", .type "Exception", .type "BaseException", .type "object"] "ValueError.__new__" = true)
    (bd2 : PySem.W.keepIn K (.ref CB) = true)
    (bd3 : PySem.W.subIn K (.ref CB) (.type "BaseException") = some true)
    (bd4 : PySem.W.typeIn K (.ref CB) = some (.type "type"))
    (bd5 : PySem.W.isClsIn K CB = true)
    (bd6 : PySem.W.subIn K (.ref CB) (.ref CB) = some true)
    (s0 : PySem.W.nsIn K mainGlobals "SIGNS" = some (some (.str hexTab tS)))
    (cN : PySem.W.nsIn K mainGlobals "NEW" = some (some (.str "new" tN)))
    (cO : PySem.W.nsIn K mainGlobals "OLD" = some (some (.str "old" tO)))
    (z_isinstance : PySem.W.nsIn K mainGlobals "isinstance" = some none)
    (z_bool : PySem.W.nsIn K mainGlobals "bool" = some none)
    (z_int : PySem.W.nsIn K mainGlobals "int" = some none)
    (z_len : PySem.W.nsIn K mainGlobals "len" = some none)
    (z_str : PySem.W.nsIn K mainGlobals "str" = some none)
    (z_all : PySem.W.nsIn K mainGlobals "all" = some none)
    (z_bytes : PySem.W.nsIn K mainGlobals "bytes" = some none)
    (z_range : PySem.W.nsIn K mainGlobals "range" = some none)
    (z_sum : PySem.W.nsIn K mainGlobals "sum" = some none)
    (z_enumerate : PySem.W.nsIn K mainGlobals "enumerate" = some none)
    (z_tuple : PySem.W.nsIn K mainGlobals "tuple" = some none)
    (z_min : PySem.W.nsIn K mainGlobals "min" = some none)
    (z_list : PySem.W.nsIn K mainGlobals "list" = some none)
    (z_max : PySem.W.nsIn K mainGlobals "max" = some none)
    (z_reversed : PySem.W.nsIn K mainGlobals "reversed" = some none)
    (z_sorted : PySem.W.nsIn K mainGlobals "sorted" = some none)
    (v_MODULUS : PySem.W.nsIn K mainGlobals "MODULUS" = some (some (.int 65521 tv_MODULUS)))
    (v_MOST_BYTES : PySem.W.nsIn K mainGlobals "MOST_BYTES" = some (some (.int 2000 tv_MOST_BYTES)))
    (v_FEWEST_NEW : PySem.W.nsIn K mainGlobals "FEWEST_NEW" = some (some (.int 3 tv_FEWEST_NEW)))
    (v_FEWEST_OLD : PySem.W.nsIn K mainGlobals "FEWEST_OLD" = some (some (.int 1 tv_FEWEST_OLD)))
    (v_MOST_AT_ONCE : PySem.W.nsIn K mainGlobals "MOST_AT_ONCE" = some (some (.int 255 tv_MOST_AT_ONCE)))
    (v_NEW_BITS : PySem.W.nsIn K mainGlobals "NEW_BITS" = some (some (.int 20 tv_NEW_BITS)))
    (v_OLD_BITS : PySem.W.nsIn K mainGlobals "OLD_BITS" = some (some (.int 24 tv_OLD_BITS)))
    (v_BYTE_BITS : PySem.W.nsIn K mainGlobals "BYTE_BITS" = some (some (.int 9 tv_BYTE_BITS))) :
    ∃ fd : FuncData, (∀ (s : Shared) (u : Value), BindsTo s fd ⟨[u], []⟩ [("_law_script", u)]) ∧ ∀ base : Heap, K.In base → base.Ns mainGlobals mg → FnOk l.prog w K mg base CX0 10 fa fd ["_law_script"] (spAl K) := by
  have e := hfa.symm.trans (PySem.W.mg_of X G a41)
  cases e
  have F0 := fun_mk (st := sWhole) l0 c0 k0
  have F1 := fun_mk (st := sIsNum) l1 c1 k1
  have F2 := fun_mk (st := sCell) l2 c2 k2
  have F3 := fun_mk (st := sNums) l3 c3 k3
  have F4 := fun_mk (st := sOfHex) l4 c4 k4
  have F5 := fun_mk (st := sHex) l5 c5 k5
  have F6 := fun_mk (st := sData) l6 c6 k6
  have F7 := fun_mk (st := sAreBytes) l7 c7 k7
  have F8 := fun_mk (st := sMarkOf) l8 c8 k8
  have F9 := fun_mk (st := sIsMark) l9 c9 k9
  have F10 := fun_mk (st := sManyOf) l10 c10 k10
  have F11 := fun_mk (st := sTellsM) l11 c11 k11
  have F12 := fun_mk (st := sIsDif) l12 c12 k12
  have F13 := fun_mk (st := sRefD) l13 c13 k13
  have F14 := fun_mk (st := sRefB) l14 c14 k14
  have F15 := fun_mk (st := sOrig) l15 c15 k15
  have F16 := fun_mk (st := sPutTo) l16 c16 k16
  have F17 := fun_mk (st := sMostAt) l17 c17 k17
  have F18 := fun_mk (st := sLongN) l18 c18 k18
  have F19 := fun_mk (st := sLongO) l19 c19 k19
  have F20 := fun_mk (st := sReInit) l20 c20 k20
  have F21 := fun_mk (st := sReAt) l21 c21 k21
  have F22 := fun_mk (st := sReOne) l22 c22 k22
  have F23 := fun_mk (st := sCostsR) l23 c23 k23
  have F24 := fun_mk (st := sLeastR) l24 c24 k24
  have F25 := fun_mk (st := sDiff) l25 c25 k25
  have F26 := fun_mk (st := sPutOn) l26 c26 k26
  have F27 := fun_mk (st := sLMark) l27 c27 k27
  have F28 := fun_mk (st := sLWide) l28 c28 k28
  have F29 := fun_mk (st := sLOrig) l29 c29 k29
  have F30 := fun_mk (st := sLPair) l30 c30 k30
  have F31 := fun_mk (st := sLDCost) l31 c31 k31
  have F32 := fun_mk (st := sLCopies) l32 c32 k32
  have F33 := fun_mk (st := sLDSearch) l33 c33 k33
  have F34 := fun_mk (st := sAreCosts) l34 c34 k34
  have F35 := fun_mk (st := sRowBits) l35 c35 k35
  have F36 := fun_mk (st := sNone) l36 c36 k36
  have F37 := fun_mk (st := sShown) l37 c37 k37
  have F38 := fun_mk (st := sLShown) l38 c38 k38
  have F39 := fun_mk (st := sSpoilt) l39 c39 k39
  have F40 := fun_mk (st := sAll) l40 c40 k40
  have F41 := fun_mk (st := sLaw) l41 c41 k41
  have b0 := F0.binds (ps := ["told"]) fun _ _ _ _ _ _ us hl => match us, hl with | [_], _ => rfl
  have b1 := F1.binds (ps := ["told", "least", "most"]) fun _ _ _ _ _ _ us hl => match us, hl with | [_, _, _], _ => rfl
  have b2 := F2.binds (ps := ["_law_script", "_law_k"]) fun _ _ _ _ _ _ us hl => match us, hl with | [_, _], _ => rfl
  have b3 := F3.binds (ps := ["_law_cell", "_law_limits"]) fun _ _ _ _ _ _ us hl => match us, hl with | [_, _], _ => rfl
  have b4 := F4.binds (ps := ["text"]) fun _ _ _ _ _ _ us hl => match us, hl with | [_], _ => rfl
  have b5 := F5.binds (ps := ["_law_numbers_here"]) fun _ _ _ _ _ _ us hl => match us, hl with | [_], _ => rfl
  have b6 := F6.binds (ps := ["_law_script", "_law_at", "_law_most"]) fun _ _ _ _ _ _ us hl => match us, hl with | [_, _, _], _ => rfl
  have b7 := F7.binds (ps := ["told", "most"]) fun _ _ _ _ _ _ us hl => match us, hl with | [_, _], _ => rfl
  have b8 := F8.binds (ps := ["data"]) fun _ _ _ _ _ _ us hl => match us, hl with | [_], _ => rfl
  have b9 := F9.binds (ps := ["told"]) fun _ _ _ _ _ _ us hl => match us, hl with | [_], _ => rfl
  have b10 := F10.binds (ps := ["item", "old_many", "there"]) fun _ _ _ _ _ _ us hl => match us, hl with | [_, _, _], _ => rfl
  have b11 := F11.binds (ps := ["row", "old_many", "new_many"]) fun _ _ _ _ _ _ us hl => match us, hl with | [_, _, _], _ => rfl
  have b12 := F12.binds (ps := ["told"]) fun _ _ _ _ _ _ us hl => match us, hl with | [_], _ => rfl
  have b13 := F13.binds (ps := ["told"]) fun _ _ _ _ _ _ us hl => match us, hl with | [_], _ => rfl
  have b14 := F14.binds (ps := ["told"]) fun _ _ _ _ _ _ us hl => match us, hl with | [_], _ => rfl
  have b15 := F15.binds (ps := ["row"]) fun _ _ _ _ _ _ us hl => match us, hl with | [_], _ => rfl
  have b16 := F16.binds (ps := ["origins", "old"]) fun _ _ _ _ _ _ us hl => match us, hl with | [_, _], _ => rfl
  have b17 := F17.binds (ps := ["new", "at"]) fun _ _ _ _ _ _ us hl => match us, hl with | [_, _], _ => rfl
  have b18 := F18.binds (ps := ["new"]) fun _ _ _ _ _ _ us hl => match us, hl with | [_], _ => rfl
  have b19 := F19.binds (ps := ["old", "new"]) fun _ _ _ _ _ _ us hl => match us, hl with | [_, _], _ => rfl
  have b20 := F20.binds (ps := ["self", "old", "new"]) fun _ _ _ _ _ _ us hl => match us, hl with | [_, _, _], _ => rfl
  have b21 := F21.binds (ps := ["self", "at"]) fun _ _ _ _ _ _ us hl => match us, hl with | [_, _], _ => rfl
  have b22 := F22.binds (ps := ["self", "at", "many", "is_new"]) fun _ _ _ _ _ _ us hl => match us, hl with | [_, _, _, _], _ => rfl
  have b23 := F23.binds (ps := ["reaches"]) fun _ _ _ _ _ _ us hl => match us, hl with | [_], _ => rfl
  have b24 := F24.binds (ps := ["reaches", "costs"]) fun _ _ _ _ _ _ us hl => match us, hl with | [_, _], _ => rfl
  have b25 := F25.binds (ps := ["old", "new"]) fun _ _ _ _ _ _ us hl => match us, hl with | [_, _], _ => rfl
  have b26 := F26.binds (ps := ["old", "difference"]) fun _ _ _ _ _ _ us hl => match us, hl with | [_, _], _ => rfl
  have b27 := F27.binds (ps := ["_law_numbers_here"]) fun _ _ _ _ _ _ us hl => match us, hl with | [_], _ => rfl
  have b28 := F28.binds (ps := ["_law_item"]) fun _ _ _ _ _ _ us hl => match us, hl with | [_], _ => rfl
  have b29 := F29.binds (ps := ["_law_row", "_law_size"]) fun _ _ _ _ _ _ us hl => match us, hl with | [_, _], _ => rfl
  have b30 := F30.binds (ps := ["_law_script", "_law_at"]) fun _ _ _ _ _ _ us hl => match us, hl with | [_, _], _ => rfl
  have b31 := F31.binds (ps := ["_law_item"]) fun _ _ _ _ _ _ us hl => match us, hl with | [_], _ => rfl
  have b32 := F32.binds (ps := ["_law_old", "_law_new", "_law_place"]) fun _ _ _ _ _ _ us hl => match us, hl with | [_, _, _], _ => rfl
  have b33 := F33.binds (ps := ["_law_old", "_law_new"]) fun _ _ _ _ _ _ us hl => match us, hl with | [_, _], _ => rfl
  have b34 := F34.binds (ps := ["costs", "data"]) fun _ _ _ _ _ _ us hl => match us, hl with | [_, _], _ => rfl
  have b35 := F35.binds (ps := ["row"]) fun _ _ _ _ _ _ us hl => match us, hl with | [_], _ => rfl
  have b36 := F36.binds (ps := ["reaches", "costs"]) fun _ _ _ _ _ _ us hl => match us, hl with | [_, _], _ => rfl
  have b37 := F37.binds (ps := ["old", "new", "difference", "costs"]) fun _ _ _ _ _ _ us hl => match us, hl with | [_, _, _, _], _ => rfl
  have b38 := F38.binds (ps := ["_law_old", "_law_new", "_law_row", "_law_costs"]) fun _ _ _ _ _ _ us hl => match us, hl with | [_, _, _, _], _ => rfl
  have b39 := F39.binds (ps := ["_law_cell", "_law_old", "_law_new", "_law_row", "_law_costs"]) fun _ _ _ _ _ _ us hl => match us, hl with | [_, _, _, _, _], _ => rfl
  have b40 := F40.binds (ps := ["_law_script"]) fun _ _ _ _ _ _ us hl => match us, hl with | [_], _ => rfl
  have TRe : ReTxt K mg C_Reaches f20 f21 f22 := { cl := ⟨pg_Reaches, hd_Reaches, po_Reaches, sa_Reaches⟩, gC := PySem.W.mg_of X G aC_Reaches, made := ⟨mk_Reaches, m20, n20, kp_Reaches⟩, nO := at_old_Reaches, nN := at_new_Reaches, nM := at_many_new_Reaches, nL := at_many_old_Reaches, mA := ⟨m21, n21, k21⟩, mO := ⟨m22, n22, k22⟩ }
  have TB : BdTxt K mg CB := { gC := PySem.W.mg_of X G bd0, x := bd1, k := bd2, b := bd3, t := bd4 }
  refine ⟨PySem.W.fnOf "law" "law" (defArgs sLaw) (defBody sLaw) (defScope sLaw) .none kV41 dc41 pm41 an41 cd41 ct41, fun s u => .of_eq rfl, fun base _ _ => ?_⟩
  have G_whole_0 : FnOk l.prog w K mg base CX0 1 f0 _ ["told"] _ := ok_whole (k := 0) F0 (PySem.W.mg_none_of X G z_isinstance) (PySem.W.mg_none_of X G z_bool) (PySem.W.mg_none_of X G z_int)
  have G_isNum_1 : FnOk l.prog w K mg base CX0 2 f1 _ ["told", "least", "most"] _ := ok_isNum (k := 0) F1 F0 G_whole_0 b0 (PySem.W.mg_of X G a0)
  have G_cell_2 : FnOk l.prog w K mg base CX0 1 f2 _ ["_law_script", "_law_k"] _ := ok_cell (j := 0) F2 (PySem.W.mg_none_of X G z_len)
  have G_nums_3 : FnOk l.prog w K mg base CX0 1 f3 _ ["_law_cell", "_law_limits"] _ := ok_nums (j := 0) F3 (PySem.W.mg_none_of X G z_int)
  have G_ofHex_4 : FnOk l.prog w K mg base CX0 1 f4 _ ["text"] _ := ok_ofHex (j := 0) F4 (PySem.W.mg_none_of X G z_isinstance) (PySem.W.mg_none_of X G z_str) (PySem.W.mg_none_of X G z_len) (PySem.W.mg_none_of X G z_all) (PySem.W.mg_none_of X G z_bytes) (PySem.W.mg_of X G s0)
  have G_hex_5 : FnOk l.prog w K mg base CX0 1 f5 _ ["_law_numbers_here"] _ := ok_hex (j := 0) F5 (PySem.W.mg_none_of X G z_int)
  have G_data_6 : FnOk l.prog w K mg base CX0 2 f6 _ ["_law_script", "_law_at", "_law_most"] _ := ok_data (j := 0) F6 G_cell_2 b2 k2 (PySem.W.mg_of X G a2) G_nums_3 b3 k3 (PySem.W.mg_of X G a3) (PySem.W.mg_none_of X G z_len) (PySem.W.mg_none_of X G z_int) (PySem.W.mg_none_of X G z_range)
  have G_areBytes_7 : FnOk l.prog w K mg base CX0 1 f7 _ ["told", "most"] _ := ok_areBytes (j := 0) F7 (PySem.W.mg_none_of X G z_isinstance) (PySem.W.mg_none_of X G z_bytes) (PySem.W.mg_none_of X G z_len)
  have G_mark_8 : FnOk l.prog w K mg base CX0 1 f8 _ ["data"] _ := ok_mark (j := 0) F8 (PySem.W.mg_none_of X G z_len) (PySem.W.mg_none_of X G z_sum) (PySem.W.mg_none_of X G z_enumerate) (PySem.W.mg_of X G v_MODULUS)
  have G_isMk_9 : FnOk l.prog w K mg base CX0 3 f9 _ ["told"] _ := ok_isMk (j := 2) F9 G_isNum_1 b1 k1 (PySem.W.mg_of X G a1) (by decide) (PySem.W.mg_none_of X G z_isinstance) (PySem.W.mg_none_of X G z_tuple) (PySem.W.mg_none_of X G z_len) (PySem.W.mg_of X G v_MOST_BYTES) (PySem.W.mg_of X G v_MODULUS)
  have G_mo_10 : FnOk l.prog w K mg base CX0 3 f10 _ ["item", "old_many", "there"] _ := ok_mo (j := 2) F10 G_isNum_1 b1 k1 (PySem.W.mg_of X G a1) (by decide) (PySem.W.mg_none_of X G z_isinstance) (PySem.W.mg_none_of X G z_tuple) (PySem.W.mg_none_of X G z_len) (PySem.W.mg_none_of X G z_min) (PySem.W.mg_of X G v_MOST_BYTES) (PySem.W.mg_of X G cN) (PySem.W.mg_of X G cO) (PySem.W.mg_of X G v_FEWEST_NEW) (PySem.W.mg_of X G v_FEWEST_OLD) (PySem.W.mg_of X G v_MOST_AT_ONCE)
  have G_tm_11 : FnOk l.prog w K mg base CX0 4 f11 _ ["row", "old_many", "new_many"] _ := ok_tm (j := 3) F11 G_mo_10 b10 k10 (PySem.W.mg_of X G a10) (by decide)
  have G_id_12 : FnOk l.prog w K mg base CX0 5 f12 _ ["told"] _ := ok_id (j := 4) F12 G_isMk_9 b9 k9 (PySem.W.mg_of X G a9) (by decide) G_tm_11 b11 k11 (PySem.W.mg_of X G a11) (by decide) (PySem.W.mg_none_of X G z_isinstance) (PySem.W.mg_none_of X G z_tuple) (PySem.W.mg_none_of X G z_len) (PySem.W.mg_none_of X G z_list)
  have G_refD_13 : FnOk l.prog w K mg base CX0 6 f13 _ ["told"] _ := ok_refD (j := 5) F13 G_id_12 b12 k12 (PySem.W.mg_of X G a12) (by decide)
  have G_refDN_14 : FnOk l.prog w K mg base (L2N.CX l.prog w) 6 f13 _ ["told"] _ := ok_refDN (j := 5) TB F13 G_id_12 b12 k12 (PySem.W.mg_of X G a12) (by decide)
  have G_refB_15 : FnOk l.prog w K mg base CX0 2 f14 _ ["told"] _ := ok_refB (j := 1) F14 G_areBytes_7 b7 k7 (PySem.W.mg_of X G a7) (by decide) (PySem.W.mg_of X G v_MOST_BYTES)
  have G_or_16 : FnOk l.prog w K mg base CX0 1 f15 _ ["row"] _ := ok_or (j := 0) F15 (PySem.W.mg_none_of X G z_isinstance) (PySem.W.mg_none_of X G z_tuple) (PySem.W.mg_none_of X G z_range) (PySem.W.mg_of X G cN)
  have G_pt_17 : FnOk l.prog w K mg base CX0 1 f16 _ ["origins", "old"] _ := ok_pt (j := 0) F16 (PySem.W.mg_none_of X G z_isinstance) (PySem.W.mg_none_of X G z_tuple) (PySem.W.mg_none_of X G z_bytes)
  have G_ma_18 : FnOk l.prog w K mg base CX0 1 f17 _ ["new", "at"] _ := ok_ma (j := 0) F17 (PySem.W.mg_none_of X G z_min) (PySem.W.mg_none_of X G z_len) (PySem.W.mg_of X G v_MOST_AT_ONCE)
  have G_ln_19 : FnOk l.prog w K mg base CX0 2 f18 _ ["new"] _ := ok_ln (j := 1) F18 G_ma_18 b17 k17 (PySem.W.mg_of X G a17) (by decide) (PySem.W.mg_none_of X G z_range) (PySem.W.mg_none_of X G z_len) (PySem.W.mg_none_of X G z_max)
  have G_lo_20 : FnOk l.prog w K mg base CX0 2 f19 _ ["old", "new"] _ := ok_lo (j := 1) F19 G_ma_18 b17 k17 (PySem.W.mg_of X G a17) (by decide) (PySem.W.mg_none_of X G z_range) (PySem.W.mg_none_of X G z_len) (PySem.W.mg_none_of X G z_max)
  have G_reInit_21 : FnOk l.prog w K mg base CX0 3 f20 _ ["self", "old", "new"] _ := ok_reInit (j := 2) TRe F20 G_ln_19 b18 k18 (PySem.W.mg_of X G a18) (by decide) G_lo_20 b19 k19 (PySem.W.mg_of X G a19) (by decide)
  have G_reA_22 : FnOk l.prog w K mg base CX0 1 f21 _ ["self", "at"] _ := ok_reA (j := 0) TRe F21 (PySem.W.mg_of X G v_FEWEST_NEW) (PySem.W.mg_of X G v_FEWEST_OLD) (PySem.W.mg_of X G v_NEW_BITS) (PySem.W.mg_of X G v_OLD_BITS)
  have G_reO_23 : FnOk l.prog w K mg base CX0 1 f22 _ ["self", "at", "many", "is_new"] _ := ok_reO (j := 0) TRe F22 (PySem.W.mg_of X G cN) (PySem.W.mg_of X G cO)
  have G_co_24 : FnOk l.prog w K mg base CX0 2 f23 _ ["reaches"] _ := ok_co (j := 1) TRe F23 G_reA_22 b21 (by decide) (PySem.W.mg_none_of X G z_len) (PySem.W.mg_none_of X G z_reversed) (PySem.W.mg_none_of X G z_range) (PySem.W.mg_none_of X G z_min) (PySem.W.mg_of X G v_BYTE_BITS)
  have G_lr_25 : FnOk l.prog w K mg base CX0 2 f24 _ ["reaches", "costs"] _ := ok_lr (j := 1) TRe F24 G_reA_22 b21 (by decide) G_reO_23 b22 (by decide) (PySem.W.mg_none_of X G z_len) (PySem.W.mg_none_of X G z_max) (PySem.W.mg_of X G v_BYTE_BITS)
  have G_di_26 : FnOk l.prog w K mg base CX0 5 f25 _ ["old", "new"] _ := ok_di (j := 4) TRe F25 G_refB_15 b14 k14 (PySem.W.mg_of X G a14) (by decide) G_reInit_21 b20 (by decide) G_co_24 b23 k23 (PySem.W.mg_of X G a23) (by decide) G_mark_8 b8 k8 (PySem.W.mg_of X G a8) (by decide) G_lr_25 b24 k24 (PySem.W.mg_of X G a24) (by decide)
  have G_po_27 : FnOk l.prog w K mg base CX0 7 f26 _ ["old", "difference"] _ := ok_po (j := 6) F26 G_refB_15 b14 k14 (PySem.W.mg_of X G a14) (by decide) G_refD_13 b13 k13 (PySem.W.mg_of X G a13) (by decide) G_mark_8 b8 k8 (PySem.W.mg_of X G a8) (by decide) G_pt_17 b16 k16 (PySem.W.mg_of X G a16) (by decide) G_or_16 b15 k15 (PySem.W.mg_of X G a15) (by decide)
  have G_lm_28 : FnOk l.prog w K mg base CX0 1 f27 _ ["_law_numbers_here"] _ := ok_lm (j := 0) F27 (PySem.W.mg_none_of X G z_len) (PySem.W.mg_none_of X G z_sum) (PySem.W.mg_none_of X G z_enumerate)
  have G_lw_29 : FnOk l.prog w K mg base CX0 1 f28 _ ["_law_item"] _ := ok_lw (j := 0) F28 (PySem.W.mg_none_of X G z_isinstance) (PySem.W.mg_none_of X G z_int)
  have G_lg_30 : FnOk l.prog w K mg base CX0 1 f29 _ ["_law_row", "_law_size"] _ := ok_lg (j := 0) F29 (PySem.W.mg_none_of X G z_isinstance) (PySem.W.mg_none_of X G z_int) (PySem.W.mg_none_of X G z_range) (PySem.W.mg_none_of X G z_len)
  have G_pa_31 : FnOk l.prog w K mg base CX0 3 f30 _ ["_law_script", "_law_at"] _ := ok_pa (j := 2) F30 G_cell_2 b2 k2 (PySem.W.mg_of X G a2) (by decide) G_nums_3 b3 k3 (PySem.W.mg_of X G a3) (by decide) G_data_6 b6 k6 (PySem.W.mg_of X G a6) (by decide) (PySem.W.mg_none_of X G z_len) (PySem.W.mg_none_of X G z_int) (PySem.W.mg_none_of X G z_range)
  have G_Hwhole_32 : L2H.FnH l.prog w K mg base CX0 1 f0 _ ["told"] _ := okh_whole (k := 0) F0 (PySem.W.mg_none_of X G z_isinstance) (PySem.W.mg_none_of X G z_bool) (PySem.W.mg_none_of X G z_int)
  have G_HisNum_33 : L2H.FnH l.prog w K mg base CX0 2 f1 _ ["told", "least", "most"] _ := okh_isNum (k := 0) F1 F0 G_Hwhole_32 b0 (PySem.W.mg_of X G a0)
  have G_HareBytes_34 : L2H.FnH l.prog w K mg base CX0 1 f7 _ ["told", "most"] _ := okh_areBytes (j := 0) F7 (PySem.W.mg_none_of X G z_isinstance) (PySem.W.mg_none_of X G z_bytes) (PySem.W.mg_none_of X G z_len)
  have G_Hmark_35 : L2H.FnH l.prog w K mg base CX0 1 f8 _ ["data"] _ := okh_mark (j := 0) F8 (PySem.W.mg_none_of X G z_len) (PySem.W.mg_none_of X G z_sum) (PySem.W.mg_none_of X G z_enumerate) (PySem.W.mg_of X G v_MODULUS)
  have G_HisMk_36 : L2H.FnH l.prog w K mg base CX0 3 f9 _ ["told"] _ := okh_isMk (j := 2) F9 G_HisNum_33 b1 k1 (PySem.W.mg_of X G a1) (by decide) (PySem.W.mg_none_of X G z_isinstance) (PySem.W.mg_none_of X G z_tuple) (PySem.W.mg_none_of X G z_len) (PySem.W.mg_of X G v_MOST_BYTES) (PySem.W.mg_of X G v_MODULUS)
  have G_Hmo_37 : L2H.FnH l.prog w K mg base CX0 3 f10 _ ["item", "old_many", "there"] _ := okh_mo (j := 2) F10 G_HisNum_33 b1 k1 (PySem.W.mg_of X G a1) (by decide) (PySem.W.mg_none_of X G z_isinstance) (PySem.W.mg_none_of X G z_tuple) (PySem.W.mg_none_of X G z_len) (PySem.W.mg_none_of X G z_min) (PySem.W.mg_of X G v_MOST_BYTES) (PySem.W.mg_of X G cN) (PySem.W.mg_of X G cO) (PySem.W.mg_of X G v_FEWEST_NEW) (PySem.W.mg_of X G v_FEWEST_OLD) (PySem.W.mg_of X G v_MOST_AT_ONCE)
  have G_Htm_38 : L2H.FnH l.prog w K mg base CX0 4 f11 _ ["row", "old_many", "new_many"] _ := okh_tm (j := 3) F11 G_Hmo_37 b10 k10 (PySem.W.mg_of X G a10) (by decide)
  have G_Hid_39 : L2H.FnH l.prog w K mg base CX0 5 f12 _ ["told"] _ := okh_id (j := 4) F12 G_HisMk_36 b9 k9 (PySem.W.mg_of X G a9) (by decide) G_Htm_38 b11 k11 (PySem.W.mg_of X G a11) (by decide) (PySem.W.mg_none_of X G z_isinstance) (PySem.W.mg_none_of X G z_tuple) (PySem.W.mg_none_of X G z_len) (PySem.W.mg_none_of X G z_list)
  have G_HrefD_40 : L2H.FnH l.prog w K mg base CX0 6 f13 _ ["told"] _ := okh_refD (j := 5) F13 G_Hid_39 b12 k12 (PySem.W.mg_of X G a12) (by decide)
  have G_HrefB_41 : L2H.FnH l.prog w K mg base CX0 2 f14 _ ["told"] _ := okh_refB (j := 1) F14 G_HareBytes_34 b7 k7 (PySem.W.mg_of X G a7) (by decide) (PySem.W.mg_of X G v_MOST_BYTES)
  have G_Hor_42 : L2H.FnH l.prog w K mg base CX0 1 f15 _ ["row"] _ := okh_or (j := 0) F15 (PySem.W.mg_none_of X G z_isinstance) (PySem.W.mg_none_of X G z_tuple) (PySem.W.mg_none_of X G z_range) (PySem.W.mg_of X G cN)
  have G_dc_43 : FnOk l.prog w K mg base CX0 1 f31 _ ["_law_item"] _ := ok_dc (j := 0) F31 (PySem.W.mg_none_of X G z_isinstance) (PySem.W.mg_none_of X G z_int)
  have G_cp_44 : FnOk l.prog w K mg base CX0 1 f32 _ ["_law_old", "_law_new", "_law_place"] _ := ok_cp (j := 0) F32 (PySem.W.mg_none_of X G z_len) (PySem.W.mg_none_of X G z_range) (PySem.W.mg_none_of X G z_sorted) (PySem.W.mg_none_of X G z_int)
  have G_ds_45 : FnOk l.prog w K mg base CX0 2 f33 _ ["_law_old", "_law_new"] _ := ok_ds (j := 1) F33 G_cp_44 b32 k32 (PySem.W.mg_of X G a32) (by decide) G_dc_43 b31 k31 (PySem.W.mg_of X G a31) (by decide) G_lw_29 b28 k28 (PySem.W.mg_of X G a28) (by decide) (PySem.W.mg_none_of X G z_len) (PySem.W.mg_none_of X G z_range)
  have G_lg2_46 : FnOk l.prog w K mg base CX0 1 f29 _ ["_law_row", "_law_size"] _ := ok_lg2 (j := 0) F29 (PySem.W.mg_none_of X G z_isinstance) (PySem.W.mg_none_of X G z_int) (PySem.W.mg_none_of X G z_range) (PySem.W.mg_none_of X G z_len)
  have G_areC_47 : FnOk l.prog w K mg base CX0 2 f34 _ ["costs", "data"] _ := ok_areC (j := 1) F34 G_whole_0 b0 k0 (PySem.W.mg_of X G a0) (by decide) (PySem.W.mg_none_of X G z_isinstance) (PySem.W.mg_none_of X G z_list) (PySem.W.mg_none_of X G z_len) (PySem.W.mg_none_of X G z_all)
  have G_rb_48 : FnOk l.prog w K mg base CX0 1 f35 _ ["row"] _ := ok_rb (j := 0) F35 (PySem.W.mg_none_of X G z_isinstance) (PySem.W.mg_none_of X G z_tuple) (PySem.W.mg_of X G v_BYTE_BITS) (PySem.W.mg_of X G cN) (PySem.W.mg_of X G v_NEW_BITS) (PySem.W.mg_of X G v_OLD_BITS)
  have G_nc_49 : FnOk l.prog w K mg base CX0 1 f36 _ ["reaches", "costs"] _ := ok_nc (j := 0) TRe F36 (PySem.W.mg_none_of X G z_range) (PySem.W.mg_none_of X G z_len) (PySem.W.mg_none_of X G z_min) (PySem.W.mg_of X G v_BYTE_BITS) (PySem.W.mg_of X G v_FEWEST_NEW) (PySem.W.mg_of X G v_FEWEST_OLD) (PySem.W.mg_of X G v_NEW_BITS) (PySem.W.mg_of X G v_OLD_BITS)
  have G_poN_50 : FnOk l.prog w K mg base (L2N.CX l.prog w) 7 f26 _ ["old", "difference"] _ := ok_poN (j := 6) TB F26 G_refB_15 b14 k14 (PySem.W.mg_of X G a14) (by decide) G_refDN_14 b13 k13 (PySem.W.mg_of X G a13) (by decide) G_mark_8 b8 k8 (PySem.W.mg_of X G a8) (by decide) G_pt_17 b16 k16 (PySem.W.mg_of X G a16) (by decide) G_or_16 b15 k15 (PySem.W.mg_of X G a15) (by decide)
  have G_sh_51 : FnOk l.prog w K mg base CX0 7 f37 _ ["old", "new", "difference", "costs"] _ := ok_sh (j := 6) (CD := CB) TRe F37 G_refB_15 b14 k14 (PySem.W.mg_of X G a14) (by decide) G_refD_13 b13 k13 (PySem.W.mg_of X G a13) (by decide) G_mark_8 b8 k8 (PySem.W.mg_of X G a8) (by decide) G_pt_17 b16 k16 (PySem.W.mg_of X G a16) (by decide) G_or_16 b15 k15 (PySem.W.mg_of X G a15) (by decide) G_areC_47 b34 k34 (PySem.W.mg_of X G a34) (by decide) G_rb_48 b35 k35 (PySem.W.mg_of X G a35) (by decide) G_nc_49 b36 k36 (PySem.W.mg_of X G a36) (by decide) G_reInit_21 b20 (by decide) (PySem.W.mg_none_of X G z_isinstance) (PySem.W.mg_none_of X G z_list)
  have G_shN_52 : FnOk l.prog w K mg base (L2N.CX l.prog w) 7 f37 _ ["old", "new", "difference", "costs"] _ := ok_shN (j := 6) TRe F37 G_refB_15 b14 k14 (PySem.W.mg_of X G a14) (by decide) G_refDN_14 b13 k13 (PySem.W.mg_of X G a13) (by decide) G_mark_8 b8 k8 (PySem.W.mg_of X G a8) (by decide) G_pt_17 b16 k16 (PySem.W.mg_of X G a16) (by decide) G_or_16 b15 k15 (PySem.W.mg_of X G a15) (by decide) G_areC_47 b34 k34 (PySem.W.mg_of X G a34) (by decide) G_rb_48 b35 k35 (PySem.W.mg_of X G a35) (by decide) G_nc_49 b36 k36 (PySem.W.mg_of X G a36) (by decide) G_reInit_21 b20 (by decide) (PySem.W.mg_none_of X G z_isinstance) (PySem.W.mg_none_of X G z_list)
  have G_ls_53 : FnOk l.prog w K mg base CX0 2 f38 _ ["_law_old", "_law_new", "_law_row", "_law_costs"] _ := ok_ls (j := 1) F38 G_cp_44 b32 k32 (PySem.W.mg_of X G a32) (by decide) G_dc_43 b31 k31 (PySem.W.mg_of X G a31) (by decide) (PySem.W.mg_none_of X G z_len) (PySem.W.mg_none_of X G z_range) (PySem.W.mg_none_of X G z_min) (PySem.W.mg_none_of X G z_sum)
  have G_Hma_54 : L2H.FnH l.prog w K mg base CX0 1 f17 _ ["new", "at"] _ := okh_ma (j := 0) F17 (PySem.W.mg_none_of X G z_min) (PySem.W.mg_none_of X G z_len) (PySem.W.mg_of X G v_MOST_AT_ONCE)
  have G_Hln_55 : L2H.FnH l.prog w K mg base CX0 2 f18 _ ["new"] _ := okh_ln (j := 1) F18 G_Hma_54 b17 k17 (PySem.W.mg_of X G a17) (by decide) (PySem.W.mg_none_of X G z_range) (PySem.W.mg_none_of X G z_len) (PySem.W.mg_none_of X G z_max)
  have G_Hlo_56 : L2H.FnH l.prog w K mg base CX0 2 f19 _ ["old", "new"] _ := okh_lo (j := 1) F19 G_Hma_54 b17 k17 (PySem.W.mg_of X G a17) (by decide) (PySem.W.mg_none_of X G z_range) (PySem.W.mg_none_of X G z_len) (PySem.W.mg_none_of X G z_max)
  have G_Hlm_57 : L2H.FnH l.prog w K mg base CX0 1 f27 _ ["_law_numbers_here"] _ := okh_lm (j := 0) F27 (PySem.W.mg_none_of X G z_len) (PySem.W.mg_none_of X G z_sum) (PySem.W.mg_none_of X G z_enumerate)
  have G_HreInit_58 : L2H.FnH l.prog w K mg base CX0 3 f20 _ ["self", "old", "new"] _ := okh_reInit (j := 2) TRe F20 G_Hln_55 b18 k18 (PySem.W.mg_of X G a18) (by decide) G_Hlo_56 b19 k19 (PySem.W.mg_of X G a19) (by decide)
  have G_HreA_59 : L2H.FnH l.prog w K mg base CX0 1 f21 _ ["self", "at"] _ := okh_reA (j := 0) TRe F21 (PySem.W.mg_of X G v_FEWEST_NEW) (PySem.W.mg_of X G v_FEWEST_OLD) (PySem.W.mg_of X G v_NEW_BITS) (PySem.W.mg_of X G v_OLD_BITS)
  have G_HreO_60 : L2H.FnH l.prog w K mg base CX0 1 f22 _ ["self", "at", "many", "is_new"] _ := okh_reO (j := 0) TRe F22 (PySem.W.mg_of X G cN) (PySem.W.mg_of X G cO)
  have G_Hco_61 : L2H.FnH l.prog w K mg base CX0 2 f23 _ ["reaches"] _ := okh_co (j := 1) TRe F23 G_HreA_59 b21 (by decide) (PySem.W.mg_none_of X G z_len) (PySem.W.mg_none_of X G z_reversed) (PySem.W.mg_none_of X G z_range) (PySem.W.mg_none_of X G z_min) (PySem.W.mg_of X G v_BYTE_BITS)
  have G_Hlr_62 : L2H.FnH l.prog w K mg base CX0 2 f24 _ ["reaches", "costs"] _ := okh_lr (j := 1) TRe F24 G_HreA_59 b21 (by decide) G_HreO_60 b22 (by decide) (PySem.W.mg_none_of X G z_len) (PySem.W.mg_none_of X G z_max) (PySem.W.mg_of X G v_BYTE_BITS)
  have G_Hdi_63 : L2H.FnH l.prog w K mg base CX0 5 f25 _ ["old", "new"] _ := okh_di (j := 4) TRe F25 G_HrefB_41 b14 k14 (PySem.W.mg_of X G a14) (by decide) G_HreInit_58 b20 (by decide) G_Hco_61 b23 k23 (PySem.W.mg_of X G a23) (by decide) G_Hmark_35 b8 k8 (PySem.W.mg_of X G a8) (by decide) G_Hlr_62 b24 k24 (PySem.W.mg_of X G a24) (by decide)
  have G_Hpt_64 : L2H.FnH l.prog w K mg base CX0 1 f16 _ ["origins", "old"] _ := okh_pt (j := 0) F16 (PySem.W.mg_none_of X G z_isinstance) (PySem.W.mg_none_of X G z_tuple) (PySem.W.mg_none_of X G z_bytes)
  have G_Hpo_65 : L2H.FnH l.prog w K mg base CX0 7 f26 _ ["old", "difference"] _ := okh_po (j := 6) F26 G_HrefB_41 b14 k14 (PySem.W.mg_of X G a14) (by decide) G_HrefD_40 b13 k13 (PySem.W.mg_of X G a13) (by decide) G_Hmark_35 b8 k8 (PySem.W.mg_of X G a8) (by decide) G_Hpt_64 b16 k16 (PySem.W.mg_of X G a16) (by decide) G_Hor_42 b15 k15 (PySem.W.mg_of X G a15) (by decide)
  have G_spr_66 : FnOk l.prog w K mg base CX0 8 f39 _ ["_law_cell", "_law_old", "_law_new", "_law_row", "_law_costs"] _ := ok_spr (j := 7) TB (exm_own bd3 bd5 bd4 bd6) F39 G_lm_28 b27 k27 (PySem.W.mg_of X G a27) (by decide) G_lg2_46 b29 k29 (PySem.W.mg_of X G a29) (by decide) G_ofHex_4 b4 k4 (PySem.W.mg_of X G a4) (by decide) G_hex_5 b5 k5 (PySem.W.mg_of X G a5) (by decide) G_shN_52 b37 k37 (PySem.W.mg_of X G a37) (by decide) G_ls_53 b38 k38 (PySem.W.mg_of X G a38) (by decide) G_poN_50 b26 k26 (PySem.W.mg_of X G a26) (by decide) G_Hlm_57 (by decide) (PySem.W.mg_none_of X G z_list) (PySem.W.mg_none_of X G z_len) (PySem.W.mg_none_of X G z_max)
  have G_al_67 : FnOk l.prog w K mg base CX0 9 f40 _ ["_law_script"] _ := ok_al (j := 8) TB (exm_own bd3 bd5 bd4 bd6) F40 G_pa_31 b30 k30 (PySem.W.mg_of X G a30) (by decide) G_cell_2 b2 k2 (PySem.W.mg_of X G a2) (by decide) G_ds_45 b33 k33 (PySem.W.mg_of X G a33) (by decide) G_lm_28 b27 k27 (PySem.W.mg_of X G a27) (by decide) G_ofHex_4 b4 k4 (PySem.W.mg_of X G a4) (by decide) G_hex_5 b5 k5 (PySem.W.mg_of X G a5) (by decide) G_po_27 b26 k26 (PySem.W.mg_of X G a26) (by decide) G_di_26 b25 k25 (PySem.W.mg_of X G a25) (by decide) G_sh_51 b37 k37 (PySem.W.mg_of X G a37) (by decide) G_spr_66 b39 k39 (PySem.W.mg_of X G a39) (by decide) G_poN_50 (by decide) G_Hpo_65 (by decide) G_Hdi_63 (by decide) (PySem.W.mg_none_of X G z_range)
  have G_law_68 : FnOk l.prog w K mg base CX0 10 fa _ ["_law_script"] _ := ok_law (j := 9) F41 G_al_67 b40 k40 (PySem.W.mg_of X G a40) (by decide)
  exact G_law_68
end K9

open PySem PySem.W PyProof.Rows
set_option maxHeartbeats 0 in
theorem PySem.Challenge.cw_presshouse_k09_whole_differences_holds : PySem.Challenge.rw_presshouse_k09_whole_differences.Holds := by
  w_on; o_law; k_head; (case hw => w_witness2)
  k_fill
  refine L2.walk_ofK (l := PySem.Challenge.rw_presshouse_k09_whole_differences) (n := 63) (k := 10) (x := "_law_script") (CX := L2.CX0) (sp := K9.spAl) rfl (by decide) rfl ⟨rfl, by decide, by decide⟩ (fun w h Y => PySem.W.kIn_of Y) ?F (fun K H a ns hl hO hS => ⟨a, ns, rfl, hS, fun _ => rfl⟩) (fun _ _ _ _ z => z)
  case F =>
    intro w mg fa h KX G hmg
    refine' K9.all_mk KX G hmg ?a0 ?l0 ?c0 ?k0 ?a1 ?l1 ?c1 ?k1 ?a2 ?l2 ?c2 ?k2 ?a3 ?l3 ?c3 ?k3 ?a4 ?l4 ?c4 ?k4 ?a5 ?l5 ?c5 ?k5 ?a6 ?l6 ?c6 ?k6 ?a7 ?l7 ?c7 ?k7 ?a8 ?l8 ?c8 ?k8 ?a9 ?l9 ?c9 ?k9 ?a10 ?l10 ?c10 ?k10 ?a11 ?l11 ?c11 ?k11 ?a12 ?l12 ?c12 ?k12 ?a13 ?l13 ?c13 ?k13 ?a14 ?l14 ?c14 ?k14 ?a15 ?l15 ?c15 ?k15 ?a16 ?l16 ?c16 ?k16 ?a17 ?l17 ?c17 ?k17 ?a18 ?l18 ?c18 ?k18 ?a19 ?l19 ?c19 ?k19 ?m20 ?n20 ?l20 ?c20 ?k20 ?m21 ?n21 ?l21 ?c21 ?k21 ?m22 ?n22 ?l22 ?c22 ?k22 ?a23 ?l23 ?c23 ?k23 ?a24 ?l24 ?c24 ?k24 ?a25 ?l25 ?c25 ?k25 ?a26 ?l26 ?c26 ?k26 ?a27 ?l27 ?c27 ?k27 ?a28 ?l28 ?c28 ?k28 ?a29 ?l29 ?c29 ?k29 ?a30 ?l30 ?c30 ?k30 ?a31 ?l31 ?c31 ?k31 ?a32 ?l32 ?c32 ?k32 ?a33 ?l33 ?c33 ?k33 ?a34 ?l34 ?c34 ?k34 ?a35 ?l35 ?c35 ?k35 ?a36 ?l36 ?c36 ?k36 ?a37 ?l37 ?c37 ?k37 ?a38 ?l38 ?c38 ?k38 ?a39 ?l39 ?c39 ?k39 ?a40 ?l40 ?c40 ?k40 ?a41 ?l41 ?c41 ?k41 ?aC_Reaches ?pg_Reaches ?hd_Reaches ?po_Reaches ?sa_Reaches ?mk_Reaches ?kp_Reaches ?at_old_Reaches ?at_new_Reaches ?at_many_new_Reaches ?at_many_old_Reaches ?bd0 ?bd1 ?bd2 ?bd3 ?bd4 ?bd5 ?bd6 ?s0 ?cN ?cO ?z_isinstance ?z_bool ?z_int ?z_len ?z_str ?z_all ?z_bytes ?z_range ?z_sum ?z_enumerate ?z_tuple ?z_min ?z_list ?z_max ?z_reversed ?z_sorted ?v_MODULUS ?v_MOST_BYTES ?v_FEWEST_NEW ?v_FEWEST_OLD ?v_MOST_AT_ONCE ?v_NEW_BITS ?v_OLD_BITS ?v_BYTE_BITS
    (case aC_Reaches => first | k_is | kernel_rfl | rfl | decide +kernel)
    (case a0 => first | k_is | kernel_rfl | rfl | decide +kernel)
    (case l0 => first | k_is | kernel_rfl | rfl | decide +kernel)
    (case c0 => first | k_is | kernel_rfl | rfl | decide +kernel)
    (case k0 => first | k_is | kernel_rfl | rfl | decide +kernel)
    (case a1 => first | k_is | kernel_rfl | rfl | decide +kernel)
    (case l1 => first | k_is | kernel_rfl | rfl | decide +kernel)
    (case c1 => first | k_is | kernel_rfl | rfl | decide +kernel)
    (case k1 => first | k_is | kernel_rfl | rfl | decide +kernel)
    (case a2 => first | k_is | kernel_rfl | rfl | decide +kernel)
    (case l2 => first | k_is | kernel_rfl | rfl | decide +kernel)
    (case c2 => first | k_is | kernel_rfl | rfl | decide +kernel)
    (case k2 => first | k_is | kernel_rfl | rfl | decide +kernel)
    (case a3 => first | k_is | kernel_rfl | rfl | decide +kernel)
    (case l3 => first | k_is | kernel_rfl | rfl | decide +kernel)
    (case c3 => first | k_is | kernel_rfl | rfl | decide +kernel)
    (case k3 => first | k_is | kernel_rfl | rfl | decide +kernel)
    (case a4 => first | k_is | kernel_rfl | rfl | decide +kernel)
    (case l4 => first | k_is | kernel_rfl | rfl | decide +kernel)
    (case c4 => first | k_is | kernel_rfl | rfl | decide +kernel)
    (case k4 => first | k_is | kernel_rfl | rfl | decide +kernel)
    (case a5 => first | k_is | kernel_rfl | rfl | decide +kernel)
    (case l5 => first | k_is | kernel_rfl | rfl | decide +kernel)
    (case c5 => first | k_is | kernel_rfl | rfl | decide +kernel)
    (case k5 => first | k_is | kernel_rfl | rfl | decide +kernel)
    (case a6 => first | k_is | kernel_rfl | rfl | decide +kernel)
    (case l6 => first | k_is | kernel_rfl | rfl | decide +kernel)
    (case c6 => first | k_is | kernel_rfl | rfl | decide +kernel)
    (case k6 => first | k_is | kernel_rfl | rfl | decide +kernel)
    (case a7 => first | k_is | kernel_rfl | rfl | decide +kernel)
    (case l7 => first | k_is | kernel_rfl | rfl | decide +kernel)
    (case c7 => first | k_is | kernel_rfl | rfl | decide +kernel)
    (case k7 => first | k_is | kernel_rfl | rfl | decide +kernel)
    (case a8 => first | k_is | kernel_rfl | rfl | decide +kernel)
    (case l8 => first | k_is | kernel_rfl | rfl | decide +kernel)
    (case c8 => first | k_is | kernel_rfl | rfl | decide +kernel)
    (case k8 => first | k_is | kernel_rfl | rfl | decide +kernel)
    (case a9 => first | k_is | kernel_rfl | rfl | decide +kernel)
    (case l9 => first | k_is | kernel_rfl | rfl | decide +kernel)
    (case c9 => first | k_is | kernel_rfl | rfl | decide +kernel)
    (case k9 => first | k_is | kernel_rfl | rfl | decide +kernel)
    (case a10 => first | k_is | kernel_rfl | rfl | decide +kernel)
    (case l10 => first | k_is | kernel_rfl | rfl | decide +kernel)
    (case c10 => first | k_is | kernel_rfl | rfl | decide +kernel)
    (case k10 => first | k_is | kernel_rfl | rfl | decide +kernel)
    (case a11 => first | k_is | kernel_rfl | rfl | decide +kernel)
    (case l11 => first | k_is | kernel_rfl | rfl | decide +kernel)
    (case c11 => first | k_is | kernel_rfl | rfl | decide +kernel)
    (case k11 => first | k_is | kernel_rfl | rfl | decide +kernel)
    (case a12 => first | k_is | kernel_rfl | rfl | decide +kernel)
    (case l12 => first | k_is | kernel_rfl | rfl | decide +kernel)
    (case c12 => first | k_is | kernel_rfl | rfl | decide +kernel)
    (case k12 => first | k_is | kernel_rfl | rfl | decide +kernel)
    (case a13 => first | k_is | kernel_rfl | rfl | decide +kernel)
    (case l13 => first | k_is | kernel_rfl | rfl | decide +kernel)
    (case c13 => first | k_is | kernel_rfl | rfl | decide +kernel)
    (case k13 => first | k_is | kernel_rfl | rfl | decide +kernel)
    (case a14 => first | k_is | kernel_rfl | rfl | decide +kernel)
    (case l14 => first | k_is | kernel_rfl | rfl | decide +kernel)
    (case c14 => first | k_is | kernel_rfl | rfl | decide +kernel)
    (case k14 => first | k_is | kernel_rfl | rfl | decide +kernel)
    (case a15 => first | k_is | kernel_rfl | rfl | decide +kernel)
    (case l15 => first | k_is | kernel_rfl | rfl | decide +kernel)
    (case c15 => first | k_is | kernel_rfl | rfl | decide +kernel)
    (case k15 => first | k_is | kernel_rfl | rfl | decide +kernel)
    (case a16 => first | k_is | kernel_rfl | rfl | decide +kernel)
    (case l16 => first | k_is | kernel_rfl | rfl | decide +kernel)
    (case c16 => first | k_is | kernel_rfl | rfl | decide +kernel)
    (case k16 => first | k_is | kernel_rfl | rfl | decide +kernel)
    (case a17 => first | k_is | kernel_rfl | rfl | decide +kernel)
    (case l17 => first | k_is | kernel_rfl | rfl | decide +kernel)
    (case c17 => first | k_is | kernel_rfl | rfl | decide +kernel)
    (case k17 => first | k_is | kernel_rfl | rfl | decide +kernel)
    (case a18 => first | k_is | kernel_rfl | rfl | decide +kernel)
    (case l18 => first | k_is | kernel_rfl | rfl | decide +kernel)
    (case c18 => first | k_is | kernel_rfl | rfl | decide +kernel)
    (case k18 => first | k_is | kernel_rfl | rfl | decide +kernel)
    (case a19 => first | k_is | kernel_rfl | rfl | decide +kernel)
    (case l19 => first | k_is | kernel_rfl | rfl | decide +kernel)
    (case c19 => first | k_is | kernel_rfl | rfl | decide +kernel)
    (case k19 => first | k_is | kernel_rfl | rfl | decide +kernel)
    (case a23 => first | k_is | kernel_rfl | rfl | decide +kernel)
    (case l23 => first | k_is | kernel_rfl | rfl | decide +kernel)
    (case c23 => first | k_is | kernel_rfl | rfl | decide +kernel)
    (case k23 => first | k_is | kernel_rfl | rfl | decide +kernel)
    (case a24 => first | k_is | kernel_rfl | rfl | decide +kernel)
    (case l24 => first | k_is | kernel_rfl | rfl | decide +kernel)
    (case c24 => first | k_is | kernel_rfl | rfl | decide +kernel)
    (case k24 => first | k_is | kernel_rfl | rfl | decide +kernel)
    (case a25 => first | k_is | kernel_rfl | rfl | decide +kernel)
    (case l25 => first | k_is | kernel_rfl | rfl | decide +kernel)
    (case c25 => first | k_is | kernel_rfl | rfl | decide +kernel)
    (case k25 => first | k_is | kernel_rfl | rfl | decide +kernel)
    (case a26 => first | k_is | kernel_rfl | rfl | decide +kernel)
    (case l26 => first | k_is | kernel_rfl | rfl | decide +kernel)
    (case c26 => first | k_is | kernel_rfl | rfl | decide +kernel)
    (case k26 => first | k_is | kernel_rfl | rfl | decide +kernel)
    (case a27 => first | k_is | kernel_rfl | rfl | decide +kernel)
    (case l27 => first | k_is | kernel_rfl | rfl | decide +kernel)
    (case c27 => first | k_is | kernel_rfl | rfl | decide +kernel)
    (case k27 => first | k_is | kernel_rfl | rfl | decide +kernel)
    (case a28 => first | k_is | kernel_rfl | rfl | decide +kernel)
    (case l28 => first | k_is | kernel_rfl | rfl | decide +kernel)
    (case c28 => first | k_is | kernel_rfl | rfl | decide +kernel)
    (case k28 => first | k_is | kernel_rfl | rfl | decide +kernel)
    (case a29 => first | k_is | kernel_rfl | rfl | decide +kernel)
    (case l29 => first | k_is | kernel_rfl | rfl | decide +kernel)
    (case c29 => first | k_is | kernel_rfl | rfl | decide +kernel)
    (case k29 => first | k_is | kernel_rfl | rfl | decide +kernel)
    (case a30 => first | k_is | kernel_rfl | rfl | decide +kernel)
    (case l30 => first | k_is | kernel_rfl | rfl | decide +kernel)
    (case c30 => first | k_is | kernel_rfl | rfl | decide +kernel)
    (case k30 => first | k_is | kernel_rfl | rfl | decide +kernel)
    (case a31 => first | k_is | kernel_rfl | rfl | decide +kernel)
    (case l31 => first | k_is | kernel_rfl | rfl | decide +kernel)
    (case c31 => first | k_is | kernel_rfl | rfl | decide +kernel)
    (case k31 => first | k_is | kernel_rfl | rfl | decide +kernel)
    (case a32 => first | k_is | kernel_rfl | rfl | decide +kernel)
    (case l32 => first | k_is | kernel_rfl | rfl | decide +kernel)
    (case c32 => first | k_is | kernel_rfl | rfl | decide +kernel)
    (case k32 => first | k_is | kernel_rfl | rfl | decide +kernel)
    (case a33 => first | k_is | kernel_rfl | rfl | decide +kernel)
    (case l33 => first | k_is | kernel_rfl | rfl | decide +kernel)
    (case c33 => first | k_is | kernel_rfl | rfl | decide +kernel)
    (case k33 => first | k_is | kernel_rfl | rfl | decide +kernel)
    (case a34 => first | k_is | kernel_rfl | rfl | decide +kernel)
    (case l34 => first | k_is | kernel_rfl | rfl | decide +kernel)
    (case c34 => first | k_is | kernel_rfl | rfl | decide +kernel)
    (case k34 => first | k_is | kernel_rfl | rfl | decide +kernel)
    (case a35 => first | k_is | kernel_rfl | rfl | decide +kernel)
    (case l35 => first | k_is | kernel_rfl | rfl | decide +kernel)
    (case c35 => first | k_is | kernel_rfl | rfl | decide +kernel)
    (case k35 => first | k_is | kernel_rfl | rfl | decide +kernel)
    (case a36 => first | k_is | kernel_rfl | rfl | decide +kernel)
    (case l36 => first | k_is | kernel_rfl | rfl | decide +kernel)
    (case c36 => first | k_is | kernel_rfl | rfl | decide +kernel)
    (case k36 => first | k_is | kernel_rfl | rfl | decide +kernel)
    (case a37 => first | k_is | kernel_rfl | rfl | decide +kernel)
    (case l37 => first | k_is | kernel_rfl | rfl | decide +kernel)
    (case c37 => first | k_is | kernel_rfl | rfl | decide +kernel)
    (case k37 => first | k_is | kernel_rfl | rfl | decide +kernel)
    (case a38 => first | k_is | kernel_rfl | rfl | decide +kernel)
    (case l38 => first | k_is | kernel_rfl | rfl | decide +kernel)
    (case c38 => first | k_is | kernel_rfl | rfl | decide +kernel)
    (case k38 => first | k_is | kernel_rfl | rfl | decide +kernel)
    (case a39 => first | k_is | kernel_rfl | rfl | decide +kernel)
    (case l39 => first | k_is | kernel_rfl | rfl | decide +kernel)
    (case c39 => first | k_is | kernel_rfl | rfl | decide +kernel)
    (case k39 => first | k_is | kernel_rfl | rfl | decide +kernel)
    (case a40 => first | k_is | kernel_rfl | rfl | decide +kernel)
    (case l40 => first | k_is | kernel_rfl | rfl | decide +kernel)
    (case c40 => first | k_is | kernel_rfl | rfl | decide +kernel)
    (case k40 => first | k_is | kernel_rfl | rfl | decide +kernel)
    (case a41 => first | k_is | kernel_rfl | rfl | decide +kernel)
    (case l41 => first | k_is | kernel_rfl | rfl | decide +kernel)
    (case c41 => first | k_is | kernel_rfl | rfl | decide +kernel)
    (case k41 => first | k_is | kernel_rfl | rfl | decide +kernel)
    (case pg_Reaches => first | k_is | kernel_rfl | rfl | decide +kernel)
    (case hd_Reaches => first | k_is | kernel_rfl | rfl | decide +kernel)
    (case po_Reaches => first | k_is | kernel_rfl | rfl | decide +kernel)
    (case sa_Reaches => first | k_is | kernel_rfl | rfl | decide +kernel)
    (case mk_Reaches => first | k_is | kernel_rfl | rfl | decide +kernel)
    (case kp_Reaches => first | k_is | kernel_rfl | rfl | decide +kernel)
    (case at_old_Reaches => first | k_is | kernel_rfl | rfl | decide +kernel)
    (case at_new_Reaches => first | k_is | kernel_rfl | rfl | decide +kernel)
    (case at_many_new_Reaches => first | k_is | kernel_rfl | rfl | decide +kernel)
    (case at_many_old_Reaches => first | k_is | kernel_rfl | rfl | decide +kernel)
    (case m20 => first | k_is | kernel_rfl | rfl | decide +kernel)
    (case n20 => first | k_is | kernel_rfl | rfl | decide +kernel)
    (case l20 => first | k_is | kernel_rfl | rfl | decide +kernel)
    (case c20 => first | k_is | kernel_rfl | rfl | decide +kernel)
    (case k20 => first | k_is | kernel_rfl | rfl | decide +kernel)
    (case m21 => first | k_is | kernel_rfl | rfl | decide +kernel)
    (case n21 => first | k_is | kernel_rfl | rfl | decide +kernel)
    (case l21 => first | k_is | kernel_rfl | rfl | decide +kernel)
    (case c21 => first | k_is | kernel_rfl | rfl | decide +kernel)
    (case k21 => first | k_is | kernel_rfl | rfl | decide +kernel)
    (case m22 => first | k_is | kernel_rfl | rfl | decide +kernel)
    (case n22 => first | k_is | kernel_rfl | rfl | decide +kernel)
    (case l22 => first | k_is | kernel_rfl | rfl | decide +kernel)
    (case c22 => first | k_is | kernel_rfl | rfl | decide +kernel)
    (case k22 => first | k_is | kernel_rfl | rfl | decide +kernel)
    (case bd0 => first | k_is | kernel_rfl | rfl | decide +kernel)
    (case bd1 => first | k_is | kernel_rfl | rfl | decide +kernel)
    (case bd2 => first | k_is | kernel_rfl | rfl | decide +kernel)
    (case bd3 => first | k_is | kernel_rfl | rfl | decide +kernel)
    (case bd4 => first | k_is | kernel_rfl | rfl | decide +kernel)
    (case bd5 => first | k_is | kernel_rfl | rfl | decide +kernel)
    (case bd6 => first | k_is | kernel_rfl | rfl | decide +kernel)
    (case s0 => first | k_is | kernel_rfl | rfl | decide +kernel)
    (case cN => first | k_is | kernel_rfl | rfl | decide +kernel)
    (case cO => first | k_is | kernel_rfl | rfl | decide +kernel)
    (case z_isinstance => first | k_is | kernel_rfl | rfl | decide +kernel)
    (case z_bool => first | k_is | kernel_rfl | rfl | decide +kernel)
    (case z_int => first | k_is | kernel_rfl | rfl | decide +kernel)
    (case z_len => first | k_is | kernel_rfl | rfl | decide +kernel)
    (case z_str => first | k_is | kernel_rfl | rfl | decide +kernel)
    (case z_all => first | k_is | kernel_rfl | rfl | decide +kernel)
    (case z_bytes => first | k_is | kernel_rfl | rfl | decide +kernel)
    (case z_range => first | k_is | kernel_rfl | rfl | decide +kernel)
    (case z_sum => first | k_is | kernel_rfl | rfl | decide +kernel)
    (case z_enumerate => first | k_is | kernel_rfl | rfl | decide +kernel)
    (case z_tuple => first | k_is | kernel_rfl | rfl | decide +kernel)
    (case z_min => first | k_is | kernel_rfl | rfl | decide +kernel)
    (case z_list => first | k_is | kernel_rfl | rfl | decide +kernel)
    (case z_max => first | k_is | kernel_rfl | rfl | decide +kernel)
    (case z_reversed => first | k_is | kernel_rfl | rfl | decide +kernel)
    (case z_sorted => first | k_is | kernel_rfl | rfl | decide +kernel)
    (case v_MODULUS => first | k_is | kernel_rfl | rfl | decide +kernel)
    (case v_MOST_BYTES => first | k_is | kernel_rfl | rfl | decide +kernel)
    (case v_FEWEST_NEW => first | k_is | kernel_rfl | rfl | decide +kernel)
    (case v_FEWEST_OLD => first | k_is | kernel_rfl | rfl | decide +kernel)
    (case v_MOST_AT_ONCE => first | k_is | kernel_rfl | rfl | decide +kernel)
    (case v_NEW_BITS => first | k_is | kernel_rfl | rfl | decide +kernel)
    (case v_OLD_BITS => first | k_is | kernel_rfl | rfl | decide +kernel)
    (case v_BYTE_BITS => first | k_is | kernel_rfl | rfl | decide +kernel)

