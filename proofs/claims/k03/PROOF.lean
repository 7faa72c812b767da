import PyProof.Rows.All
import Wide.All
import OpenK.AllK
import Wide.FinOn
import PyProof.EqAt
import PyProof.EqKinds
import PyProof.TupleCall
import HandS.ForMost
import HandS.ForExc
import HandS.IsInst
import HandS.SortKw
import HandS.SortRule
import HandS.SetFor
import HandS.Flow
import HandS.Zip
import HandS.Walk
import HandS.Bytes
import HandS.BytesMake
import HandS.ToBytes
import HandS.Defaults
import KE.KBytesHexOf
import KE.KExcSuper
import HandS.ExcInit
import HandS.FStr
import PyProof.FString2
import HandS.HotCalls
import HandS.WideBits
import HandS.Iter
import PySem.Challenge.RW_presshouse_k03_whole_rows
set_option Elab.async false
set_option linter.all false
set_option maxRecDepth 100000
set_option maxHeartbeats 4100000
namespace K3
open PySem PySem.Spec PyProof.Rows L2
def topS (i : Nat) : Stmt := PySem.Challenge.pw_presshouse_k03_whole_rows.main.body.getD i (.Pass ⟨0, 0, 0, 0⟩)
abbrev sWhole : Stmt := topS 8
abbrev sIsNum : Stmt := topS 9
abbrev sAreNum : Stmt := topS 10
abbrev sOfHex : Stmt := topS 12
abbrev sHexOf : Stmt := topS 13
abbrev sAreBytes : Stmt := topS 11
abbrev sAreGood : Stmt := topS 16
abbrev sPInit : Stmt := inClass (topS 26) 0
abbrev sPLet : Stmt := inClass (topS 26) 1
abbrev sPBk : Stmt := inClass (topS 26) 2
abbrev sAreP : Stmt := topS 27
abbrev sToldP : Stmt := topS 28
abbrev sDrawn : Stmt := topS 29
abbrev sBackOf : Stmt := topS 30
abbrev sTld : Stmt := topS 33
abbrev sBits : Stmt := topS 34
abbrev sIsItem : Stmt := topS 35
abbrev sBehind : Stmt := topS 36
abbrev sCopyB : Stmt := topS 37
abbrev sItemB : Stmt := topS 38
abbrev sCell : Stmt := topS 40
abbrev sNums : Stmt := topS 41
abbrev sHex : Stmt := topS 42
abbrev sData : Stmt := topS 43
abbrev sBack : Stmt := topS 44
abbrev sCost : Stmt := topS 45
abbrev sTold : Stmt := topS 46
abbrev sRow : Stmt := topS 47
abbrev sFirst : Stmt := topS 48
abbrev sJudged : Stmt := topS 49
abbrev sAll : Stmt := topS 50
abbrev sLaw : Stmt := topS 51
theorem scIsNum : FnScope ["told", "least", "most"] ["told", "least", "most"] (defScope sIsNum) := ⟨rfl, rfl, rfl, by decide +kernel, rfl, by decide +kernel, by decide +kernel⟩
theorem scAreNum : FnScope ["told", "least", "most", "one"] ["told", "least", "most"] (defScope sAreNum) := ⟨rfl, rfl, rfl, by decide +kernel, rfl, by decide +kernel, by decide +kernel⟩
theorem same_upd {H : Hp} {p : Addr} {o : HO} (h : H p = none) : Same H (upd H p o) := fun b x e => by
  rw [upd_ne (ne_of_none e h)]
  exact e
theorem same_put {H H' : Hp} {D : Addr} {o : HO} (h : Same H H') (n : H D = none) : Same H (upd H' D o) := fun b x e => by
  rw [upd_ne (ne_of_none e n)]
  exact h _ _ e
theorem none_back {H H' : Hp} {D : Addr} (h : Same H H') (n : H' D = none) : H D = none := by
  cases e : H D with
  | none => rfl
  | some o => (rw [h _ _ e] at n); (cases n)
theorem int_of {xs : List Int} {i : Nat} {v : V} (h : (xs.map V.int)[i]? = some v) : ∃ x, v = .int x ∧ xs[i]? = some x := by
  rw [List.getElem?_map] at h
  cases e : xs[i]? with
  | none => (rw [e] at h); (cases h)
  | some y => rw [e] at h; exact ⟨y, (Option.some.inj h).symm, rfl⟩
theorem yes {σ : L2.St} {H : Hp} {A B : Hp → Prop} (h : A H) : tYes σ H fun b H3 => if b = true then A H3 else B H3 := by simpa [tYes] using h
section
variable {P : Program} {w : World} {K : PySem.W.Frag} {mg : Str → Option Value} {base : Heap}
def spWhole : Sp := fun vs H Q _ => ∃ v, vs = [v] ∧ ((∃ x : Int, v = .int x ∧ Q (.bl true) H) ∨ (∃ (p : Addr) (xs : List V), v = .ref p ∧ H p = some (.lst xs) ∧ Q (.bl false) H) ∨ (v = .non ∧ Q (.bl false) H))
theorem scWhole : FnScope ["told"] ["told"] (defScope sWhole) := ⟨rfl, rfl, rfl, by decide +kernel, rfl, by decide +kernel, by decide +kernel⟩
theorem ok_whole {f : Addr} {fd : FuncData} {k : Nat} (F : Fun K "is_whole" "is_whole" sWhole f fd) (m1 : mg "isinstance" = none) (m2 : mg "bool" = none) (m3 : mg "int" = none) : FnOk P w K mg base CX0 (k + 1) f fd ["told"] spWhole := by
  refine F.ok scWhole (fun vs H Q E h => ?_) (fun cdv A outer s H vs Q E hr h => ?_)
  · obtain ⟨v, rfl, _⟩ := h
    rfl
  · obtain ⟨v, rfl, h⟩ := h
    refine ⟨_, pss_one (ps_ret (pe_and (pe_callB call_isi (by rfl) m1 (by decide +kernel) (pa_cons (pv 0) (pa_cons (pe_bltn (v := .ty "int") (by rfl) m3 (by decide +kernel) rfl) pa_nil)))
      (pe_one (pe_not (pe_callB call_isi (by rfl) m1 (by decide +kernel) (pa_cons (pv 0) (pa_cons (pe_bltn (v := .ty "bool") (by rfl) m2 (by decide +kernel) rfl) pa_nil))))))), ?_⟩
    rcases h with ⟨x, rfl, q⟩ | ⟨p, xs, rfl, hp, q⟩ | ⟨rfl, q⟩
    · refine ⟨_, rfl, _, _, _, _, _, rfl, .ty "int", .base (.int _), kit_ty (a := "int") (r := true) (by decide +kernel), _, rfl, iteT ?_⟩
      exact ⟨_, rfl, _, _, _, _, _, rfl, .ty "bool", .base (.int _), kit_ty (a := "int") (r := false) (by decide +kernel), _, rfl, q⟩
    · exact ⟨_, rfl, _, _, _, _, _, rfl, .ty "int", .base (.lst hp), kit_ty (a := "list") (r := false) (by decide +kernel), _, rfl, iteF q⟩
    · exact ⟨_, rfl, _, _, _, _, _, rfl, .ty "int", .base .non, kit_ty (a := "NoneType") (r := false) (by decide +kernel), _, rfl, iteF q⟩
def spIsNum : Sp := fun vs H Q _ => ∃ (v : V) (a b : Int), vs = [v, .int a, .int b] ∧ ((∃ x : Int, v = .int x ∧ Q (.bl (decide (a ≤ x ∧ x ≤ b))) H) ∨ (∃ (p : Addr) (xs : List V), v = .ref p ∧ H p = some (.lst xs) ∧ Q (.bl false) H) ∨ (v = .non ∧ Q (.bl false) H))
theorem ok_isNum {f f0 : Addr} {fd fd0 : FuncData} {k : Nat} (F : Fun K "is_number" "is_number" sIsNum f fd) (F0 : Fun K "is_whole" "is_whole" sWhole f0 fd0) (G0 : FnOk P w K mg base CX0 (k + 1) f0 fd0 ["told"] spWhole) (b0 : Binds K fd0 ["told"] []) (g0 : mg "is_whole" = some (.ref f0)) :
    FnOk P w K mg base CX0 (k + 2) f fd ["told", "least", "most"] spIsNum := by
  refine F.ok scIsNum (fun vs H Q E h => ?_) (fun cdv A outer s H vs Q E hr h => ?_)
  · obtain ⟨v, a, b, rfl, _⟩ := h
    rfl
  · obtain ⟨v, a, b, rfl, h⟩ := h
    refine ⟨_, pss_one (ps_ret (pe_and (pe_call G0 hr (by rfl) g0 F0.kp b0 .nil pass0 (pa_cons (pv 0) pa_nil)) (pe_one (pe_chain op_le op_le (pv 1) (pv 0) (pv 2))))), ?_⟩
    rcases h with ⟨x, rfl, q⟩ | ⟨p, xs, rfl, hp, q⟩ | ⟨rfl, q⟩
    · refine ⟨_, rfl, _, rfl, .inl ⟨x, rfl, _, rfl, iteT ?_⟩⟩
      refine ⟨_, rfl, _, rfl, _, _, rfl, rfl, _, rfl, ?_⟩
      by_cases h1 : a ≤ x
      · rw [if_pos (decide_eq_true h1)]
        refine ⟨_, rfl, _, _, rfl, rfl, ?_⟩
        simpa [h1] using q
      · rw [if_neg (by simpa using h1)]
        simpa [h1] using q
    · exact ⟨_, rfl, _, rfl, .inr (.inl ⟨p, xs, rfl, hp, _, rfl, iteF q⟩)⟩
    · exact ⟨_, rfl, _, rfl, .inr (.inr ⟨rfl, _, rfl, iteF q⟩)⟩
/-- a list that is made beside all that was there -/
def spAreNum : Sp := fun vs H Q _ => ∃ (p : Addr) (xs : List Int) (a b : Int), vs = [.ref p, .int a, .int b] ∧ H p = some (.lst (xs.map V.int)) ∧ xs.length ≤ 1000 ∧ ∀ H', Same H H' → Q (.bl (xs.all fun x => decide (a ≤ x ∧ x ≤ b))) H'
theorem ok_areNum {f f1 : Addr} {fd fd1 : FuncData} {k : Nat} (F : Fun K "are_numbers" "are_numbers" sAreNum f fd) (F1 : Fun K "is_number" "is_number" sIsNum f1 fd1) (G1 : FnOk P w K mg base CX0 (k + 2) f1 fd1 ["told", "least", "most"] spIsNum)
    (b1 : Binds K fd1 ["told", "least", "most"] []) (g1 : mg "is_number" = some (.ref f1)) (m1 : mg "isinstance" = none) (m2 : mg "list" = none) (m3 : mg "all" = none) : FnOk P w K mg base CX0 (k + 3) f fd ["told", "least", "most"] spAreNum := by
  refine F.ok scAreNum (fun vs H Q E h => ?_) (fun cdv A outer s H vs Q E hr h => ?_)
  · obtain ⟨p, xs, a, b, rfl, _⟩ := h
    rfl
  · obtain ⟨p, xs, a, b, rfl, hp, hl, q⟩ := h
    refine ⟨_, pss_one (ps_ret (pe_and (pe_callB call_isi (by rfl) m1 (by decide +kernel) (pa_cons (pv 0) (pa_cons (pe_bltn (v := .ty "list") (by rfl) m2 (by decide +kernel) rfl) pa_nil)))
      (pe_one (pe_callB (cr_all rfl) (by rfl) m3 (by decide +kernel) (pa_cons (pe_lc (own := [("one", 3)]) (g := gName 3) (tt := tYes) rfl scAreNum.nd (pi_list (pv 0)) (blkOk_by (N := ["told", "least", "most", "one"]) (sc := defScope sAreNum) (by decide +kernel))
        (fun _ _ _ _ _ => pg_name (i := 3) scAreNum.nd rfl (Or.inl rfl)) (fun _ _ _ _ _ => pts_nil)
        (fun _ _ _ _ _ => pe_call G1 hr (by rfl) g1 F1.kp b1 .nil pass0 (pa_cons (pv 3) (pa_cons (pv 1) (pa_cons (pv 2) pa_nil))))) pa_nil))))), ?_⟩
    refine ⟨_, rfl, _, _, _, _, _, rfl, .ty "list", .base (.lst hp), kit_ty (a := "list") (r := true) (by decide +kernel), _, rfl, iteT ?_⟩
    refine ⟨_, rfl, p, rfl, ⟨_, .inl (.inl hp)⟩, fun D nD => ?_⟩
    refine lc_list (K := K) (a := p) (xs := xs.map V.int) (fun i H' => Same H H' ∧ H' D = some (.lst ((xs.take i).map fun x => .bl (decide (a ≤ x ∧ x ≤ b))))) ⟨same_upd nD, upd_same⟩ (fun i H' _ h => .inl (.inl (h.1 _ _ hp))) (fun i x H' hx h => ?_) (fun H' h => ?_)
    · obtain ⟨x, rfl, hx'⟩ := int_of hx
      refine ⟨rfl, yes ?_⟩
      refine ⟨_, rfl, _, rfl, _, rfl, .int x, a, b, rfl, .inl ⟨x, rfl, _, h.2, ?_, same_put h.1 nD, ?_⟩⟩
      · rw [List.length_map, List.length_take]
        exact small1000 (by omega)
      · rw [upd_same, List.take_add_one, hx']
        simp
    · have e : (xs.take (xs.map V.int).length) = xs := by rw [List.length_map, List.take_length]
      rw [e] at h
      refine ⟨D, (xs.map fun x => decide (a ≤ x ∧ x ≤ b)), rfl, .inl (.inl ?_), ?_⟩
      · rw [h.2, List.map_map]
        rfl
      · have q' := q H' h.1
        rw [List.all_map]
        exact q'
end
end K3

namespace K3
open PySem PySem.Spec PyProof.Rows L2
/-! ### equal lists -/
theorem dp_ints {K : PySem.W.Frag} {H : Hp} : ∀ xs : List Int, DpAll K H (xs.map V.int) (xs.map PyData.int)
  | [] => .nil
  | x :: xs => .cons (.int x) (dp_ints xs)
theorem dp_bools {K : PySem.W.Frag} {H : Hp} : ∀ xs : List Bool, DpAll K H (xs.map V.bl) (xs.map PyData.bool)
  | [] => .nil
  | x :: xs => .cons (.bl x) (dp_bools xs)
theorem eqvA_ints : ∀ xs ys : List Int, PyData.eqvAll (xs.map .int) (ys.map .int) = decide (xs = ys)
  | [], [] => by simp [PyData.eqvAll]
  | [], _ :: _ => by simp [PyData.eqvAll]
  | _ :: _, [] => by simp [PyData.eqvAll]
  | x :: xs, y :: ys => by
    simp only [List.map_cons, PyData.eqvAll, PyData.eqv, eqvA_ints xs ys]
    by_cases h : x = y <;> simp [h]
theorem eqvA_bools : ∀ xs ys : List Bool, PyData.eqvAll (xs.map .bool) (ys.map .bool) = decide (xs = ys)
  | [], [] => by simp [PyData.eqvAll]
  | [], _ :: _ => by simp [PyData.eqvAll]
  | _ :: _, [] => by simp [PyData.eqvAll]
  | x :: xs, y :: ys => by
    simp only [List.map_cons, PyData.eqvAll, PyData.eqv, eqvA_bools xs ys]
    by_cases h : x = y <;> simp [h]
theorem eqv_ints (xs ys : List Int) : PyData.eqv (.list (xs.map .int)) (.list (ys.map .int)) = decide (xs = ys) := by rw [PyData.eqv, eqvA_ints]
theorem eqv_bools (xs ys : List Bool) : PyData.eqv (.list (xs.map .bool)) (.list (ys.map .bool)) = decide (xs = ys) := by rw [PyData.eqv, eqvA_bools]
theorem clA_ints : ∀ ns : List Int, PyData.canLayAll0 (ns.map PyData.int) = true
  | [] => by (simp [PyData.canLayAll0])
  | _ :: r => by simp [PyData.canLayAll0, PyData.canLay0, clA_ints r]
theorem dA_ints : ∀ ns : List Int, PyData.depthAll (ns.map PyData.int) = 0
  | [] => rfl
  | _ :: r => by simp [PyData.depthAll, PyData.depth, dA_ints r]
theorem shaped_intsQ (ns : List Int) : SeqAt.shaped (.list (ns.map PyData.int)) = true := by
  simp [SeqAt.shaped, PyData.canLay0, PyData.depth, clA_ints, dA_ints]
theorem clA_bools : ∀ ns : List Bool, PyData.canLayAll0 (ns.map PyData.bool) = true
  | [] => by (simp [PyData.canLayAll0])
  | _ :: r => by simp [PyData.canLayAll0, PyData.canLay0, clA_bools r]
theorem dA_bools : ∀ ns : List Bool, PyData.depthAll (ns.map PyData.bool) = 0
  | [] => rfl
  | _ :: r => by simp [PyData.depthAll, PyData.depth, dA_bools r]
theorem shaped_bools (ns : List Bool) : SeqAt.shaped (.list (ns.map PyData.bool)) = true := by
  simp [SeqAt.shaped, PyData.canLay0, PyData.depth, clA_bools, dA_bools]
def cellAt (xs : List Int) (k : Nat) : Int := if k < xs.length then xs.getD k 0 else if xs = [] then (k : Int) * 48271 else ((xs.getD (k % xs.length) 0 + k) * 48271).fmod 2147483647
theorem scCell : FnScope ["_law_script", "_law_k"] ["_law_script", "_law_k"] (defScope sCell) := ⟨rfl, rfl, rfl, by decide +kernel, rfl, by decide +kernel, by decide +kernel⟩
section
variable {P : Program} {w : World} {K : PySem.W.Frag} {mg : Str → Option Value} {base : Heap}
def spCell (K : PySem.W.Frag) : Sp := fun vs H Q _ => ∃ (p : Addr) (xs : List Int) (k : Nat), vs = [.ref p, .int (k : Int)] ∧ SqL K H p (xs.map V.int) ∧ k ≤ 100000 ∧ ∀ H', Same H H' → Q (.int (cellAt xs k)) H'
theorem ok_cell {f : Addr} {fd : FuncData} {j : Nat} (F : Fun K "_law_cell_at" "_law_cell_at" sCell f fd) (m1 : mg "len" = none) : FnOk P w K mg base CX0 (j + 1) f fd ["_law_script", "_law_k"] (K3.spCell K) := by
  refine F.ok scCell (fun vs H Q E h => ?_) (fun cdv A outer s H vs Q E hr h => ?_)
  · obtain ⟨p, xs, k, rfl, _⟩ := h
    rfl
  · obtain ⟨p, xs, k, rfl, hp, hk, q⟩ := h
    refine ⟨_, pss_cons (ps_if (pt_cmpR op_lt (pv 1) (pe_callB call_len_seq (by rfl) m1 PySem.boot_len (pa_cons (pv 0) pa_nil)) (nomark _)) (pss_one (ps_ret (pe_ix ix_list (pv 0) (pv 1) (fun _ _ => rfl)))) pss_nil)
      (pss_cons (ps_if (pt_cmpR (op_eqD hr.units) (pv 0) (pe_lst pa_nil) (nomark _)) (pss_one (ps_ret (pe_op op_mul (pv 1) pe_int))) pss_nil)
      (pss_one (ps_ret (pe_op op_modN (pe_op op_mul (pe_op op_add (pe_ix ix_list (pv 0) (pe_op op_modN (pv 1) (pe_callB call_len_seq (by rfl) m1 PySem.boot_len (pa_cons (pv 0) pa_nil))) (fun _ _ => rfl)) (pv 1)) pe_int) pe_int)))), ?_⟩
    refine ⟨_, rfl, _, rfl, p, _, rfl, .inl hp, _, _, rfl, rfl, _, rfl, ite2 (fun e => ?_) (fun e => ?_)⟩
    · have hlt : k < xs.length := by
        have := of_decide_eq_true e
        rw [List.length_map] at this
        omega
      have q' := q H (Same.refl H)
      rw [cellAt, if_pos hlt] at q'
      refine ⟨_, rfl, _, rfl, p, _, _, .int (xs.getD k 0), rfl, rfl, hp, atI_nat ?_, q'⟩
      rw [List.getElem?_map, List.getElem?_eq_getElem hlt, List.getD_eq_getElem?_getD, List.getElem?_eq_getElem hlt]
      rfl
    · have hge : ¬ k < xs.length := fun z => e (decide_eq_true (by rw [List.length_map]; omega))
      refine ⟨_, rfl, Nat.zero_le _, fun z nz => ?_⟩
      have sm : Same H (upd H z (.lst [])) := same_upd nz
      have q' := q _ sm
      rw [cellAt, if_neg hge] at q'
      refine ⟨_, _, .lst (sm.seq hp) (dp_ints xs), .lst (ds := []) (.inl (.inl upd_same)) .nil, shaped_intsQ xs, shaped_intsQ [], ?_⟩
      have ee : PyData.eqv (.list (xs.map .int)) (.list []) = decide (xs = []) := eqv_ints xs []
      rw [ee]
      refine ⟨_, rfl, ite2 (fun e2 => ?_) (fun e2 => ?_)⟩
      · have : xs = [] := of_decide_eq_true e2
        rw [if_pos this] at q'
        exact ⟨_, rfl, _, _, rfl, rfl, .inl ⟨by omega, by omega⟩, q'⟩
      · have hne : ¬ xs = [] := fun z => e2 (decide_eq_true z)
        rw [if_neg hne] at q'
        have hpos : 0 < xs.length := List.length_pos_iff.mpr hne
        have hm : k % xs.length < xs.length := Nat.mod_lt _ hpos
        have em : (k : Int).fmod ((xs.map V.int).length : Int) = ((k % xs.length : Nat) : Int) := by
          rw [List.length_map, Int.fmod_eq_emod_of_nonneg _ (by omega)]
          rfl
        refine ⟨_, rfl, _, rfl, _, rfl, p, _, rfl, .inl (sm.seq hp), _, _, rfl, rfl, by rw [List.length_map]; omega, p, _, _, .int (xs.getD (k % xs.length) 0), rfl, rfl, sm.seq hp, (by rw [em]; exact atI_nat (by
          rw [List.getElem?_map, List.getElem?_eq_getElem hm, List.getD_eq_getElem?_getD, List.getElem?_eq_getElem hm]
          rfl)), _, rfl, _, _, rfl, rfl, _, _, rfl, rfl, .inr ⟨by decide, by decide⟩, _, _, rfl, rfl, (by show (2147483647 : Int) ≠ 0; decide), q'⟩
end
/-! ### _law_numbers -/
def InLims (ds lims : List Int) : Prop := ds.length ≤ lims.length ∧ ∀ (j : Nat) (d l : Int), ds[j]? = some d → lims[j]? = some l → 0 ≤ d ∧ d < l
theorem fmod_in {a l : Int} (h : 0 < l) : 0 ≤ a.fmod l ∧ a.fmod l < l := by
  rw [Int.fmod_eq_emod_of_nonneg _ (Int.le_of_lt h)]
  exact ⟨Int.emod_nonneg _ (by omega), Int.emod_lt_of_pos _ h⟩
theorem InLims.snoc {ds lims : List Int} {d l : Int} (h : InLims ds lims) (hl : lims[ds.length]? = some l) (hd : 0 ≤ d ∧ d < l) : InLims (ds ++ [d]) lims := by
  refine ⟨by have := (List.getElem?_eq_some_iff.mp hl).1; simp; omega, fun j d' l' h1 h2 => ?_⟩
  by_cases q : j < ds.length
  · rw [List.getElem?_append_left q] at h1
    exact h.2 j d' l' h1 h2
  · have e : j = ds.length := by
      have := (List.getElem?_eq_some_iff.mp h1).1
      simp at this
      omega
    subst e
    rw [List.getElem?_append_right (Nat.le_refl _)] at h1
    simp at h1
    rw [hl] at h2
    cases h2
    rw [← h1]
    exact hd
theorem scNums : FnScope ["_law_cell", "_law_limits", "_law_rest", "_law_found"] ["_law_cell", "_law_limits"] (defScope sNums) := ⟨rfl, rfl, rfl, by decide +kernel, rfl, by decide +kernel, by decide +kernel⟩
section
variable {P : Program} {w : World} {K : PySem.W.Frag} {mg : Str → Option Value} {base : Heap}
def spNums : Sp := fun vs H Q _ => ∃ (p : Addr) (c : Int) (lims : List Int), vs = [.int c, .ref p] ∧ H p = some (.lst (lims.map V.int)) ∧ lims.length ≤ 1000 ∧ (∀ l ∈ lims, 0 < l ∧ l < 1000000) ∧
  ∀ H' q ds, Same H H' → H q = none → H' q = some (.lst (ds.map V.int)) → ds.length = lims.length → InLims ds lims → Q (.ref q) H'
theorem ok_nums {f : Addr} {fd : FuncData} {j : Nat} (F : Fun K "_law_numbers" "_law_numbers" sNums f fd) (m1 : mg "int" = none) : FnOk P w K mg base CX0 (j + 1) f fd ["_law_cell", "_law_limits"] spNums := by
  refine F.ok scNums (fun vs H Q E h => ?_) (fun cdv A outer s H vs Q E hr h => ?_)
  · obtain ⟨p, c, lims, rfl, _⟩ := h
    rfl
  · obtain ⟨p, c, lims, rfl, hp, hl, hpos, q⟩ := h
    refine ⟨_, pss_cons (ps_set (i := 2) scNums.nd rfl (.inl rfl) (pv 0))
      (pss_cons (ps_if (pt_cmpR op_lt (pv 0) (pe_op op_pow pe_int pe_int) (nomark _))
        (pss_one (ps_set (i := 2) scNums.nd rfl (.inl rfl) (pe_op op_fdivN (pe_op op_pow (pe_op op_add (pe_op op_mul (pe_op op_modN (pv 0) pe_int) pe_int) pe_int) pe_int) pe_int))) pss_nil)
      (pss_cons (ps_set (i := 3) scNums.nd rfl (.inl rfl) (pe_lst pa_nil))
      (pss_cons (ps_for PassesOwn.never rfl (pi_list (pv 1)) (pg_name (i := 1) scNums.nd rfl (.inl rfl))
        (pss_cons (ps_expr (pe_bm PySem.F.plainAttrs_list PySem.F.slot_list_append PySem.F.type_list_append mt_append (pv 3) (pa_cons (pe_op op_modN (pe_callTy call_int1 (by rfl) m1 (by decide +kernel) (pa_cons (pv 2) pa_nil)) (pv 1)) pa_nil)))
        (pss_one (ps_set (i := 2) scNums.nd rfl (.inl rfl) (pe_op op_fdivN (pv 2) (pv 1))))))
      (pss_one (ps_ret (pv 3)))))), ?_⟩
    refine ⟨_, rfl, _, rfl, _, _, rfl, rfl, ⟨by decide, by decide, by decide⟩, _, _, rfl, rfl, _, rfl, ite2 (fun e => ?_) (fun e => ?_)⟩
    · have hm := fmod_in (a := c) (l := 2147483647) (by decide)
      refine ⟨_, rfl, _, _, rfl, rfl, (by show (2147483647 : Int) ≠ 0; decide), _, _, rfl, rfl, .inr ⟨by decide, by decide⟩, _, _, rfl, rfl, _, _, rfl, rfl, ⟨by decide, by decide, by omega⟩, _, _, rfl, rfl, ⟨by decide, by decide⟩, ?_⟩
      refine ⟨Nat.zero_le _, fun D nD => ?_⟩
      have hpD : (upd H D (.lst [])) p = some (.lst (lims.map V.int)) := same_upd nD _ _ hp
      refine ⟨_, rfl, p, rfl, ⟨_, .inl (.inl hpD)⟩, ?_⟩
      refine for_list (K := K) (a := p) (xs := lims.map V.int) (fun i σ H' => ∃ (y1 : Option V) (r : Int) (ds : List Int), σ = [some (.int c), y1, some (.int r), some (.ref D)] ∧ Same H H' ∧ H' D = some (.lst (ds.map V.int)) ∧ ds.length = i ∧ InLims ds lims)
        ⟨_, _, [], rfl, same_upd nD, upd_same, rfl, Nat.zero_le _, fun j d l h => by simp at h⟩ (fun i σ H' _ h => ?_) (fun i x σ H' hx h => ?_) (fun σ H' h => ?_)
      · obtain ⟨_, _, _, _, sm, _⟩ := h
        exact .inl (.inl (sm _ _ hp))
      · obtain ⟨y1, r, ds, rfl, sm, hD, hdl, hin⟩ := h
        obtain ⟨x, rfl, hx'⟩ := int_of hx
        obtain ⟨hx0, hx1⟩ := hpos x (List.mem_of_getElem? hx')
        refine ⟨.ref D, rfl, .inl ⟨rfl, _, .inl (.inl hD)⟩, .int r, rfl, .inl ⟨r, rfl, .int x, rfl, _, _, rfl, rfl, (by omega), D, _, _, rfl, rfl, hD, ?_, ?_⟩⟩
        · rw [List.length_map]
          exact small1000 (by have := (List.getElem?_eq_some_iff.mp hx').1; omega)
        · refine ⟨.int r, rfl, .int x, rfl, _, _, rfl, rfl, ⟨(by omega), (by omega)⟩, some (.int x), r.fdiv x, ds ++ [r.fmod x], rfl, same_put sm nD, ?_, by simp [hdl], hin.snoc (by rw [hdl]; exact hx') (fmod_in hx0)⟩
          rw [upd_same, List.map_append]
          rfl
      · obtain ⟨y1, r, ds, rfl, sm, hD, hdl, hin⟩ := h
        rw [List.length_map] at hdl
        exact ⟨.ref D, rfl, q H' D ds sm nD hD hdl hin⟩
    · refine ⟨Nat.zero_le _, fun D nD => ?_⟩
      have hpD : (upd H D (.lst [])) p = some (.lst (lims.map V.int)) := same_upd nD _ _ hp
      refine ⟨_, rfl, p, rfl, ⟨_, .inl (.inl hpD)⟩, ?_⟩
      refine for_list (K := K) (a := p) (xs := lims.map V.int) (fun i σ H' => ∃ (y1 : Option V) (r : Int) (ds : List Int), σ = [some (.int c), y1, some (.int r), some (.ref D)] ∧ Same H H' ∧ H' D = some (.lst (ds.map V.int)) ∧ ds.length = i ∧ InLims ds lims)
        ⟨_, _, [], rfl, same_upd nD, upd_same, rfl, Nat.zero_le _, fun j d l h => by simp at h⟩ (fun i σ H' _ h => ?_) (fun i x σ H' hx h => ?_) (fun σ H' h => ?_)
      · obtain ⟨_, _, _, _, sm, _⟩ := h
        exact .inl (.inl (sm _ _ hp))
      · obtain ⟨y1, r, ds, rfl, sm, hD, hdl, hin⟩ := h
        obtain ⟨x, rfl, hx'⟩ := int_of hx
        obtain ⟨hx0, hx1⟩ := hpos x (List.mem_of_getElem? hx')
        refine ⟨.ref D, rfl, .inl ⟨rfl, _, .inl (.inl hD)⟩, .int r, rfl, .inl ⟨r, rfl, .int x, rfl, _, _, rfl, rfl, (by omega), D, _, _, rfl, rfl, hD, ?_, ?_⟩⟩
        · rw [List.length_map]
          exact small1000 (by have := (List.getElem?_eq_some_iff.mp hx').1; omega)
        · refine ⟨.int r, rfl, .int x, rfl, _, _, rfl, rfl, ⟨(by omega), (by omega)⟩, some (.int x), r.fdiv x, ds ++ [r.fmod x], rfl, same_put sm nD, ?_, by simp [hdl], hin.snoc (by rw [hdl]; exact hx') (fmod_in hx0)⟩
          rw [upd_same, List.map_append]
          rfl
      · obtain ⟨y1, r, ds, rfl, sm, hD, hdl, hin⟩ := h
        rw [List.length_map] at hdl
        exact ⟨.ref D, rfl, q H' D ds sm nD hD hdl hin⟩
end
end K3

namespace K3
open PySem PySem.Spec PyProof.Rows L2
open PySem.Calls
/-! ### bytes.fromhex(text) of a text that bytes have -/
abbrev dg : Nat → Nat := PySem.Builtin.Bytes.hexDigit
def sg (ks : List Nat) : List Nat := ks.flatMap fun k => [dg (k / 16), dg (k % 16)]
theorem hex_key {f : Nat → Nat → List Nat → Array UInt8 → Except Nat (Array UInt8)} (e0 : ∀ n i out, f n i [] out = .ok out)
    (e1 : ∀ (a b : Fin 16) n i rest out, f (n + 1) i (dg a.1 :: dg b.1 :: rest) out = f n (i + 2) rest (out.push (a.1 * 16 + b.1).toUInt8)) :
    ∀ (ks : List Nat) (n i : Nat) (out : Array UInt8), (∀ k ∈ ks, k < 256) → ks.length ≤ n → f n i (sg ks) out = .ok (out ++ (ks.map Nat.toUInt8).toArray)
  | [], n, i, out, _, _ => by
    show f n i [] out = _
    rw [e0]
    simp
  | k :: ks, 0, i, out, _, hn => by simp at hn
  | k :: ks, n + 1, i, out, hk, hn => by
    have k0 : k < 256 := hk k (by simp)
    have h1 : k / 16 < 16 := by omega
    have h2 : k % 16 < 16 := by omega
    show f (n + 1) i (dg (k / 16) :: dg (k % 16) :: sg ks) out = _
    rw [e1 ⟨k / 16, h1⟩ ⟨k % 16, h2⟩, hex_key e0 e1 ks n (i + 2) _ (fun k m => hk k (by simp [m])) (by simpa using hn)]
    have e : k / 16 * 16 + k % 16 = k := by omega
    simp [e]
theorem sg_len : ∀ ks : List Nat, (sg ks).length = 2 * ks.length
  | [] => rfl
  | k :: ks => by
    show ([dg (k / 16), dg (k % 16)] ++ sg ks).length = _
    rw [List.length_append, sg_len ks, List.length_cons]
    simp
    omega
theorem dg_lt (n : Nat) (h : n < 16) : dg n < 128 := by
  have : ∀ m : Fin 16, dg m.1 < 128 := by decide +kernel
  exact this ⟨n, h⟩
theorem sg_lt : ∀ {ks : List Nat}, (∀ k ∈ ks, k < 256) → ∀ c ∈ sg ks, c < 128
  | [], _, c, h => by (cases h)
  | k :: ks, hk, c, h => by
    have k0 : k < 256 := hk k (by simp)
    have h' : c ∈ [dg (k / 16), dg (k % 16)] ++ sg ks := h
    rcases (List.mem_append.mp h') with (q | q)
    · simp at q
      rcases q with rfl | rfl
      · exact dg_lt _ (by omega)
      · exact dg_lt _ (by omega)
    · exact sg_lt (fun k m => hk k (by simp [m])) c q
/-- a method of the class bytes, bound to it -/
def fhBound : Obj := { cls := .type "builtin_function_or_method", data := .fields #[.builtin "bytes.fromhex", .type "bytes"] }
def fhHO (u : Addr) : HO := .ext fun h => h.get? u = some fhBound
theorem fh_type : typeOf (.builtin "bytes.fromhex") = pure (.type "classmethod_descriptor") := by
  show builtinType _ = _
  rw [builtinType_eq_fast]
  kernel_rfl
theorem fh_entry : entryFor table "bytes.fromhex" = some Builtin.«bytes.fromhex» := entryFor_of_tree (by kernel_rfl)
theorem fh_quiet {as : Args} : (Code.builtin "bytes.fromhex" as).quiet = true := Code.quiet_builtin _ (by decide +kernel)
theorem fh_isType : isType (.type "bytes") = pure true := by first | rfl | kernel_rfl | (unfold isType; rw [isSubtype_type]; kernel_rfl)
theorem fh_sub : isSubtype (.type "bytes") (.type "bytes") = pure true := by
  rw [isSubtype_type]
  kernel_rfl
theorem fh_owner : (kfb_private% "ownerAndName") "bytes.fromhex" = ("bytes", "fromhex") := by first | decide +kernel | kernel_rfl
theorem fh_check {o : PySem.Str} {u : Tok} : checkBoundCall "bytes.fromhex" ⟨[.type "bytes", .str o u], []⟩ = pure () := by first | kernel_rfl | rfl
section
variable {prog : Program} {w : World} {M : Model} {E : Value → Shared → Prop} {s : Shared} {A : Around} {K : PySem.W.Frag}
theorem fh_run {R : Fin → Shared → Prop} (h : R (.done (.ret (.ref s.heap.objs.size))) { s with heap := s.heap.push fhBound }) :
    wpAny M A (Builtin.«classmethod_descriptor.__get__» ⟨[.builtin "bytes.fromhex", .none, .type "bytes"], []⟩) R E s := by
  unfold Builtin.«classmethod_descriptor.__get__»
  refine wpAny_bind (wpAny_of_eq (a := (.builtin "bytes.fromhex", none, some (.type "bytes"))) (by first | rfl | kernel_rfl) ?_)
  simp only [fh_owner]
  refine wpAny_bind (wpAny_of_eq (a := .type "bytes") rfl ?_)
  refine wpAny_bind (wpAny_of_eq (a := true) fh_isType ?_)
  refine PySem.W.KFB.if_not rfl ?_
  refine wpAny_bind (wpAny_of_eq (a := true) fh_sub ?_)
  refine PySem.W.KFB.if_not rfl ?_
  exact wpAny_bind (wpAny_newObj_type (wpAny_pure h))
theorem fh_tree {ks : List Nat} {u : Tok} {R : Fin → Shared → Prop} (hk : ∀ k ∈ ks, k < 256) (hl : ks.length ≤ 1000000)
    (h : R (.done (.ret (.bytes (ks.map Nat.toUInt8).toArray s.toks))) { s with toks := s.toks + 1 }) :
    wpAny M A (Builtin.«bytes.fromhex» ⟨[.type "bytes", .str ⟨(sg ks).toArray⟩ u], []⟩) R E s := by
  unfold Builtin.«bytes.fromhex» Builtin.Bytes.fromhexM
  dsimp only
  have hno : Array.findIdx? (fun x : Nat => decide (x ≥ 128)) (sg ks).toArray = none := by
    rw [Array.findIdx?_eq_none_iff]
    intro c hc
    have := sg_lt hk c (by simpa using hc)
    exact decide_eq_false (by omega)
  refine wpAny_bind (wpAny_of_eq (a := "bytes") (by first | rfl | kernel_rfl) ?_)
  refine PySem.W.KFB.if_not rfl ?_
  refine wpAny_bind (wpAny_of_eq (a := some ⟨(sg ks).toArray⟩) rfl ?_)
  dsimp only
  rw [hno]
  dsimp only
  split
  all_goals
    rename_i v heq
    have z := (hex_key (by intro n i out; cases n <;> rfl) (by
      intro a b n i rest out
      obtain ⟨a, ha⟩ := a
      obtain ⟨b, hb⟩ := b
      have ea : a = 0 ∨ a = 1 ∨ a = 2 ∨ a = 3 ∨ a = 4 ∨ a = 5 ∨ a = 6 ∨ a = 7 ∨ a = 8 ∨ a = 9 ∨ a = 10 ∨ a = 11 ∨ a = 12 ∨ a = 13 ∨ a = 14 ∨ a = 15 := by omega
      have eb : b = 0 ∨ b = 1 ∨ b = 2 ∨ b = 3 ∨ b = 4 ∨ b = 5 ∨ b = 6 ∨ b = 7 ∨ b = 8 ∨ b = 9 ∨ b = 10 ∨ b = 11 ∨ b = 12 ∨ b = 13 ∨ b = 14 ∨ b = 15 := by omega
      rcases ea with rfl | rfl | rfl | rfl | rfl | rfl | rfl | rfl | rfl | rfl | rfl | rfl | rfl | rfl | rfl | rfl <;>
        (rcases eb with rfl | rfl | rfl | rfl | rfl | rfl | rfl | rfl | rfl | rfl | rfl | rfl | rfl | rfl | rfl | rfl <;> rfl)) ks (sg ks).toArray.size 0 #[] hk (by simp [sg_len]; omega)).symm.trans heq
  · cases z
  · have e := Except.ok.inj z
    rw [← e]
    refine PySem.W.KFB.if_so (by decide +kernel) ?_
    refine wpAny_bind (wpAny_mkBytes ?_ ?_)
    · rw [Array.empty_append]
      exact wpAny_pure h
    · have hz := PySem.sizeLine_eq
      simp
      omega
theorem fh_call {x : Addr} {ks : List Nat} {u : Tok} {Q : Value → Shared → Prop} (ho : s.heap.get? x = some fhBound) (hk : ∀ k ∈ ks, k < 256) (hl : ks.length ≤ 1000000)
    (h : Q (.bytes (ks.map Nat.toUInt8).toArray s.toks) { s with toks := s.toks + 1 }) : wpAny (model prog w) A (call (.ref x) [.str ⟨(sg ks).toArray⟩ u]) Q E s := by
  refine wpAny_call (codeAny_of_tree ?_)
  show wpAny _ A.in1 (callAny (.ref x) ⟨[.str ⟨(sg ks).toArray⟩ u], []⟩) _ _ s
  simp only [callAny]
  refine wpAny_bind (wpAny_load ho ?_)
  simp only [fhBound, show (Value.type "builtin_function_or_method" == Value.type "method" || Value.type "builtin_function_or_method" == Value.type "builtin_function_or_method" || Value.type "builtin_function_or_method" == Value.type "method-wrapper") = true by decide, if_true]
  refine PySem.W.KFB.if_so (by decide) ?_
  refine wpAny_bind (wpAny_of_eq (a := ()) fh_check ?_)
  refine wpAny_bind (wpAny_pure (wpAny_pure ?_))
  exact ⟨fh_quiet, codeAny_builtin fh_entry (fh_tree hk hl h)⟩
theorem fh_fields {pos : Pos} {u : Addr} {first : List Value} {args : List (Bool × Sem Value)} {Q : Value → Shared → Prop} (hplain : args.any (·.1) = false)
    (h : wpAny M A (evalArgs (.ref u) true args []) (fun x s₁ => s₁.heap.get? u = some fhBound ∧ wpAny M A (call (.ref u) (first ++ x.pos) x.kw) Q E s₁) E s) :
    wpAny M A (callWith pos (.ref u) first args []) Q E s := by
  unfold callWith
  refine wpAny_bind (wpAny_holding (wpAny_mono h (fun x s₁ hx => ?_) fun _ _ z => z))
  refine wpAny_bind (wpAny_standAt ?_)
  simp only [hplain, List.any_nil, Bool.or_false]
  refine wpAny_bind (m := keeperOf (.ref u)) ?_
  unfold keeperOf
  refine wpAny_bind (wpAny_load hx.1 ?_)
  simp only [fhBound, show (Value.type "builtin_function_or_method" != Value.type "method") = true by decide, show (Value.type "builtin_function_or_method" == Value.type "builtin_function_or_method" || Value.type "builtin_function_or_method" == Value.type "method-wrapper") = true by decide, if_true]
  refine wpAny_pure ?_
  exact wpAny_bind (wpAny_mono hx.2 (fun r s₂ hr => wpAny_bind (wpAny_holding (wpAny_point (wpAny_pure hr)))) fun _ _ z => z)
theorem fh_with {pos : Pos} {u : Addr} {first : List Value} {env : Env} {e : Expr} {rest : List Expr} {Q : Value → Shared → Prop}
    (h : wpAny M A (spliced (backTo pos (starEach (e :: rest) env))) (fun vs s₁ => s₁.heap.get? u = some fhBound ∧ wpAny M A (call (.ref u) (first ++ vs)) Q E s₁) E s)
    (he : starEach (e :: rest) env = (false, eval e env) :: starEach rest env := by rfl) (hplain : (backTo pos (starEach rest env)).any (·.1) = false := by rfl) :
    wpAny M A (callWith pos (.ref u) first (backTo pos (starEach (e :: rest) env)) []) Q E s := by
  rw [he] at h ⊢
  exact fh_fields (by show (false || (backTo pos (starEach rest env)).any (·.1)) = false; rw [hplain]; rfl) (Calls.evalArgs_plain h)
theorem fh_find (K : PySem.W.Frag) : PySem.W.findCls K (.type "bytes") (.type "type") (PySem.Str.ofString "fromhex") = some (.get (.builtin "classmethod_descriptor.__get__") (.builtin "bytes.fromhex") .none (.type "bytes")) := by first | rfl | kernel_rfl
theorem fh_get {pl : Sem Bool} {Q : Value × List Value → Shared → Prop} (X : K.In s.heap)
    (h : Q (.ref s.heap.objs.size, []) { s with heap := s.heap.push fhBound, toks := s.toks + 1 }) : wpAny (model prog w) A (getMethod (.type "bytes") (PySem.Str.ofString "fromhex") pl) Q E s := by
  have L0 : PySem.W.Looks (model prog w) s.heap (typeOf (.type "bytes")) (.type "type") := PySem.W.Looks.of_pure (by first | rfl | kernel_rfl)
  have LO : PySem.W.Looks (model prog w) s.heap (opaqueClassAbove (.type "bytes")) none := PySem.W.Looks.of_pure (by
    unfold opaqueClassAbove
    dsimp only
    rw [show Manifest.isStub "bytes" = false by decide +kernel]
    rfl)
  have hg : PySem.W.findIn K (.type "type") "__getattribute__" = some (some (.builtin "type.__getattribute__")) := PySem.W.type_tga
  unfold getMethod specialOf
  refine wpAny_bind (wpAny_bind (L0.here ((PySem.W.looks_findIn X hg).here ?_)))
  dsimp only
  rw [if_pos PySem.W.canon_tga]
  refine wpAny_bind (wpAny_mono (E := E) (Q := fun v => Q (v, [])) ?_ (fun _ _ z => wpAny_pure z) fun _ _ z => z)
  refine PySem.W.cls_open X LO L0 hg (PySem.W.looks_hook X (r := none) (by rfl)) (by show PySem.W.subIn K _ _ = _; rfl) (fh_find K) ?_
  show wpAny _ _ (holding [.builtin "bytes.fromhex"] (call (.builtin "classmethod_descriptor.__get__") [.builtin "bytes.fromhex", .none, .type "bytes"]) >>= fun v => ret v) _ _ _
  exact wpAny_bind (wpAny_holding (wpAny_call_entry PySem.W.KFB.slot_get fh_type PySem.W.KFB.entry_get (fh_run ⟨_, rfl, wpAny_pure (wpAny_pure h)⟩) (PySem.W.KFB.args_get _ _ _)))
end
def rFh : List V → Hp → VK → Prop := fun vs H Q => ∃ ks : List Nat, vs = [.str ⟨(sg ks).toArray⟩] ∧ (∀ k ∈ ks, k < 256) ∧ ks.length ≤ 1000000 ∧ Q (.byt (ks.map Nat.toUInt8).toArray) H
def tFh (to : TE) (t : TA) : TE := fun σ H Q => to σ H fun x H1 => x = .ty "bytes" ∧ ∀ u, H1 u = none → t σ (upd H1 u (fhHO u)) fun vs H2 => H2 u = some (fhHO u) ∧ rFh vs H2 Q
theorem fh_at {X : Cx} {pins : List (Addr × Obj)} {s : Shared} {σ : L2.St} {H : Hp} {u : Addr} (I : Inv X pins σ H s) (hu : H u = some (fhHO u)) : s.heap.get? u = some fhBound := by
  have x : ObjOk X.prog X.w H s.heap u (.ext fun h => h.get? u = some fhBound) := I.hok u _ hu
  exact x.1
section
variable {X : Cx} {o e : Expr} {es : List Expr} {to : TE} {t : TA} {apos pos : Pos}
theorem pe_fromhex {pl : Sem Bool} (ho : PE X o to) (ha : PA X (e :: es) t) (hst : starEach (e :: es) X.env = (false, eval e X.env) :: starEach es X.env := by rfl) (hpl : (backTo pos (starEach es X.env)).any (·.1) = false := by rfl)
    (ht : eval (.Call (.Attribute o "fromhex" apos) (e :: es) [] pos) X.env = (do
      let own ← eval o X.env
      standAt apos.atName
      let (f, first) ← holding [own] (getMethod own "fromhex" pl)
      callWith pos f first (backTo pos (starEach (e :: es) X.env)) (backToKw pos (keywordEach [] X.env))) := by rfl) :
    PE X (.Call (.Attribute o "fromhex" apos) (e :: es) [] pos) (tFh to t) := by
  constructor
  intro pins s σ H Q I h
  refine PySem.W.methodCall_KW (pl := pl) (thn (ho.run pins s σ H _ I h) fun v s1 ⟨x, H1, I1, rx, ex, q⟩ => ?_) ht
  subst ex
  obtain rfl : v = Value.type "bytes" := rx
  refine fh_get I1.kIn ?_
  have eb : (s1.heap.push fhBound).get? s1.heap.objs.size = some fhBound := Heap.get?_push_size _ rfl
  have I2 := I1.laid (t' := s1.toks + 1) (a := s1.heap.objs.size) (o := fhHO s1.heap.objs.size) (h' := s1.heap.push fhBound) (fun b u q => Heap.get?_push_of_some _ q) (Nat.le_refl _) ⟨eb, ⟨_, eb⟩, fun h1 h2 f k => k _ f⟩
  show wpAny _ _ (callWith pos (.ref s1.heap.objs.size) [] (backTo pos (starEach (e :: es) X.env)) []) _ _ _
  refine fh_with (thn (ha.run pos pins _ σ _ _ I2 (q _ (I1.hok.fresh (Nat.le_refl _)))) fun us s2 ⟨vs, H2, I3, rv, hu, ks, ev, hk, hl, qq⟩ => ⟨fh_at I3 hu, ?_⟩) hst hpl
  subst ev
  obtain ⟨u1, rfl, ru1⟩ := (vals1 rv)
  obtain ⟨t1, rfl⟩ := ru1
  exact fh_call (fh_at I3 hu) hk hl ⟨.byt _, H2, I3.tok _, ⟨_, rfl⟩, qq⟩
/-! ### b.hex() -/
theorem mt_hex : MtR X "bytes.hex" (fun x vs H Q => ∃ ks : List Nat, x = .byt (ks.map Nat.toUInt8).toArray ∧ vs = [] ∧ (∀ k ∈ ks, k < 256) ∧ ks.length ≤ 1000000 ∧ Q (.str ⟨(sg ks).toArray⟩) H) := by
  intro pins s σ H x vs v us Q I rx rv h
  obtain ⟨ks, rfl, rfl, hk, hl, q⟩ := h
  obtain ⟨t, rfl⟩ := rx
  cases rv
  have hb : PySem.W.KBw.bInts (ks.map Nat.toUInt8).toArray = ks.map fun (k : Nat) => (k : Int) := by
    unfold PySem.W.KBw.bInts
    show ((ks.map Nat.toUInt8).map fun c : UInt8 => ((c.toNat : Nat) : Int)) = _
    rw [List.map_map]
    refine (List.map_congr_left fun n hn => ?_)
    show (((n.toUInt8).toNat : Nat) : Int) = n
    have := hk n hn
    simp [Nat.toUInt8]
    omega
  have ht : PySem.W.KBhx.text (ks.map fun (k : Nat) => (k : Int)) = ⟨(sg ks).toArray⟩ := by
    unfold PySem.W.KBhx.text PySem.W.KBhx.signs sg
    rw [List.flatMap_map]
    rfl
  refine PySem.W.KBhx.hex_K hb (by rw [List.length_map]; omega) fun t' k _ => ?_
  rw [ht]
  exact ⟨.str _, H, I.tok _, ⟨_, rfl⟩, q⟩
end
end K3

namespace K3
open PySem PySem.Spec PyProof.Rows L2
/-! ### of_hex, hex_of -/
def sgS (ks : List Nat) : Str := ⟨(sg ks).toArray⟩
def byB (ks : List Nat) : Array UInt8 := (ks.map Nat.toUInt8).toArray
def hexTab : Str := "0123456789abcdef"
theorem dg_in {n : Nat} (h : n < 16) : dg n ∈ hexTab.cps.toList := by
  have : ∀ m : Fin 16, dg m.1 ∈ hexTab.cps.toList := by decide +kernel
  exact this ⟨n, h⟩
theorem sg_in : ∀ {ks : List Nat}, (∀ k ∈ ks, k < 256) → ∀ c ∈ sg ks, c ∈ hexTab.cps.toList
  | [], _, c, h => by (cases h)
  | k :: ks, hk, c, h => by
    have k0 : k < 256 := hk k (by simp)
    have h' : c ∈ [dg (k / 16), dg (k % 16)] ++ sg ks := h
    rcases (List.mem_append.mp h') with (q | q)
    · simp at q
      rcases q with rfl | rfl
      · exact dg_in (by omega)
      · exact dg_in (by omega)
    · exact sg_in (fun k m => hk k (by simp [m])) c q
theorem scOfHex : FnScope ["text", "sign"] ["text"] (defScope sOfHex) := ⟨rfl, rfl, rfl, by decide +kernel, rfl, by decide +kernel, by decide +kernel⟩
section
variable {P : Program} {w : World} {K : PySem.W.Frag} {mg : Str → Option Value} {base : Heap}
def spOfHex : Sp := fun vs H Q _ => ∃ ks : List Nat, vs = [.str (sgS ks)] ∧ (∀ k ∈ ks, k < 256) ∧ ks.length ≤ 100000 ∧ ∀ H', Same H H' → Q (.byt (byB ks)) H'
theorem ok_ofHex {f : Addr} {fd : FuncData} {j : Nat} {t : Tok} (F : Fun K "of_hex" "of_hex" sOfHex f fd) (m1 : mg "isinstance" = none) (m2 : mg "str" = none) (m3 : mg "len" = none) (m4 : mg "all" = none) (m5 : mg "bytes" = none) (c1 : mg "SIGNS" = some (.str hexTab t)) :
    FnOk P w K mg base CX0 (j + 1) f fd ["text"] spOfHex := by
  refine F.ok scOfHex (fun vs H Q E h => ?_) (fun cdv A outer s H vs Q E hr h => ?_)
  · obtain ⟨ks, rfl, _⟩ := h
    rfl
  · obtain ⟨ks, rfl, hk, hl, q⟩ := h
    refine ⟨_, pss_cons (ps_if (PW.pt (pw_or (pt_not (pt_val (pe_callB call_isi (by rfl) m1 (by decide +kernel) (pa_cons (pv 0) (pa_cons (pe_bltn (v := .ty "str") (by rfl) m2 (by decide +kernel) rfl) pa_nil)))))
        (pw_or (pt_truth (pe_op op_and (pe_callB call_len_str (by rfl) m3 PySem.boot_len (pa_cons (pv 0) pa_nil)) pe_int) (by intro _; rfl))
        (pw_or1 (pt_not (pt_val (pe_callB (cr_all rfl) (by rfl) m4 (by decide +kernel) (pa_cons (pe_lc (own := [("sign", 1)]) (g := gName 1) (tt := tYes) rfl scOfHex.nd (pi_str (pv 0)) (blkOk_by (N := ["text", "sign"]) (sc := defScope sOfHex) (by decide +kernel))
          (fun _ _ _ _ _ => pg_name (i := 1) scOfHex.nd rfl (Or.inl rfl)) (fun _ _ _ _ _ => pts_nil)
          (fun _ _ _ _ _ => pe_cmpR op_in_sign (pv 1) (pe_glob (v := .str hexTab) rfl c1 ⟨_, rfl⟩) (by with_unfolding_all rfl))) pa_nil))))))))
        (pss_one ps_never) pss_nil)
      (pss_one (ps_ret (pe_fromhex (pe_bltn (v := .ty "bytes") (by rfl) m5 (by decide +kernel) rfl) (pa_cons (pv 0) pa_nil)))), ?_⟩
    have hsz : (sgS ks).length = 2 * ks.length := sg_len ks
    have hz := PySem.sizeLine_eq
    refine ⟨_, rfl, _, _, _, _, _, rfl, .ty "str", .base (.str _), kit_ty (a := "str") (r := true) (by decide +kernel), _, rfl, ?_⟩
    refine iteF ?_
    refine ⟨_, rfl, _, rfl, by rw [hsz, hz]; omega, _, _, rfl, rfl, _, rfl, ?_⟩
    have hev : Builtin.bitAnd (((sgS ks).length : Nat) : Int) 1 = 0 := by
      rw [PyProof.Rows.bitAnd_m1, hsz]
      omega
    rw [hev]
    refine iteF ?_
    refine ⟨_, rfl, _, rfl, fun D nD => ?_⟩
    refine lc_it (walk_str (z := sgS ks)) (fun i H' => Same H H' ∧ H' D = some (.lst (List.replicate i (.bl true)))) ⟨same_upd nD, upd_same⟩ (fun _ _ _ _ => trivial) (fun i x H1 H2 hi h y => ?_) (fun H' h => ?_)
    · obtain ⟨rfl, c, hc, rfl⟩ := y
      refine ⟨rfl, yes ?_⟩
      have hcs : c ∈ sg ks := by
        have := Array.mem_of_getElem? hc
        simpa [sgS] using this
      refine ⟨_, rfl, c, hexTab, rfl, rfl, _, h.2, ?_, same_put h.1 nD, ?_⟩
      · rw [List.length_replicate]
        have : (sgS ks).cps.size = 2 * ks.length := hsz
        omega
      · rw [upd_same, decide_eq_true (sg_in hk c hcs), List.replicate_succ']
    · have hall : (List.replicate (sgS ks).cps.size true).all id = true := by simp
      refine ⟨D, List.replicate (sgS ks).cps.size true, rfl, .inl (.inl (by rw [h.2, List.map_replicate])), _, rfl, ?_⟩
      rw [hall]
      refine iteF ?_
      refine ⟨rfl, fun u nu => ⟨_, rfl, upd_same, ks, rfl, hk, by omega, ?_⟩⟩
      exact q _ (same_put h.1 (none_back h.1 nu))
end
end K3

namespace K3
open PySem PySem.Spec PyProof.Rows L2 TL
section
variable {X : Cx} {o : Expr} {to : TE}
def tB0 (r : V → List V → Hp → VK → Prop) (to : TE) : TE := fun σ H Q => to σ H fun x H1 => (∃ b, x = .byt b) ∧ r x [] H1 Q
theorem pe_b0 {id : String} {name : Str} {apos pos : Pos} {r : V → List V → Hp → VK → Prop} (slot : Slot "bytes" name id) (ty : typeOf (.builtin id) = pure (.type "method_descriptor")) (rule : MtR X id r) (ho : PE X o to)
    (hbase : attributeBase o name X.env (eval o X.env) = eval o X.env := by rfl) (hline : (apos.endLine == pos.line) = true := by rfl) : PE X (.Call (.Attribute o name apos) [] [] pos) (tB0 r to) := by
  constructor
  intro pins s σ H Q I h
  refine PySem.Call_method0 hbase hline (thn (ho.run pins s σ H _ I h) fun v s1 ⟨x, H1, I1, r1, ⟨b, eb⟩, q1⟩ => ?_)
  subst eb
  obtain ⟨t, rfl⟩ := _root_.id r1
  exact ⟨"bytes", _, PySem.W.FB.plainAttrs_bytes, slot, ty, PySem.W.typeIs_bytes _ _ _, (fun _ e => nomatch e), Calls.callWith_builtin rfl (PySem.evalArgs_none (rule pins s1 σ H1 _ [] _ [] Q I1 r1 .nil q1))⟩
end
section
variable {P : Program} {w : World} {K : PySem.W.Frag} {mg : Str → Option Value} {base : Heap}
/-! ### _law_hex -/
theorem scHex : FnScope ["_law_numbers_here", "_law_one"] ["_law_numbers_here"] (defScope sHex) := ⟨rfl, rfl, rfl, by decide +kernel, rfl, by decide +kernel, by decide +kernel⟩
theorem tab_at {n : Nat} (h : n < 16) : atI hexTab.cps.toList ((n : Nat) : Int) = some (dg n) := by
  have : ∀ m : Fin 16, hexTab.cps.toList[m.1]? = some (dg m.1) := by decide +kernel
  exact atI_nat (this ⟨n, h⟩)
def two (k : Nat) : Str := ⟨#[dg (k / 16)]⟩ ++ ⟨#[dg (k % 16)]⟩
theorem joinL_nil : ∀ ls : List (List Nat), joinL [] ls = ls.flatten
  | [] => rfl
  | [p] => by simp [joinL]
  | p :: q :: r => by
    show p ++ ([] ++ joinL [] (q :: r)) = _
    rw [joinL_nil (q :: r)]
    rfl
theorem join_two (ks : List Nat) : Txt.join "" (ks.map two) = sgS ks := by
  refine (List.cons.inj (map_tl_inj (l := [_]) (m := [_]) ?_)).1
  rw [List.map_singleton, List.map_singleton, join_eq, tl_join]
  show [joinL [] ((ks.map two).map tl)] = [(sg ks)]
  rw [joinL_nil, List.map_map]
  congr 1
def spHex : Sp := fun vs H Q _ => ∃ (p : Addr) (ks : List Nat), vs = [.ref p] ∧ H p = some (.lst (ks.map fun (k : Nat) => V.int (k : Int))) ∧ (∀ k ∈ ks, k < 256) ∧ ks.length ≤ 100000 ∧ ∀ H', Same H H' → Q (.str (sgS ks)) H'
theorem ok_hex {f : Addr} {fd : FuncData} {j : Nat} (F : Fun K "_law_hex" "_law_hex" sHex f fd) (m1 : mg "int" = none) : FnOk P w K mg base CX0 (j + 1) f fd ["_law_numbers_here"] spHex := by
  refine F.ok scHex (fun vs H Q E h => ?_) (fun cdv A outer s H vs Q E hr h => ?_)
  · obtain ⟨p, ks, rfl, _⟩ := h
    rfl
  · obtain ⟨p, ks, rfl, hp, hk, hl, q⟩ := h
    refine ⟨_, pss_one (ps_ret (pe_join pe_str (pe_lc (own := [("_law_one", 1)]) (g := gName 1) (tt := tYes) rfl scHex.nd (pi_list (pv 0)) (blkOk_by (N := ["_law_numbers_here", "_law_one"]) (sc := defScope sHex) (by decide +kernel))
        (fun _ _ _ _ _ => pg_name (i := 1) scHex.nd rfl (Or.inl rfl)) (fun _ _ _ _ _ => pts_nil)
        (fun _ _ _ _ _ => pe_op op_add_str (pe_ix ix_str pe_str (pe_op op_fdivN (pv 1) pe_int) (fun _ _ => rfl)) (pe_ix ix_str pe_str (pe_op op_modN (pe_callTy call_int1 (by rfl) m1 (by decide +kernel) (pa_cons (pv 1) pa_nil)) pe_int) (fun _ _ => rfl)))))), ?_⟩
    refine ⟨⟨_, rfl⟩, _, rfl, p, rfl, ⟨_, .inl (.inl hp)⟩, fun D nD => ?_⟩
    have hz := PySem.sizeLine_eq
    refine lc_list (K := K) (a := p) (xs := ks.map fun (k : Nat) => V.int (k : Int)) (fun i H' => Same H H' ∧ H' D = some (.lst (((ks.take i).map two).map V.str))) ⟨same_upd nD, upd_same⟩ (fun i H' _ h => .inl (.inl (h.1 _ _ hp))) (fun i x H1 hx h => ?_) (fun H1 h => ?_)
    · obtain ⟨k, hk', rfl⟩ : ∃ k, ks[i]? = some k ∧ x = V.int (k : Int) := by
        rw [List.getElem?_map] at hx
        cases e : ks[i]? with
        | none => (rw [e] at hx); (cases hx)
        | some k => rw [e] at hx; exact ⟨k, rfl, (Option.some.inj hx).symm⟩
      have k0 := hk k (List.mem_of_getElem? hk')
      have e1 : ((k : Nat) : Int).fdiv 16 = ((k / 16 : Nat) : Int) := by
        rw [Int.fdiv_eq_ediv_of_nonneg _ (by decide)]
        rfl
      have e2 : ((k : Nat) : Int).fmod 16 = ((k % 16 : Nat) : Int) := by
        rw [Int.fmod_eq_emod_of_nonneg _ (by decide)]
        rfl
      refine ⟨rfl, yes ?_⟩
      refine ⟨_, rfl, _, _, rfl, rfl, ⟨by decide, by decide⟩, hexTab, _, dg (k / 16), rfl, rfl, (by rw [hz]; decide), (by rw [e1]; exact tab_at (by omega)), ?_⟩
      refine ⟨_, rfl, .inl ⟨_, rfl, _, _, rfl, rfl, (by show (16 : Int) ≠ 0; decide), hexTab, _, dg (k % 16), rfl, rfl, (by rw [hz]; decide), (by rw [e2]; exact tab_at (by omega)), ?_⟩⟩
      refine ⟨_, _, rfl, rfl, (by rw [hz]; show 1 + 1 ≤ 16777216; decide), _, h.2, ?_, same_put h.1 nD, ?_⟩
      · rw [List.length_map, List.length_map, List.length_take]
        omega
      · rw [upd_same, List.take_add_one, hk', List.map_append, List.map_append]
        rfl
    · have e : ks.take (ks.map fun (k : Nat) => V.int (k : Int)).length = ks := by rw [List.length_map, List.take_length]
      rw [e] at h
      have hsum : ((ks.map two).map (·.length)).sum = 2 * ks.length := by
        rw [List.map_map]
        have : ((fun x : Str => x.length) ∘ two) = fun _ => 2 := by
          funext k
          rfl
        rw [this]
        clear this h e hp hk q hl
        induction ks with
        | nil => rfl
        | cons k ks ih =>
          rw [List.map_cons, List.sum_cons, ih, List.length_cons]
          omega
      refine ⟨_, D, ks.map two, rfl, rfl, .inl (.inl (.inl h.2)), ?_, ?_⟩
      · rw [hsum, List.length_map]
        show 2 * ks.length + ks.length * 0 ≤ _
        omega
      · rw [join_two]
        exact q H1 h.1
end
end K3

namespace K3
open PySem PySem.Spec PyProof.Rows L2 TL
theorem scHexOf : FnScope ["told"] ["told"] (defScope sHexOf) := ⟨rfl, rfl, rfl, by decide +kernel, rfl, by decide +kernel, by decide +kernel⟩
section
variable {P : Program} {w : World} {K : PySem.W.Frag} {mg : Str → Option Value} {base : Heap}
def spHexOf : Sp := fun vs H Q _ => ∃ ks : List Nat, vs = [.byt (byB ks)] ∧ (∀ k ∈ ks, k < 256) ∧ ks.length ≤ 100000 ∧ Q (.str (sgS ks)) H
theorem ok_hexOf {f : Addr} {fd : FuncData} {j : Nat} (F : Fun K "hex_of" "hex_of" sHexOf f fd) (m1 : mg "isinstance" = none) (m5 : mg "bytes" = none) : FnOk P w K mg base CX0 (j + 1) f fd ["told"] spHexOf := by
  refine F.ok scHexOf (fun vs H Q E h => ?_) (fun cdv A outer s H vs Q E hr h => ?_)
  · obtain ⟨ks, rfl, _⟩ := h
    rfl
  · obtain ⟨ks, rfl, hk, hl, q⟩ := h
    refine ⟨_, pss_cons (ps_if (pt_not (pt_val (pe_callB call_isi (by rfl) m1 (by decide +kernel) (pa_cons (pv 0) (pa_cons (pe_bltn (v := .ty "bytes") (by rfl) m5 (by decide +kernel) rfl) pa_nil))))) (pss_one ps_never) pss_nil)
      (pss_one (ps_ret (pe_b0 PySem.W.FB.slot_bytes_hex PySem.W.FB.type_bytes_hex mt_hex (pv 0)))), ?_⟩
    refine ⟨_, rfl, _, _, _, _, _, rfl, .ty "bytes", .byt _, kit_ty (a := "bytes") (r := true) (by decide +kernel), _, rfl, iteF ?_⟩
    exact ⟨_, rfl, ⟨_, rfl⟩, ks, rfl, rfl, hk, by omega, q⟩
end
end K3

namespace K3
open PySem PySem.Spec PyProof.Rows L2
/-! ### _law_back -/
theorem scBack : FnScope ["_law_back_here", "_law_found"] ["_law_back_here"] (defScope sBack) := ⟨rfl, rfl, rfl, by decide +kernel, rfl, by decide +kernel, by decide +kernel⟩
section
variable {P : Program} {w : World} {K : PySem.W.Frag} {mg : Str → Option Value} {base : Heap}
def spBack : Sp := fun vs H Q _ => ∃ b : Nat, vs = [.int (b : Int)] ∧ 1 ≤ b ∧ b ≤ 5000 ∧ Q (.int ((Nat.log2 b : Nat) : Int)) H
theorem ok_back {f : Addr} {fd : FuncData} {j : Nat} (F : Fun K "_law_back" "_law_back" sBack f fd) : FnOk P w K mg base CX0 (j + 1) f fd ["_law_back_here"] spBack := by
  refine F.ok scBack (fun vs H Q E h => ?_) (fun cdv A outer s H vs Q E hr h => ?_)
  · obtain ⟨b, rfl, _⟩ := h
    rfl
  · obtain ⟨b, rfl, h1, h2, q⟩ := h
    refine ⟨_, pss_cons (ps_set (i := 1) scBack.nd rfl (.inl rfl) pe_int)
      (pss_cons (ps_while PassesOwn.never (pt_cmpR op_le (pe_op op_shl pe_int (pv 1)) (pv 0) (nomark _))
        (pss_one (ps_set (i := 1) scBack.nd rfl (.inl rfl) (pe_op op_add (pv 1) pe_int))))
      (pss_one (ps_ret (pv 1)))), ?_⟩
    refine ⟨fun m σ H' => ∃ c : Nat, m = 5000 - c ∧ c ≤ 20 ∧ H' = H ∧ σ = [some (.int (b : Int)), some (.int (c : Int))] ∧ 2 ^ c ≤ b, ⟨5000, 0, rfl, by omega, rfl, rfl, by simpa using h1⟩, fun m σ H' hW => ?_⟩
    obtain ⟨c, rfl, hc, rfl, rfl, hle⟩ := hW
    refine ⟨_, rfl, _, _, rfl, rfl, ⟨by omega, by omega, by decide⟩, _, rfl, _, _, rfl, rfl, _, rfl, ?_⟩
    have e2 : (2 : Int) * 2 ^ ((c : Int)).toNat = ((2 ^ (c + 1) : Nat) : Int) := by
      rw [Int.toNat_natCast, Nat.pow_succ, Nat.mul_comm]
      push_cast
      rfl
    rw [e2]
    refine ite2 (fun e => ?_) (fun e => ?_)
    · have e3 : 2 ^ (c + 1) ≤ b := by
        have := of_decide_eq_true e
        omega
      have hc12 : c < 12 := by
        refine Nat.lt_of_not_le fun z => ?_
        have : 2 ^ 13 ≤ 2 ^ (c + 1) := Nat.pow_le_pow_right (by decide) (by omega)
        omega
      refine ⟨fun σ' H'' => ∃ m', m' < 5000 - c ∧ ∃ c : Nat, m' = 5000 - c ∧ c ≤ 20 ∧ H'' = H' ∧ σ' = [some (.int (b : Int)), some (.int (c : Int))] ∧ 2 ^ c ≤ b, fun σ' H'' h => h, ?_⟩
      exact ⟨_, rfl, _, _, rfl, rfl, 5000 - (c + 1), by omega, c + 1, rfl, by omega, rfl, by simp, e3⟩
    · have e3 : ¬ 2 ^ (c + 1) ≤ b := fun z => e (decide_eq_true (by omega))
      have : Nat.log2 b = c := by
        refine (Nat.log2_eq_iff (by omega)).mpr ⟨hle, by omega⟩
      rw [this] at q
      exact ⟨_, rfl, q⟩
end
end K3

namespace K3
open PySem PySem.Spec PyProof.Rows L2
/-! ### _law_told_lengths -/
def toldL : List Int := List.replicate 239 8 ++ List.replicate 34 9
def toldB : List Int := List.replicate 6 4 ++ List.replicate 5 3
theorem rep_flat (n : Nat) (x : V) : (List.replicate n [x]).flatten = List.replicate n x := by
  induction n with
  | zero => rfl
  | succ n ih => rw [List.replicate_succ, List.flatten_cons, ih, List.replicate_succ]; rfl
theorem half {σ : L2.St} {H : Hp} {Q : VK} (x1 x2 : V) (n1 n2 : Nat) (h1 : n1 ≤ 1000) (h2 : n2 ≤ 1000)
    (h : ∀ H' p, Same H H' → H p = none → H' p = some (.lst (List.replicate n1 x1 ++ List.replicate n2 x2)) → Q (.ref p) H') :
    tOp rCat (tOp rRep (tLst (tCons (tC x1) tNil)) (tC (V.int (n1 : Int)))) (tOp rRep (tLst (tCons (tC x2) tNil)) (tC (V.int (n2 : Int)))) σ H Q := by
  have hz := PySem.sizeLine_eq
  refine ⟨by show 1 ≤ sizeLine; rw [hz]; decide, fun a na => ⟨_, _, _, rfl, rfl, upd_same, by omega, by omega, by rw [hz]; simp; omega, fun b nb => ⟨by show 1 ≤ sizeLine; rw [hz]; decide, fun a2 na2 => ⟨_, _, _, rfl, rfl, upd_same, by omega, by omega, by rw [hz]; simp; omega, fun b2 nb2 => ?_⟩⟩⟩⟩
  rw [Int.toNat_natCast, Int.toNat_natCast, rep_flat, rep_flat] at *
  have s1 : Same H (upd H a (.lst [x1])) := same_upd na
  generalize upd H a (.lst [x1]) = H1 at *
  have s2 : Same H1 (upd H1 b (.lst (List.replicate n1 x1))) := same_upd nb
  have e2 : (upd H1 b (.lst (List.replicate n1 x1))) b = some (.lst (List.replicate n1 x1)) := upd_same
  generalize upd H1 b (.lst (List.replicate n1 x1)) = H2 at *
  have s3 : Same H2 (upd H2 a2 (.lst [x2])) := same_upd na2
  generalize upd H2 a2 (.lst [x2]) = H3 at *
  have s4 : Same H3 (upd H3 b2 (.lst (List.replicate n2 x2))) := same_upd nb2
  have e4 : (upd H3 b2 (.lst (List.replicate n2 x2))) b2 = some (.lst (List.replicate n2 x2)) := upd_same
  generalize upd H3 b2 (.lst (List.replicate n2 x2)) = H4 at *
  have s14 := ((s1.trans s2).trans s3).trans s4
  refine ⟨_, _, _, _, rfl, rfl, s4 _ _ (s3 _ _ e2), e4, by rw [List.length_replicate, List.length_replicate, hz]; omega, fun p np => ?_⟩
  exact h _ p (s14.trans (same_upd np)) (none_back s14 np) upd_same
theorem scTold : FnScope [] [] (defScope sTold) := ⟨rfl, rfl, rfl, by decide +kernel, rfl, by decide +kernel, by decide +kernel⟩
section
variable {P : Program} {w : World} {K : PySem.W.Frag} {mg : Str → Option Value} {base : Heap}
def spTold : Sp := fun vs H Q _ => vs = [] ∧ ∀ H' t p q, Same H H' → H' t = some (.tup [.ref p, .ref q]) → H' p = some (.lst (toldL.map V.int)) → H' q = some (.lst (toldB.map V.int)) → H t = none → H p = none → H q = none → Q (.ref t) H'
theorem ok_told {f : Addr} {fd : FuncData} {j : Nat} (F : Fun K "_law_told_lengths" "_law_told_lengths" sTold f fd) : FnOk P w K mg base CX0 (j + 1) f fd [] spTold := by
  refine F.ok scTold (fun vs H Q E h => ?_) (fun cdv A outer s H vs Q E hr h => ?_)
  · obtain ⟨rfl, _⟩ := h
    rfl
  · obtain ⟨rfl, q⟩ := h
    have hz := PySem.sizeLine_eq
    refine ⟨_, pss_one (ps_ret (pe_tup (pa_cons (pe_op op_cat (pe_op op_rep (pe_lst (pa_cons pe_int pa_nil)) pe_int) (pe_op op_rep (pe_lst (pa_cons pe_int pa_nil)) pe_int))
      (pa_cons (pe_op op_cat (pe_op op_rep (pe_lst (pa_cons pe_int pa_nil)) pe_int) (pe_op op_rep (pe_lst (pa_cons pe_int pa_nil)) pe_int)) pa_nil)))), ?_⟩
    refine half (.int 8) (.int 9) 239 34 (by decide) (by decide) fun H1 p s1 np hp => ?_
    refine half (.int 4) (.int 3) 6 5 (by decide) (by decide) fun H2 p2 s2 np2 hp2 => ?_
    refine ⟨by show 2 ≤ sizeLine; rw [hz]; decide, fun t nt => ?_⟩
    have s12 := s1.trans s2
    refine q _ t p p2 (s12.trans (same_upd nt)) upd_same ?_ ?_ (none_back s12 nt) np (none_back s1 np2)
    · have := same_upd (o := .tup [.ref p, .ref p2]) nt _ _ (s2 _ _ hp)
      rw [this]
      simp [toldL]
    · have := same_upd (o := .tup [.ref p, .ref p2]) nt _ _ hp2
      rw [this]
      simp [toldB]
end
end K3

namespace K3
open PySem PySem.Spec PyProof.Rows L2
/-! ### items and _law_cost -/
inductive Itm where
  | b (k : Nat)
  | c (many back : Nat)
def ItmAt (H : Hp) : Itm → V → Prop
  | .b k, v => v = .int (k : Int)
  | .c m r, v => ∃ t, v = .ref t ∧ H t = some (.tup [.int (m : Int), .int (r : Int)])
def ItmOk : Itm → Prop
  | .b k => k < 256
  | .c m r => 3 ≤ m ∧ m ≤ 18 ∧ 1 ≤ r ∧ r ≤ 1024
theorem ItmAt.same {H H' : Hp} {it : Itm} {v : V} (h : ItmAt H it v) (s : Same H H') : ItmAt H' it v := by
  cases it with
  | b k => exact h
  | c m r =>
    obtain ⟨t, e, ht⟩ := h
    exact ⟨t, e, s _ _ ht⟩
def costO (L B : List Int) : Itm → Option Int
  | .b k => if 0 < L.getD k 0 then some (L.getD k 0) else none
  | .c m r => if L.getD (254 + m) 0 = 0 ∨ B.getD (Nat.log2 r) 0 = 0 then none else some (L.getD (254 + m) 0 + B.getD (Nat.log2 r) 0 + (Nat.log2 r : Nat))
def optV : Option Int → V
  | none => .non
  | some i => .int i
theorem at_getD {L : List Int} {k : Nat} (h : k < L.length) : atI (L.map V.int) (k : Int) = some (.int (L.getD k 0)) := by
  refine atI_nat ?_
  rw [List.getElem?_map, List.getElem?_eq_getElem h, List.getD_eq_getElem?_getD, List.getElem?_eq_getElem h]
  rfl
theorem scCost : FnScope ["_law_item", "_law_letters", "_law_backs", "_law_sort"] ["_law_item", "_law_letters", "_law_backs"] (defScope sCost) := ⟨rfl, rfl, rfl, by decide +kernel, rfl, by decide +kernel, by decide +kernel⟩
section
variable {P : Program} {w : World} {K : PySem.W.Frag} {mg : Str → Option Value} {base : Heap}
def spCost : Sp := fun vs H Q _ => ∃ (v : V) (it : Itm) (pL pB : Addr) (L B : List Int), vs = [v, .ref pL, .ref pB] ∧ ItmAt H it v ∧ ItmOk it ∧ H pL = some (.lst (L.map V.int)) ∧ H pB = some (.lst (B.map V.int)) ∧ L.length = 273 ∧ B.length = 11 ∧ Q (optV (costO L B it)) H
theorem ok_cost {f fB : Addr} {fd fdB : FuncData} {j : Nat} (F : Fun K "_law_cost" "_law_cost" sCost f fd) (GB : FnOk P w K mg base CX0 (j + 1) fB fdB ["_law_back_here"] spBack) (bB : Binds K fdB ["_law_back_here"] []) (kB : PySem.W.keepIn K (.ref fB) = true) (gB : mg "_law_back" = some (.ref fB))
    (m1 : mg "isinstance" = none) (m2 : mg "int" = none) : FnOk P w K mg base CX0 (j + 2) f fd ["_law_item", "_law_letters", "_law_backs"] spCost := by
  refine F.ok scCost (fun vs H Q E h => ?_) (fun cdv A outer s H vs Q E hr h => ?_)
  · obtain ⟨v, it, pL, pB, L, B, rfl, _⟩ := h
    rfl
  · obtain ⟨v, it, pL, pB, L, B, rfl, hi, ok, hL, hB, lL, lB, q⟩ := h
    refine ⟨_, pss_cons (ps_if (pt_val (pe_callB call_isi (by rfl) m1 (by decide +kernel) (pa_cons (pv 0) (pa_cons (pe_bltn (v := .ty "int") (by rfl) m2 (by decide +kernel) rfl) pa_nil))))
        (pss_one (ps_ret (pe_ifExp (pt_cmpR op_gt (pe_ix ix_list (pv 1) (pv 0) (fun _ _ => rfl)) pe_int (nomark _)) (pe_ix ix_list (pv 1) (pv 0) (fun _ _ => rfl)) pe_non))) pss_nil)
      (pss_cons (ps_set (i := 3) scCost.nd rfl (.inl rfl) (pe_call GB hr (by rfl) gB kB bB .nil pass0 (pa_cons (pe_ix ix_tup (pv 0) pe_int (fun _ _ => rfl)) pa_nil)))
      (pss_cons (ps_if (PW.pt (pw_or (pt_cmpR op_eq (pe_ix ix_list (pv 1) (pe_op op_add pe_int (pe_ix ix_tup (pv 0) pe_int (fun _ _ => rfl))) (fun _ _ => rfl)) pe_int (nomark _)) (pw_or1 (pt_cmpR op_eq (pe_ix ix_list (pv 2) (pv 3) (fun _ _ => rfl)) pe_int (nomark _))))) (pss_one (ps_ret pe_non)) pss_nil)
      (pss_one (ps_ret (pe_op op_add (pe_op op_add (pe_ix ix_list (pv 1) (pe_op op_add pe_int (pe_ix ix_tup (pv 0) pe_int (fun _ _ => rfl))) (fun _ _ => rfl)) (pe_ix ix_list (pv 2) (pv 3) (fun _ _ => rfl))) (pv 3)))))), ?_⟩
    cases it with
    | b k =>
      have ek : v = .int (k : Int) := hi
      subst ek
      have k0 : k < 256 := ok
      have ea := at_getD (L := L) (k := k) (by omega)
      refine ⟨_, rfl, _, _, _, _, _, rfl, .ty "int", .base (.int _), kit_ty (a := "int") (r := true) (by decide +kernel), _, rfl, iteT ?_⟩
      refine ⟨_, rfl, _, rfl, pL, _, _, _, rfl, rfl, .inl (.inl hL), ea, _, _, rfl, rfl, _, rfl, ?_⟩
      have q : Q (optV (if 0 < L.getD k 0 then some (L.getD k 0) else none)) H := q
      refine ite2 (fun e => ?_) (fun e => ?_)
      · rw [if_pos (of_decide_eq_true e)] at q
        exact ⟨_, rfl, _, rfl, pL, _, _, _, rfl, rfl, .inl (.inl hL), ea, q⟩
      · rw [if_neg (fun z => e (decide_eq_true z))] at q
        exact q
    | c m r =>
      obtain ⟨t, ev, ht⟩ := hi
      subst ev
      obtain ⟨o1, o2, o3, o4⟩ := ok
      have hlog : Nat.log2 r < 11 := (Nat.log2_lt (by omega)).mpr (by omega)
      have ea := at_getD (L := L) (k := 254 + m) (by omega)
      have eb := at_getD (L := B) (k := Nat.log2 r) (by omega)
      have ec : ((254 + m : Nat) : Int) = 254 + (m : Int) := by push_cast; rfl
      rw [ec] at ea
      refine ⟨_, rfl, _, _, .type "tuple", _, false, rfl, .ty "int", .base (.tup ht), kit_ty (a := "tuple") (r := false) (by decide +kernel), _, rfl, iteF ?_⟩
      refine ⟨_, rfl, t, _, 1, _, rfl, rfl, .inl (.inl ht), rfl, r, rfl, o3, by omega, ?_⟩
      have q : Q (optV (if L.getD (254 + m) 0 = 0 ∨ B.getD (Nat.log2 r) 0 = 0 then none else some (L.getD (254 + m) 0 + B.getD (Nat.log2 r) 0 + (Nat.log2 r : Nat)))) H := q
      refine ⟨_, rfl, _, rfl, t, _, 0, _, rfl, rfl, .inl (.inl ht), rfl, _, _, rfl, rfl, pL, _, _, _, rfl, rfl, .inl (.inl hL), ea, rfl, _, rfl, ite2 (fun e => ?_) (fun e => ?_)⟩
      · have e1 : V.int (L.getD (254 + m) 0) = V.int 0 := of_decide_eq_true e
        rw [if_pos (.inl (V.int.inj e1))] at q
        exact q
      · have e1 : ¬ L.getD (254 + m) 0 = 0 := fun z => e (decide_eq_true (congrArg V.int z))
        refine ⟨_, rfl, _, rfl, pB, _, _, _, rfl, rfl, .inl (.inl hB), eb, rfl, _, rfl, ite2 (fun e => ?_) (fun e => ?_)⟩
        · have e2 : V.int (B.getD (Nat.log2 r) 0) = V.int 0 := of_decide_eq_true e
          rw [if_pos (.inr (V.int.inj e2))] at q
          exact q
        · have e2 : ¬ B.getD (Nat.log2 r) 0 = 0 := fun z => e (decide_eq_true (congrArg V.int z))
          rw [if_neg (fun z => z.elim e1 e2)] at q
          exact ⟨_, rfl, _, rfl, t, _, 0, _, rfl, rfl, .inl (.inl ht), rfl, _, _, rfl, rfl, pL, _, _, _, rfl, rfl, .inl (.inl hL), ea, _, rfl, _, rfl, pB, _, _, _, rfl, rfl, .inl (.inl hB), eb, _, _, rfl, rfl, _, rfl, _, _, rfl, rfl, q⟩
end
end K3

namespace K3
open PySem PySem.Spec PyProof.Rows L2
theorem ixL {X : Cx} (K : PySem.W.Frag) (h : X.K = K := by rfl) : IxR X (rIxL K) := by subst h; exact ix_list
/-! ### _law_data -/
abbrev NDa : List Str := ["_law_script", "_law_at", "_law_most", "_law_found", "_law_many", "_law_k", "_law_digits", "_law_begin", "_law_turn"]
theorem scData : FnScope NDa ["_law_script", "_law_at", "_law_most"] (defScope sData) := ⟨rfl, rfl, rfl, by decide +kernel, rfl, by decide +kernel, by decide +kernel⟩
def bys (ks : List Nat) : List V := (ks.map fun (k : Nat) => (k : Int)).map V.int
theorem bys_eq (ks : List Nat) : bys ks = ks.map fun (k : Nat) => V.int (k : Int) := by
  unfold bys
  rw [List.map_map]
  rfl
theorem bys_len (ks : List Nat) : (bys ks).length = ks.length := by
  unfold bys
  rw [List.length_map, List.length_map]
theorem bys_app (a b : List Nat) : bys a ++ bys b = bys (a ++ b) := by
  unfold bys
  rw [List.map_append, List.map_append]
theorem bys_one (k : Nat) : [V.int (k : Int)] = bys [k] := rfl
theorem bys_cut (ks : List Nat) (a b : Nat) : cutV (bys ks) (some (a : Int)) (some (b : Int)) = bys ((ks.drop (min a ks.length)).take (min b ks.length - min a ks.length)) := by
  unfold cutV
  rw [HT.sIx_nat, HT.sIx_nat, bys_len]
  unfold bys
  rw [← List.map_drop, ← List.map_drop, ← List.map_take, ← List.map_take]
theorem bys_to (ks : List Nat) (b : Nat) : cutV (bys ks) none (some (b : Int)) = bys (ks.take b) := by
  unfold cutV
  rw [HT.sIx_nat, HT.sIx_none, bys_len, List.drop_zero, Nat.sub_zero]
  unfold bys
  rw [← List.map_take, ← List.map_take]
  congr 2
  by_cases h : b ≤ ks.length
  · rw [Nat.min_eq_left h]
  · rw [Nat.min_eq_right (by omega), List.take_length, List.take_of_length_le (by omega)]
theorem nat_of {x : Int} (h : 0 ≤ x) : ∃ k : Nat, x = (k : Int) := ⟨x.toNat, by omega⟩
theorem item_in {d1 d2 : Int} (h1 : 0 ≤ d1 ∧ d1 < 256) : ∃ v : Nat, v < 256 ∧ atI [V.int 97, V.int 98, V.int 32, V.int 0, V.int 255, V.int d1, V.int (d1.fmod 4), V.int 200] (d2.fmod 8) = some (.int (v : Int)) := by
  have a1 := fmod_in (a := d1) (l := 4) (by decide)
  have a2 := fmod_in (a := d2) (l := 8) (by decide)
  obtain ⟨k1, rfl⟩ := nat_of h1.1
  obtain ⟨k4, e4⟩ := nat_of a1.1
  rw [e4] at a1 ⊢
  obtain ⟨n, en⟩ := nat_of a2.1
  rw [en] at a2 ⊢
  have hn : n = 0 ∨ n = 1 ∨ n = 2 ∨ n = 3 ∨ n = 4 ∨ n = 5 ∨ n = 6 ∨ n = 7 := by omega
  rcases hn with rfl | rfl | rfl | rfl | rfl | rfl | rfl | rfl
  · exact ⟨97, by decide, rfl⟩
  · exact ⟨98, by decide, rfl⟩
  · exact ⟨32, by decide, rfl⟩
  · exact ⟨0, by decide, rfl⟩
  · exact ⟨255, by decide, rfl⟩
  · exact ⟨k1, by omega, rfl⟩
  · exact ⟨k4, by omega, rfl⟩
  · exact ⟨200, by decide, rfl⟩
section
variable {P : Program} {w : World} {K : PySem.W.Frag} {mg : Str → Option Value} {base : Heap}
def spData (K : PySem.W.Frag) : Sp := fun vs H Q _ => ∃ (p : Addr) (xs : List Int) (a n : Nat), vs = [.ref p, .int (a : Int), .int (n : Int)] ∧ SqL K H p (xs.map V.int) ∧ a ≤ 50000 ∧ n ≤ 1000 ∧
  ∀ H' r ks, Same H H' → H r = none → H' r = some (.lst (bys ks)) → (∀ k ∈ ks, k < 256) → ks.length ≤ n → Q (.ref r) H'
theorem ok_data {f fC fN : Addr} {fd fdC fdN : FuncData} {j : Nat} (F : Fun K "_law_data" "_law_data" sData f fd) (GC : FnOk P w K mg base CX0 (j + 1) fC fdC ["_law_script", "_law_k"] (K3.spCell K)) (bC : Binds K fdC ["_law_script", "_law_k"] []) (kC : PySem.W.keepIn K (.ref fC) = true) (gC : mg "_law_cell_at" = some (.ref fC))
    (GN : FnOk P w K mg base CX0 (j + 1) fN fdN ["_law_cell", "_law_limits"] spNums) (bN : Binds K fdN ["_law_cell", "_law_limits"] []) (kN : PySem.W.keepIn K (.ref fN) = true) (gN : mg "_law_numbers" = some (.ref fN))
    (m1 : mg "len" = none) (m2 : mg "int" = none) (m3 : mg "range" = none) : FnOk P w K mg base CX0 (j + 2) f fd ["_law_script", "_law_at", "_law_most"] (spData K) := by
  refine F.ok scData (fun vs H Q E h => ?_) (fun cdv A outer s H vs Q E hr h => ?_)
  · obtain ⟨p, xs, a, n, rfl, _⟩ := h
    rfl
  · obtain ⟨p, xs, a, n, rfl, hp, ha, hn, q⟩ := h
    refine ⟨_, pss_cons (ps_par (i := 3) (j := 4) rfl scData.nd rfl rfl (by decide) rfl rfl (pa_cons (pe_lst pa_nil) (pa_cons (pe_op op_modN (pe_call GC hr (by rfl) gC kC bC .nil pass0 (pa_cons (pv 0) (pa_cons (pv 1) pa_nil))) (pe_op op_add (pv 2) pe_int)) pa_nil)) (by rfl))
      (pss_cons (ps_for PassesOwn.never rfl (pi_range1 (by rfl) m3 (pa_cons pe_int pa_nil)) (pg_name (i := 5) scData.nd rfl (.inl rfl))
        (pss_cons (ps_set (i := 6) scData.nd rfl (.inr rfl) (pe_call GN hr (by rfl) gN kN bN .nil pass0 (pa_cons (pe_call GC hr (by rfl) gC kC bC .nil pass0 (pa_cons (pv 0) (pa_cons (pe_op op_add (pe_op op_add (pv 1) pe_int) (pv 5)) pa_nil))) (pa_cons (pe_lst (pa_cons pe_int (pa_cons pe_int (pa_cons pe_int (pa_cons pe_int pa_nil))))) pa_nil))))
        (pss_one (ps_if (pt_cmpR op_eq (pe_ix ix_list (pv 6) pe_int (fun _ _ => rfl)) pe_int (nomark _))
          (pss_one (ps_set (i := 3) scData.nd rfl (.inl rfl) (pe_op op_cat (pv 3) (pe_op op_rep (pe_lst (pa_cons (pe_ix ix_list (pv 6) pe_int (fun _ _ => rfl)) pa_nil)) (pe_op op_add pe_int (pe_ix ix_list (pv 6) pe_int (fun _ _ => rfl)))))))
          (pss_one (ps_if (PW.pt (pw_and (pt_cmpR op_lt (pe_ix ix_list (pv 6) pe_int (fun _ _ => rfl)) pe_int (nomark _)) (pw_and1 (pt_cmpR (op_neD hr.units) (pv 3) (pe_lst pa_nil) (nomark _)))))
            (pss_cons (ps_set (i := 7) scData.nd rfl (.inl rfl) (pe_op op_modN (pe_callTy call_int1 (by rfl) m2 (by decide +kernel) (pa_cons (pe_ix ix_list (pv 6) pe_int (fun _ _ => rfl)) pa_nil)) (pe_callB call_len_seq (by rfl) m1 PySem.boot_len (pa_cons (pv 3) pa_nil))))
            (pss_one (ps_set (i := 3) scData.nd rfl (.inl rfl) (pe_op op_cat (pv 3) (pe_slice sl_list (pv 3) (po_some (pv 7)) (po_some (pe_op op_add (pe_op op_add (pv 7) pe_int) (pe_op op_modN (pe_callTy call_int1 (by rfl) m2 (by decide +kernel) (pa_cons (pe_ix ix_list (pv 6) pe_int (fun _ _ => rfl)) pa_nil)) pe_int))))))))
            (pss_one (ps_if (pt_cmpR op_eq (pe_ix ix_list (pv 6) pe_int (fun _ _ => rfl)) pe_int (nomark _))
              (pss_one (ps_set (i := 3) scData.nd rfl (.inl rfl) (pe_op op_cat (pv 3) (pe_lc (own := [("_law_turn", 8)]) (g := gName 8) (tt := tYes) rfl scData.nd (pi_range1 (by rfl) m3 (pa_cons pe_int pa_nil)) (blkOk_by (N := NDa) (sc := defScope sData) (by decide +kernel))
                (fun _ _ _ _ _ => pg_name (i := 8) scData.nd rfl (.inl rfl)) (fun _ _ _ _ _ => pts_nil) (fun _ _ _ _ _ => pe_op op_add pe_int (pe_op op_and (pe_op op_shr (pe_ix (ixL K) (pv 6) pe_int (fun _ _ => rfl)) (pv 8)) pe_int))))))
              (pss_one (ps_expr (pe_bm PySem.F.plainAttrs_list PySem.F.slot_list_append PySem.F.type_list_append mt_append (pv 3) (pa_cons (pe_ix ix_list (pe_lst (pa_cons pe_int (pa_cons pe_int (pa_cons pe_int (pa_cons pe_int (pa_cons pe_int (pa_cons (pe_ix ix_list (pv 6) pe_int (fun _ _ => rfl)) (pa_cons (pe_op op_modN (pe_callTy call_int1 (by rfl) m2 (by decide +kernel) (pa_cons (pe_ix ix_list (pv 6) pe_int (fun _ _ => rfl)) pa_nil)) pe_int) (pa_cons pe_int pa_nil)))))))))
                (pe_op op_modN (pe_callTy call_int1 (by rfl) m2 (by decide +kernel) (pa_cons (pe_ix ix_list (pv 6) pe_int (fun _ _ => rfl)) pa_nil)) pe_int) (fun _ _ => rfl)) pa_nil))))))))))))
      (pss_one (ps_ret (pe_slice sl_list (pv 3) po_none (po_some (pv 4)))))), ?_⟩
    refine ⟨Nat.zero_le _, fun D nD => ?_⟩
    have sm0 : Same H (upd H D (.lst [])) := same_upd nD
    have hD0 : (upd H D (.lst [])) D = some (.lst (bys [])) := upd_same
    generalize upd H D (.lst []) = H0 at *
    refine ⟨_, rfl, _, rfl, p, xs, a, rfl, sm0.seq hp, by omega, fun H1 sm1 => ?_⟩
    refine ⟨_, rfl, _, _, rfl, rfl, _, _, rfl, rfl, (by omega), _, _, rfl, ?_⟩
    have hm := fmod_in (a := cellAt xs a) (l := (n : Int) + 1) (by omega)
    obtain ⟨many, em⟩ := nat_of hm.1
    rw [em] at hm
    have sm01 := sm0.trans sm1
    refine ⟨24, rfl, by decide, by decide, ?_⟩
    refine for_range (lo := 0) (n := 24) (fun i σ H' => ∃ (y5 y6 y7 : Option V) (D : Addr) (ks : List Nat), σ = [some (.ref p), some (.int (a : Int)), some (.int (n : Int)), some (.ref D), some (.int ((cellAt xs a).fmod ((n : Int) + 1))), y5, y6, y7, none] ∧ Same H H' ∧ H D = none ∧ H' D = some (.lst (bys ks)) ∧ (∀ k ∈ ks, k < 256) ∧ ks.length ≤ 40 * i)
      ⟨none, none, none, D, [], rfl, sm01, nD, sm1 _ _ hD0, fun k h => by (cases h), by simp⟩ (fun i σ H' hi h => ?_) (fun σ H' h => ?_)
    · obtain ⟨y5, y6, y7, D, ks0, rfl, sm, nD, hD, hk, hl⟩ := h
      refine ⟨_, rfl, _, rfl, _, _, rfl, rfl, _, rfl, _, _, rfl, rfl, p, xs, a + 1 + i, ?_, sm.seq hp, by omega, fun H5 sm5 => ?_⟩
      · show [V.ref p, V.int ((a : Int) + 1 + (0 + (i : Int)))] = _
        rw [show (a : Int) + 1 + (0 + (i : Int)) = ((a + 1 + i : Nat) : Int) by omega]
      · refine ⟨(by show 4 ≤ sizeLine; decide), fun z nz => ?_⟩
        refine ⟨z, cellAt xs (a + 1 + i), [6, 256, 40, 300], rfl, upd_same, by decide, by decide, fun H6 dg ds sm6 nq hdg hdl hin => ?_⟩
        obtain ⟨d0, d1, d2, d3, rfl⟩ : ∃ d0 d1 d2 d3, ds = [d0, d1, d2, d3] := by
          match ds, hdl with
          | [a, b, c, d], _ => exact ⟨a, b, c, d, rfl⟩
        have hd0 := hin.2 0 d0 6 rfl rfl
        have hd1 := hin.2 1 d1 256 rfl rfl
        have hd2 := hin.2 2 d2 40 rfl rfl
        have hd3 := hin.2 3 d3 300 rfl rfl
        have sm46 : Same H' H6 := (sm5.trans (same_upd nz)).trans sm6
        have sm06 : Same H H6 := sm.trans sm46
        have hD6 := sm46 _ _ hD
        have hdgS : SqL K H6 dg [.int d0, .int d1, .int d2, .int d3] := .inl (.inl hdg)
        clear nq hin hdl hdg hm em
        have hz := PySem.sizeLine_eq
        have fin : ∀ (H9 : Hp) (r : Addr) (ks2 : List Nat) (y7 : Option V), Same H H9 → H9 r = none → (∀ k ∈ ks2, k < 256) → ks2.length ≤ 40 →
            ∃ (y5' y6' y7' : Option V) (D : Addr) (ks : List Nat), [some (.ref p), some (.int (a : Int)), some (.int (n : Int)), some (.ref r), some (.int ((cellAt xs a).fmod ((n : Int) + 1))), some (.int (0 + (i : Int))), some (.ref dg), y7, none] = [some (.ref p), some (.int (a : Int)), some (.int (n : Int)), some (.ref D), some (.int ((cellAt xs a).fmod ((n : Int) + 1))), y5', y6', y7', none] ∧ Same H (upd H9 r (.lst (bys ks0 ++ bys ks2))) ∧ H D = none ∧ (upd H9 r (.lst (bys ks0 ++ bys ks2))) D = some (.lst (bys ks)) ∧ (∀ k ∈ ks, k < 256) ∧ ks.length ≤ 40 * (i + 1) := by
          intro H9 r ks2 y7 sm9 nr h2 hl2
          refine ⟨_, _, y7, r, ks0 ++ ks2, rfl, sm9.trans (same_upd nr), none_back sm9 nr, by rw [upd_same, bys_app], fun k m => ?_, by rw [List.length_append]; omega⟩
          rcases (List.mem_append.mp m) with (m | m)
          · exact hk k m
          · exact h2 k m
        obtain ⟨k1, rfl⟩ := nat_of hd1.1
        refine ⟨_, rfl, dg, _, 0, _, rfl, rfl, hdgS, rfl, rfl, _, rfl, ite2 (fun e => ?_) (fun e => ?_)⟩
        · refine ⟨_, rfl, _, rfl, dg, _, 1, _, rfl, rfl, hdgS, rfl, (by show 1 ≤ sizeLine; rw [hz]; decide), fun z1 nz1 => ?_⟩
          have s1 : Same H6 (upd H6 z1 (.lst [.int (k1 : Int)])) := same_upd nz1
          have e1 : (upd H6 z1 (.lst [.int (k1 : Int)])) z1 = some (.lst [.int (k1 : Int)]) := upd_same
          refine ⟨_, rfl, dg, _, 2, _, rfl, rfl, s1.seq hdgS, rfl, _, _, rfl, rfl, z1, 1 + d2, _, rfl, rfl, e1, by omega, by omega, (by rw [hz]; simp; omega), fun r1 nr1 => ?_⟩
          rw [rep_flat]
          have s2 := same_upd (o := .lst (List.replicate (1 + d2).toNat (V.int (k1 : Int)))) nr1
          have e2 : (upd (upd H6 z1 (.lst [.int (k1 : Int)])) r1 (.lst (List.replicate (1 + d2).toNat (V.int (k1 : Int))))) r1 = some (.lst (List.replicate (1 + d2).toNat (V.int (k1 : Int)))) := upd_same
          have eb : List.replicate (1 + d2).toNat (V.int (k1 : Int)) = bys (List.replicate (1 + d2).toNat k1) := by simp [bys]
          rw [eb] at s2 e2 ⊢
          refine ⟨D, r1, _, _, rfl, rfl, s2 _ _ (s1 _ _ hD6), e2, (by rw [bys_len, bys_len, List.length_replicate, hz]; omega), fun r2 nr2 => ?_⟩
          exact fin _ r2 _ y7 ((sm06.trans s1).trans s2) nr2 (fun k m => by rw [List.eq_of_mem_replicate m]; omega) (by rw [List.length_replicate]; omega)
        · refine ⟨_, rfl, dg, _, 0, _, rfl, rfl, hdgS, rfl, _, _, rfl, rfl, _, rfl, ite2 (fun e3 => ?ltYes) (fun e3 => ?ltNo)⟩
          case' ltYes =>
            refine ⟨_, rfl, Nat.zero_le _, fun z2 nz2 => ?_⟩
            have sm67 : Same H6 (upd H6 z2 (.lst [])) := same_upd nz2
            have hz2 : (upd H6 z2 (.lst [])) z2 = some (.lst []) := upd_same
            generalize upd H6 z2 (.lst []) = H7 at *
            have hD7 := sm67 _ _ hD6
            refine ⟨_, _, .lst (.inl (.inl hD7)) (dp_ints _), .lst (ds := []) (.inl (.inl hz2)) .nil, shaped_intsQ _, shaped_intsQ [], _, rfl, ite2 (fun e4 => ?good) (fun e4 => ?_)⟩
            case good =>
              have hne : ks0 ≠ [] := by
                intro z
                subst z
                cases e4
              have hpos : 0 < ks0.length := List.length_pos_iff.mpr hne
              have hb := fmod_in (a := d3) (l := (ks0.length : Int)) (by omega)
              have hc := fmod_in (a := d2) (l := 20) (by decide)
              obtain ⟨b, eb⟩ := nat_of hb.1
              obtain ⟨c, ec⟩ := nat_of hc.1
              have hdg7 := sm67.seq hdgS
              refine ⟨_, rfl, dg, _, 3, _, rfl, rfl, hdg7, rfl, .inl ⟨_, rfl, _, rfl, D, _, rfl, .inl (.inl (.inl hD7)), _, _, rfl, rfl, (by rw [bys_len]; omega), ?_⟩⟩
              refine ⟨_, rfl, _, rfl, _, rfl, _, rfl, _, rfl, _, _, rfl, rfl, _, rfl, dg, _, 2, _, rfl, rfl, hdg7, rfl, .inl ⟨_, rfl, _, _, rfl, rfl, (by show (20 : Int) ≠ 0; decide), _, _, rfl, rfl, _, rfl, D, _, rfl, .inl (.inl hD7), fun r nr => ?_⟩⟩
              have ecut : cutV (bys ks0) (some (d3.fmod ((bys ks0).length : Int))) (some (d3.fmod ((bys ks0).length : Int) + 3 + d2.fmod 20)) = bys ((ks0.drop (min b ks0.length)).take (min (b + 3 + c) ks0.length - min b ks0.length)) := by
                rw [bys_len, eb, ec]
                exact bys_cut ks0 b (b + 3 + c)
              rw [ecut]
              have s2 := same_upd (o := .lst (bys ((ks0.drop (min b ks0.length)).take (min (b + 3 + c) ks0.length - min b ks0.length)))) nr
              have hlen : ((ks0.drop (min b ks0.length)).take (min (b + 3 + c) ks0.length - min b ks0.length)).length ≤ 40 := by
                rw [List.length_take]
                omega
              refine ⟨D, r, _, _, rfl, rfl, s2 _ _ hD7, upd_same, (by rw [bys_len, bys_len, hz]; omega), fun r2 nr2 => ?_⟩
              exact fin _ r2 _ _ ((sm06.trans sm67).trans s2) nr2 (fun k m => hk k (List.mem_of_mem_drop (List.mem_of_mem_take m))) hlen
          case' ltNo =>
            obtain ⟨H7, eH, sm67, hD7⟩ : ∃ H7, H7 = H6 ∧ Same H6 H7 ∧ H7 D = some (.lst (bys ks0)) := ⟨H6, rfl, Same.refl H6, hD6⟩
            rw [← eH]
          all_goals
            have hdg7 := sm67.seq hdgS
            have sm07 := sm06.trans sm67
            refine ⟨_, rfl, dg, _, 0, _, rfl, rfl, hdg7, rfl, rfl, _, rfl, ite2 (fun e5 => ?_) (fun e5 => ?_)⟩
            · refine ⟨_, rfl, 8, rfl, by decide, by decide, fun C nC => ?_⟩
              have s8 : Same H7 (upd H7 C (.lst [])) := same_upd nC
              refine lc_range (lo := 0) (n := 8) (fun i H' => ∃ ks2 : List Nat, Same H7 H' ∧ H' C = some (.lst (bys ks2)) ∧ ks2.length = i ∧ ∀ k ∈ ks2, k < 256) ⟨[], s8, upd_same, rfl, fun k m => by (cases m)⟩ (fun i8 H8 hi8 h => ?_) (fun H8 h => ?_)
              · obtain ⟨ks2, sm78, hC, hl2, hk2⟩ := h
                refine ⟨rfl, yes ?_⟩
                refine ⟨_, rfl, dg, _, 1, _, rfl, rfl, sm78.seq hdg7, rfl, _, rfl, _, _, rfl, rfl, (by omega), _, _, rfl, rfl, _, _, rfl, rfl, _, hC, ?_, ?_⟩
                · rw [bys_len, hz]
                  omega
                · refine ⟨ks2 ++ [97 + (k1 / 2 ^ i8) % 2], same_put sm78 nC, ?_, by simp [hl2], fun k m => ?_⟩
                  · have ev : (97 : Int) + Builtin.bitAnd ((k1 : Int) / 2 ^ (0 + (i8 : Int)).toNat) 1 = ((97 + (k1 / 2 ^ i8) % 2 : Nat) : Int) := by
                      rw [PyProof.Rows.bitAnd_m1, Int.zero_add, Int.toNat_natCast]
                      push_cast
                      rfl
                    rw [upd_same]
                    show some (HO.lst (bys ks2 ++ [V.int (97 + Builtin.bitAnd ((k1 : Int) / 2 ^ (0 + (i8 : Int)).toNat) 1)])) = _
                    rw [ev, ← bys_app]
                    rfl
                  · rcases (List.mem_append.mp m) with (m | m)
                    · exact hk2 k m
                    · rw [List.mem_singleton.mp m]
                      omega
              · obtain ⟨ks2, sm78, hC, hl2, hk2⟩ := h
                refine ⟨D, C, _, _, rfl, rfl, sm78 _ _ hD7, hC, (by rw [bys_len, bys_len, hz]; omega), fun r2 nr2 => ?_⟩
                exact fin _ r2 _ _ (sm07.trans sm78) nr2 hk2 (by omega)
            · refine ⟨_, rfl, .inl ⟨rfl, _, .inl (.inl hD7)⟩, ?_⟩
              refine ⟨_, rfl, dg, _, 1, _, rfl, rfl, hdg7, rfl, _, rfl, dg, _, 1, _, rfl, rfl, hdg7, rfl, .inl ⟨_, rfl, _, _, rfl, rfl, (by show (4 : Int) ≠ 0; decide), (by show 8 ≤ sizeLine; rw [hz]; decide), fun z3 nz3 => ?_⟩⟩
              obtain ⟨v, hv, ev⟩ := item_in (d1 := (k1 : Int)) (d2 := d2) hd1
              have s3 := same_upd (o := .lst [V.int 97, V.int 98, V.int 32, V.int 0, V.int 255, V.int (k1 : Int), V.int ((k1 : Int).fmod 4), V.int 200]) nz3
              have e3' : (upd H7 z3 (.lst [V.int 97, V.int 98, V.int 32, V.int 0, V.int 255, V.int (k1 : Int), V.int ((k1 : Int).fmod 4), V.int 200])) z3 = some (.lst [V.int 97, V.int 98, V.int 32, V.int 0, V.int 255, V.int (k1 : Int), V.int ((k1 : Int).fmod 4), V.int 200]) := upd_same
              refine ⟨_, rfl, dg, _, 2, _, rfl, rfl, s3.seq hdg7, rfl, .inl ⟨_, rfl, _, _, rfl, rfl, (by show (8 : Int) ≠ 0; decide), z3, _, _, _, rfl, rfl, .inl (.inl e3'), ev, D, _, _, rfl, rfl, s3 _ _ hD7, (by rw [bys_len, hz]; omega), ?_⟩⟩
              refine ⟨_, _, y7, D, ks0 ++ [v], rfl, same_put (sm07.trans s3) nD, nD, by rw [upd_same, ← bys_app]; rfl, fun k m => ?_, by simp; omega⟩
              rcases (List.mem_append.mp m) with (m | m)
              · exact hk k m
              · rw [List.mem_singleton.mp m]
                exact hv
    · obtain ⟨y5, y6, y7, D, ks, rfl, sm, nD, hD, hk, hl⟩ := h
      refine ⟨_, rfl, _, rfl, _, rfl, D, _, rfl, .inl (.inl hD), fun r nr => ?_⟩
      refine q _ r (ks.take many) (sm.trans (same_upd nr)) (none_back sm nr) ?_ (fun k m => hk k (List.mem_of_mem_take m)) ?_
      · rw [upd_same, em, bys_to]
      · rw [List.length_take]
        omega
end
end K3

namespace K3
open PySem PySem.Spec PyProof.Rows L2
/-! ### what a row tells -/
def copyN (every : List Nat) (b : Nat) : Nat → List Nat
  | 0 => every
  | m + 1 => copyN (every ++ [every.getD (every.length - b) 0]) b m
def tells : List Nat → List Itm → Option (List Nat)
  | every, [] => some every
  | every, .b k :: r => tells (every ++ [k]) r
  | every, .c m b :: r => if b ≤ every.length then tells (copyN every b m) r else none
theorem tells_app : ∀ (a b : List Itm) (every : List Nat), tells every (a ++ b) = (tells every a).bind fun e => tells e b
  | [], b, every => rfl
  | .b k :: a, b, every => by
    show tells (every ++ [k]) (a ++ b) = (tells (every ++ [k]) a).bind _
    exact tells_app a b _
  | .c m r :: a, b, every => by
    show (if r ≤ every.length then tells (copyN every r m) (a ++ b) else none) = (if r ≤ every.length then tells (copyN every r m) a else none).bind _
    by_cases h : r ≤ every.length
    · rw [if_pos h, if_pos h]
      exact tells_app a b _
    · rw [if_neg h, if_neg h]
      rfl
theorem copyN_succ (b : Nat) : ∀ (m : Nat) (every : List Nat), copyN every b (m + 1) = copyN every b m ++ [(copyN every b m).getD ((copyN every b m).length - b) 0]
  | 0, every => rfl
  | m + 1, every => by
    show copyN (every ++ [every.getD (every.length - b) 0]) b (m + 1) = _
    rw [copyN_succ b m]
    rfl
theorem copyN_len (b : Nat) : ∀ (m : Nat) (every : List Nat), (copyN every b m).length = every.length + m
  | 0, every => rfl
  | m + 1, every => by
    show (copyN (every ++ _) b m).length = _
    rw [copyN_len b m, List.length_append, List.length_singleton]
    omega
theorem copyN_lt (b : Nat) : ∀ (m : Nat) {every : List Nat}, (∀ k ∈ every, k < 256) → ∀ k ∈ copyN every b m, k < 256
  | 0, every, h => h
  | m + 1, every, h => by
    refine copyN_lt b m (every := every ++ [every.getD (every.length - b) 0]) fun k q => ?_
    rcases (List.mem_append.mp q) with (q | q)
    · exact h k q
    · rw [List.mem_singleton.mp q, List.getD_eq_getElem?_getD]
      cases e : every[every.length - b]? with
      | none => decide
      | some x => exact h x (List.mem_of_getElem? e)
theorem copyN_pre (b : Nat) : ∀ (m : Nat) (every : List Nat), ∃ r, copyN every b m = every ++ r
  | 0, every => ⟨[], by simp [copyN]⟩
  | m + 1, every => by
    obtain ⟨r, e⟩ := copyN_pre b m (every ++ [every.getD (every.length - b) 0])
    exact ⟨[every.getD (every.length - b) 0] ++ r, by show copyN (every ++ _) b m = _; rw [e, List.append_assoc]⟩
abbrev RowAt (H : Hp) : List Itm → List V → Prop := Paired (ItmAt H)
theorem ItmAt.put {H : Hp} {it : Itm} {v : V} {D : Addr} {xs ys : List V} (h : ItmAt H it v) (hD : H D = some (.lst xs)) : ItmAt (upd H D (.lst ys)) it v := by
  cases it with
  | b k => exact h
  | c m r =>
    obtain ⟨t, e, ht⟩ := h
    refine ⟨t, e, ?_⟩
    rw [upd_ne (ne_of ht hD (fun z => nomatch z))]
    exact ht
end K3

namespace K3
open PySem PySem.Spec PyProof.Rows L2
theorem back_at {ks : List Nat} {b : Nat} (h1 : 1 ≤ b) (h2 : b ≤ ks.length) : atI (bys ks) (-(b : Int)) = some (.int ((ks.getD (ks.length - b) 0 : Nat) : Int)) := by
  unfold atI ixN
  rw [if_neg (by omega), bys_len, if_pos (by omega)]
  show (bys ks)[(-(b : Int) + (ks.length : Int)).toNat]? = _
  have e : (-(b : Int) + (ks.length : Int)).toNat = ks.length - b := by omega
  have hi : ks.length > ks.length - b := by omega
  rw [e, bys_eq, List.getElem?_map, List.getElem?_eq_getElem hi, List.getD_eq_getElem?_getD, List.getElem?_eq_getElem hi]
  rfl
theorem back_at' {ks : List Nat} {b : Nat} {bv : Int} (e : bv = (b : Int)) (h1 : 1 ≤ b) (h2 : b ≤ ks.length) : atI (bys ks) (-bv) = some (.int ((ks.getD (ks.length - b) 0 : Nat) : Int)) := by
  subst e
  exact back_at h1 h2
theorem pair_eq {x y : Int} {m b : Nat} {H : Hp} {t : Addr} (h : H t = some (.tup [.int x, .int y])) (e1 : x = (m : Int)) (e2 : y = (b : Int)) : ItmAt H (.c m b) (.ref t) := ⟨t, rfl, by rw [h, e1, e2]⟩
abbrev NRw : List Str := ["_law_script", "_law_at", "_law_lead", "_law_found", "_law_every", "_law_k", "_law_digits", "_law_far", "_law_back_here", "_law_turn"]
theorem scRow : FnScope NRw ["_law_script", "_law_at", "_law_lead"] (defScope sRow) := ⟨rfl, rfl, rfl, by decide +kernel, rfl, by decide +kernel, by decide +kernel⟩
section
variable {P : Program} {w : World} {K : PySem.W.Frag} {mg : Str → Option Value} {base : Heap}
def spRow (K : PySem.W.Frag) : Sp := fun vs H Q _ => ∃ (p : Addr) (xs : List Int) (a : Nat) (pl : Addr) (lead : List Nat), vs = [.ref p, .int (a : Int), .ref pl] ∧ SqL K H p (xs.map V.int) ∧ a ≤ 50000 ∧ H pl = some (.lst (bys lead)) ∧ (∀ k ∈ lead, k < 256) ∧ lead.length ≤ 1000 ∧
  ∀ H' t F E vs its due, Same H H' → H' t = some (.tup [.ref F, .ref E]) → H' F = some (.lst vs) → RowAt H' its vs → (∀ it ∈ its, ItmOk it) → its.length ≤ 30 → H' E = some (.lst (bys due)) → tells lead its = some (lead ++ due) → (∀ k ∈ due, k < 256) → due.length ≤ 540 → H t = none → H F = none → H E = none → Q (.ref t) H'
theorem ok_row {f fC fN : Addr} {fd fdC fdN : FuncData} {j : Nat} (F : Fun K "_law_row" "_law_row" sRow f fd) (GC : FnOk P w K mg base CX0 (j + 1) fC fdC ["_law_script", "_law_k"] (K3.spCell K)) (bC : Binds K fdC ["_law_script", "_law_k"] []) (kC : PySem.W.keepIn K (.ref fC) = true) (gC : mg "_law_cell_at" = some (.ref fC))
    (GN : FnOk P w K mg base CX0 (j + 1) fN fdN ["_law_cell", "_law_limits"] spNums) (bN : Binds K fdN ["_law_cell", "_law_limits"] []) (kN : PySem.W.keepIn K (.ref fN) = true) (gN : mg "_law_numbers" = some (.ref fN))
    (m1 : mg "len" = none) (m2 : mg "int" = none) (m3 : mg "range" = none) (m4 : mg "list" = none) (m5 : mg "max" = none) (m6 : mg "min" = none) : FnOk P w K mg base CX0 (j + 2) f fd ["_law_script", "_law_at", "_law_lead"] (spRow K) := by
  refine F.ok scRow (fun vs H Q E h => ?_) (fun cdv A outer s H vs Q E hr h => ?_)
  · obtain ⟨p, xs, a, pl, lead, rfl, _⟩ := h
    rfl
  · obtain ⟨p, xs, a, pl, lead, rfl, hp, ha, hpl, hlead, hll, q⟩ := h
    have hz := PySem.sizeLine_eq
    refine ⟨_, pss_cons (ps_par (i := 3) (j := 4) rfl scRow.nd rfl rfl (by decide) rfl rfl (pa_cons (pe_lst pa_nil) (pa_cons (pe_callTy call_list_of (by rfl) m4 (by decide +kernel) (pa_cons (pv 2) pa_nil)) pa_nil)) (by rfl))
      (pss_cons (ps_for PassesOwn.never rfl (pi_range1 (by rfl) m3 (pa_cons (pe_op op_modN (pe_call GC hr (by rfl) gC kC bC .nil pass0 (pa_cons (pv 0) (pa_cons (pv 1) pa_nil))) pe_int) pa_nil)) (pg_name (i := 5) scRow.nd rfl (.inl rfl))
        (pss_cons (ps_set (i := 6) scRow.nd rfl (.inl rfl) (pe_call GN hr (by rfl) gN kN bN .nil pass0 (pa_cons (pe_call GC hr (by rfl) gC kC bC .nil pass0 (pa_cons (pv 0) (pa_cons (pe_op op_add (pe_op op_add (pv 1) pe_int) (pv 5)) pa_nil))) (pa_cons (pe_lst (pa_cons pe_int (pa_cons pe_int (pa_cons pe_int (pa_cons pe_int pa_nil))))) pa_nil))))
        (pss_cons (ps_set (i := 7) scRow.nd rfl (.inl rfl) (pe_callB (call_max2 rfl) (by rfl) m5 (by decide +kernel) (pa_cons pe_int (pa_cons (pe_callB (call_min2 rfl) (by rfl) m6 (by decide +kernel) (pa_cons pe_int (pa_cons (pe_callB call_len_seq (by rfl) m1 PySem.boot_len (pa_cons (pv 4) pa_nil)) pa_nil))) pa_nil))))
        (pss_cons (ps_set (i := 8) scRow.nd rfl (.inl rfl) (pe_op op_add pe_int (pe_op op_modN (pe_callTy call_int1 (by rfl) m2 (by decide +kernel) (pa_cons (pe_ix ix_list (pv 6) pe_int (fun _ _ => rfl)) pa_nil)) (pe_ifExp (pt_cmpR op_eq (pe_ix ix_list (pv 6) pe_int (fun _ _ => rfl)) pe_int (nomark _)) pe_int (pv 7)))))
        (pss_one (ps_if (PW.pt (pw_or (pt_cmpR op_eq (pe_ix ix_list (pv 6) pe_int (fun _ _ => rfl)) pe_int (nomark _)) (pw_or1 (pt_cmpR op_gt (pv 8) (pe_callB call_len_seq (by rfl) m1 PySem.boot_len (pa_cons (pv 4) pa_nil)) (nomark _)))))
          (pss_cons (ps_expr (pe_bm PySem.F.plainAttrs_list PySem.F.slot_list_append PySem.F.type_list_append mt_append (pv 3) (pa_cons (pe_ix ix_list (pv 6) pe_int (fun _ _ => rfl)) pa_nil)))
            (pss_one (ps_expr (pe_bm PySem.F.plainAttrs_list PySem.F.slot_list_append PySem.F.type_list_append mt_append (pv 4) (pa_cons (pe_ix ix_list (pv 6) pe_int (fun _ _ => rfl)) pa_nil)))))
          (pss_cons (ps_expr (pe_bm PySem.F.plainAttrs_list PySem.F.slot_list_append PySem.F.type_list_append mt_append (pv 3) (pa_cons (pe_tup (pa_cons (pe_op op_add pe_int (pe_ix ix_list (pv 6) pe_int (fun _ _ => rfl))) (pa_cons (pv 8) pa_nil))) pa_nil)))
            (pss_one (ps_for PassesOwn.never rfl (pi_range1 (by rfl) m3 (pa_cons (pe_op op_add pe_int (pe_ix ix_list (pv 6) pe_int (fun _ _ => rfl))) pa_nil)) (pg_name (i := 9) scRow.nd rfl (.inl rfl))
              (pss_one (ps_expr (pe_bm PySem.F.plainAttrs_list PySem.F.slot_list_append PySem.F.type_list_append mt_append (pv 4) (pa_cons (pe_ix ix_list (pv 4) (pe_un un_neg (pv 8)) (fun _ _ => rfl)) pa_nil)))))))))))))
      (pss_one (ps_ret (pe_tup (pa_cons (pv 3) (pa_cons (pe_slice sl_list (pv 4) (po_some (pe_callB call_len_seq (by rfl) m1 PySem.boot_len (pa_cons (pv 2) pa_nil))) po_none) pa_nil)))))), ?_⟩
    refine ⟨Nat.zero_le _, fun D nD => ?_⟩
    have s0 : Same H (upd H D (.lst [])) := same_upd nD
    have hD0 : (upd H D (.lst [])) D = some (.lst []) := upd_same
    generalize upd H D (.lst []) = H0 at *
    refine ⟨_, rfl, pl, _, rfl, .inl (.inl (.inl (s0 _ _ hpl))), fun E0 nE => ?_⟩
    have s1 : Same H0 (upd H0 E0 (.lst (bys lead))) := same_upd nE
    have hE0 : (upd H0 E0 (.lst (bys lead))) E0 = some (.lst (bys lead)) := upd_same
    have hD1 := s1 _ _ hD0
    have nEH : H E0 = none := none_back s0 nE
    have hDE : D ≠ E0 := fun z => by rw [← z, hD0] at nE; cases nE
    have s01 := s0.trans s1
    generalize upd H0 E0 (.lst (bys lead)) = H1 at *
    refine ⟨_, _, rfl, ?_⟩
    refine ⟨_, rfl, _, rfl, p, xs, a, rfl, s01.seq hp, by omega, fun H2 s2 => ?_⟩
    have hm := fmod_in (a := cellAt xs a) (l := 30) (by decide)
    refine ⟨_, _, rfl, rfl, (by show (30 : Int) ≠ 0; decide), _, rfl, (by omega), (by omega), ?_⟩
    have s02 := s01.trans s2
    refine for_range (lo := 0) (n := ((cellAt xs a).fmod 30).toNat) (fun i σ H' => ∃ (y5 y6 y7 y8 y9 : Option V) (vs : List V) (its : List Itm) (every : List Nat), σ = [some (.ref p), some (.int (a : Int)), some (.ref pl), some (.ref D), some (.ref E0), y5, y6, y7, y8, y9] ∧ Same H H' ∧ H' D = some (.lst vs) ∧ RowAt H' its vs ∧ (∀ it ∈ its, ItmOk it) ∧ its.length = i ∧ H' E0 = some (.lst (bys every)) ∧ tells lead its = some every ∧ (∀ k ∈ every, k < 256) ∧ every.length ≤ lead.length + 18 * i ∧ ∃ due, every = lead ++ due)
      ⟨none, none, none, none, none, [], [], lead, rfl, s02, s2 _ _ hD1, .nil, fun k h => by (cases h), rfl, s2 _ _ hE0, rfl, hlead, by omega, [], by simp⟩ (fun i σ H' hi h => ?_) (fun σ H' h => ?_)
    · obtain ⟨y5, y6, y7, y8, y9, vs, its, every, rfl, sm, hD, hrow, hok, hlen, hE, htell, hk, hev, due, edue⟩ := h
      refine ⟨_, rfl, _, rfl, _, _, rfl, rfl, _, rfl, _, _, rfl, rfl, p, xs, a + 1 + i, ?_, sm.seq hp, by omega, fun H5 sm5 => ?_⟩
      · show [V.ref p, V.int ((a : Int) + 1 + (0 + (i : Int)))] = _
        rw [show (a : Int) + 1 + (0 + (i : Int)) = ((a + 1 + i : Nat) : Int) by omega]
      · refine ⟨(by show 4 ≤ sizeLine; decide), fun z nz => ?_⟩
        refine ⟨z, cellAt xs (a + 1 + i), [3, 256, 16, 1100], rfl, upd_same, by decide, by decide, fun H6 dg ds sm6 nq hdg hdl hin => ?_⟩
        obtain ⟨d0, d1, d2, d3, rfl⟩ : ∃ d0 d1 d2 d3, ds = [d0, d1, d2, d3] := by
          match ds, hdl with
          | [a, b, c, d], _ => exact ⟨a, b, c, d, rfl⟩
        have hd0 := hin.2 0 d0 3 rfl rfl
        have hd1 := hin.2 1 d1 256 rfl rfl
        have hd2 := hin.2 2 d2 16 rfl rfl
        have hd3 := hin.2 3 d3 1100 rfl rfl
        have sm46 : Same H' H6 := (sm5.trans (same_upd nz)).trans sm6
        have sm06 : Same H H6 := sm.trans sm46
        have hD6 := sm46 _ _ hD
        have hE6 := sm46 _ _ hE
        have hrow6 : RowAt H6 its vs := hrow.mono fun it v h => h.same sm46
        have hdgS : SqL K H6 dg [.int d0, .int d1, .int d2, .int d3] := .inl (.inl hdg)
        have ndg : (upd H5 z (.lst [V.int 3, V.int 256, V.int 16, V.int 1100])) dg = none := nq
        have ngD : dg ≠ D := fun z' => by
          have := (sm5.trans (same_upd (o := .lst [V.int 3, V.int 256, V.int 16, V.int 1100]) nz)) _ _ hD
          rw [← z', ndg] at this
          cases this
        have ngE : dg ≠ E0 := fun z' => by
          have := (sm5.trans (same_upd (o := .lst [V.int 3, V.int 256, V.int 16, V.int 1100]) nz)) _ _ hE
          rw [← z', ndg] at this
          cases this
        clear nq hin hdl ndg
        obtain ⟨k1, rfl⟩ := nat_of hd1.1
        have hlb := bys_len every
        refine ⟨_, rfl, E0, _, rfl, .inl (.inl (.inl hE6)), _, _, rfl, _, _, rfl, ?_⟩
        refine ⟨_, rfl, dg, _, 3, _, rfl, rfl, hdgS, rfl, .inl ⟨_, rfl, _, rfl, dg, _, 0, _, rfl, rfl, hdgS, rfl, rfl, _, rfl, ite2 (fun e1 => ?four) (fun e1 => ?far)⟩⟩
        case' four =>
          have hb := fmod_in (a := d3) (l := 4) (by decide)
          obtain ⟨bk, eb⟩ := nat_of (x := 1 + d3.fmod 4) (by omega)
          have hb1 : 1 ≤ bk := by omega
          have hb2 : bk ≤ 1024 := by omega
          refine ⟨_, _, rfl, rfl, (by show (4 : Int) ≠ 0; decide), _, _, rfl, rfl, ?_⟩
          dsimp only
          generalize 1 + d3.fmod 4 = bv at *
        case' far =>
          have hfar : 1 ≤ (if (if ((bys every).length : Int) < 1024 then ((bys every).length : Int) else 1024) > 1 then (if ((bys every).length : Int) < 1024 then ((bys every).length : Int) else 1024) else 1) ∧ (if (if ((bys every).length : Int) < 1024 then ((bys every).length : Int) else 1024) > 1 then (if ((bys every).length : Int) < 1024 then ((bys every).length : Int) else 1024) else 1) ≤ 1024 := by
            constructor <;> (repeat' split) <;> omega
          have hb := fmod_in (a := d3) (l := (if (if ((bys every).length : Int) < 1024 then ((bys every).length : Int) else 1024) > 1 then (if ((bys every).length : Int) < 1024 then ((bys every).length : Int) else 1024) else 1)) (by omega)
          obtain ⟨bk, eb⟩ := nat_of (x := 1 + d3.fmod (if (if ((bys every).length : Int) < 1024 then ((bys every).length : Int) else 1024) > 1 then (if ((bys every).length : Int) < 1024 then ((bys every).length : Int) else 1024) else 1)) (by omega)
          have hb1 : 1 ≤ bk := by omega
          have hb2 : bk ≤ 1024 := by omega
          refine ⟨_, rfl, _, _, rfl, rfl, (by omega), _, _, rfl, rfl, ?_⟩
          dsimp only
          generalize 1 + d3.fmod (if (if ((bys every).length : Int) < 1024 then ((bys every).length : Int) else 1024) > 1 then (if ((bys every).length : Int) < 1024 then ((bys every).length : Int) else 1024) else 1) = bv at *
        all_goals
          refine ⟨_, rfl, dg, _, 0, _, rfl, rfl, hdgS, rfl, rfl, _, rfl, ite2 (fun e2 => ?_) (fun e2 => ⟨_, rfl, _, rfl, E0, _, rfl, .inl (.inl (.inl hE6)), _, _, rfl, rfl, _, rfl, ite2 (fun e3 => ?_) (fun e3 => ?_)⟩)⟩
          · skip
            have hDv : (upd H6 D (.lst (vs ++ [.int (k1 : Int)]))) D = some (.lst (vs ++ [.int (k1 : Int)])) := upd_same
            have hEv : (upd H6 D (.lst (vs ++ [.int (k1 : Int)]))) E0 = some (.lst (bys every)) := by rw [upd_ne (Ne.symm hDE)]; exact hE6
            have hdg7 : SqL K (upd H6 D (.lst (vs ++ [.int (k1 : Int)]))) dg [.int d0, .int (k1 : Int), .int d2, .int d3] := .inl (.inl (by rw [upd_ne ngD]; exact hdg))
            refine ⟨_, rfl, .inl ⟨rfl, _, .inl (.inl hD6)⟩, _, rfl, dg, _, 1, _, rfl, rfl, hdgS, rfl, D, _, _, rfl, rfl, hD6, (by rw [← hrow.length, hz]; omega), ?_⟩
            refine ⟨_, rfl, .inl ⟨rfl, _, .inl (.inl hEv)⟩, _, rfl, dg, _, 1, _, rfl, rfl, hdg7, rfl, E0, _, _, rfl, rfl, hEv, (by rw [bys_len, hz]; omega), ?_⟩
            refine ⟨_, _, _, _, _, vs ++ [.int (k1 : Int)], its ++ [.b k1], every ++ [k1], rfl, same_put (same_put sm06 nD) nEH, ?_, ?_, ?_, by simp [hlen], by rw [upd_same, ← bys_app]; rfl, ?_, ?_, by simp; omega, due ++ [k1], by rw [edue, List.append_assoc]⟩
            · rw [upd_ne hDE]
              exact hDv
            · exact (hrow6.mono fun it v h => (h.put (ys := vs ++ [.int (k1 : Int)]) hD6).put (ys := bys every ++ [.int (k1 : Int)]) hEv).snoc rfl
            · intro it m
              rcases (List.mem_append.mp m) with (m | m)
              · exact hok it m
              · rw [List.mem_singleton.mp m]
                show k1 < 256
                omega
            · rw [tells_app, htell]
              rfl
            · intro k m
              rcases (List.mem_append.mp m) with (m | m)
              · exact hk k m
              · rw [List.mem_singleton.mp m]
                omega
          · skip
            have hDv : (upd H6 D (.lst (vs ++ [.int (k1 : Int)]))) D = some (.lst (vs ++ [.int (k1 : Int)])) := upd_same
            have hEv : (upd H6 D (.lst (vs ++ [.int (k1 : Int)]))) E0 = some (.lst (bys every)) := by rw [upd_ne (Ne.symm hDE)]; exact hE6
            have hdg7 : SqL K (upd H6 D (.lst (vs ++ [.int (k1 : Int)]))) dg [.int d0, .int (k1 : Int), .int d2, .int d3] := .inl (.inl (by rw [upd_ne ngD]; exact hdg))
            refine ⟨_, rfl, .inl ⟨rfl, _, .inl (.inl hD6)⟩, _, rfl, dg, _, 1, _, rfl, rfl, hdgS, rfl, D, _, _, rfl, rfl, hD6, (by rw [← hrow.length, hz]; omega), ?_⟩
            refine ⟨_, rfl, .inl ⟨rfl, _, .inl (.inl hEv)⟩, _, rfl, dg, _, 1, _, rfl, rfl, hdg7, rfl, E0, _, _, rfl, rfl, hEv, (by rw [bys_len, hz]; omega), ?_⟩
            refine ⟨_, _, _, _, _, vs ++ [.int (k1 : Int)], its ++ [.b k1], every ++ [k1], rfl, same_put (same_put sm06 nD) nEH, ?_, ?_, ?_, by simp [hlen], by rw [upd_same, ← bys_app]; rfl, ?_, ?_, by simp; omega, due ++ [k1], by rw [edue, List.append_assoc]⟩
            · rw [upd_ne hDE]
              exact hDv
            · exact (hrow6.mono fun it v h => (h.put (ys := vs ++ [.int (k1 : Int)]) hD6).put (ys := bys every ++ [.int (k1 : Int)]) hEv).snoc rfl
            · intro it m
              rcases (List.mem_append.mp m) with (m | m)
              · exact hok it m
              · rw [List.mem_singleton.mp m]
                show k1 < 256
                omega
            · rw [tells_app, htell]
              rfl
            · intro k m
              rcases (List.mem_append.mp m) with (m | m)
              · exact hk k m
              · rw [List.mem_singleton.mp m]
                omega
          · have hle : bk ≤ every.length := by
              have e4 : ¬ ((bys every).length : Int) < _ := fun z => e3 (decide_eq_true z)
              rw [eb] at e4
              omega
            obtain ⟨k2, rfl⟩ := nat_of hd2.1
            refine ⟨_, rfl, .inl ⟨rfl, _, .inl (.inl hD6)⟩, _, rfl, dg, _, 2, _, rfl, rfl, hdgS, rfl, _, _, rfl, rfl, _, rfl, (by show 2 ≤ sizeLine; rw [hz]; decide), fun t nt => ?_⟩
            refine ⟨D, _, _, rfl, rfl, same_upd nt _ _ hD6, (by rw [← hrow.length, hz]; omega), ?_⟩
            have st : Same H6 (upd H6 t (.tup [.int (3 + (k2 : Int)), .int bv])) := same_upd nt
            have ht : ItmAt (upd H6 t (.tup [.int (3 + (k2 : Int)), .int bv])) (.c (3 + k2) bk) (.ref t) := pair_eq (x := 3 + (k2 : Int)) upd_same (by push_cast; rfl) eb
            have hD7 := st _ _ hD6
            have hE7 := st _ _ hE6
            have hdg7 := st _ _ hdg
            have hrow7 : RowAt _ its vs := hrow6.mono fun it v h => h.same st
            have s07 := sm06.trans st
            generalize upd H6 t (.tup [.int (3 + (k2 : Int)), .int bv]) = H7 at *
            have hD8 : (upd H7 D (.lst (vs ++ [.ref t]))) D = some (.lst (vs ++ [.ref t])) := upd_same
            have hE8 : (upd H7 D (.lst (vs ++ [.ref t]))) E0 = some (.lst (bys every)) := by rw [upd_ne (Ne.symm hDE)]; exact hE7
            have hdg8 : (upd H7 D (.lst (vs ++ [.ref t]))) dg = some (.lst [.int d0, .int (k1 : Int), .int (k2 : Int), .int d3]) := by rw [upd_ne ngD]; exact hdg7
            have hrow8 : RowAt (upd H7 D (.lst (vs ++ [.ref t]))) (its ++ [.c (3 + k2) bk]) (vs ++ [.ref t]) := (hrow7.mono fun it v h => h.put hD7).snoc (ht.put hD7)
            have s08 : Same H (upd H7 D (.lst (vs ++ [.ref t]))) := same_put s07 nD
            generalize upd H7 D (.lst (vs ++ [.ref t])) = H8 at *
            refine ⟨_, rfl, dg, _, 2, _, rfl, rfl, .inl (.inl hdg8), rfl, _, _, rfl, rfl, _, rfl, (by omega), (by omega), ?_⟩
            refine for_range (lo := 0) (n := (3 + (k2 : Int)).toNat) (fun m σ H' => ∃ (y5 y6 y7 y9 : Option V), σ = [some (.ref p), some (.int (a : Int)), some (.ref pl), some (.ref D), some (.ref E0), y5, y6, y7, some (.int bv), y9] ∧ (∀ b, b ≠ E0 → H' b = H8 b) ∧ H' E0 = some (.lst (bys (copyN every bk m))))
              ⟨_, _, _, _, rfl, fun b h => rfl, hE8⟩ (fun m σ H9 hm9 h => ?_) (fun σ H9 h => ?_)
            · obtain ⟨y5, y6, y7, y9, rfl, heq, hE9⟩ := h
              refine ⟨_, rfl, .inl ⟨rfl, _, .inl (.inl hE9)⟩, _, rfl, _, rfl, _, rfl, E0, _, _, _, rfl, rfl, .inl (.inl hE9), back_at' eb hb1 (by rw [copyN_len]; omega), E0, _, _, rfl, rfl, hE9, (by rw [bys_len, copyN_len, hz]; omega), _, _, _, _, rfl, fun b h => ?_, ?_⟩
              · rw [upd_ne h]
                exact heq b h
              · rw [upd_same, copyN_succ, ← bys_app]
                rfl
            · obtain ⟨y5, y6, y7, y9, rfl, heq, hE9⟩ := h
              have e3k : (3 + (k2 : Int)).toNat = 3 + k2 := by omega
              rw [e3k] at hE9
              obtain ⟨r, er⟩ := copyN_pre bk (3 + k2) every
              refine ⟨_, _, _, _, _, vs ++ [.ref t], its ++ [.c (3 + k2) bk], copyN every bk (3 + k2), rfl, fun b x e => ?_, ?_, ?_, ?_, by simp [hlen], hE9, ?_, copyN_lt bk _ hk, ?_, due ++ r, by rw [er, edue, List.append_assoc]⟩
              · rw [heq b (ne_of_none e nEH)]
                exact s08 _ _ e
              · rw [heq D hDE]
                exact hD8
              · refine hrow8.mono fun it v h => ?_
                cases it with
                | b k => exact h
                | c m' r' =>
                  obtain ⟨t', et, ht'⟩ := h
                  exact ⟨t', et, by rw [heq t' (ne_of ht' hE8 (fun z => nomatch z))]; exact ht'⟩
              · intro it m
                rcases (List.mem_append.mp m) with (m | m)
                · exact hok it m
                · rw [List.mem_singleton.mp m]
                  exact ⟨by omega, by omega, hb1, hb2⟩
              · rw [tells_app, htell]
                show (if bk ≤ every.length then some (copyN every bk (3 + k2)) else none) = _
                rw [if_pos hle]
              · rw [copyN_len]
                omega
    · obtain ⟨y5, y6, y7, y8, y9, vs, its, every, rfl, sm, hD, hrow, hok, hlen, hE, htell, hk, hev, due, edue⟩ := h
      have hcut : cutV (bys every) (some ((bys lead).length : Int)) none = bys due := by
        rw [edue, bys_len]
        unfold cutV
        rw [HT.sIx_nat, HT.sIx_none, bys_len, List.length_append, Nat.min_eq_left (by omega)]
        unfold bys
        rw [← List.map_drop, ← List.map_drop, ← List.map_take, ← List.map_take, List.drop_left, Nat.add_sub_cancel_left, List.take_length]
      refine ⟨_, rfl, _, rfl, _, rfl, pl, _, rfl, .inl (.inl (.inl (sm _ _ hpl))), _, rfl, E0, _, rfl, .inl (.inl hE), fun r nr => ?_⟩
      rw [hcut]
      have sr := same_upd (o := .lst (bys due)) nr
      have er : (upd H' r (.lst (bys due))) r = some (.lst (bys due)) := upd_same
      have smr := sm.trans sr
      refine ⟨by show 2 ≤ sizeLine; rw [hz]; decide, fun t nt => ?_⟩
      have st := same_upd (o := .tup [.ref D, .ref r]) nt
      refine q _ t D r vs its due (smr.trans st) upd_same (st _ _ (sr _ _ hD)) (hrow.mono fun it v h => (h.same sr).same st) hok (by omega) (st _ _ er) (by rw [htell, edue]) (fun k m => hk k (by rw [edue]; exact List.mem_append.mpr (.inr m))) ?_ (none_back smr nt) nD (none_back sm nr)
      rw [edue, List.length_append] at hev
      omega
end
end K3

namespace K3
open PySem PySem.Spec PyProof.Rows L2
/-! ### _law_first_bad: of items of any kind -/
inductive Any where
  | num (n : Int)
  | tup (l : List Int)
  | lst (l : List Int)
def AnyAt (H : Hp) : Any → V → Prop
  | .num n, v => v = .int n
  | .tup l, v => ∃ t, v = .ref t ∧ H t = some (.tup (l.map V.int))
  | .lst l, v => ∃ t, v = .ref t ∧ H t = some (.lst (l.map V.int))
theorem AnyAt.same {H H' : Hp} {x : Any} {v : V} (h : AnyAt H x v) (s : Same H H') : AnyAt H' x v := by
  cases x with
  | num n => exact h
  | tup l =>
    obtain ⟨t, e, ht⟩ := h
    exact ⟨t, e, s _ _ ht⟩
  | lst l =>
    obtain ⟨t, e, ht⟩ := h
    exact ⟨t, e, s _ _ ht⟩
def stepA (size : Int) : Any → Option Int
  | .num n => if 0 ≤ n ∧ n ≤ 255 then some (size + 1) else none
  | .tup [m, b] => if 3 ≤ m ∧ m ≤ 18 ∧ 1 ≤ b ∧ b ≤ 1024 ∧ b ≤ size then some (size + m) else none
  | _ => none
def firstBad (size : Int) (i : Nat) : List Any → Option Nat
  | [] => none
  | x :: r => match stepA size x with
    | some s => firstBad s (i + 1) r
    | none => some i
theorem firstBad_yes {size s : Int} {i : Nat} {x : Any} {r : List Any} (h : stepA size x = some s) : firstBad size i (x :: r) = firstBad s (i + 1) r := by
  show (match stepA size x with
    | some s => firstBad s (i + 1) r
    | none => some i) = _
  rw [h]
theorem firstBad_no {size : Int} {i : Nat} {x : Any} {r : List Any} (h : stepA size x = none) : firstBad size i (x :: r) = some i := by
  show (match stepA size x with
    | some s => firstBad s (i + 1) r
    | none => some i) = _
  rw [h]
theorem stepA_ne {size : Int} : ∀ {l : List Int}, l.length ≠ 2 → stepA size (.tup l) = none
  | [], _ => rfl
  | [_], _ => rfl
  | [_, _], h => absurd rfl h
  | _ :: _ :: _ :: _, _ => rfl
def optN : Option Nat → V
  | none => .non
  | some i => .int (i : Int)
abbrev NFb : List Str := ["_law_row_here", "_law_lead", "_law_size", "_law_at", "_law_item"]
theorem scFirst : FnScope NFb ["_law_row_here", "_law_lead"] (defScope sFirst) := ⟨rfl, rfl, rfl, by decide +kernel, rfl, by decide +kernel, by decide +kernel⟩
section
variable {P : Program} {w : World} {K : PySem.W.Frag} {mg : Str → Option Value} {base : Heap}
def spFirst : Sp := fun vs H Q _ => ∃ (pr pl : Addr) (us : List V) (any : List Any) (lead : List V), vs = [.ref pr, .ref pl] ∧ H pr = some (.lst us) ∧ Paired (AnyAt H) any us ∧ H pl = some (.lst lead) ∧ any.length ≤ 1000 ∧
  ∀ H', Same H H' → Q (optN (firstBad (lead.length : Int) 0 any)) H'
theorem ok_first {f : Addr} {fd : FuncData} {j : Nat} (F : Fun K "_law_first_bad" "_law_first_bad" sFirst f fd)
    (m1 : mg "len" = none) (m2 : mg "int" = none) (m3 : mg "enumerate" = none) (m4 : mg "isinstance" = none) (m5 : mg "bool" = none) (m6 : mg "min" = none) (m7 : mg "tuple" = none) : FnOk P w K mg base CX0 (j + 1) f fd ["_law_row_here", "_law_lead"] spFirst := by
  refine F.ok scFirst (fun vs H Q E h => ?_) (fun cdv A outer s H vs Q E hr h => ?_)
  · obtain ⟨pr, pl, us, any, lead, rfl, _⟩ := h
    rfl
  · obtain ⟨pr, pl, us, any, lead, rfl, hpr, hany, hpl, hl, q⟩ := h
    have hz := PySem.sizeLine_eq
    refine ⟨_, pss_cons (ps_set (i := 2) scFirst.nd rfl (.inl rfl) (pe_callB call_len_seq (by rfl) m1 PySem.boot_len (pa_cons (pv 1) pa_nil)))
      (pss_cons (ps_for PassesOwn.never rfl (pi_enum (by rfl) m3 (pa_cons (pv 0) pa_nil)) (pg_tup rfl (pgs_cons (pg_name (i := 3) scFirst.nd rfl (.inl rfl)) (pgs_cons (pg_name (i := 4) scFirst.nd rfl (.inl rfl)) pgs_nil)))
        (pss_one (ps_if (PW.pt (pw_and (pt_val (pe_callB call_isi (by rfl) m4 (by decide +kernel) (pa_cons (pv 4) (pa_cons (pe_bltn (v := .ty "int") (by rfl) m2 (by decide +kernel) rfl) pa_nil))))
            (pw_and1 (pt_not (pt_val (pe_callB call_isi (by rfl) m4 (by decide +kernel) (pa_cons (pv 4) (pa_cons (pe_bltn (v := .ty "bool") (by rfl) m5 (by decide +kernel) rfl) pa_nil))))))))
          (pss_cons (ps_if (pt_not (pt_chain op_le op_le pe_int (pv 4) pe_int)) (pss_one (ps_ret (pv 3))) pss_nil)
            (pss_one (ps_set (i := 2) scFirst.nd rfl (.inl rfl) (pe_op op_add (pv 2) pe_int))))
          (pss_cons (ps_if (PW.pt (pw_or (pt_not (pt_val (pe_callB call_isi (by rfl) m4 (by decide +kernel) (pa_cons (pv 4) (pa_cons (pe_bltn (v := .ty "tuple") (by rfl) m7 (by decide +kernel) rfl) pa_nil)))))
              (pw_or (pt_cmpR op_ne (pe_callB call_len_seq (by rfl) m1 PySem.boot_len (pa_cons (pv 4) pa_nil)) pe_int (nomark _))
              (pw_or1 (pt_not (pt_chain op_le op_le pe_int (pe_ix ix_tup (pv 4) pe_int (fun _ _ => rfl)) pe_int))))))
            (pss_one (ps_ret (pv 3))) pss_nil)
          (pss_cons (ps_if (pt_not (pt_chain op_le op_le pe_int (pe_ix ix_tup (pv 4) pe_int (fun _ _ => rfl)) (pe_callB (call_min2 rfl) (by rfl) m6 (by decide +kernel) (pa_cons pe_int (pa_cons (pv 2) pa_nil))))) (pss_one (ps_ret (pv 3))) pss_nil)
            (pss_one (ps_set (i := 2) scFirst.nd rfl (.inl rfl) (pe_op op_add (pv 2) (pe_ix ix_tup (pv 4) pe_int (fun _ _ => rfl))))))))))
      (pss_one (ps_ret pe_non))), ?_⟩
    refine ⟨_, rfl, pl, _, rfl, .inl (.inl (.inl hpl)), ?_⟩
    refine ⟨_, rfl, pr, _, rfl, .inl (.inl hpr), ?_⟩
    have hlen := hany.length
    refine for_it (walk_enum (K := K) (a := pr) (xs := us)) (fun i σ H' => ∃ (y3 y4 : Option V) (size : Int), σ = [some (.ref pr), some (.ref pl), some (.int size), y3, y4] ∧ Same H H' ∧ firstBad (lead.length : Int) 0 any = firstBad size i (any.drop i)) ⟨_, _, _, rfl, Same.refl H, rfl⟩ (fun i σ H' _ h => ?_) (fun i x σ H1 H2 hi h y => ?_) (fun σ H' h => ?_)
    · obtain ⟨y3, y4, size, rfl, sm, e⟩ := h
      exact .inl (.inl (sm _ _ hpr))
    · obtain ⟨y3, y4, size, rfl, sm, efb⟩ := h
      obtain ⟨T0, x0, u, rfl, nT0, rfl, e0, e1⟩ := y
      obtain rfl := Option.some.inj e0
      have hia : i < any.length := by omega
      obtain ⟨u', e1', ha⟩ := paired_get hany (List.getElem?_eq_getElem hia)
      have euu : u' = u := Option.some.inj (e1'.symm.trans e1)
      subst euu
      have sT : Same H1 (upd H1 T0 (.tup [.int ((i : Nat) : Int), u'])) := same_upd nT0
      have ha2 := (ha.same sm).same sT
      have hT : (upd H1 T0 (.tup [.int ((i : Nat) : Int), u'])) T0 = some (.tup [.int ((i : Nat) : Int), u']) := upd_same
      have sm2 := sm.trans sT
      rw [List.drop_eq_getElem_cons hia] at efb
      generalize any[i] = x at *
      generalize upd H1 T0 (.tup [.int ((i : Nat) : Int), u']) = H3 at *
      refine ⟨T0, _, rfl, .inl (.inl hT), rfl, ?_⟩
      refine ⟨_, _, rfl, _, _, rfl, rfl, ?_⟩
      cases x with
      | num n =>
        obtain rfl : u' = .int n := ha
        refine ⟨_, rfl, _, _, _, _, _, rfl, .ty "int", .base (.int _), kit_ty (a := "int") (r := true) (by decide +kernel), _, rfl, iteT ?_⟩
        refine ⟨_, rfl, _, _, _, _, _, rfl, .ty "bool", .base (.int _), kit_ty (a := "int") (r := false) (by decide +kernel), _, rfl, iteT ?_⟩
        refine ⟨_, rfl, _, _, rfl, rfl, _, rfl, ?_⟩
        have bad : ¬ (0 ≤ n ∧ n ≤ 255) → Q (.int (i : Int)) H3 := fun c => by
          have q' := q H3 sm2
          rw [efb, firstBad_no (by show (if 0 ≤ n ∧ n ≤ 255 then some (size + 1) else none) = none; rw [if_neg c])] at q'
          exact q'
        refine ite2 (fun c1 => ⟨_, _, rfl, rfl, _, rfl, ite2 (fun c2 => ?_) (fun c2 => ?_)⟩) (fun c1 => ⟨_, rfl, ite2 (fun c2 => ?_) (fun c2 => ?_)⟩)
        · exact ⟨_, rfl, bad (by simp at c2; omega)⟩
        · have c1' := of_decide_eq_true c1
          simp at c2
          exact ⟨_, rfl, _, _, rfl, rfl, _, _, size + 1, rfl, sm2, by rw [efb, firstBad_yes (by show (if 0 ≤ n ∧ n ≤ 255 then some (size + 1) else none) = _; rw [if_pos ⟨c1', by omega⟩])]⟩
        · exact ⟨_, rfl, bad (by simp at c1; omega)⟩
        · simp at c1 c2
      | lst l =>
        obtain ⟨t, rfl, ht⟩ := ha2
        refine ⟨_, rfl, _, _, .type "list", _, false, rfl, .ty "int", .base (.lst ht), kit_ty (a := "list") (r := false) (by decide +kernel), _, rfl, iteF ?_⟩
        refine ⟨_, rfl, _, _, .type "list", _, false, rfl, .ty "tuple", .base (.lst ht), kit_ty (a := "list") (r := false) (by decide +kernel), _, rfl, iteT ?_⟩
        have q' := q H3 sm2
        rw [efb, firstBad_no rfl] at q'
        exact ⟨_, rfl, q'⟩
      | tup l =>
        obtain ⟨t, rfl, ht⟩ := ha2
        refine ⟨_, rfl, _, _, .type "tuple", _, false, rfl, .ty "int", .base (.tup ht), kit_ty (a := "tuple") (r := false) (by decide +kernel), _, rfl, iteF ?_⟩
        refine ⟨_, rfl, _, _, .type "tuple", _, true, rfl, .ty "tuple", .base (.tup ht), kit_ty (a := "tuple") (r := true) (by decide +kernel), _, rfl, iteF ?_⟩
        refine ⟨_, rfl, t, _, rfl, .inr (.inl (.inl ht)), rfl, _, rfl, ite2 (fun c1 => ?_) (fun c1 => ?_)⟩
        · have hne : l.length ≠ 2 := by
            intro z
            rw [List.length_map, z] at c1
            cases c1
          have q' := q H3 sm2
          rw [efb, firstBad_no (stepA_ne hne)] at q'
          exact ⟨_, rfl, q'⟩
        · have h2 : l.length = 2 := by
            simp at c1
            omega
          obtain ⟨m, b, rfl⟩ : ∃ m b, l = [m, b] := by
            match l, h2 with
            | [m, b], _ => exact ⟨m, b, rfl⟩
          have bad : ¬ (3 ≤ m ∧ m ≤ 18 ∧ 1 ≤ b ∧ b ≤ 1024 ∧ b ≤ size) → Q (.int (i : Int)) H3 := fun c => by
            have q' := q H3 sm2
            rw [efb, firstBad_no (by show (if 3 ≤ m ∧ m ≤ 18 ∧ 1 ≤ b ∧ b ≤ 1024 ∧ b ≤ size then some (size + m) else none) = none; rw [if_neg c])] at q'
            exact q'
          have good : 3 ≤ m → m ≤ 18 → 1 ≤ b → b ≤ 1024 → b ≤ size → firstBad (lead.length : Int) 0 any = firstBad (size + m) (i + 1) (any.drop (i + 1)) := fun g1 g2 g3 g4 g5 => by
            rw [efb, firstBad_yes (by show (if 3 ≤ m ∧ m ≤ 18 ∧ 1 ≤ b ∧ b ≤ 1024 ∧ b ≤ size then some (size + m) else none) = _; rw [if_pos ⟨g1, g2, g3, g4, g5⟩])]
          refine ⟨_, rfl, t, _, 0, _, rfl, rfl, .inl (.inl ht), rfl, _, _, rfl, rfl, _, rfl, ?_⟩
          refine ite2 (fun c3 => ⟨_, _, rfl, rfl, _, rfl, ite2 (fun c4 => ?_) (fun c4 => ?_)⟩) (fun c3 => ⟨_, rfl, ite2 (fun c4 => ?_) (fun c4 => ?_)⟩)
          · exact ⟨_, rfl, bad (by simp at c4; omega)⟩
          · have c3' := of_decide_eq_true c3
            simp at c4
            refine ⟨_, rfl, t, _, 1, _, rfl, rfl, .inl (.inl ht), rfl, _, _, rfl, rfl, _, rfl, ?_⟩
            refine ite2 (fun c5 => ⟨_, rfl, _, _, rfl, _, _, rfl, rfl, _, rfl, ite2 (fun c6 => ?_) (fun c6 => ?_)⟩) (fun c5 => ⟨_, rfl, ite2 (fun c6 => ?_) (fun c6 => ?_)⟩)
            · refine ⟨_, rfl, bad fun z => ?_⟩
              have e7 : (if size < 1024 then size else 1024) < b := by simpa using c6
              split at e7 <;> omega
            · have e7 : b ≤ (if size < 1024 then size else 1024) := by simpa using c6
              have c5' := of_decide_eq_true c5
              have e8 : b ≤ 1024 ∧ b ≤ size := by split at e7 <;> omega
              exact ⟨_, rfl, _, rfl, t, _, 0, _, rfl, rfl, .inl (.inl ht), rfl, _, _, rfl, rfl, _, _, size + m, rfl, sm2, good c3' (by omega) c5' e8.1 e8.2⟩
            · exact ⟨_, rfl, bad (by simp at c5; omega)⟩
            · simp at c5 c6
          · exact ⟨_, rfl, bad (by simp at c3; omega)⟩
          · simp at c3 c4
    · obtain ⟨y3, y4, size, rfl, sm, e⟩ := h
      have q' := q H' sm
      rw [e, ← hlen, List.drop_length] at q'
      exact q'
end
end K3

/-! ### own exceptions that say super().__init__(f"..{x}") and then self.x = x -/
namespace SX
open PySem PySem.W PySem.Calls PyProof.Rows PySem.HandSPX
def sxA (f : Str) (p1 p2 : Pos) : Arguments := { posonlyargs := [], args := [⟨"self", none, p1⟩, ⟨f, none, p2⟩], vararg := none, kwonlyargs := [], kw_defaults := [], kwarg := none, defaults := [] }
def sxB (f pre : Str) (k : Nat) (q : Nat → Pos) : List Stmt :=
  [.Expr (.Call (.Attribute (.Call (.Name "super" (q 0)) [] [] (q 1)) "__init__" (q 2)) [.JoinedStr [.Constant (.str pre) k (q 3), .FormattedValue (.Name f (q 4)) (-1) none (q 5)] (q 6)] [] (q 7)) (q 8),
   .Assign [.Attribute (.Name "self" (q 9)) f (q 10)] (.Name f (q 11)) (q 12)]
def sxS (f : Str) : Scope := { kind := .function, names := [("self", .local), (f, .local), ("__class__", .free), ("super", .globalImplicit)], isGenerator := false, isCoroutine := false, more := [] }
/-- the call's places stand so that nothing of its row is asked -/
def SxPos (q : Nat → Pos) : Prop := ∀ (env : Env) (o : Expr) (es : List Expr) (pe : Pos), ∃ pl : Sem Bool, eval (.Call (.Attribute o "__init__" (q 2)) [.JoinedStr es pe] [] (q 7)) env = (do
  let ov ← attributeBase o "__init__" env (eval o env)
  standAt (q 2).atName
  let (g, first) ← holding [ov] (getMethod ov "__init__" pl)
  callWith (q 7) g first (backTo (q 7) (starEach [.JoinedStr es pe] env)) [])
/-- what the written part says of such a class -/
structure SxTxt (prog : Program) (K : Frag) (mg : Str → Option Value) (C fI : Addr) (cn f pre qual : Str) : Prop where
  gC : mg cn = some (.ref C)
  cls : ∃ nm q N bs bm sn sub ab col dd k0 k1 k2 k3 k5, K.lookup C = some (excClassObj nm q C N bs bm true sn sub ab col dd k0 k1 k2 k3 k5 "ValueError.__new__") ∧ refsVE bm = true ∧ alongIn K "__init__" bm = some (some (.builtin "ValueError.__init__"))
  sa : findIn K (.ref C) "__setattr__" = some (some (.builtin "object.__setattr__"))
  ga : findIn K (.ref C) "__getattribute__" = some (some (.builtin "BaseException.__getattribute__"))
  gg : findIn K (.ref C) "__getattr__" = some none
  noN : findIn K (.ref C) f = some none
  iC : findIn K (.ref C) "__init__" = some (some (.ref fI))
  tI : typeIn K (.ref fI) = some (.type "function")
  kC : keepIn K (.ref C) = true
  exC : subIn K (.ref C) (.type "BaseException") = some true
  veC : subIn K (.ref C) (.type "ValueError") = some true
  seC : subIn K (.ref C) (.ref C) = some true
  tyC : typeIn K (.ref C) = some (.type "type")
  hdC : hasDictIn K C = true
  op : nsIn K cStatics "thirdparty.any" = some none
  sup : mg "super" = none
  top : (prog.main.scope.names.lookup ("super" : Str)).isSome = false
  fn : ∃ (oc : Value) (od : Option Addr) (doc pm : Value) (an : Option Addr) (ct : Value) (osl : Array (Option Value)) (p1 p2 : Pos) (k : Nat) (q : Nat → Pos) (cda cc : Addr) (ccl : Value) (cdd : Option Addr) (vs : Array Value) (ccs : Array (Option Value)) (file : Str) (tf : Tok) (cl : Value) (cld : Option Addr) (csl : Array (Option Value)),
    K.lookup fI = some ⟨oc, od, .func (ksFn "__init__" qual (sxA f p1 p2) (sxB f pre k q) (sxS f) .none .none doc pm an (.ref cda) ct cc), osl⟩ ∧ codeIn K (.ref cda) qual = true ∧
    K.lookup cda = some ⟨ccl, cdd, .fields vs, ccs⟩ ∧ vs[2]? = some (.str file tf) ∧ ((prog.main.file : Str) == file) = true ∧ K.lookup cc = some ⟨cl, cld, .cell (some (.ref C)), csl⟩ ∧ SxPos q
  fBind : ∀ (doc pm : Value) (an : Option Addr) (cdv ct : Value) (cc : Addr) (p1 p2 : Pos) (k : Nat) (q : Nat → Pos) (a v : Value), bindArgs (ksFn "__init__" qual (sxA f p1 p2) (sxB f pre k q) (sxS f) .none .none doc pm an cdv ct cc) ⟨[a, v], []⟩ = pure [(("self" : Str), a), (f, v)]
  preS : pre.length ≤ 1000
  fSelf : (("self" : Str) == f) = false
  fDbg : (f == ("__debug__" : Str)) = false
  fLoc : (sxS f).names.lookup f = some .local
  fSup : (sxS f).names.lookup ("super" : Str) = some .globalImplicit
  fCls : (sxS f).names.lookup ("__class__" : Str) = some .free
/-- what such an __init__ leaves of a new exception at x -/
structure SxEnd (h h' : Heap) (x C dx : Addr) (f : Str) (v : Value) : Prop where
  keep : ∀ b o, b ≠ x → h.get? b = some o → h'.get? b = some o
  obj : ∃ t1, h'.get? x = some { cls := .ref C, dict := some dx, data := .fields #[.ref t1, .none, .none, .none, .bool false, .none] }
  dbig : h.objs.size ≤ dx
  dne : dx ≠ x
  ns : h'.Ns1 dx (fun y => if y = f then some v else none)
theorem boot_super : bootBuiltins "super" = some (.type "super") := by decide +kernel
theorem drop_first (C : Addr) (l : List Value) : ((Value.ref C :: l).dropWhile fun y => y != .ref C).drop 1 = l := by simp [List.dropWhile_cons]
section
variable {prog : Program} {w : World} {A : Around} {E : Value → Shared → Prop} {R : Result → Shared → Prop} {K : Frag} {mg : Str → Option Value} {C fI : Addr} {cn f pre qual : Str}
/-- a built-in __init__ that is bound to x, called -/
theorem call_mw {h : Heap} {g : Array GenState} {d : Drawn} {t : Nat} {os : OsState} {u x t0 : Addr} {rest : List Value} {Q : Value → Shared → Prop} {nm q : Str} {N : Addr} {bs bm : List Value} {hdct : Bool} {sn : List Str} {sub : List Value} {ab : Bool} {col : Option Bool} {dd : Option Addr} {k0 k1 k2 k3 k5 : Option Value}
    (hC : h.get? C = some (excClassObj nm q C N bs bm hdct sn sub ab col dd k0 k1 k2 k3 k5 "ValueError.__new__")) (hx : h.get? x = some (excO C t0)) (hu : h.get? u = some (kxs_mw "ValueError.__init__" x)) (hr : rest.length ≤ sizeLine)
    (hq : ∀ h' t1, (∀ b o, b ≠ x → h.get? b = some o → h'.get? b = some o) → h'.get? x = some (excO C t1) → Q .none ⟨h', g, d, t, os⟩) : wpAny (model prog w) A (call (.ref u) rest) Q E ⟨h, g, d, t, os⟩ := by
  refine' wpAny_call (codeAny_of_tree _)
  show wpAny (model prog w) A.in1 (callAny (.ref u) ⟨rest, []⟩) _ _ _
  (simp only [callAny]); (refine wpAny_bind (wpAny_load hu ?_))
  have c1 : (Value.type "method-wrapper" == Value.type "method" || Value.type "method-wrapper" == Value.type "builtin_function_or_method" || Value.type "method-wrapper" == Value.type "method-wrapper") = true := by decide
  simp only [kxs_mw, c1, if_true]
  refine W.KFB.if_so (by decide) (wpAny_bind (check_bound_init F.excBase_ValueError.toExcCallFacts hC hx rfl ?_))
  refine wpAny_bind (wpAny_pure (wpAny_pure ⟨plainId_quiet F.excBase_ValueError.init.plain _, codeAny_builtin F.excBase_ValueError.initEntry ?_⟩))
  exact exc_init_tree (cls := .ref C) (t0 := t0) (dv := none) (c2 := .none) (c3 := .none) (b4 := .bool false) hx hr fun h' k hx' _ => hq h' _ k hx'
abbrev sxE (f pre qual : Str) (p1 p2 : Pos) (kk : Nat) (q : Nat → Pos) (doc pm : Value) (an : Option Addr) (cda : Addr) (ct : Value) (cc L fI : Addr) : Env :=
  callEnv (ksFn "__init__" qual (sxA f p1 p2) (sxB f pre kk q) (sxS f) .none .none doc pm an (.ref cda) ct cc) L fI
/-- from the bound __init__'s call on -/
theorem sx_rest (T : SxTxt prog K mg C fI cn f pre qual) {s : Shared} {x t0 u cda cc : Addr} {v : Value} {oc : Value} {od : Option Addr} {doc pm ct : Value} {an : Option Addr} {osl : Array (Option Value)} {p1 p2 : Pos} {kk : Nat} {q : Nat → Pos} {nm qn : Str} {N : Addr} {bs bm : List Value} {sn : List Str} {sub : List Value} {ab : Bool} {col : Option Bool} {dd : Option Addr} {k0 k1 k2 k3 k5 : Option Value}
    {h₀ h₂ h₃ : Heap} {y : Str} {tk tk2 : Nat}
    (ho : K.lookup fI = some ⟨oc, od, .func (ksFn "__init__" qual (sxA f p1 p2) (sxB f pre kk q) (sxS f) .none .none doc pm an (.ref cda) ct cc), osl⟩)
    (hcl : clsIn K C = some { name := nm, bases := bs, mro := .ref C :: bm, ns := N, qualname := qn, hasDict := true, slotNames := sn, subclasses := sub, abstract := ab, collection := col, hasDel := false })
    (hC : K.lookup C = some (excClassObj nm qn C N bs bm true sn sub ab col dd k0 k1 k2 k3 k5 "ValueError.__new__")) (hbm : refsVE bm = true) (X : K.In s.heap) (hx : s.heap.get? x = some (excO C t0)) (hnx : K.lookup x = none)
    (k : ∀ b o, s.heap.get? b = some o → h₀.get? b = some o) (k2' : ∀ b o, h₀.get? b = some o → h₂.get? b = some o) (k3' : ∀ b o, h₂.get? b = some o → h₃.get? b = some o)
    (hu : h₃.get? u = some (kxs_mw "ValueError.__init__" x)) (hns : h₃.Ns s.heap.objs.size fun y => List.lookup y [(("self" : Str), Value.ref x), (f, v)].reverse)
    (vself : List.lookup ("self" : Str) ([(("self" : Str), Value.ref x), (f, v)].reverse) = some (.ref x)) (vfld : List.lookup f ([(("self" : Str), Value.ref x), (f, v)].reverse) = some v)
    (hq : ∀ h' tk dx, SxEnd s.heap h' x C dx f v → R (.ok (.ret .none)) { s with heap := h', toks := tk }) :
    wpAny (model prog w) (A.deeper (sxE f pre qual p1 p2 kk q doc pm an cda ct cc s.heap.objs.size fI)) (call (.ref u) [.str y tk])
      (fun _ s' => PySem.wpAt (model prog w) (A.deeper (sxE f pre qual p1 p2 kk q doc pm an cda ct cc s.heap.objs.size fI)) (.func (sxB f pre kk q) (sxE f pre qual p1 p2 kk q doc pm an cda ct cc s.heap.objs.size fI))
        (execs [.Assign [.Attribute (.Name "self" (q 9)) f (q 10)] (.Name f (q 11)) (q 12)] (sxE f pre qual p1 p2 kk q doc pm an cda ct cc s.heap.objs.size fI))
        (fun fl s' => R (Except.ok (Flow.ret (match fl with | Flow.ret v => v | _ => Value.none))) s')
        (fun e s' => wpAny (model prog w) (A.deeper (sxE f pre qual p1 p2 kk q doc pm an cda ct cc s.heap.objs.size fI)) (leaving (sxE f pre qual p1 p2 kk q doc pm an cda ct cc s.heap.objs.size fI) e) (fun _ s'' => R (.error e) s'') (fun e' s'' => R (.error e') s'') s') s')
      (fun e s' => wpAny (model prog w) (A.deeper (sxE f pre qual p1 p2 kk q doc pm an cda ct cc s.heap.objs.size fI)) (leaving (sxE f pre qual p1 p2 kk q doc pm an cda ct cc s.heap.objs.size fI) e) (fun _ s'' => R (.error e) s'') (fun e' s'' => R (.error e') s'') s')
      { s with heap := h₃, toks := tk2 } := by
  have X₃ : K.In h₃ := ((X.keeps k).keeps k2').keeps k3'
  have hx₃ := k3' _ _ (k2' _ _ (k _ _ hx))
  refine call_mw (X₃ _ _ hC) hx₃ hu (by rw [sizeLine_eq]; show 1 ≤ 16777216; decide) fun h' t1 k' hx' => ?_
  have X' : K.In h' := fun a o e => by
    by_cases ha : a = x
    · rw [ha, hnx] at e; cases e
    · exact k' a o ha (X₃ a o e)
  have hxL : s.heap.objs.size ≠ x := Nat.ne_of_gt (Heap.lt_size hx)
  have hns' := hns.at fun o e => k' _ o hxL e
  refine wpAt_of_wpAny (wpAny_execs_cons (plainObj_wpAny_Assign_Attribute ?_))
  refine wpAny_Name (wpAny_loadName_local rfl T.fLoc hns' vfld (wpAny_Name (wpAny_loadName_local rfl rfl hns' vself ?_) (by decide))) T.fDbg
  refine set_plain X' (ox := excO C t1) (od := none) ⟨hx', rfl, rfl, trivial⟩ T.sa (exc_osa X' hx' hcl (show refsVE (.ref C :: bm) = true from hbm) rfl T.noN (fun h₅ tk₅ dx k₅ dn dne hx₅ hn₅ => ?_))
  obtain ⟨oL, _, _, hL, _⟩ := hns'
  have z : s.heap.objs.size < h'.objs.size := Heap.lt_size hL
  refine wpAny_execs_nil (hq h₅ tk₅ dx ⟨fun b o hb e => k₅ b o hb (k' b o hb (k3' _ _ (k2' _ _ (k b o e)))), ⟨_, hx₅⟩, Nat.le_of_lt (Nat.lt_of_lt_of_le z dn), dne, hn₅⟩)
theorem sx_init (T : SxTxt prog K mg C fI cn f pre qual) {s : Shared} {x t0 : Addr} {v : Value} (X : K.In s.heap) (hlim : s.heap.NoLimit) (G : s.heap.Ns mainGlobals mg) (B : ∃ mb, s.heap.Ns builtinsNs mb ∧ ∀ y : Str, y ≠ "__name__" → mb y = bootBuiltins y)
    (hx : s.heap.get? x = some (excO C t0)) (hnx : K.lookup x = none) (hroom : A.depth < recursionLimit) (hv : (∃ (i : Int) (t : Tok), v = .int i t ∧ i.natAbs.log2 < 1920) ∨ v = .none)
    (hq : ∀ h' tk dx, SxEnd s.heap h' x C dx f v → R (.ok (.ret .none)) { s with heap := h', toks := tk }) :
    codeAny (model prog w) A (.call (.ref fI) ⟨[.ref x, v], []⟩) R s := by
  obtain ⟨oc, od, doc, pm, an, ct, osl, p1, p2, kk, q, cda, cc, ccl, cdd, vs, ccs, file, tf, cl, cld, csl, ho, hcd, hcode, hvs, hfile, hcell, hpos⟩ := T.fn
  obtain ⟨nm, qn, N, bs, bm, sn, sub, ab, col, dd, k0, k1, k2, k3, k5, hC, hbm, hal⟩ := T.cls
  obtain ⟨mb, Bn, Bb⟩ := B
  have hcl : clsIn K C = some { name := nm, bases := bs, mro := .ref C :: bm, ns := N, qualname := qn, hasDict := true, slotNames := sn, subclasses := sub, abstract := ab, collection := col, hasDel := false } := by unfold clsIn; rw [hC] <;> rfl
  have hxC : x ≠ C := fun z => by rw [z, hC] at hnx; cases hnx
  refine ks_codeAny_call_defAt (fd := ksFn "__init__" qual (sxA f p1 p2) (sxB f pre kk q) (sxS f) .none .none doc pm an (.ref cda) ct cc) (body := sxB f pre kk q) (binds := [("self", .ref x), (f, v)]) hroom (X _ _ ho) rfl hlim (codeRec_of X hcd) rfl (BindsTo.of_eq ?_) ?_ ?_ (fun h₀ hns k => ?_) rfl rfl rfl
  · exact T.fBind _ _ _ _ _ _ _ _ _ _ _ _
  · intro y hy
    rcases List.mem_cons.mp hy with rfl | hy
    · exact fun z => by cases z
    rcases List.mem_cons.mp hy with rfl | hy
    · exact fun z => by cases z
    rcases List.mem_cons.mp hy with rfl | hy
    · exact fun z => by cases z
    rcases List.mem_cons.mp hy with rfl | hy
    · exact fun z => by cases z
    · cases hy
  · intro y hy
    rcases List.mem_cons.mp hy with rfl | hy
    · rfl
    rcases List.mem_cons.mp hy with rfl | hy
    · exact T.fLoc
    · cases hy
  have hxL : s.heap.objs.size ≠ x := Nat.ne_of_gt (Heap.lt_size hx)
  have X₁ : K.In h₀ := X.keeps k
  have hx₁ := k _ _ hx
  have vself : List.lookup ("self" : Str) ([(("self" : Str), Value.ref x), (f, v)].reverse) = some (.ref x) := by
    show List.lookup ("self" : Str) [(f, v), (("self" : Str), Value.ref x)] = some (.ref x)
    rw [List.lookup, T.fSelf] <;> rfl
  have vfld : List.lookup f ([(("self" : Str), Value.ref x), (f, v)].reverse) = some v := by
    show List.lookup f [(f, v), (("self" : Str), Value.ref x)] = some v
    rw [List.lookup, beq_self_eq_true]
  obtain ⟨pl, hpl⟩ := hpos (callEnv (ksFn "__init__" qual (sxA f p1 p2) (sxB f pre kk q) (sxS f) .none .none doc pm an (.ref cda) ct cc) s.heap.objs.size fI) (.Call (.Name "super" (q 0)) [] [] (q 1)) [.Constant (.str pre) kk (q 3), .FormattedValue (.Name f (q 4)) (-1) none (q 5)] (q 6)
  refine ks_wpAt_execs_cons (ks_wpAt_Expr_any (ks_wpAt_MethodCall ?_ hpl))
  refine ks_wpAt_super_base T.fSup T.fCls (by decide) rfl (k _ _ (X _ _ ho)) rfl rfl rfl (k _ _ (X _ _ hcode)) rfl hvs hfile T.top ?_
  refine ks_loadName_global rfl T.fSup (loadGlobal_builtin (mg := mg) (mb := mb) (G.keeps k) T.sup (Bn.keeps k) ((Bb _ (by decide)).trans boot_super) ⟨rfl, ?_⟩)
  refine wpAny_loadName_free rfl T.fCls (c := cc) (v := .ref C) rfl ⟨_, k _ _ (X _ _ hcell), rfl⟩ ?_
  refine wpAny_loadName_local rfl rfl hns vself ?_
  refine ks_wpAny_isType_cls (X₁ _ _ hC) rfl ⟨rfl, ?_⟩
  refine ks_wpAny_call_super (X₁ _ _ hC) rfl hx₁ rfl (fun c e => by cases e) (looks_subIn X₁ T.seC) (fun h₂ e₂ k₂ => ?_)
  have X₂ : K.In h₂ := X₁.keeps k₂
  have hx₂ := k₂ _ _ hx₁
  have I₂ : InstAt h₂ x (excO C t0) C none := ⟨hx₂, rfl, rfl, trivial⟩
  refine kxs_getMethod kxs_ValueError e₂ (looks_opaque X₂ T.op) (l₀ := .ref C :: bm) ((looks_clsIn X₂ hcl).andThen .now) (drop_first C bm) X₂ hal (I₂.type.andThen (looks_subIn X₂ T.veC)) hxC rfl ?_
  have e₃ : (h₂.push (kxs_mw "ValueError.__init__" x)).get? h₂.objs.size = some (kxs_mw "ValueError.__init__" x) := Heap.get?_push_at rfl rfl
  have k₃ : ∀ b o, h₂.get? b = some o → (h₂.push (kxs_mw "ValueError.__init__" x)).get? b = some o := fun b o e => Heap.get?_push_of_some _ e
  have hns₃ := (hns.keeps k₂).keeps k₃
  generalize h₂.push (kxs_mw "ValueError.__init__" x) = h₃ at e₃ k₃ hns₃ ⊢
  refine kxs_callWith (i := "ValueError.__init__") (x := x) rfl (evalArgs_plain ?_)
  have hlen : ∀ i : Int, i.natAbs.log2 < 1920 → (Str.empty ++ pre ++ Str.ofString (toString i)).length ≤ sizeLine := fun i hi => by
    have e := int_text_length_le (k := 1920) (by decide) hi
    have := T.preS
    rw [strLen_append, strLen_append, PySem.ofString_length, sizeLine_eq]
    show 0 + pre.length + (toString i).length ≤ 16777216
    omega
  have hpre : (Str.empty ++ pre).length ≤ sizeLine := by
    have := T.preS
    rw [strLen_append, sizeLine_eq]
    show 0 + pre.length ≤ 16777216
    omega
  rcases hv with ⟨i, ti, rfl, hi⟩ | rfl
  · refine Calls.spliced_cons (wpAny_JoinedStr (v₁ := .Constant (.str pre) kk (q 3)) (v₂ := .FormattedValue (.Name f (q 4)) (-1) none (q 5)) (rest := []) (pos := q 6) (wpAny_Constant_str ⟨pre, _, rfl, hpre, ?_⟩))
    refine wpAny_FormattedValue_plain (wpAny_Name (wpAny_loadName_local rfl T.fLoc hns₃ vfld (wpAny_formatField_int hi ⟨_, _, rfl, hlen i hi, hlen i hi, ?_⟩)) T.fDbg)
    refine Calls.spliced_nil ⟨e₃, ?_⟩
    exact sx_rest T ho hcl hC hbm X hx hnx k k₂ k₃ e₃ hns₃ vself vfld hq
  · refine Calls.spliced_cons (wpAny_JoinedStr (v₁ := .Constant (.str pre) kk (q 3)) (v₂ := .FormattedValue (.Name f (q 4)) (-1) none (q 5)) (rest := []) (pos := q 6) (wpAny_Constant_str ⟨pre, _, rfl, hpre, ?_⟩))
    have hn4 : (Str.empty ++ pre ++ Str.ofString "None").length ≤ sizeLine := by
      have := T.preS
      rw [strLen_append, strLen_append, sizeLine_eq]
      show 0 + pre.length + 4 ≤ 16777216
      omega
    refine wpAny_FormattedValue_plain (wpAny_Name (wpAny_loadName_local rfl T.fLoc hns₃ vfld (wpAny_formatField_none ⟨_, _, rfl, hn4, hn4, ?_⟩)) T.fDbg)
    exact Calls.spliced_nil ⟨e₃, sx_rest T ho hcl hC hbm X hx hnx k k₂ k₃ e₃ hns₃ vself vfld hq⟩
/-- a made one: e new, its dict d new -/
structure SxMade (h h' : Heap) (e C d : Addr) (f : Str) (v : Value) : Prop where
  keep : ∀ b o, h.get? b = some o → h'.get? b = some o
  new : h.objs.size ≤ e
  obj : ∃ oe fs, h'.get? e = some oe ∧ oe.cls = .ref C ∧ oe.dict = some d ∧ oe.data = .fields fs ∧ fs[1]? = some .none ∧ fs[2]? = some .none
  dbig : h.objs.size ≤ d
  dne : d ≠ e
  ns : h'.Ns1 d (fun y => if y = f then some v else none)
theorem sx_made (T : SxTxt prog K mg C fI cn f pre qual) {s : Shared} {v : Value} (X : K.In s.heap) (hlim : s.heap.NoLimit) (G : s.heap.Ns mainGlobals mg) (B : ∃ mb, s.heap.Ns builtinsNs mb ∧ ∀ y : Str, y ≠ "__name__" → mb y = bootBuiltins y)
    (hroom : A.depth + 1 < recursionLimit) (hv : (∃ (i : Int) (t : Tok), v = .int i t ∧ i.natAbs.log2 < 1920) ∨ v = .none)
    (hq : ∀ h' tk e d, SxMade s.heap h' e C d f v → R (.ok (.ret (.ref e))) { s with heap := h', toks := tk }) : codeAny (model prog w) A (.call (.ref C) ⟨[v], []⟩) R s := by
  obtain ⟨nm, qn, N, bs, bm, sn, sub, ab, col, dd, k0, k1, k2, k3, k5, hC, hbm, hal⟩ := T.cls
  obtain ⟨hp, g, dr, tk, os⟩ := s
  obtain ⟨mb, Bn, Bb⟩ := B
  have kp : ∀ b o, hp.get? b = some o → ((hp.push (kdv_tup [v])).push (excO C hp.objs.size)).get? b = some o := fun b o z => Heap.get?_push_of_some _ (Heap.get?_push_of_some _ z)
  have atE : ((hp.push (kdv_tup [v])).push (excO C hp.objs.size)).get? (hp.objs.size + 1) = some (excO C hp.objs.size) := by heap_get
  have notK : K.lookup (hp.objs.size + 1) = none := by
    cases z : K.lookup (hp.objs.size + 1) with
    | none => rfl
    | some o => exact absurd (Nat.lt_of_succ_lt (Heap.lt_size (X _ _ z))) (Nat.lt_irrefl _)
  have hone : ([v] : List Value).length ≤ sizeLine := by
    rw [sizeLine_eq]
    show 1 ≤ 16777216
    decide
  refine call_own F.excBase_ValueError (fun Y => refsVE_contains Y bm hbm) (X _ _ hC) (looks_findIn X T.iC) (fun self => bind_fn X self T.tI) hone (sx_init (s := ⟨(hp.push (kdv_tup [v])).push (excO C hp.objs.size), g, dr, tk, os⟩) T (X.keeps kp) (hlim.keeps kp) (G.keeps kp) ⟨mb, Bn.keeps kp, Bb⟩ atE notK ?_ hv fun h' tk' dx M => ?_)
  · show A.depth + 1 < recursionLimit
    exact hroom
  · have z : hp.objs.size + 1 + 1 ≤ dx := by
      have zz := M.dbig
      rw [Heap.size_push, Heap.size_push] at zz
      exact zz
    obtain ⟨t1, ho⟩ := M.obj
    exact ⟨rfl, hq h' tk' (hp.objs.size + 1) dx ⟨fun b o zb => M.keep b o (Nat.ne_of_lt (Nat.lt_succ_of_lt (Heap.lt_size zb))) (kp b o zb), Nat.le_succ _, ⟨_, _, ho, rfl, rfl, rfl, rfl, rfl⟩, (by show hp.objs.size ≤ dx; omega), M.dne, M.ns⟩⟩
end
end SX
namespace L2
open PySem PySem.Spec PyProof.Rows
section
variable {X : Cx} {C fI : Addr} {cn f pre qual : Str}
/-- C(e), C with such an __init__: an int or None -/
def tMkSx (C : Addr) (f : Str) (ta : TA) : St → Hp → XK → Prop := fun σ H Q => ta σ H fun vs H1 => ∃ v, vs = [v] ∧ ((∃ i : Int, v = .int i ∧ i.natAbs.log2 < 1920) ∨ v = .non) ∧ ∀ d, H1 d = none → Q (.ref C) (some d) (upd H1 d (.xd [(f, v)]))
theorem relO_sx {f : Str} {v : V} {u : Value} (r : RelV v u) (g : Str) : RelO (List.lookup g [(f, v)]) (if g = f then some u else none) := by
  by_cases hg : g = f
  · rw [if_pos hg, hg, List.lookup, beq_self_eq_true]
    exact r
  · have e : (g == f) = false := by simpa using hg
    rw [if_neg hg, List.lookup, e]
    trivial
theorem pmk_sx {a : Expr} {ta : TA} {p pos : Pos} {k : Nat} (T : SX.SxTxt X.prog X.K X.mg C fI cn f pre qual) (hr : Room k X.A) (ha : PA X [a] ta) (hg : Gl X cn) (hdb : (cn == ("__debug__" : Str)) = false := by decide)
    (he : starEach (a :: []) X.env = (false, eval a X.env) :: starEach [] X.env := by rfl) (hpl : (backTo pos (starEach [] X.env)).any (·.1) = false := by rfl) : L2N.PMk X (.Call (.Name cn p) [a] [] pos) (tMkSx C f ta) := by
  intro pins s σ H Q I h
  refine wpAny_Call_Name_kw (ld_glob I hg T.gC ?_ hdb)
  refine PySem.W.callWith_K (h₀ := X.base) I.ok.mod.kin T.kC (thn (ha.run pos pins s σ H _ I h) fun us s1 ⟨vs, H1, I1, r1, v, ev, hv, q1⟩ => ?_) he hpl
  subst ev
  refine ⟨I1.kIn, ?_⟩
  cases r1 with
  | @cons _ u _ us' rv rn =>
    cases rn
    show wpAny (model X.prog X.w) X.A (call (.ref C) [u]) _ _ _
    have hu : (∃ (i : Int) (t : Tok), u = .int i t ∧ i.natAbs.log2 < 1920) ∨ u = .none := by
      rcases hv with ⟨i, rfl, hi⟩ | rfl
      · obtain ⟨t, rfl⟩ := rv
        exact .inl ⟨i, t, rfl, hi⟩
      · exact .inr rv
    have hlim := I1.nolimit
    have hG := I1.mod.glob.keeps I1.bk
    obtain ⟨mb, hB, hBb⟩ := I1.mod.blt
    obtain ⟨hp, g, dr, tk, os⟩ := s1
    refine wpAny_call (SX.sx_made T I1.kIn hlim hG ⟨mb, hB.keeps I1.bk, hBb⟩ (by have := hr.dp; omega) hu fun h' tk' e d M => ?_)
    show L2N.MkP X pins σ Q (.ref e) ⟨h', g, dr, tk', os⟩
    obtain ⟨oe, fv, hoe, hc, hd, hdat, h1, h2⟩ := M.obj
    obtain ⟨Gh, gg, ge'⟩ := restrict h' fun b => decide (b ≠ e)
    have gk : ∀ b, b ≠ e → Gh.get? b = h'.get? b := fun b hb => gg b (decide_eq_true hb)
    have ge : Gh.get? e = none := ge' e (by simp)
    have J : Inv X pins σ (upd H1 d (.xd [(f, v)])) ⟨Gh, g, dr, tk', os⟩ := I1.laid (t' := tk') (fun b o z => (gk b (Nat.ne_of_lt (Nat.lt_of_lt_of_le (Heap.lt_size z) M.new))).trans (M.keep b o z)) M.dbig ⟨_, M.ns.at (fun o z => (gk d M.dne).trans z), fun y => relO_sx rv y⟩
    refine ⟨e, oe, fv, ⟨Gh, g, dr, tk', os⟩, _, .ref C, some d, rfl, J, fun b o z => ?_, ge, hoe, ⟨hc, hd, fun vs z => (by rw [hdat] at z; cases z; exact h2)⟩, hdat, h1, ?_, rfl, I1.bare, raises_own T.exC T.tyC, q1 d (I1.hok.fresh M.dbig)⟩
    · by_cases hb : b = e
      · rw [hb] at z
        have z' : Gh.get? e = some o := z
        rw [ge] at z'
        cases z'
      · exact (gk b hb).symm.trans z
    · rw [upd_ne (Ne.symm M.dne)]
      exact I1.hok.fresh M.new
/-- raise C(e) -/
def tRaiseSx (C : Addr) (f : Str) (W : WX) (ta : TA) : TS := fun _ σ H => tMkSx C f ta σ H fun cls d H' => W cls d σ H'
theorem ps_raiseSx {a : Expr} {ta : TA} {W : WX} {p pos pos2 : Pos} {k : Nat} (hc : X.calm = true) (T : SX.SxTxt X.prog X.K X.mg C fI cn f pre qual) (hr : Room k X.A) (tk : L2N.Takes X W) (ha : PA X [a] ta) (hg : Gl X cn) (hdb : (cn == ("__debug__" : Str)) = false := by decide)
    (he : starEach (a :: []) X.env = (false, eval a X.env) :: starEach [] X.env := by rfl) (hpl : (backTo pos (starEach [] X.env)).any (·.1) = false := by rfl) :
    PS X (.Raise (some (.Call (.Name cn p) [a] [] pos)) none pos2) (tRaiseSx C f W ta) := L2N.ps_raise hc tk (pmk_sx T hr ha hg hdb he hpl)
/-- a def that may raise, its exception's context being None -/
theorem okN {P : Program} {w : World} {K : PySem.W.Frag} {mg : Str → Option Value} {base : Heap} {x qual : Str} {st : Stmt} {f : Addr} {fd : FuncData} {N ps : List Str} {k : Nat} {sp : Sp} (F : Fun K x qual st f fd) (S : FnScope N ps (defScope st)) (len : ∀ vs H Q E, sp vs H Q E → vs.length = ps.length)
    (body : ∀ (cdv : Value) (A : Around) (outer : List Env) (s : Shared) (H : Hp) (vs : List V) (Q : VK) (E : XK), Room k (A.deeper (envOfC qual (defScope st) s.heap.objs.size f cdv)) → sp vs H Q E →
      ∃ t, PSs (cxOf (L2N.CX P w) P w K mg base N qual (defScope st) f cdv A outer s H E) (defBody st) t ∧ t { nx := fun _ H' => Q .non H', rt := Q } (start N vs) H) : FnOk P w K mg base (L2N.CX P w) (k + 1) f fd ps sp := by
  obtain ⟨oc, od, kV, doc, pm, an, cdv, ct, osl, rfl, lk, hcd⟩ := F.ex
  exact fn_of lk hcd S len fun A outer s H vs Q E => body cdv A outer s H vs Q E
/-- a def called while an exception is handled -/
theorem okH {P : Program} {w : World} {K : PySem.W.Frag} {mg : Str → Option Value} {base : Heap} {x qual : Str} {st : Stmt} {f : Addr} {fd : FuncData} {N ps : List Str} {k : Nat} {sp : Sp} (F : Fun K x qual st f fd) (S : FnScope N ps (defScope st)) (len : ∀ vs H Q E, sp vs H Q E → vs.length = ps.length)
    (body : ∀ (cdv : Value) (A : Around) (outer : List Env) (s : Shared) (H : Hp) (vs : List V) (Q : VK) (E : XK) (p : Addr × Obj), L2H.Hot1 A p → L2H.RoomH k (A.deeper (envOfC qual (defScope st) s.heap.objs.size f cdv)) → sp vs H Q E →
      ∃ t, PSs (L2H.cxH CX0 P w K mg base N qual (defScope st) f cdv A outer s H E p) (defBody st) t ∧ t { nx := fun _ H' => Q .non H', rt := Q } (start N vs) H) : L2H.FnH P w K mg base CX0 (k + 1) f fd ps sp := by
  obtain ⟨oc, od, kV, doc, pm, an, cdv, ct, osl, rfl, lk, hcd⟩ := F.ex
  exact L2H.fn_ofH lk hcd S len fun A outer s H vs Q E p => body cdv A outer s H vs Q E p
/-- x.f, x the exception that the suite holds -/
def tSxF (C : Addr) (f : Str) (a : Addr) (cls : Value) (d : Option Addr) (te : TE) : TE := fun σ H Q => te σ H fun x H1 => x = .ref a ∧ cls = .ref C ∧ ∃ (dd : Addr) (v : V), d = some dd ∧ H1 dd = some (.xd [(f, v)]) ∧ Q v H1
theorem pe_sxF {prog : Program} {a : Addr} {oe : Obj} {cls : Value} {d : Option Addr} {pn : List (Addr × Obj)} {e : Expr} {te : TE} {pos : Pos} (T : SX.SxTxt prog X.K X.mg C fI cn f pre qual) (hz : Zc cls d oe) (hf : ∃ vs, oe.data = .fields vs) (he : PE (X.suite a ((a, oe) :: pn)) e te)
    (hb : attributeBase e f X.env (eval e X.env) = eval e X.env := by rfl) : PE (X.suite a ((a, oe) :: pn)) (.Attribute e f pos) (tSxF C f a cls d te) := by
  refine ⟨fun pins s σ H Q I h => ?_⟩
  refine attr_of hb (thn (he.run pins s σ H _ I h) fun u s1 ⟨x, H1, I1, rx, ex, ec, dd, v, ed, ea, q⟩ => ?_)
  subst ex
  obtain rfl : u = Value.ref a := rx
  subst ec
  subst ed
  obtain ⟨ha, _⟩ := I1.pin (a, oe) (List.mem_append_left _ List.mem_cons_self)
  obtain ⟨vs, hd⟩ := hf
  have hx : ObjOk X.prog X.w H1 s1.heap dd (.xd [(f, v)]) := I1.hok dd _ ea
  obtain ⟨mA, hns, hr⟩ := hx
  obtain ⟨od, ho, hl⟩ := lookIn_ns hns
  have l : List.lookup f [(f, v)] = some v := by rw [List.lookup, beq_self_eq_true]
  obtain ⟨u, hu, ru⟩ := RelO.some_of (v := v) (o := mA f) (by rw [← l]; exact hr f)
  have J : PySem.W.InstAt s1.heap a oe C (some od) := ⟨ha, hz.1, by unfold PySem.W.notCls; rw [hd] <;> rfl, by rw [hz.2]; exact ho⟩
  exact HandSPX.exc_get I1.kIn J T.ga T.gg T.exC (PySem.W.findObj_own T.hdC T.noN rfl (by rw [hl, hu])) (handed_of ru) ⟨v, H1, I1.tok _, ru, q⟩
end
end L2

namespace K3
open PySem PySem.Spec PyProof.Rows L2
/-! ### prices: good lengths, drawn out runs -/
def usedL (xs : List Int) : List Int := xs.filter fun x => decide (0 < x)
def goodP (xs : List Int) : Bool := if (usedL xs).length < 2 then decide (usedL xs = []) || decide (usedL xs = [1]) else decide (((usedL xs).map fun x => (1 : Int) * 2 ^ (12 - x).toNat).sum = 4096)
theorem used_succ {xs : List Int} {i : Nat} {x : Int} (h : xs[i]? = some x) : usedL (xs.take (i + 1)) = usedL (xs.take i) ++ (if 0 < x then [x] else []) := by
  rw [List.take_add_one, h]
  unfold usedL
  rw [List.filter_append]
  congr 1
  by_cases q : 0 < x <;> simp [q]
theorem used_le (xs : List Int) : (usedL xs).length ≤ xs.length := List.length_filter_le _ _
theorem same_tupK {K : PySem.W.Frag} {H H' : Hp} {a : Addr} {xs : List V} (e : Same H H') (h : SqT K H a xs) : SqT K H' a xs := by
  rcases h with (h | ⟨o, h⟩) | h
  · exact .inl (.inl (e _ _ h))
  · exact .inl (.inr ⟨o, e _ _ h⟩)
  · exact .inr h
theorem iteC {A B : Prop} {c : Bool} (hc : c = true) (h : A) : if c = true then A else B := by
  rw [if_pos hc]
  exact h
theorem scAreGood : FnScope ["lengths", "used", "length"] ["lengths"] (defScope sAreGood) := ⟨rfl, rfl, rfl, by decide +kernel, rfl, by decide +kernel, by decide +kernel⟩
theorem scAreP : FnScope ["lengths", "many"] ["lengths", "many"] (defScope sAreP) := ⟨rfl, rfl, rfl, by decide +kernel, rfl, by decide +kernel, by decide +kernel⟩
theorem scDrawn : FnScope ["runs", "lengths", "length", "many"] ["runs"] (defScope sDrawn) := ⟨rfl, rfl, rfl, by decide +kernel, rfl, by decide +kernel, by decide +kernel⟩
theorem scBackOf : FnScope ["back"] ["back"] (defScope sBackOf) := ⟨rfl, rfl, rfl, by decide +kernel, rfl, by decide +kernel, by decide +kernel⟩
theorem scPInit : FnScope ["self", "letters", "backs"] ["self", "letters", "backs"] (defScope sPInit) := ⟨rfl, rfl, rfl, by decide +kernel, rfl, by decide +kernel, by decide +kernel⟩
theorem scPLet : FnScope ["self"] ["self"] (defScope sPLet) := ⟨rfl, rfl, rfl, by decide +kernel, rfl, by decide +kernel, by decide +kernel⟩
theorem scPBk : FnScope ["self"] ["self"] (defScope sPBk) := ⟨rfl, rfl, rfl, by decide +kernel, rfl, by decide +kernel, by decide +kernel⟩
theorem scToldP : FnScope [] [] (defScope sToldP) := ⟨rfl, rfl, rfl, by decide +kernel, rfl, by decide +kernel, by decide +kernel⟩
section
variable {P : Program} {w : World} {K : PySem.W.Frag} {mg : Str → Option Value} {base : Heap}
def spAreGood : Sp := fun vs H Q _ => ∃ (p : Addr) (xs : List Int), vs = [.ref p] ∧ H p = some (.lst (xs.map V.int)) ∧ xs.length ≤ 1000 ∧ (∀ x ∈ xs, x ≤ 12) ∧ ∀ H', Same H H' → Q (.bl (goodP xs)) H'
theorem ok_areGood {f : Addr} {fd : FuncData} {j : Nat} {t12 : Tok} (F : Fun K "are_good" "are_good" sAreGood f fd) (m1 : mg "sum" = none) (m2 : mg "len" = none) (cL : mg "LONGEST" = some (.int 12 t12)) : FnOk P w K mg base CX0 (j + 1) f fd ["lengths"] spAreGood := by
  refine F.ok scAreGood (fun vs H Q E h => ?_) (fun cdv A outer s H vs Q E hr h => ?_)
  · obtain ⟨p, xs, rfl, _⟩ := h
    rfl
  · obtain ⟨p, xs, rfl, hp, hl, h12, q⟩ := h
    refine ⟨_, pss_cons (ps_setLc (i := 1) (own := [("length", 2)]) (g := gName 2) rfl scAreGood.nd rfl rfl (sw_true rfl rfl rfl (by decide +kernel))
          (pi_list (pv 0)) (blkOk_by (N := ["lengths", "used", "length"]) (sc := defScope sAreGood) (by decide +kernel))
          (fun _ _ _ _ _ => pg_name (i := 2) scAreGood.nd rfl (.inl rfl)) (fun _ _ _ _ _ => pts_one (pt_cmpR op_gt (pv 2) pe_int (nomark _))) (fun _ _ _ _ _ => pv 2))
      (pss_cons (ps_if (pt_cmpR op_lt (pe_callB call_len_seq (by rfl) m2 PySem.boot_len (pa_cons (pv 1) pa_nil)) pe_int (nomark _))
        (pss_one (ps_ret (pe_or (pe_cmpR (op_eqD hr.units) (pv 1) (pe_lst pa_nil) (nomark _)) (pe_one (pe_cmpR (op_eqD hr.units) (pv 1) (pe_lst (pa_cons pe_int pa_nil)) (nomark _)))))) pss_nil)
      (pss_one (ps_ret (pe_cmpR op_eq (pe_callB (cr_sum rfl) (by rfl) m1 (by decide +kernel) (pa_cons (pe_lc (own := [("length", 2)]) (g := gName 2) (tt := tYes) rfl scAreGood.nd (pi_list (pv 1)) (blkOk_by (N := ["lengths", "used", "length"]) (sc := defScope sAreGood) (by decide +kernel))
          (fun _ _ _ _ _ => pg_name (i := 2) scAreGood.nd rfl (.inl rfl)) (fun _ _ _ _ _ => pts_nil) (fun _ _ _ _ _ => pe_op op_shl pe_int (pe_op op_sub (pe_glob (v := .int 12) rfl cL ⟨_, rfl⟩) (pv 2)))) pa_nil)) (pe_op op_shl pe_int (pe_glob (v := .int 12) rfl cL ⟨_, rfl⟩)) (nomark _))))), ?_⟩
    refine ⟨_, rfl, p, rfl, ⟨_, .inl (.inl hp)⟩, fun D nD => ?_⟩
    refine lc_list (K := K) (a := p) (xs := xs.map V.int) (fun i H' => Same H H' ∧ H' D = some (.lst ((usedL (xs.take i)).map V.int))) ⟨same_upd nD, upd_same⟩ (fun i H' _ h => .inl (.inl (h.1 _ _ hp))) (fun i x H1 hx h => ?_) (fun H1 h => ?_)
    · obtain ⟨x, rfl, hx'⟩ := int_of hx
      refine ⟨rfl, _, rfl, _, _, rfl, rfl, _, rfl, ?_⟩
      rw [used_succ hx']
      refine ite2 (fun e => ?_) (fun e => ?_)
      · rw [if_pos (show 0 < x from of_decide_eq_true e)]
        refine ⟨_, rfl, _, h.2, ?_, same_put h.1 nD, ?_⟩
        · rw [List.length_map]
          have := used_le (xs.take i)
          rw [List.length_take] at this
          exact small1000 (by omega)
        · rw [upd_same, List.map_append]
          rfl
      · rw [if_neg (show ¬ 0 < x from fun z => e (decide_eq_true z)), List.append_nil]
        exact h
    · have e : (xs.take (xs.map V.int).length) = xs := by rw [List.length_map, List.take_length]
      rw [e] at h
      obtain ⟨sm1, hD⟩ := h
      have hul := used_le xs
      have hq : ∀ H', Same H H' → ∀ b, b = goodP xs → Q (.bl b) H' := fun H' sm b hb => by rw [hb]; exact q H' sm
      unfold goodP at hq
      have hpos : ∀ x ∈ usedL xs, 0 < x ∧ x ≤ 12 := fun x hx => ⟨of_decide_eq_true (List.mem_filter.mp hx).2, h12 x (List.mem_filter.mp hx).1⟩
      generalize usedL xs = us at *
      refine ⟨_, rfl, D, _, rfl, .inl (.inl (.inl hD)), _, _, rfl, rfl, _, rfl, ite2 (fun e => ?_) (fun e => ?_)⟩
      · have hlt : us.length < 2 := by
          have := of_decide_eq_true e
          rw [List.length_map] at this
          omega
        refine ⟨_, rfl, Nat.zero_le _, fun z nz => ?_⟩
        have sm2 : Same H1 (upd H1 z (.lst [])) := same_upd nz
        have hz : (upd H1 z (.lst [])) z = some (.lst []) := upd_same
        generalize upd H1 z (.lst []) = H2 at *
        refine ⟨_, _, .lst (.inl (.inl (sm2 _ _ hD))) (dp_ints us), .lst (ds := []) (.inl (.inl hz)) .nil, shaped_intsQ us, shaped_intsQ [], _, rfl, ?_⟩
        rw [show PyData.eqv (.list (us.map .int)) (.list []) = decide (us = []) from eqv_ints us []]
        refine ite2 (fun e => ?_) (fun e => ?_)
        · exact hq _ (sm1.trans sm2) _ (by rw [if_pos hlt, e]; rfl)
        · have e0 : decide (us = []) = false := by simpa using e
          refine ⟨_, rfl, (by show 1 ≤ sizeLine; decide), fun z2 nz2 => ?_⟩
          have sm3 : Same H2 (upd H2 z2 (.lst [.int 1])) := same_upd nz2
          have hz2 : (upd H2 z2 (.lst [.int 1])) z2 = some (.lst [.int 1]) := upd_same
          generalize upd H2 z2 (.lst [.int 1]) = H3 at *
          refine ⟨_, _, .lst (.inl (.inl (sm3 _ _ (sm2 _ _ hD)))) (dp_ints us), .lst (ds := [.int 1]) (.inl (.inl hz2)) (.cons (.int 1) .nil), shaped_intsQ us, shaped_intsQ [1], ?_⟩
          rw [show PyData.eqv (.list (us.map .int)) (.list [.int 1]) = decide (us = [1]) from eqv_ints us [1]]
          exact hq _ ((sm1.trans sm2).trans sm3) _ (by rw [if_pos hlt, e0]; rfl)
      · have hge : ¬ us.length < 2 := fun z => e (decide_eq_true (by rw [List.length_map]; omega))
        refine ⟨_, rfl, D, rfl, ⟨_, .inl (.inl hD)⟩, fun D2 nD2 => ?_⟩
        refine lc_list (K := K) (a := D) (xs := us.map V.int) (fun i H' => Same H1 H' ∧ H' D2 = some (.lst (((us.take i).map fun x => (1 : Int) * 2 ^ (12 - x).toNat).map V.int))) ⟨same_upd nD2, upd_same⟩ (fun i H' _ h => .inl (.inl (h.1 _ _ hD))) (fun i x H5 hx h => ?_) (fun H4 h => ?_)
        · obtain ⟨x, rfl, hx'⟩ := int_of hx
          have hb := hpos x (List.mem_of_getElem? hx')
          refine ⟨rfl, yes ?_⟩
          refine ⟨_, rfl, _, _, rfl, rfl, _, _, rfl, rfl, ⟨by omega, by omega, by decide⟩, _, h.2, ?_, same_put h.1 nD2, ?_⟩
          · rw [List.length_map, List.length_map, List.length_take]
            exact small1000 (by omega)
          · rw [upd_same, List.take_add_one, hx', List.map_append, List.map_append]
            rfl
        · have e : (us.take (us.map V.int).length) = us := by rw [List.length_map, List.take_length]
          rw [e] at h
          refine ⟨D2, _, rfl, .inl (.inl h.2), _, _, rfl, rfl, ⟨by decide, by decide, by decide⟩, rfl, ?_⟩
          refine hq _ (sm1.trans h.1) _ ?_
          rw [if_neg hge, decide_eq_decide]
          exact ⟨fun h => V.int.inj h, fun h => congrArg V.int h⟩
/-- of what is good -/
def PrL (n : Nat) (xs : List Int) : Prop := xs.length = n ∧ (∀ x ∈ xs, 0 ≤ x ∧ x ≤ 12) ∧ goodP xs = true
def spAreP : Sp := fun vs H Q _ => ∃ (p : Addr) (xs : List Int) (n : Nat), vs = [.ref p, .int (n : Int)] ∧ H p = some (.lst (xs.map V.int)) ∧ n ≤ 1000 ∧ PrL n xs ∧ ∀ H', Same H H' → Q (.bl true) H'
theorem ok_areP {f fN fG : Addr} {fd fdN fdG : FuncData} {j : Nat} {t12 : Tok} (F : Fun K "are_prices" "are_prices" sAreP f fd)
    (GN : FnOk P w K mg base CX0 (j + 3) fN fdN ["told", "least", "most"] spAreNum) (bN : Binds K fdN ["told", "least", "most"] []) (kN : PySem.W.keepIn K (.ref fN) = true) (gN : mg "are_numbers" = some (.ref fN))
    (GG : FnOk P w K mg base CX0 (j + 3) fG fdG ["lengths"] spAreGood) (bG : Binds K fdG ["lengths"] []) (kG : PySem.W.keepIn K (.ref fG) = true) (gG : mg "are_good" = some (.ref fG))
    (m2 : mg "len" = none) (cL : mg "LONGEST" = some (.int 12 t12)) : FnOk P w K mg base CX0 (j + 4) f fd ["lengths", "many"] spAreP := by
  refine F.ok scAreP (fun vs H Q E h => ?_) (fun cdv A outer s H vs Q E hr h => ?_)
  · obtain ⟨p, xs, n, rfl, _⟩ := h
    rfl
  · obtain ⟨p, xs, n, rfl, hp, hn, ⟨hl, hx, hg⟩, q⟩ := h
    refine ⟨_, pss_one (ps_ret (pe_and (pe_call GN hr (by rfl) gN kN bN .nil pass0 (pa_cons (pv 0) (pa_cons pe_int (pa_cons (pe_glob (v := .int 12) rfl cL ⟨_, rfl⟩) pa_nil))))
      (pe_and (pe_cmpR op_eq (pe_callB call_len_seq (by rfl) m2 PySem.boot_len (pa_cons (pv 0) pa_nil)) (pv 1) (nomark _)) (pe_one (pe_call GG hr (by rfl) gG kG bG .nil pass0 (pa_cons (pv 0) pa_nil)))))), ?_⟩
    refine ⟨_, rfl, p, xs, 0, 12, rfl, hp, by omega, fun H1 s1 => ⟨_, rfl, ?_⟩⟩
    refine iteC (List.all_eq_true.mpr fun x m => decide_eq_true (hx x m)) ?_
    refine ⟨_, rfl, p, _, rfl, .inl (.inl (.inl (s1 _ _ hp))), _, rfl, rfl, _, rfl, ite2 (fun e => ?_) (fun e => ?_)⟩
    · refine ⟨_, rfl, p, xs, rfl, s1 _ _ hp, by omega, fun x m => (hx x m).2, fun H2 s2 => ?_⟩
      have q' := q H2 (s1.trans s2)
      rw [← hg] at q'
      exact q'
    · exact absurd (decide_eq_true (show V.int ((xs.map V.int).length : Int) = V.int (n : Int) by rw [List.length_map, hl])) e
/-! ### back_of -/
def spBackOf : Sp := fun vs H Q _ => ∃ b : Nat, vs = [.int (b : Int)] ∧ 1 ≤ b ∧ b ≤ 5000 ∧ Q (.int ((Nat.log2 b : Nat) : Int)) H
theorem ok_backOf {f : Addr} {fd : FuncData} {j : Nat} (F : Fun K "back_of" "back_of" sBackOf f fd) : FnOk P w K mg base CX0 (j + 1) f fd ["back"] spBackOf := by
  refine F.ok scBackOf (fun vs H Q E h => ?_) (fun cdv A outer s H vs Q E hr h => ?_)
  · obtain ⟨b, rfl, _⟩ := h
    rfl
  · obtain ⟨b, rfl, h1, h2, q⟩ := h
    refine ⟨_, pss_one (ps_ret (pe_op op_sub (pe_bits (pv 0)) pe_int)), ?_⟩
    refine ⟨_, rfl, _, rfl, _, _, rfl, rfl, ?_⟩
    have e : ((Builtin.Int.intBits (b : Int) : Nat) : Int) - 1 = ((Nat.log2 b : Nat) : Int) := by
      unfold Builtin.Int.intBits
      rw [if_neg (by simp; omega), Int.natAbs_natCast]
      push_cast
      omega
    show Q (.int (((Builtin.Int.intBits (b : Int) : Nat) : Int) - 1)) H
    rw [e]
    exact q
/-! ### drawn_out -/
def spDrawn (K : PySem.W.Frag) : Sp := fun vs H Q _ => ∃ (T t1 t2 : Addr) (l1 l2 : Int) (n1 n2 : Nat), vs = [.ref T] ∧ SqT K H T [.ref t1, .ref t2] ∧ SqT K H t1 [.int l1, .int (n1 : Int)] ∧ SqT K H t2 [.int l2, .int (n2 : Int)] ∧ n1 ≤ 1000 ∧ n2 ≤ 1000 ∧
  ∀ H' p, Same H H' → H p = none → H' p = some (.lst ((List.replicate n1 l1 ++ List.replicate n2 l2).map V.int)) → Q (.ref p) H'
theorem ok_drawn {f : Addr} {fd : FuncData} {j : Nat} (F : Fun K "drawn_out" "drawn_out" sDrawn f fd) : FnOk P w K mg base CX0 (j + 1) f fd ["runs"] (spDrawn K) := by
  refine F.ok scDrawn (fun vs H Q E h => ?_) (fun cdv A outer s H vs Q E hr h => ?_)
  · obtain ⟨T, t1, t2, l1, l2, n1, n2, rfl, _⟩ := h
    rfl
  · obtain ⟨T, t1, t2, l1, l2, n1, n2, rfl, hT, h1, h2, b1, b2, q⟩ := h
    have hz := PySem.sizeLine_eq
    refine ⟨_, pss_cons (ps_set (i := 1) scDrawn.nd rfl (.inl rfl) (pe_lst pa_nil))
      (pss_cons (ps_for PassesOwn.never rfl (pi_tup (pv 0)) (pg_tup rfl (pgs_cons (pg_name (i := 2) scDrawn.nd rfl (.inl rfl)) (pgs_cons (pg_name (i := 3) scDrawn.nd rfl (.inl rfl)) pgs_nil)))
        (pss_one (ps_expr (pe_bm PySem.F.plainAttrs_list PySem.F.slot_list_extend PySem.F.type_list_extend mt_extend (pv 1) (pa_cons (pe_op op_rep (pe_lst (pa_cons (pv 2) pa_nil)) (pv 3)) pa_nil)))))
      (pss_one (ps_ret (pv 1)))), ?_⟩
    refine ⟨Nat.zero_le _, fun D nD => ?_⟩
    refine ⟨_, rfl, T, rfl, ⟨_, same_tupK (same_upd nD) hT⟩, ?_⟩
    obtain ⟨R, hR⟩ : ∃ R : List (Addr × Int × Nat), R = [(t1, l1, n1), (t2, l2, n2)] := ⟨_, rfl⟩
    have eR : [V.ref t1, V.ref t2] = R.map fun r => V.ref r.1 := by rw [hR]; rfl
    have fR : ∀ r ∈ R, SqT K H r.1 [.int r.2.1, .int (r.2.2 : Int)] ∧ r.2.2 ≤ 1000 := by
      rw [hR]
      intro r hr
      rcases List.mem_cons.mp hr with rfl | hr
      · exact ⟨h1, b1⟩
      · rw [List.mem_singleton.mp hr]
        exact ⟨h2, b2⟩
    rw [eR] at hT
    refine for_tup (K := K) (a := T) (xs := R.map fun r => V.ref r.1) (fun i σ H' => ∃ (y z : Option V) (acc : List Int), σ = [some (.ref T), some (.ref D), y, z] ∧ Same H H' ∧ H' D = some (.lst (acc.map V.int)) ∧ acc = ((R.take i).flatMap fun r => List.replicate r.2.2 r.2.1) ∧ acc.length ≤ 1000 * i) ⟨_, _, [], rfl, same_upd nD, upd_same, rfl, Nat.zero_le _⟩ (fun i σ H' _ h => ?_) (fun i x σ H' hx h => ?_) (fun σ H' h => ?_)
    · obtain ⟨_, _, _, _, s1, _⟩ := h
      exact same_tupK s1 hT
    · obtain ⟨y, z, acc, rfl, s1, hD, ha, hal⟩ := h
      rw [List.getElem?_map] at hx
      cases er : R[i]? with
      | none => rw [er] at hx; cases hx
      | some r =>
        rw [er] at hx
        obtain rfl : V.ref r.1 = x := Option.some.inj hx
        obtain ⟨f1, f2⟩ := fR r (List.mem_of_getElem? er)
        have hi : i < 2 := by
          have := (List.getElem?_eq_some_iff.mp er).1
          rw [hR] at this
          simpa using this
        refine ⟨r.1, _, rfl, same_tupK s1 f1, rfl, _, _, rfl, _, _, rfl, rfl, ?_⟩
        refine ⟨.ref D, rfl, .inl ⟨rfl, _, .inl (.inl hD)⟩, _, rfl, (by show 1 ≤ sizeLine; rw [hz]; decide), fun a na => ⟨_, rfl, _, _, _, rfl, rfl, upd_same, by omega, by omega, by rw [hz]; simp; omega, fun b nb => ?_⟩⟩
        rw [Int.toNat_natCast, rep_flat]
        have s2 : Same H' (upd (upd H' a (.lst [.int r.2.1])) b (.lst (List.replicate r.2.2 (.int r.2.1)))) := (same_upd na).trans (same_upd nb)
        refine ⟨D, b, _, _, rfl, rfl, s2 _ _ hD, upd_same, ?_, ?_⟩
        · rw [List.length_map, List.length_replicate, hz]
          omega
        · refine ⟨_, _, acc ++ List.replicate r.2.2 r.2.1, rfl, same_put (s1.trans s2) nD, ?_, ?_, ?_⟩
          · rw [upd_same, List.map_append, List.map_replicate]
          · rw [ha, List.take_add_one, er, List.flatMap_append]
            simp
          · rw [List.length_append, List.length_replicate]
            omega
    · obtain ⟨y, z, acc, rfl, s1, hD, ha, _⟩ := h
      refine ⟨_, rfl, q H' D s1 nD ?_⟩
      rw [hD, ha, hR]
      simp
end
end K3

namespace K3
open PySem PySem.Spec PyProof.Rows L2
/-! ### Prices -/
def prF (p q : Addr) : List (Str × V) := [(("_letters" : Str), V.ref p), (("_backs" : Str), V.ref q)]
theorem lkH {k : Str} {v : V} {r : List (Str × V)} : List.lookup k ((k, v) :: r) = some v := by
  rw [List.lookup, beq_self_eq_true]
theorem lkP {k g : Str} {v : V} {r : List (Str × V)} (h : (k == g) = false) : List.lookup k ((g, v) :: r) = List.lookup k r := by
  rw [List.lookup, h]
theorem prF_l (p q : Addr) : (prF p q).lookup ("_letters" : Str) = some (.ref p) := lkH
theorem prF_b (p q : Addr) : (prF p q).lookup ("_backs" : Str) = some (.ref q) := (lkP (by decide +kernel)).trans lkH
theorem prF_m (p q : Addr) : (prF p q).lookup ("letters" : Str) = none := (lkP (by decide +kernel)).trans ((lkP (by decide +kernel)).trans rfl)
theorem prF_n (p q : Addr) : (prF p q).lookup ("backs" : Str) = none := (lkP (by decide +kernel)).trans ((lkP (by decide +kernel)).trans rfl)
theorem prF_put (p q : Addr) : putF "_backs" (.ref q) (putF "_letters" (.ref p) []) = prF p q := (if_neg (by decide +kernel)).trans rfl
def PrAt (C : Addr) (H : Hp) (a : Addr) (L B : List Int) : Prop := ∃ dx p q, H a = some (.ins C dx (prF p q)) ∧ H p = some (.lst (L.map V.int)) ∧ H q = some (.lst (B.map V.int))
theorem PrAt.same {C a : Addr} {H H' : Hp} {L B : List Int} (h : PrAt C H a L B) (s : Same H H') : PrAt C H' a L B := by
  obtain ⟨dx, p, q, h1, h2, h3⟩ := h
  exact ⟨dx, p, q, s _ _ h1, s _ _ h2, s _ _ h3⟩
/-- what the written part says of Prices -/
structure PrTxt (K : PySem.W.Frag) (mg : Str → Option Value) (C fI fL fB : Addr) : Prop where
  cl : Cls K C
  nL : NoAttr K C "_letters"
  nB : NoAttr K C "_backs"
  gC : mg "Prices" = some (.ref C)
  made : Mk K C fI
  mL : Meth K C "letters" fL
  mB : Meth K C "backs" fB
  ity : ∀ {H : Hp} {a dx : Addr} {fs : List (Str × V)}, H a = some (.ins C dx fs) → TyOf K H (.ref a) (.ref C)
  isC : PySem.W.kitOne K (.ref C) (.ref C) = some true
section
variable {P : Program} {w : World} {K : PySem.W.Frag} {mg : Str → Option Value} {base : Heap} {C fI fL fB : Addr}
def spPInit (C : Addr) : Sp := fun vs H Q _ => ∃ (a dx pl pb : Addr) (L B : List Int), vs = [.ref a, .ref pl, .ref pb] ∧ H a = some (.ins C dx []) ∧ H pl = some (.lst (L.map V.int)) ∧ H pb = some (.lst (B.map V.int)) ∧ PrL 273 L ∧ PrL 11 B ∧
  ∀ H', (∀ b o, b ≠ a → H b = some o → H' b = some o) → PrAt C H' a L B → Q .non H'
theorem ok_pInit (T : PrTxt K mg C fI fL fB) {fP : Addr} {fd fdP : FuncData} {j : Nat} {t1 t2 : Tok} (F : Fun K "__init__" "Prices.__init__" sPInit fI fd)
    (GP : FnOk P w K mg base CX0 (j + 4) fP fdP ["lengths", "many"] spAreP) (bP : Binds K fdP ["lengths", "many"] []) (kP : PySem.W.keepIn K (.ref fP) = true) (gP : mg "are_prices" = some (.ref fP))
    (m4 : mg "list" = none) (c1 : mg "LETTERS" = some (.int 273 t1)) (c2 : mg "BACKS" = some (.int 11 t2)) : FnOk P w K mg base CX0 (j + 5) fI fd ["self", "letters", "backs"] (spPInit C) := by
  refine F.ok scPInit (fun vs H Q E h => ?_) (fun cdv A outer s H vs Q E hr h => ?_)
  · obtain ⟨a, dx, pl, pb, L, B, rfl, _⟩ := h
    rfl
  · obtain ⟨a, dx, pl, pb, L, B, rfl, ha, hL, hB, gl, gb, q⟩ := h
    refine ⟨_, pss_cons (ps_if (PW.pt (pw_or (pt_not (pt_val (pe_call GP hr (by rfl) gP kP bP .nil pass0 (pa_cons (pv 1) (pa_cons (pe_glob (v := .int 273) rfl c1 ⟨_, rfl⟩) pa_nil)))))
        (pw_or1 (pt_not (pt_val (pe_call GP hr (by rfl) gP kP bP .nil pass0 (pa_cons (pv 2) (pa_cons (pe_glob (v := .int 11) rfl c2 ⟨_, rfl⟩) pa_nil)))))))) (pss_one ps_never) pss_nil)
      (pss_cons (ps_fld (pv 0) (pe_callTy call_list_of (by rfl) m4 (by decide +kernel) (pa_cons (pv 1) pa_nil)) rfl)
      (pss_one (ps_fld (pv 0) (pe_callTy call_list_of (by rfl) m4 (by decide +kernel) (pa_cons (pv 2) pa_nil)) rfl))), ?_⟩
    refine ⟨_, rfl, pl, L, 273, rfl, hL, by decide, gl, fun H1 s1 => ⟨_, rfl, iteF ?_⟩⟩
    refine ⟨_, rfl, pb, B, 11, rfl, s1 _ _ hB, by decide, gb, fun H2 s2 => ⟨_, rfl, iteF ?_⟩⟩
    have s12 := s1.trans s2
    refine ⟨_, rfl, pl, _, rfl, .inl (.inl (.inl (s12 _ _ hL))), fun p np => ?_⟩
    have s3 := s12.trans (same_upd (o := .lst (L.map V.int)) np)
    refine ⟨_, rfl, a, C, dx, _, rfl, s3 _ _ ha, T.cl, T.nL, (by show 0 < 1000; decide), ?_⟩
    have nap : a ≠ p := ne_of_none (s12 _ _ ha) np
    have npa : p ≠ a := Ne.symm nap
    have h4 : (upd (upd H2 p (.lst (L.map V.int))) a (.ins C dx (putF "_letters" (.ref p) []))) pb = some (.lst (B.map V.int)) := by
      rw [upd_ne (fun z => by rw [z, ha] at hB; cases hB)]
      exact s3 _ _ hB
    refine ⟨_, rfl, pb, _, rfl, .inl (.inl (.inl h4)), fun q' nq => ?_⟩
    have hpa : (upd (upd H2 p (.lst (L.map V.int))) a (.ins C dx (putF "_letters" (.ref p) []))) a = some (.ins C dx (putF "_letters" (.ref p) [])) := upd_same
    have hpp : (upd (upd H2 p (.lst (L.map V.int))) a (.ins C dx (putF "_letters" (.ref p) []))) p = some (.lst (L.map V.int)) := by
      rw [upd_ne npa]
      exact upd_same
    have naq : a ≠ q' := ne_of_none hpa nq
    have npq : p ≠ q' := ne_of_none hpp nq
    refine ⟨_, rfl, a, C, dx, _, rfl, (by rw [upd_ne naq]; exact hpa), T.cl, T.nB, (by show 1 < 1000; decide), ?_⟩
    refine q _ (fun b o hb e => ?_) ⟨dx, p, q', ?_, ?_, ?_⟩
    · have eb := s3 _ _ e
      have e5 : (upd (upd H2 p (.lst (L.map V.int))) a (.ins C dx (putF "_letters" (.ref p) []))) b = some o := by
        rw [upd_ne hb]
        exact eb
      rw [upd_ne hb, upd_ne (ne_of_none e5 nq)]
      exact e5
    · rw [upd_same, prF_put]
    · rw [upd_ne npa, upd_ne npq]
      exact hpp
    · rw [upd_ne (Ne.symm naq)]
      exact upd_same
def spPLet (C : Addr) : Sp := fun vs H Q _ => ∃ (a : Addr) (L B : List Int), vs = [.ref a] ∧ PrAt C H a L B ∧ ∀ H' p, Same H H' → H p = none → H' p = some (.lst (L.map V.int)) → Q (.ref p) H'
theorem ok_pLet (T : PrTxt K mg C fI fL fB) {fd : FuncData} {j : Nat} (F : Fun K "letters" "Prices.letters" sPLet fL fd) (m4 : mg "list" = none) : FnOk P w K mg base CX0 (j + 1) fL fd ["self"] (spPLet C) := by
  refine F.ok scPLet (fun vs H Q E h => ?_) (fun cdv A outer s H vs Q E hr h => ?_)
  · obtain ⟨a, L, B, rfl, _⟩ := h
    rfl
  · obtain ⟨a, L, B, rfl, ⟨dx, p, r, ha, hp, hr'⟩, q⟩ := h
    refine ⟨_, pss_one (ps_ret (pe_callTy call_list_of (by rfl) m4 (by decide +kernel) (pa_cons (pe_fld (pv 0) rfl) pa_nil))), ?_⟩
    refine ⟨_, rfl, a, C, dx, _, _, rfl, ha, T.cl, T.nL, prF_l p r, p, _, rfl, .inl (.inl (.inl hp)), fun z nz => ?_⟩
    exact q _ z (same_upd nz) nz upd_same
def spPBk (C : Addr) : Sp := fun vs H Q _ => ∃ (a : Addr) (L B : List Int), vs = [.ref a] ∧ PrAt C H a L B ∧ ∀ H' p, Same H H' → H p = none → H' p = some (.lst (B.map V.int)) → Q (.ref p) H'
theorem ok_pBk (T : PrTxt K mg C fI fL fB) {fd : FuncData} {j : Nat} (F : Fun K "backs" "Prices.backs" sPBk fB fd) (m4 : mg "list" = none) : FnOk P w K mg base CX0 (j + 1) fB fd ["self"] (spPBk C) := by
  refine F.ok scPBk (fun vs H Q E h => ?_) (fun cdv A outer s H vs Q E hr h => ?_)
  · obtain ⟨a, L, B, rfl, _⟩ := h
    rfl
  · obtain ⟨a, L, B, rfl, ⟨dx, p, r, ha, hp, hr'⟩, q⟩ := h
    refine ⟨_, pss_one (ps_ret (pe_callTy call_list_of (by rfl) m4 (by decide +kernel) (pa_cons (pe_fld (pv 0) rfl) pa_nil))), ?_⟩
    refine ⟨_, rfl, a, C, dx, _, _, rfl, ha, T.cl, T.nB, prF_b p r, r, _, rfl, .inl (.inl (.inl hr')), fun z nz => ?_⟩
    exact q _ z (same_upd nz) nz upd_same
theorem told_good : PrL 273 toldL ∧ PrL 11 toldB := by
  refine ⟨⟨by decide +kernel, ?_, by decide +kernel⟩, ⟨by decide +kernel, ?_, by decide +kernel⟩⟩
  · intro x hx
    rcases List.mem_append.mp hx with h | h
    · rw [(List.mem_replicate.mp h).2]; decide
    · rw [(List.mem_replicate.mp h).2]; decide
  · intro x hx
    rcases List.mem_append.mp hx with h | h
    · rw [(List.mem_replicate.mp h).2]; decide
    · rw [(List.mem_replicate.mp h).2]; decide
/-- a table of two runs that stands in the written part -/
def RunsAt (K : PySem.W.Frag) (mg : Str → Option Value) (x : Str) (l1 : Int) (n1 : Nat) (l2 : Int) (n2 : Nat) : Prop :=
  ∃ T t1 t2, mg x = some (.ref T) ∧ ∀ H, SqT K H T [.ref t1, .ref t2] ∧ SqT K H t1 [.int l1, .int (n1 : Int)] ∧ SqT K H t2 [.int l2, .int (n2 : Int)]
def spToldP (C : Addr) : Sp := fun vs H Q _ => vs = [] ∧ ∀ H' a, Same H H' → H a = none → PrAt C H' a toldL toldB → Q (.ref a) H'
theorem ok_toldP (T : PrTxt K mg C fI fL fB) {f fD : Addr} {fd fdI fdD : FuncData} {j : Nat} (F : Fun K "told_prices" "told_prices" sToldP f fd)
    (GI : FnOk P w K mg base CX0 (j + 5) fI fdI ["self", "letters", "backs"] (spPInit C)) (bI : Binds K fdI ["self", "letters", "backs"] [])
    (GD : FnOk P w K mg base CX0 (j + 6) fD fdD ["runs"] (spDrawn K)) (bD : Binds K fdD ["runs"] []) (kD : PySem.W.keepIn K (.ref fD) = true) (gD : mg "drawn_out" = some (.ref fD))
    (R1 : RunsAt K mg "TOLD_LETTERS" 8 239 9 34) (R2 : RunsAt K mg "TOLD_BACKS" 4 6 3 5) : FnOk P w K mg base CX0 (j + 7) f fd [] (spToldP C) := by
  obtain ⟨A1, a1, a2, r1, h1⟩ := R1
  obtain ⟨A2, b1, b2, r2, h2⟩ := R2
  refine F.ok scToldP (fun vs H Q E h => ?_) (fun cdv A outer s H vs Q E hr h => ?_)
  · obtain ⟨rfl, _⟩ := h
    rfl
  · obtain ⟨rfl, q⟩ := h
    refine ⟨_, pss_one (ps_ret (pe_make T.made GI hr (by rfl) T.gC bI .nil pass0 (pa_cons (pe_call GD hr (by rfl) gD kD bD .nil pass0 (pa_cons (pe_glob (v := .ref A1) rfl r1 rfl) pa_nil)) (pa_cons (pe_call GD hr (by rfl) gD kD bD .nil pass0 (pa_cons (pe_glob (v := .ref A2) rfl r2 rfl) pa_nil)) pa_nil)))), ?_⟩
    refine ⟨A1, a1, a2, 8, 9, 239, 34, rfl, (h1 _).1, (h1 _).2.1, (h1 _).2.2, by decide, by decide, fun H1 p s1 np hp => ?_⟩
    refine ⟨A2, b1, b2, 4, 3, 6, 5, rfl, (h2 _).1, (h2 _).2.1, (h2 _).2.2, by decide, by decide, fun H2 p2 s2 np2 hp2 => ?_⟩
    intro x dx nx nd ne
    have sm : Same H2 (upd (upd H2 dx (.own x)) x (.ins C dx [])) := fun b o e => by
      rw [upd_ne (ne_of_none e nx), upd_ne (ne_of_none e nd)]
      exact e
    refine ⟨x, dx, p, p2, toldL, toldB, rfl, upd_same, sm _ _ (s2 _ _ hp), sm _ _ hp2, told_good.1, told_good.2, fun H3 k3 hP => ⟨rfl, ?_⟩⟩
    have s12 := s1.trans s2
    refine q H3 x (fun b o e => k3 b o (ne_of_none (s12 _ _ e) nx) (sm _ _ (s12 _ _ e))) (none_back s12 nx) hP
end
end K3

namespace K3
open PySem PySem.Spec PyProof.Rows L2
/-! ### items of rows: is_item, copy_behind, item_bits, are_bytes -/
def itemB : Any → Bool
  | .num n => decide (0 ≤ n ∧ n ≤ 255)
  | .tup [m, b] => decide (3 ≤ m ∧ m ≤ 18) && decide (1 ≤ b ∧ b ≤ 1024)
  | _ => false
theorem itemB_ne : ∀ {l : List Int}, l.length ≠ 2 → itemB (.tup l) = false
  | [], _ => rfl
  | [_], _ => rfl
  | [_, _], h => absurd rfl h
  | _ :: _ :: _ :: _, _ => rfl
theorem scIsItem : FnScope ["item", "many", "back"] ["item"] (defScope sIsItem) := ⟨rfl, rfl, rfl, by decide +kernel, rfl, by decide +kernel, by decide +kernel⟩
theorem scCopyB : FnScope ["whole", "item", "many", "back", "_"] ["whole", "item"] (defScope sCopyB) := ⟨rfl, rfl, rfl, by decide +kernel, rfl, by decide +kernel, by decide +kernel⟩
theorem scItemB : FnScope ["item", "letters", "backs", "many", "back", "letter", "length"] ["item", "letters", "backs"] (defScope sItemB) := ⟨rfl, rfl, rfl, by decide +kernel, rfl, by decide +kernel, by decide +kernel⟩
theorem scAreBytes : FnScope ["told", "most"] ["told", "most"] (defScope sAreBytes) := ⟨rfl, rfl, rfl, by decide +kernel, rfl, by decide +kernel, by decide +kernel⟩
section
variable {P : Program} {w : World} {K : PySem.W.Frag} {mg : Str → Option Value} {base : Heap}
def spIsItem : Sp := fun vs H Q _ => ∃ (v : V) (x : Any), vs = [v] ∧ AnyAt H x v ∧ Q (.bl (itemB x)) H
theorem ok_isItem {f fN : Addr} {fd fdN : FuncData} {j : Nat} {t1 t2 t3 : Tok} (F : Fun K "is_item" "is_item" sIsItem f fd)
    (GN : FnOk P w K mg base CX0 (j + 2) fN fdN ["told", "least", "most"] spIsNum) (bN : Binds K fdN ["told", "least", "most"] []) (kN : PySem.W.keepIn K (.ref fN) = true) (gN : mg "is_number" = some (.ref fN))
    (m1 : mg "isinstance" = none) (m2 : mg "tuple" = none) (m3 : mg "len" = none) (c1 : mg "FEWEST_COPIED" = some (.int 3 t1)) (c2 : mg "MOST_COPIED" = some (.int 18 t2)) (c3 : mg "FARTHEST" = some (.int 1024 t3)) : FnOk P w K mg base CX0 (j + 3) f fd ["item"] spIsItem := by
  refine F.ok scIsItem (fun vs H Q E h => ?_) (fun cdv A outer s H vs Q E hr h => ?_)
  · obtain ⟨v, x, rfl, _⟩ := h
    rfl
  · obtain ⟨v, x, rfl, hx, q⟩ := h
    refine ⟨_, pss_cons (ps_if (pt_not (pt_val (pe_callB call_isi (by rfl) m1 (by decide +kernel) (pa_cons (pv 0) (pa_cons (pe_bltn (v := .ty "tuple") (by rfl) m2 (by decide +kernel) rfl) pa_nil)))))
        (pss_one (ps_ret (pe_call GN hr (by rfl) gN kN bN .nil pass0 (pa_cons (pv 0) (pa_cons pe_int (pa_cons pe_int pa_nil)))))) pss_nil)
      (pss_cons (ps_if (pt_cmpR op_ne (pe_callB call_len_seq (by rfl) m3 PySem.boot_len (pa_cons (pv 0) pa_nil)) pe_int (nomark _)) (pss_one (ps_ret pe_bl)) pss_nil)
      (pss_cons (ps_asg (pv 0) (pg_tup (by rfl) (pgs_cons (pg_name (i := 1) scIsItem.nd rfl (.inl rfl)) (pgs_cons (pg_name (i := 2) scIsItem.nd rfl (.inl rfl)) pgs_nil))))
      (pss_one (ps_ret (pe_and (pe_call GN hr (by rfl) gN kN bN .nil pass0 (pa_cons (pv 1) (pa_cons (pe_glob (v := .int 3) rfl c1 ⟨_, rfl⟩) (pa_cons (pe_glob (v := .int 18) rfl c2 ⟨_, rfl⟩) pa_nil))))
        (pe_one (pe_call GN hr (by rfl) gN kN bN .nil pass0 (pa_cons (pv 2) (pa_cons pe_int (pa_cons (pe_glob (v := .int 1024) rfl c3 ⟨_, rfl⟩) pa_nil)))))))))), ?_⟩
    cases x with
    | num n =>
      obtain rfl : v = .int n := hx
      exact ⟨_, rfl, _, _, _, _, _, rfl, .ty "tuple", .base (.int _), kit_ty (a := "int") (r := false) (by decide +kernel), _, rfl, iteT ⟨_, rfl, .int n, 0, 255, rfl, .inl ⟨n, rfl, q⟩⟩⟩
    | lst l =>
      obtain ⟨t, rfl, ht⟩ := hx
      exact ⟨_, rfl, _, _, _, _, _, rfl, .ty "tuple", .base (.lst ht), kit_ty (a := "list") (r := false) (by decide +kernel), _, rfl, iteT ⟨_, rfl, .ref t, 0, 255, rfl, .inr (.inl ⟨t, _, rfl, ht, q⟩)⟩⟩
    | tup l =>
      obtain ⟨t, rfl, ht⟩ := hx
      refine ⟨_, rfl, _, _, .type "tuple", _, _, rfl, .ty "tuple", .base (.tup ht), kit_ty (a := "tuple") (r := true) (by decide +kernel), _, rfl, iteF ?_⟩
      refine ⟨_, rfl, t, _, rfl, .inr (.inl (.inl ht)), rfl, _, rfl, ite2 (fun e => ?_) (fun e => ?_)⟩
      · have hne : l.length ≠ 2 := fun z => by
          have e' : (!decide (V.int ((l.map V.int).length : Int) = V.int 2)) = true := e
          rw [List.length_map, z] at e'
          simp at e'
        rw [itemB_ne hne] at q
        exact q
      · have hl : l.length = 2 := by
          have e' : ¬ (!decide (V.int ((l.map V.int).length : Int) = V.int 2)) = true := e
          rw [List.length_map] at e'
          have e2 : V.int (l.length : Int) = V.int 2 := by simpa using e'
          have := V.int.inj e2
          omega
        match l, hl with
        | [m, b], _ =>
          refine ⟨_, rfl, t, _, rfl, .inl (.inl ht), rfl, _, _, rfl, _, _, rfl, rfl, ?_⟩
          refine ⟨_, rfl, .int m, 3, 18, rfl, .inl ⟨m, rfl, _, rfl, ?_⟩⟩
          have q : Q (.bl (decide (3 ≤ m ∧ m ≤ 18) && decide (1 ≤ b ∧ b ≤ 1024))) H := q
          by_cases hm : 3 ≤ m ∧ m ≤ 18
          · rw [if_pos (decide_eq_true hm)]
            rw [decide_eq_true hm, Bool.true_and] at q
            exact ⟨_, rfl, .int b, 1, 1024, rfl, .inl ⟨b, rfl, q⟩⟩
          · rw [if_neg (by simpa using hm)]
            rw [decide_eq_false hm, Bool.false_and] at q
            exact q
def spCopyB : Sp := fun vs H Q _ => ∃ (W t : Addr) (every : List Nat) (m b : Nat), vs = [.ref W, .ref t] ∧ H W = some (.lst (bys every)) ∧ H t = some (.tup [.int (m : Int), .int (b : Int)]) ∧ 1 ≤ b ∧ b ≤ every.length ∧ m ≤ 18 ∧ every.length ≤ 100000 ∧
  ∀ H', (∀ a, a ≠ W → H' a = H a) → H' W = some (.lst (bys (copyN every b m))) → Q .non H'
theorem ok_copyB {f : Addr} {fd : FuncData} {j : Nat} (F : Fun K "copy_behind" "copy_behind" sCopyB f fd) (m3 : mg "range" = none) : FnOk P w K mg base CX0 (j + 1) f fd ["whole", "item"] spCopyB := by
  refine F.ok scCopyB (fun vs H Q E h => ?_) (fun cdv A outer s H vs Q E hr h => ?_)
  · obtain ⟨W, t, every, m, b, rfl, _⟩ := h
    rfl
  · obtain ⟨W, t, every, m, b, rfl, hW, ht, b1, b2, hm, hl, q⟩ := h
    have hz := PySem.sizeLine_eq
    refine ⟨_, pss_cons (ps_asg (pv 1) (pg_tup (by rfl) (pgs_cons (pg_name (i := 2) scCopyB.nd rfl (.inl rfl)) (pgs_cons (pg_name (i := 3) scCopyB.nd rfl (.inl rfl)) pgs_nil))))
      (pss_one (ps_for PassesOwn.never rfl (pi_range1 (by rfl) m3 (pa_cons (pv 2) pa_nil)) (pg_name (i := 4) scCopyB.nd rfl (.inl rfl))
        (pss_one (ps_expr (pe_bm PySem.F.plainAttrs_list PySem.F.slot_list_append PySem.F.type_list_append mt_append (pv 0) (pa_cons (pe_ix ix_list (pv 0) (pe_un un_neg (pv 3)) (fun _ _ => rfl)) pa_nil)))))), ?_⟩
    refine ⟨_, rfl, t, _, rfl, .inl (.inl ht), rfl, _, _, rfl, _, _, rfl, rfl, ?_⟩
    refine ⟨_, rfl, m, rfl, (by omega), (by omega), ?_⟩
    refine for_range (lo := 0) (n := (m : Int).toNat) (fun i σ H' => ∃ y : Option V, σ = [some (.ref W), some (.ref t), some (.int (m : Int)), some (.int (b : Int)), y] ∧ (∀ a, a ≠ W → H' a = H a) ∧ H' W = some (.lst (bys (copyN every b i)))) ⟨_, rfl, fun a h => rfl, hW⟩ (fun i σ H' hi h => ?_) (fun σ H' h => ?_)
    · obtain ⟨y, rfl, heq, hE⟩ := h
      refine ⟨_, rfl, .inl ⟨rfl, _, .inl (.inl hE)⟩, _, rfl, _, rfl, _, rfl, W, _, _, _, rfl, rfl, .inl (.inl hE), back_at b1 (by rw [copyN_len]; omega), W, _, _, rfl, rfl, hE, (by rw [bys_len, copyN_len, hz]; omega), _, rfl, fun a h => ?_, ?_⟩
      · rw [upd_ne h]
        exact heq a h
      · rw [upd_same, copyN_succ, ← bys_app]
        rfl
    · obtain ⟨y, rfl, heq, hE⟩ := h
      rw [Int.toNat_natCast] at hE
      exact q H' heq hE
def spItemB : Sp := fun vs H Q _ => ∃ (v : V) (it : Itm) (pL pB : Addr) (L B : List Int), vs = [v, .ref pL, .ref pB] ∧ ItmAt H it v ∧ ItmOk it ∧ H pL = some (.lst (L.map V.int)) ∧ H pB = some (.lst (B.map V.int)) ∧ PrL 273 L ∧ PrL 11 B ∧ Q (optV (costO L B it)) H
theorem ok_itemB {f fB : Addr} {fd fdB : FuncData} {j : Nat} {t1 : Tok} (F : Fun K "item_bits" "item_bits" sItemB f fd) (GB : FnOk P w K mg base CX0 (j + 1) fB fdB ["back"] spBackOf) (bB : Binds K fdB ["back"] []) (kB : PySem.W.keepIn K (.ref fB) = true) (gB : mg "back_of" = some (.ref fB))
    (m1 : mg "isinstance" = none) (m2 : mg "tuple" = none) (c1 : mg "AHEAD_OF_COPIES" = some (.int 254 t1)) : FnOk P w K mg base CX0 (j + 2) f fd ["item", "letters", "backs"] spItemB := by
  refine F.ok scItemB (fun vs H Q E h => ?_) (fun cdv A outer s H vs Q E hr h => ?_)
  · obtain ⟨v, it, pL, pB, L, B, rfl, _⟩ := h
    rfl
  · obtain ⟨v, it, pL, pB, L, B, rfl, hi, ok, hL, hB, ⟨lL, nL, _⟩, ⟨lB, nB, _⟩, q⟩ := h
    refine ⟨_, pss_cons (ps_if (pt_not (pt_val (pe_callB call_isi (by rfl) m1 (by decide +kernel) (pa_cons (pv 0) (pa_cons (pe_bltn (v := .ty "tuple") (by rfl) m2 (by decide +kernel) rfl) pa_nil)))))
        (pss_one (ps_ret (pe_orT (pe_ix ix_list (pv 1) (pv 0) (fun _ _ => rfl)) (pe_one pe_non)))) pss_nil)
      (pss_cons (ps_asg (pv 0) (pg_tup (by rfl) (pgs_cons (pg_name (i := 3) scItemB.nd rfl (.inl rfl)) (pgs_cons (pg_name (i := 4) scItemB.nd rfl (.inl rfl)) pgs_nil))))
      (pss_cons (ps_set (i := 5) scItemB.nd rfl (.inl rfl) (pe_ix ix_list (pv 1) (pe_op op_add (pe_glob (v := .int 254) rfl c1 ⟨_, rfl⟩) (pv 3)) (fun _ _ => rfl)))
      (pss_cons (ps_set (i := 6) scItemB.nd rfl (.inl rfl) (pe_ix ix_list (pv 2) (pe_call GB hr (by rfl) gB kB bB .nil pass0 (pa_cons (pv 4) pa_nil)) (fun _ _ => rfl)))
      (pss_cons (ps_if (PW.pt (pw_or (pt_cmpR op_eq (pv 5) pe_int (nomark _)) (pw_or1 (pt_cmpR op_eq (pv 6) pe_int (nomark _))))) (pss_one (ps_ret pe_non)) pss_nil)
      (pss_one (ps_ret (pe_op op_add (pe_op op_add (pv 5) (pv 6)) (pe_call GB hr (by rfl) gB kB bB .nil pass0 (pa_cons (pv 4) pa_nil))))))))), ?_⟩
    cases it with
    | b k =>
      have ek : v = .int (k : Int) := hi
      subst ek
      have k0 : k < 256 := ok
      have ea := at_getD (L := L) (k := k) (by omega)
      have hnn : 0 ≤ L.getD k 0 := by
        rw [List.getD_eq_getElem?_getD]
        cases e : L[k]? with
        | none => exact Int.le_refl 0
        | some x => exact (nL x (List.mem_of_getElem? e)).1
      refine ⟨_, rfl, _, _, _, _, _, rfl, .ty "tuple", .base (.int _), kit_ty (a := "int") (r := false) (by decide +kernel), _, rfl, iteT ?_⟩
      have q : Q (optV (if 0 < L.getD k 0 then some (L.getD k 0) else none)) H := q
      refine ⟨_, rfl, _, rfl, pL, _, _, _, rfl, rfl, .inl (.inl hL), ea, _, rfl, ite2 (fun e => ?_) (fun e => ?_)⟩
      · rw [if_pos (by have : L.getD k 0 ≠ 0 := by simpa using e
                       omega)] at q
        exact q
      · rw [if_neg (by have : L.getD k 0 = 0 := by simpa using e
                       omega)] at q
        exact q
    | c m r =>
      obtain ⟨t, ev, ht⟩ := hi
      subst ev
      obtain ⟨o1, o2, o3, o4⟩ := ok
      have hlog : Nat.log2 r < 11 := (Nat.log2_lt (by omega)).mpr (by omega)
      have ea := at_getD (L := L) (k := 254 + m) (by omega)
      have eb := at_getD (L := B) (k := Nat.log2 r) (by omega)
      have ec : ((254 + m : Nat) : Int) = 254 + (m : Int) := by push_cast; rfl
      rw [ec] at ea
      refine ⟨_, rfl, _, _, .type "tuple", _, _, rfl, .ty "tuple", .base (.tup ht), kit_ty (a := "tuple") (r := true) (by decide +kernel), _, rfl, iteF ?_⟩
      refine ⟨_, rfl, t, _, rfl, .inl (.inl ht), rfl, _, _, rfl, _, _, rfl, rfl, ?_⟩
      refine ⟨_, rfl, _, rfl, _, _, rfl, rfl, pL, _, _, _, rfl, rfl, .inl (.inl hL), ea, ?_⟩
      refine ⟨_, rfl, _, rfl, r, rfl, o3, by omega, pB, _, _, _, rfl, rfl, .inl (.inl hB), eb, ?_⟩
      have q : Q (optV (if L.getD (254 + m) 0 = 0 ∨ B.getD (Nat.log2 r) 0 = 0 then none else some (L.getD (254 + m) 0 + B.getD (Nat.log2 r) 0 + (Nat.log2 r : Nat)))) H := q
      refine ⟨_, rfl, rfl, _, rfl, ite2 (fun e => ?_) (fun e => ?_)⟩
      · have e1 : V.int (L.getD (254 + m) 0) = V.int 0 := of_decide_eq_true e
        rw [if_pos (.inl (V.int.inj e1))] at q
        exact q
      · have e1 : ¬ L.getD (254 + m) 0 = 0 := fun z => e (decide_eq_true (congrArg V.int z))
        refine ⟨_, rfl, rfl, _, rfl, ite2 (fun e => ?_) (fun e => ?_)⟩
        · have e2 : V.int (B.getD (Nat.log2 r) 0) = V.int 0 := of_decide_eq_true e
          rw [if_pos (.inr (V.int.inj e2))] at q
          exact q
        · have e2 : ¬ B.getD (Nat.log2 r) 0 = 0 := fun z => e (decide_eq_true (congrArg V.int z))
          rw [if_neg (fun z => z.elim e1 e2)] at q
          exact ⟨_, rfl, _, rfl, _, _, rfl, rfl, _, rfl, r, rfl, o3, by omega, _, _, rfl, rfl, q⟩
def spAreBytes : Sp := fun vs H Q _ => ∃ (b : Array UInt8) (n : Nat), vs = [.byt b, .int (n : Int)] ∧ b.size ≤ 1000000 ∧ Q (.bl (decide (b.size ≤ n))) H
theorem ok_areBytes {f : Addr} {fd : FuncData} {j : Nat} (F : Fun K "are_bytes" "are_bytes" sAreBytes f fd) (m1 : mg "isinstance" = none) (m2 : mg "bytes" = none) (m3 : mg "len" = none) : FnOk P w K mg base CX0 (j + 1) f fd ["told", "most"] spAreBytes := by
  refine F.ok scAreBytes (fun vs H Q E h => ?_) (fun cdv A outer s H vs Q E hr h => ?_)
  · obtain ⟨b, n, rfl, _⟩ := h
    rfl
  · obtain ⟨b, n, rfl, hb, q⟩ := h
    have hz := PySem.sizeLine_eq
    refine ⟨_, pss_one (ps_ret (pe_and (pe_callB call_isi (by rfl) m1 (by decide +kernel) (pa_cons (pv 0) (pa_cons (pe_bltn (v := .ty "bytes") (by rfl) m2 (by decide +kernel) rfl) pa_nil)))
      (pe_one (pe_cmpR op_le (pe_callB call_len (by rfl) m3 PySem.boot_len (pa_cons (pv 0) pa_nil)) (pv 1) (nomark _))))), ?_⟩
    refine ⟨_, rfl, _, _, _, _, _, rfl, .ty "bytes", .byt _, kit_ty (a := "bytes") (r := true) (by decide +kernel), _, rfl, iteT ?_⟩
    refine ⟨_, rfl, _, b.size, rfl, ⟨by omega, rfl⟩, _, rfl, _, _, rfl, rfl, ?_⟩
    have e : decide (((b.size : Nat) : Int) ≤ (n : Int)) = decide (b.size ≤ n) := by simp
    show Q (.bl (decide (((b.size : Nat) : Int) ≤ (n : Int)))) H
    rw [e]
    exact q
end
end K3

namespace K3
open PySem PySem.Spec PyProof.Rows L2
/-! ### bytes_behind, told -/
def asIt : Any → Itm
  | .num n => .b n.toNat
  | .tup [m, b] => .c m.toNat b.toNat
  | _ => .b 0
theorem step_bad {size : Int} : ∀ {x : Any}, itemB x = false → stepA size x = none
  | .num n, h => if_neg (of_decide_eq_false h)
  | .lst _, _ => rfl
  | .tup [], _ => rfl
  | .tup [_], _ => rfl
  | .tup (_ :: _ :: _ :: _), _ => rfl
  | .tup [m, b], h => by
    have h' : (decide (3 ≤ m ∧ m ≤ 18) && decide (1 ≤ b ∧ b ≤ 1024)) = false := h
    refine if_neg fun z => ?_
    rw [decide_eq_true (show 3 ≤ m ∧ m ≤ 18 by omega), decide_eq_true (show 1 ≤ b ∧ b ≤ 1024 by omega)] at h'
    cases h'
theorem log_small {n : Nat} (h : n ≤ 100000) : ((n : Int)).natAbs.log2 < 1920 := by
  rw [Int.natAbs_natCast]
  by_cases hn : n = 0
  · subst hn; decide
  · exact (Nat.log2_lt hn).mpr (Nat.lt_of_le_of_lt h (by decide +kernel))
theorem bi_byB {ks : List Nat} (h : ∀ k ∈ ks, k < 256) : (bi (byB ks)).map V.int = bys ks := by
  unfold bys byB
  congr 1
  show (List.map Nat.toUInt8 ks).toArray.toList.map (fun c => (c.toNat : Int)) = ks.map fun (k : Nat) => (k : Int)
  rw [List.map_map]
  refine List.map_congr_left fun k m => ?_
  show ((k.toUInt8.toNat : Nat) : Int) = k
  have := h k m
  have e : k.toUInt8.toNat = k := by
    rw [Nat.toUInt8_eq, UInt8.toNat_ofNat']
    exact Nat.mod_eq_of_lt this
  rw [e]
theorem byB_of (ks : List Nat) : byteArr (ks.map fun (k : Nat) => (k : Int)) = byB ks := by
  unfold byteArr byB
  rw [List.map_map]
  rfl
theorem byB_size (ks : List Nat) : (byB ks).size = ks.length := by
  unfold byB
  simp
abbrev NBh : List Str := ["items", "ahead", "whole", "at", "item"]
theorem scBehind : FnScope NBh ["items", "ahead"] (defScope sBehind) := ⟨rfl, rfl, rfl, by decide +kernel, rfl, by decide +kernel, by decide +kernel⟩
section
variable {P : Program} {w : World} {K : PySem.W.Frag} {mg : Str → Option Value} {base : Heap} {CI fE : Addr}
abbrev BadIt (P : Program) (K : PySem.W.Frag) (mg : Str → Option Value) (CI fE : Addr) : Prop := SX.SxTxt P K mg CI fE "BadItems" "at" "no row of items, seen at " "BadItems.__init__"
def spBehind (C : Addr) : Sp := fun vs H Q E => ∃ (pr : Addr) (us : List V) (any : List Any) (lead : List Nat), vs = [.ref pr, .byt (byB lead)] ∧ H pr = some (.lst us) ∧ Paired (AnyAt H) any us ∧ (∀ k ∈ lead, k < 256) ∧ lead.length ≤ 5000 ∧ any.length ≤ 1000 ∧
  (∀ n : Nat, firstBad (lead.length : Int) 0 any = some n → ∀ H' d, Same H H' → H' d = some (.xd [("at", .int (n : Int))]) → E (.ref C) (some d) H') ∧
  (firstBad (lead.length : Int) 0 any = none → ∀ H' due, Same H H' → tells lead (any.map asIt) = some (lead ++ due) → (∀ k ∈ due, k < 256) → due.length ≤ 18 * any.length → Q (.byt (byB due)) H')
theorem ok_behind (T : BadIt P K mg CI fE) {f fI fC : Addr} {fd fdI fdC : FuncData} {j : Nat} (F : Fun K "bytes_behind" "bytes_behind" sBehind f fd)
    (GI : FnOk P w K mg base CX0 (j + 3) fI fdI ["item"] spIsItem) (bI : Binds K fdI ["item"] []) (kI : PySem.W.keepIn K (.ref fI) = true) (gI : mg "is_item" = some (.ref fI))
    (GC : FnOk P w K mg base CX0 (j + 3) fC fdC ["whole", "item"] spCopyB) (bC : Binds K fdC ["whole", "item"] []) (kC : PySem.W.keepIn K (.ref fC) = true) (gC : mg "copy_behind" = some (.ref fC))
    (m1 : mg "isinstance" = none) (m2 : mg "list" = none) (m3 : mg "enumerate" = none) (m4 : mg "tuple" = none) (m5 : mg "len" = none) (m6 : mg "bytes" = none) : FnOk P w K mg base (L2N.CX P w) (j + 4) f fd ["items", "ahead"] (spBehind CI) := by
  refine okN F scBehind (fun vs H Q E h => ?_) (fun cdv A outer s H vs Q E hr h => ?_)
  · obtain ⟨pr, us, any, lead, rfl, _⟩ := h
    rfl
  · obtain ⟨pr, us, any, lead, rfl, hpr, hany, hk0, hl0, hl1, qE, q⟩ := h
    have hz := PySem.sizeLine_eq
    refine ⟨_, pss_cons (ps_if (pt_not (pt_val (pe_callB call_isi (by rfl) m1 (by decide +kernel) (pa_cons (pv 0) (pa_cons (pe_bltn (v := .ty "list") (by rfl) m2 (by decide +kernel) rfl) pa_nil))))) (pss_one ps_never) pss_nil)
      (pss_cons (ps_set (i := 2) scBehind.nd rfl (.inl rfl) (pe_listOfB rfl (by rfl) m2 (pv 1)))
      (pss_cons (ps_for (passes_of rfl) rfl (pi_enum (by rfl) m3 (pa_cons (pv 0) pa_nil)) (pg_tup rfl (pgs_cons (pg_name (i := 3) scBehind.nd rfl (.inl rfl)) (pgs_cons (pg_name (i := 4) scBehind.nd rfl (.inl rfl)) pgs_nil)))
        (pss_cons (ps_if (pt_not (pt_val (pe_call GI hr (by rfl) gI kI bI .nil pass0 (pa_cons (pv 4) pa_nil)))) (pss_one (ps_raiseSx rfl T hr (L2N.takes_of rfl rfl rfl rfl) (pa_cons (pv 3) pa_nil) (by rfl))) pss_nil)
        (pss_one (ps_if (pt_not (pt_val (pe_callB call_isi (by rfl) m1 (by decide +kernel) (pa_cons (pv 4) (pa_cons (pe_bltn (v := .ty "tuple") (by rfl) m4 (by decide +kernel) rfl) pa_nil)))))
          (pss_one (ps_expr (pe_bm PySem.F.plainAttrs_list PySem.F.slot_list_append PySem.F.type_list_append mt_append (pv 2) (pa_cons (pv 4) pa_nil))))
          (pss_one (ps_if (pt_cmpR op_gt (pe_ix ix_tup (pv 4) pe_int (fun _ _ => rfl)) (pe_callB call_len_seq (by rfl) m5 PySem.boot_len (pa_cons (pv 2) pa_nil)) (nomark _)) (pss_one (ps_raiseSx rfl T hr (L2N.takes_of rfl rfl rfl rfl) (pa_cons (pv 3) pa_nil) (by rfl)))
            (pss_one (ps_expr (pe_call GC hr (by rfl) gC kC bC .nil pass0 (pa_cons (pv 2) (pa_cons (pv 4) pa_nil)))))))))))
      (pss_one (ps_ret (pe_bytesOf rfl (by rfl) m6 (pe_slice sl_list (pv 2) (po_some (pe_callB call_len (by rfl) m5 PySem.boot_len (pa_cons (pv 1) pa_nil))) po_none)))))), ?_⟩
    refine ⟨_, rfl, _, _, .type "list", _, _, rfl, .ty "list", .base (.lst hpr), kit_ty (a := "list") (r := true) (by decide +kernel), _, rfl, iteF ?_⟩
    refine ⟨_, rfl, _, rfl, (by rw [byB_size, hz]; omega), fun W nW => ?_⟩
    rw [bi_byB hk0]
    have s1 : Same H (upd H W (.lst (bys lead))) := same_upd nW
    refine ⟨_, rfl, pr, _, rfl, .inl (.inl (s1 _ _ hpr)), ?_⟩
    have hlen := hany.length
    refine for_it (walk_enum (K := K) (a := pr) (xs := us)) (fun i σ H' => ∃ (y3 y4 : Option V) (every due : List Nat), σ = [some (.ref pr), some (.byt (byB lead)), some (.ref W), y3, y4] ∧ Same H H' ∧ H' W = some (.lst (bys every)) ∧ firstBad (lead.length : Int) 0 any = firstBad (every.length : Int) i (any.drop i) ∧
      tells lead ((any.take i).map asIt) = some every ∧ every = lead ++ due ∧ (∀ k ∈ every, k < 256) ∧ due.length ≤ 18 * i) ⟨_, _, lead, [], rfl, s1, upd_same, rfl, rfl, by simp, hk0, Nat.zero_le _⟩ (fun i σ H' _ h => ?_) (fun i x σ H1 H2 hi h y => ?_) (fun σ H' h => ?_)
    · obtain ⟨_, _, _, _, _, sm, _⟩ := h
      exact .inl (.inl (sm _ _ hpr))
    · obtain ⟨y3, y4, every, due, rfl, sm, hW, efb, htl, edue, hk, hdl⟩ := h
      obtain ⟨T0, x0, u, rfl, nT0, rfl, e0, e1⟩ := y
      obtain rfl := Option.some.inj e0
      have hia : i < any.length := by omega
      obtain ⟨u', e1', ha⟩ := paired_get hany (List.getElem?_eq_getElem hia)
      have euu : u' = u := Option.some.inj (e1'.symm.trans e1)
      subst euu
      have sT : Same H1 (upd H1 T0 (.tup [.int ((i : Nat) : Int), u'])) := same_upd nT0
      have ha2 := (ha.same sm).same sT
      have hT : (upd H1 T0 (.tup [.int ((i : Nat) : Int), u'])) T0 = some (.tup [.int ((i : Nat) : Int), u']) := upd_same
      have sm2 := sm.trans sT
      have hW2 := sT _ _ hW
      rw [List.drop_eq_getElem_cons hia] at efb
      have htake : any.take (i + 1) = any.take i ++ [any[i]] := by rw [List.take_add_one, List.getElem?_eq_getElem hia]; rfl
      generalize any[i] = x at *
      generalize upd H1 T0 (.tup [.int ((i : Nat) : Int), u']) = H3 at *
      refine ⟨T0, _, rfl, .inl (.inl hT), rfl, ?_⟩
      refine ⟨_, _, rfl, _, _, rfl, rfl, ?_⟩
      have bad : stepA (every.length : Int) x = none → ∀ d, H3 d = none → E (.ref CI) (some d) (upd H3 d (.xd [("at", .int (i : Int))])) := fun e d nd => by
        refine qE i (by rw [efb, firstBad_no e]) _ d (sm2.trans (same_upd nd)) upd_same
      have hlog : ((i : Int)).natAbs.log2 < 1920 := log_small (by omega)
      refine ⟨_, rfl, u', x, rfl, ha2, _, rfl, ite2 (fun c => ?_) (fun c => ?_)⟩
      · have c' : itemB x = false := by simpa using c
        exact ⟨_, rfl, _, rfl, .inl ⟨_, rfl, hlog⟩, fun d nd => bad (step_bad c') d nd⟩
      · have c' : itemB x = true := by simpa using c
        cases x with
        | lst l => cases c'
        | num n =>
          obtain rfl : u' = .int n := ha
          obtain ⟨n0, n1⟩ := of_decide_eq_true c'
          obtain ⟨k, rfl⟩ := nat_of n0
          refine ⟨_, rfl, _, _, _, _, _, rfl, .ty "tuple", .base (.int _), kit_ty (a := "int") (r := false) (by decide +kernel), _, rfl, iteT ?_⟩
          refine ⟨_, rfl, .inl ⟨rfl, _, .inl (.inl hW2)⟩, _, rfl, W, _, _, rfl, rfl, hW2, (by rw [bys_len, edue, List.length_append, hz]; omega), ?_⟩
          refine ⟨_, _, every ++ [k], due ++ [k], rfl, same_put sm2 nW, by rw [upd_same, ← bys_app]; rfl, ?_, ?_, by rw [edue, List.append_assoc], ?_, by rw [List.length_append, List.length_singleton]; omega⟩
          · rw [efb, firstBad_yes (s := ((every.length : Nat) : Int) + 1) (by show (if 0 ≤ (k : Int) ∧ (k : Int) ≤ 255 then some _ else none) = _; rw [if_pos ⟨n0, n1⟩]), List.length_append, List.length_singleton]
            push_cast
            rfl
          · rw [htake, List.map_append, tells_app, htl]
            rfl
          · intro z m
            rcases (List.mem_append.mp m) with (m | m)
            · exact hk z m
            · rw [List.mem_singleton.mp m]
              omega
        | tup l =>
          obtain ⟨t, rfl, ht⟩ := ha2
          match l, c', ht with
          | [m, b], c', ht =>
            have c2 : (decide (3 ≤ m ∧ m ≤ 18) && decide (1 ≤ b ∧ b ≤ 1024)) = true := c'
            obtain ⟨cm, cb⟩ := (Bool.and_eq_true _ _).mp c2
            obtain ⟨m1', m2'⟩ := of_decide_eq_true cm
            obtain ⟨b1', b2'⟩ := of_decide_eq_true cb
            obtain ⟨mm, rfl⟩ := nat_of (x := m) (by omega)
            obtain ⟨bb, rfl⟩ := nat_of (x := b) (by omega)
            refine ⟨_, rfl, _, _, .type "tuple", _, _, rfl, .ty "tuple", .base (.tup ht), kit_ty (a := "tuple") (r := true) (by decide +kernel), _, rfl, iteF ?_⟩
            refine ⟨_, rfl, t, _, 1, _, rfl, rfl, .inl (.inl ht), rfl, _, rfl, W, _, rfl, .inl (.inl (.inl hW2)), _, _, rfl, rfl, _, rfl, ite2 (fun e => ?_) (fun e => ?_)⟩
            · have e' : ((bys every).length : Int) < (bb : Int) := of_decide_eq_true e
              rw [bys_len] at e'
              refine ⟨_, rfl, _, rfl, .inl ⟨_, rfl, hlog⟩, fun d nd => bad ?_ d nd⟩
              show (if 3 ≤ (mm : Int) ∧ (mm : Int) ≤ 18 ∧ 1 ≤ (bb : Int) ∧ (bb : Int) ≤ 1024 ∧ (bb : Int) ≤ (every.length : Int) then some _ else none) = none
              rw [if_neg (by omega)]
            · have e' : ¬ ((bys every).length : Int) < (bb : Int) := fun z => e (decide_eq_true z)
              rw [bys_len] at e'
              refine ⟨_, rfl, _, rfl, W, t, every, mm, bb, rfl, hW2, ht, by omega, by omega, by omega, by rw [edue, List.length_append]; omega, fun H4 heq hW4 => ?_⟩
              obtain ⟨r, er⟩ := copyN_pre bb mm every
              have hcl := copyN_len bb mm every
              refine ⟨_, _, copyN every bb mm, due ++ r, rfl, fun a o z => ?_, hW4, ?_, ?_, by rw [er, edue, List.append_assoc], copyN_lt bb _ hk, ?_⟩
              · have hne : a ≠ W := ne_of_none z nW
                rw [heq a hne]
                exact sm2 _ _ z
              · rw [efb, firstBad_yes (s := ((every.length : Nat) : Int) + (mm : Int)) (by show (if 3 ≤ (mm : Int) ∧ (mm : Int) ≤ 18 ∧ 1 ≤ (bb : Int) ∧ (bb : Int) ≤ 1024 ∧ (bb : Int) ≤ (every.length : Int) then some _ else none) = _; rw [if_pos (by omega)]), hcl]
                push_cast
                rfl
              · rw [htake, List.map_append, tells_app, htl]
                show (if ((bb : Int)).toNat ≤ every.length then tells (copyN every ((bb : Int)).toNat ((mm : Int)).toNat) [] else none) = _
                rw [Int.toNat_natCast, Int.toNat_natCast, if_pos (by omega)]
                rfl
              · rw [er, List.length_append] at hcl
                rw [List.length_append]
                omega
    · obtain ⟨y3, y4, every, due, rfl, sm, hW, efb, htl, edue, hk, hdl⟩ := h
      rw [← hlen] at efb htl hdl
      rw [List.drop_length] at efb
      rw [List.take_length] at htl
      have hcut : cutV (bys every) (some ((lead.length : Nat) : Int)) none = bys due := by
        rw [edue]
        unfold cutV
        rw [HT.sIx_nat, HT.sIx_none, bys_len, List.length_append, Nat.min_eq_left (by omega)]
        unfold bys
        rw [← List.map_drop, ← List.map_drop, ← List.map_take, ← List.map_take, List.drop_left, Nat.add_sub_cancel_left, List.take_length]
      refine ⟨_, rfl, _, rfl, _, (byB lead).size, rfl, ⟨by rw [byB_size, hz]; omega, rfl⟩, _, rfl, W, _, rfl, .inl (.inl hW), fun r nr => ?_⟩
      rw [byB_size, hcut]
      have hkd : ∀ k ∈ due, k < 256 := fun k m => hk k (by rw [edue]; exact List.mem_append.mpr (.inr m))
      refine .inr ⟨r, due.map fun (k : Nat) => (k : Int), rfl, .inl (.inl upd_same), ?_, ?_⟩
      · intro z m
        obtain ⟨k, mk, rfl⟩ := List.mem_map.mp m
        have := hkd k mk
        omega
      · rw [byB_of]
        exact q (by rw [efb]; rfl) _ due (sm.trans (same_upd nr)) (by rw [htl, edue]) hkd (by omega)
end
end K3

namespace K3
open PySem PySem.Spec PyProof.Rows L2
/-! ### told, bits_of -/
theorem passF {P : Program} {w : World} {X : Cx} : Passes (L2N.CX P w) X (fun _ _ _ => False) := fun _ _ _ _ _ _ _ c => by
  obtain ⟨_, _, _, _, _, _, _, _, _, _, _, _, z⟩ := c
  exact z.elim
theorem scTld : FnScope ["items", "ahead"] ["items", "ahead"] (defScope sTld) := ⟨rfl, rfl, rfl, by decide +kernel, rfl, by decide +kernel, by decide +kernel⟩
abbrev NBt : List Str := ["items", "prices", "at", "item", "letters", "backs", "costs"]
theorem scBits : FnScope NBt ["items", "prices"] (defScope sBits) := ⟨rfl, rfl, rfl, by decide +kernel, rfl, by decide +kernel, by decide +kernel⟩
theorem kb_tld {K : PySem.W.Frag} {f : Addr} {fd : FuncData} (F : Fun K "told" "told" sTld f fd) : KBn K fd ["items", "ahead"] 1 ["ahead"] (fun us ws => us ++ ws) (fun vs zs => vs ++ zs) := by
  obtain ⟨oc, od, kV, doc, pm, an, cdv, ct, osl, rfl, lk, hcd⟩ := F.ex
  refine ⟨fun s us ws X h1 h2 => ?_, fun r1 r2 => r1.append r2⟩
  match us, h1, ws, h2 with
  | [u], _, [x], _ => exact BindsTo.of_eq rfl
/-- all costs' sum, none where one is none -/
def sumO : List (Option Int) → Option Int
  | [] => some 0
  | none :: _ => none
  | some x :: r => (sumO r).map (x + ·)
section
variable {P : Program} {w : World} {K : PySem.W.Frag} {mg : Str → Option Value} {base : Heap} {CI fE C fPI fL fB : Addr}
theorem ok_tld {f fA fH : Addr} {fd fdA fdH : FuncData} {j : Nat} {t1 : Tok} (F : Fun K "told" "told" sTld f fd)
    (GA : FnOk P w K mg base CX0 (j + 4) fA fdA ["told", "most"] spAreBytes) (bA : Binds K fdA ["told", "most"] []) (kA : PySem.W.keepIn K (.ref fA) = true) (gA : mg "are_bytes" = some (.ref fA))
    (GH : FnOk P w K mg base (L2N.CX P w) (j + 4) fH fdH ["items", "ahead"] (spBehind CI)) (bH : Binds K fdH ["items", "ahead"] []) (kH : PySem.W.keepIn K (.ref fH) = true) (gH : mg "bytes_behind" = some (.ref fH))
    (c1 : mg "MOST_AHEAD" = some (.int 4096 t1)) : FnOk P w K mg base (L2N.CX P w) (j + 5) f fd ["items", "ahead"] (fun vs H Q E => spBehind CI vs H Q E ∧ ∃ (pr : Addr) (lead : List Nat), vs = [.ref pr, .byt (byB lead)] ∧ lead.length ≤ 4096) := by
  refine okN F scTld (fun vs H Q E h => ?_) (fun cdv A outer s H vs Q E hr h => ?_)
  · obtain ⟨_, pr, lead, rfl, _⟩ := h
    rfl
  · obtain ⟨hB, pr, lead, rfl, hl⟩ := h
    refine ⟨_, pss_cons (ps_if (pt_not (pt_val (pe_call GA hr (by rfl) gA kA bA .nil pass0 (pa_cons (pv 1) (pa_cons (pe_glob (v := .int 4096) rfl c1 ⟨_, rfl⟩) pa_nil))))) (pss_one ps_never) pss_nil)
      (pss_one (ps_ret (pe_call GH hr (by rfl) gH kH bH .nil (L2N.passes_call (L2N.takes_of rfl rfl rfl rfl) (fun _ _ _ _ h => h)) (pa_cons (pv 0) (pa_cons (pv 1) pa_nil))))), ?_⟩
    refine ⟨_, rfl, byB lead, 4096, rfl, (by rw [byB_size]; omega), _, rfl, ?_⟩
    rw [byB_size, decide_eq_true hl]
    exact iteF ⟨_, rfl, _, rfl, hB⟩
/-! ### bits_of -/
def toAny : Itm → Any
  | .b k => .num (k : Int)
  | .c m r => .tup [(m : Int), (r : Int)]
theorem toAny_at {H : Hp} {it : Itm} {v : V} (h : ItmAt H it v) : AnyAt H (toAny it) v := by
  cases it with
  | b k => exact h
  | c m r => exact h
theorem toAny_ok {it : Itm} (h : ItmOk it) : itemB (toAny it) = true := by
  cases it with
  | b k =>
    have h' : k < 256 := h
    exact decide_eq_true (by omega)
  | c m r =>
    obtain ⟨h1, h2, h3, h4⟩ := h
    show (decide (3 ≤ (m : Int) ∧ (m : Int) ≤ 18) && decide (1 ≤ (r : Int) ∧ (r : Int) ≤ 1024)) = true
    rw [decide_eq_true (show 3 ≤ (m : Int) ∧ (m : Int) ≤ 18 by omega), decide_eq_true (show 1 ≤ (r : Int) ∧ (r : Int) ≤ 1024 by omega)]
    rfl
def bitsO (L B : List Int) (its : List Itm) : Option Int := sumO (its.map (costO L B))
theorem sumO_none : ∀ {cs : List (Option Int)}, none ∈ cs → sumO cs = none
  | none :: _, _ => rfl
  | some x :: r, h => by
    have h' : none ∈ r := by simpa using h
    show (sumO r).map (x + ·) = none
    rw [sumO_none h']
    rfl
theorem sumO_some : ∀ (ns : List Int), sumO (ns.map some) = some ns.sum
  | [] => rfl
  | x :: r => by
    show (sumO (r.map some)).map (x + ·) = some (x :: r).sum
    rw [sumO_some r]
    rfl
theorem all_some : ∀ {cs : List (Option Int)}, none ∉ cs → ∃ ns : List Int, cs = ns.map some
  | [], _ => ⟨[], rfl⟩
  | none :: _, h => absurd (List.mem_cons_self ..) h
  | some x :: r, h => by
    obtain ⟨ns, e⟩ := all_some (cs := r) (fun z => h (List.mem_cons_of_mem _ z))
    exact ⟨x :: ns, by rw [e]; rfl⟩
theorem inV_non (cs : List (Option Int)) : inV .non (cs.map optV) = decide (none ∈ cs) := by
  induction cs with
  | nil => rfl
  | cons c r ih =>
    have e : inV .non ((c :: r).map optV) = (eqV (optV c) .non || inV .non (r.map optV)) := rfl
    rw [e, ih]
    cases c with
    | none => simp [eqV, optV]
    | some x => simp [eqV, optV]
theorem flat_opt (cs : List (Option Int)) : (cs.map optV).all flatV = true := by
  rw [List.all_map]
  refine List.all_eq_true.mpr fun c _ => ?_
  cases c with
  | none => rfl
  | some x => rfl
def spBits (C : Addr) : Sp := fun vs H Q _ => ∃ (pr pp : Addr) (us : List V) (its : List Itm) (L B : List Int), vs = [.ref pr, .ref pp] ∧ H pr = some (.lst us) ∧ RowAt H its us ∧ (∀ it ∈ its, ItmOk it) ∧ its.length ≤ 1000 ∧ PrAt C H pp L B ∧ PrL 273 L ∧ PrL 11 B ∧
  ∀ H', Same H H' → Q (optV (bitsO L B its)) H'
theorem ok_bits (T : PrTxt K mg C fPI fL fB) {f fI fM : Addr} {fd fdI fdM fdL fdB : FuncData} {j : Nat} (F : Fun K "bits_of" "bits_of" sBits f fd)
    (GI : FnOk P w K mg base CX0 (j + 4) fI fdI ["item"] spIsItem) (bI : Binds K fdI ["item"] []) (kI : PySem.W.keepIn K (.ref fI) = true) (gI : mg "is_item" = some (.ref fI))
    (GM : FnOk P w K mg base CX0 (j + 4) fM fdM ["item", "letters", "backs"] spItemB) (bM : Binds K fdM ["item", "letters", "backs"] []) (kM : PySem.W.keepIn K (.ref fM) = true) (gM : mg "item_bits" = some (.ref fM))
    (GL : FnOk P w K mg base CX0 (j + 4) fL fdL ["self"] (spPLet C)) (bL : Binds K fdL ["self"] []) (GB : FnOk P w K mg base CX0 (j + 4) fB fdB ["self"] (spPBk C)) (bB : Binds K fdB ["self"] [])
    (m1 : mg "isinstance" = none) (m2 : mg "list" = none) (m3 : mg "enumerate" = none) (m4 : mg "sum" = none) : FnOk P w K mg base CX0 (j + 5) f fd ["items", "prices"] (spBits C) := by
  refine F.ok scBits (fun vs H Q E h => ?_) (fun cdv A outer s H vs Q E hr h => ?_)
  · obtain ⟨pr, pp, us, its, L, B, rfl, _⟩ := h
    rfl
  · obtain ⟨pr, pp, us, its, L, B, rfl, hpr, hrow, hok, hil, hP, gl, gb, q⟩ := h
    have hz := PySem.sizeLine_eq
    refine ⟨_, pss_cons (ps_if (pt_not (pt_val (pe_callB call_isi (by rfl) m1 (by decide +kernel) (pa_cons (pv 1) (pa_cons (pe_glob (v := .ref C) (by rfl) T.gC rfl) pa_nil))))) (pss_one ps_never) pss_nil)
      (pss_cons (ps_if (pt_not (pt_val (pe_callB call_isi (by rfl) m1 (by decide +kernel) (pa_cons (pv 0) (pa_cons (pe_bltn (v := .ty "list") (by rfl) m2 (by decide +kernel) rfl) pa_nil))))) (pss_one ps_never) pss_nil)
      (pss_cons (ps_for PassesOwn.never rfl (pi_enum (by rfl) m3 (pa_cons (pv 0) pa_nil)) (pg_tup rfl (pgs_cons (pg_name (i := 2) scBits.nd rfl (.inl rfl)) (pgs_cons (pg_name (i := 3) scBits.nd rfl (.inl rfl)) pgs_nil)))
        (pss_one (ps_if (pt_not (pt_val (pe_call GI hr (by rfl) gI kI bI .nil pass0 (pa_cons (pv 3) pa_nil)))) (pss_one ps_never) pss_nil)))
      (pss_cons (ps_set (i := 4) scBits.nd rfl (.inr rfl) (pe_meth0 (pv 1) T.cl T.mL GL hr bL .nil pass0))
      (pss_cons (ps_set (i := 5) scBits.nd rfl (.inr rfl) (pe_meth0 (pv 1) T.cl T.mB GB hr bB .nil pass0))
      (pss_cons (ps_setLc (i := 6) (own := [("item", 3)]) (g := gName 3) (tt := tYes) rfl scBits.nd rfl rfl (sw_true rfl rfl rfl (by decide +kernel)) (pi_list (pv 0)) (blkOk_by (N := NBt) (sc := defScope sBits) (by decide +kernel))
          (fun _ _ _ _ _ => pg_name (i := 3) scBits.nd rfl (.inl rfl)) (fun _ _ _ _ _ => pts_nil) (fun _ _ _ _ _ => pe_call GM hr (by rfl) gM kM bM .nil pass0 (pa_cons (pv 3) (pa_cons (pv 4) (pa_cons (pv 5) pa_nil)))))
      (pss_one (ps_ret (pe_ifExp (pt_cmpR op_in_seq pe_non (pv 6) (by rfl)) pe_non (pe_callB (cr_sum rfl) (by rfl) m4 (by decide +kernel) (pa_cons (pv 6) pa_nil)))))))))), ?_⟩
    obtain ⟨dx, p1, p2, hi, hp1, hp2⟩ := id hP
    refine ⟨_, rfl, _, _, .ref C, .ref C, true, rfl, .own C, .base (T.ity hi), T.isC, _, rfl, iteF ?_⟩
    refine ⟨_, rfl, _, _, .type "list", _, _, rfl, .ty "list", .base (.lst hpr), kit_ty (a := "list") (r := true) (by decide +kernel), _, rfl, iteF ?_⟩
    refine ⟨_, rfl, pr, _, rfl, .inl (.inl hpr), ?_⟩
    have hlen := hrow.length
    refine for_it (walk_enum (K := K) (a := pr) (xs := us)) (fun i σ H' => ∃ (y2 y3 : Option V), σ = [some (.ref pr), some (.ref pp), y2, y3, none, none, none] ∧ Same H H') ⟨_, _, rfl, Same.refl H⟩ (fun i σ H' _ h => ?_) (fun i x σ H1 H2 hi' h y => ?_) (fun σ H' h => ?_)
    · obtain ⟨_, _, _, sm⟩ := h
      exact .inl (.inl (sm _ _ hpr))
    · obtain ⟨y2, y3, rfl, sm⟩ := h
      obtain ⟨T0, x0, u, rfl, nT0, rfl, e0, e1⟩ := y
      obtain rfl := Option.some.inj e0
      have hia : i < its.length := by omega
      obtain ⟨u', e1', ha⟩ := paired_get hrow (List.getElem?_eq_getElem hia)
      have euu : u' = u := Option.some.inj (e1'.symm.trans e1)
      subst euu
      have sT : Same H1 (upd H1 T0 (.tup [.int ((i : Nat) : Int), u'])) := same_upd nT0
      have hT : (upd H1 T0 (.tup [.int ((i : Nat) : Int), u'])) T0 = some (.tup [.int ((i : Nat) : Int), u']) := upd_same
      refine ⟨T0, _, rfl, .inl (.inl hT), rfl, _, _, rfl, _, _, rfl, rfl, ?_⟩
      refine ⟨_, rfl, u', toAny its[i], rfl, toAny_at ((ha.same sm).same sT), _, rfl, ?_⟩
      rw [toAny_ok (hok _ (List.getElem_mem hia))]
      exact iteF ⟨_, _, rfl, sm.trans sT⟩
    · obtain ⟨y2, y3, rfl, sm⟩ := h
      refine ⟨_, rfl, pp, dx, _, rfl, sm _ _ hi, prF_m p1 p2, ?_⟩
      refine ⟨pp, L, B, rfl, hP.same sm, fun H2 pL s2 nL hL => ?_⟩
      have sm2 := sm.trans s2
      refine ⟨_, rfl, pp, dx, _, rfl, sm2 _ _ hi, prF_n p1 p2, ?_⟩
      refine ⟨pp, L, B, rfl, hP.same sm2, fun H3 pB s3 nB hB => ?_⟩
      have sm3 := sm2.trans s3
      have hL3 := s3 _ _ hL
      have hpr3 := sm3 _ _ hpr
      refine ⟨_, rfl, pr, rfl, ⟨_, .inl (.inl hpr3)⟩, fun D nD => ?_⟩
      refine lc_list (K := K) (a := pr) (xs := us) (fun i H' => Same H3 H' ∧ H' D = some (.lst (((its.take i).map (costO L B)).map optV))) ⟨same_upd nD, upd_same⟩ (fun i H' _ h => .inl (.inl (h.1 _ _ hpr3))) (fun i x H1 hx h => ?_) (fun H4 h => ?_)
      · have hia : i < its.length := by
          have := (List.getElem?_eq_some_iff.mp hx).1
          omega
        obtain ⟨u', e1', ha⟩ := paired_get hrow (List.getElem?_eq_getElem hia)
        have euu : u' = x := Option.some.inj (e1'.symm.trans hx)
        subst euu
        refine ⟨rfl, yes ?_⟩
        refine ⟨_, rfl, _, rfl, _, rfl, u', its[i], pL, pB, L, B, rfl, (ha.same sm3).same h.1, hok _ (List.getElem_mem hia), h.1 _ _ hL3, h.1 _ _ hB, gl, gb, _, h.2, ?_, same_put h.1 nD, ?_⟩
        · rw [List.length_map, List.length_map, List.length_take]
          exact small1000 (by omega)
        · rw [upd_same, List.take_add_one, List.getElem?_eq_getElem hia, List.map_append, List.map_append]
          rfl
      · obtain ⟨s4, hD⟩ := h
        rw [← hlen, List.take_length] at hD
        have q' := q _ (sm3.trans s4)
        unfold bitsO at q'
        generalize its.map (costO L B) = cs at *
        refine ⟨_, rfl, D, _, rfl, .inl (.inl (.inl hD)), rfl, flat_opt cs, _, rfl, ?_⟩
        rw [inV_non]
        refine ite2 (fun e => ?_) (fun e => ?_)
        · rw [sumO_none (of_decide_eq_true e)] at q'
          exact q'
        · obtain ⟨ns, rfl⟩ := all_some (fun z => e (decide_eq_true z))
          rw [sumO_some] at q'
          rw [List.map_map] at hD
          exact ⟨_, rfl, D, ns, rfl, .inl (.inl hD), q'⟩
end
end K3

/-! ### iterators that end while an exception is handled -/
namespace HY
open PySem PySem.Spec PyProof.Rows HotX
section
variable {prog : Program} {w : World} {A : Around} {E : Value → Shared → Prop} {s : Shared} {x1 : Addr}
theorem hotUp {h h' : Heap} (x : HotAt A x1 h) (k : ∀ o, h.get? x1 = some o → h'.get? x1 = some o) : HotAt A x1 h' := by
  obtain ⟨hh, o, vs, e1, e2, e3⟩ := x
  exact ⟨hh, o, vs, k _ e1, e2, e3⟩
theorem hotLt {h : Heap} (x : HotAt A x1 h) : x1 < h.objs.size := by
  obtain ⟨_, o, _, e1, _⟩ := x
  exact Heap.lt_size e1
/-- a StopIteration is made and raised -/
theorem stop_hot {α : Type} {Q : α → Shared → Prop} (hot : HotAt A x1 s.heap)
    (hE : ∀ h' e, (∀ b o, s.heap.get? b = some o → h'.get? b = some o) → (∃ o, h'.get? e = some o ∧ o.cls = .type "StopIteration") → E (.ref e) { s with heap := h' }) :
    wpAny (model prog w) A (newExc (.type "StopIteration") [] >>= fun e => (raiseNew e : Sem α)) Q E s := by
  (refine wpAny_bind ?_); (simp only [newExc, newTuple]); (refine wpAny_bind (wpAny_newObj_type ?_ (by size_fits)))
  refine wpAny_bind (m := firstArgMember _ _) (wpAny_of_eq (a := Value.none) (by first | rfl | (simp only [firstArgMember]; rfl)) (wpAny_newObj_type ?_ (by size_fits)))
  refine raiseNew_hot (x1 := x1) (hotUp hot fun o e => Heap.get?_push_of_some _ (Heap.get?_push_of_some _ e)) (Nat.ne_of_lt (by rw [Heap.size_push]; exact Nat.lt_succ_of_lt (hotLt hot))) (Heap.get?_push_size _ rfl) rfl (by first | (simp; done) | (simp; omega)) (hE _ _ (fun b o e => ?_) ⟨_, Heap.get?_update_self _ (Heap.get?_push_size _ rfl) rfl, rfl⟩)
  rw [Heap.get?_update_other _ _ (Nat.ne_of_gt (Heap.lt_size (Heap.get?_push_of_some _ e)))]
  exact Heap.get?_push_of_some _ (Heap.get?_push_of_some _ e)
theorem tup_end_hot {it t : Addr} {i : Nat} {items : Array Value} {Q : Option Value → Shared → Prop} (hot : HotAt A x1 s.heap) (nx : x1 ≠ it) (hit : s.heap.IsTupleIter it t i) (ht : s.heap.IsTuple t items) (hx : items[i]? = none)
    (hQ : ∀ h', Heap.ExtBut it s.heap h' → Q none { s with heap := h' }) : wpAny (model prog w) A (pyNext (.ref it)) Q E s := by
  obtain ⟨o, ho, hc, hd⟩ := id hit
  obtain ⟨ot, hot', _, nt, hdt⟩ := ht
  unfold pyNext
  refine wpAny_bind (wpAny_attempt (wpAny_callSpecial?_slot (name := Str.ofString "__next__") hit.typeIs F.slot_tuple_iterator_next (wpAny_call_entry F.slot_tuple_iterator_next hit.typeIs F.entry_tuple_iterator_next ?_ (F.args_tuple_iterator_next_1 _))))
  show wpAny _ _ (field (.ref it) 0 >>= _) _ _ s; refine wpAny_bind (wpAny_field ho hd (x := .ref t) rfl ?_)
  show wpAny _ _ (if (Value.ref t == Value.none) = true then _ else _) _ _ s; rw [if_neg (show ¬ ((Value.ref t == Value.none) = true) from Bool.false_ne_true)]
  show wpAny _ _ (field (.ref it) 1 >>= _) _ _ s; refine wpAny_bind (wpAny_field ho hd (x := .int i 0) rfl ?_)
  show wpAny _ _ (seqItems? (.ref t) >>= _) _ _ s; refine wpAny_bind (wpAny_seqItems hot' hdt ?_)
  simp only [Int.toNat_natCast, hx]
  refine wpAny_bind (wpAny_rule (wpAny_bind (wpAny_setField ho hd (by simp) ?_)))
  refine stop_hot (x1 := x1) (A := A.in1) (hotUp hot fun u e => (Heap.get?_update_other _ _ (Ne.symm nx)).trans e) fun h' e k ⟨oe, he, hce⟩ => ?_
  refine wpAny_bind (wpAny_isInstance (T := "StopIteration") (b := true) ⟨oe, he, hce⟩ isSubtype_stop (wpAny_pure (hQ _ fun b u hb eb => k b u ((Heap.get?_update_other _ _ (Ne.symm hb)).trans eb))))
theorem list_end_hot {it l : Addr} {i : Nat} {items : Array Value} {Q : Value → Shared → Prop} (hot : HotAt A x1 s.heap) (nx : x1 ≠ it) (hit : s.heap.IsListIter it l i) (hl : s.heap.IsList l items) (hx : items[i]? = none)
    (hE : ∀ h' e, Heap.ExtBut it s.heap h' → (∃ o, h'.get? e = some o ∧ o.cls = .type "StopIteration") → E (.ref e) { s with heap := h' }) : wpAny (model prog w) A (Builtin.SmallTypes.nextOf (.ref it)) Q E s := by
  obtain ⟨o, ho, hc, hd⟩ := id hit
  obtain ⟨ot, hot', _, nt, hdt⟩ := hl
  unfold Builtin.SmallTypes.nextOf
  refine wpAny_bind (wpAny_callSpecial?_slot (name := Str.ofString "__next__") hit.typeIs slot_listiter_next (wpAny_call_entry slot_listiter_next hit.typeIs entry_listiter_next ?_ (args_listiter_next _)))
  show wpAny _ _ (field (.ref it) 0 >>= _) _ _ s; refine wpAny_bind (wpAny_field ho hd (x := .ref l) rfl ?_)
  show wpAny _ _ (if (Value.ref l == Value.none) = true then _ else _) _ _ s; rw [if_neg (show ¬ ((Value.ref l == Value.none) = true) from Bool.false_ne_true)]
  show wpAny _ _ (field (.ref it) 1 >>= _) _ _ s; refine wpAny_bind (wpAny_field ho hd (x := .int i 0) rfl ?_)
  show wpAny _ _ (seqItems? (.ref l) >>= _) _ _ s; refine wpAny_bind (wpAny_seqItems hot' hdt ?_)
  simp only [Int.toNat_natCast, hx]
  refine wpAny_bind (wpAny_rule (wpAny_bind (wpAny_setField ho hd (by simp) ?_)))
  exact stop_hot (x1 := x1) (A := A.in1) (hotUp hot fun u e => (Heap.get?_update_other _ _ (Ne.symm nx)).trans e) fun h' e k he => hE _ _ (fun b u hb eb => k b u ((Heap.get?_update_other _ _ (Ne.symm hb)).trans eb)) he
theorem enum_end_hot {e it l : Addr} {i : Nat} {items : Array Value} {old : Value} {Q : Option Value → Shared → Prop} (hot : HotAt A x1 s.heap) (nx : x1 ≠ it) (he : IsEnum s.heap e it i old) (hit : s.heap.IsListIter it l i) (hl : s.heap.IsList l items) (hx : items[i]? = none)
    (hQ : ∀ h', Heap.ExtBut it s.heap h' → Q none { s with heap := h' }) : wpAny (model prog w) A (pyNext (.ref e)) Q E s := by
  have hT : s.TypeIs (.ref e) "enumerate" := ⟨_, he, rfl⟩
  unfold pyNext
  refine wpAny_bind (wpAny_attempt (wpAny_callSpecial?_slot (name := Str.ofString "__next__") hT F.slot_enumerate_next (wpAny_call_entry F.slot_enumerate_next hT F.entry_enumerate_next ?_ (F.args_enumerate_next_1 _))))
  show wpAny _ _ (field (.ref e) 2 >>= _) _ _ _
  refine wpAny_bind (wpAny_field he rfl (x := .ref it) rfl (wpAny_bind (list_end_hot (x1 := x1) (A := A.in1) hot nx hit hl hx fun h' x eb ⟨o, ho, hc⟩ => ?_)))
  exact wpAny_bind (wpAny_isInstance (T := "StopIteration") (b := true) ⟨o, ho, hc⟩ isSubtype_stop (wpAny_pure (hQ _ eb)))
theorem items_hot {t : Addr} {items : Array Value} {Q : List Value → Shared → Prop} (hot : HotAt A x1 s.heap) (ht : IsTup s.heap t items)
    (hQ : ∀ h', Heap.ExtBut s.heap.objs.size s.heap h' → Q items.toList { s with heap := h' }) : wpAny (model prog w) A (unpackItems (.ref t) items.size none) Q E s := by
  have hlt : t ≠ s.heap.objs.size := by obtain ⟨o, ho, _⟩ := ht; exact Nat.ne_of_lt (Heap.lt_size ho)
  have hxl : x1 ≠ s.heap.objs.size := Nat.ne_of_lt (hotLt hot)
  unfold unpackItems
  refine wpAny_bind ?_
  unfold notIterableAtAll
  refine wpAny_bind (wpAny_specialOf ht.typeIs slot_tuple_iter.lookup (wpAny_pure ?_))
  simp only [Bool.false_eq_true, if_false]
  refine wpAny_bind (wpAny_holding (iter_tuple ht (wpAny_bind (wpAny_holding (draw_tuple hlt items.size 0 _ _ ⟨_, Heap.get?_push_size _ rfl, rfl, rfl⟩ (ht.push _) (by omega) fun h₁ hit₁ hs₁ => ?_)))))
  have hall : List.take items.size (List.drop 0 items.toList) = items.toList := by
    rw [List.drop_zero]; exact List.take_of_length_le (by simp)
  rw [hall, if_neg (by simp)]
  have ht₁ : IsTup h₁ t items := (ht.push _).extBut hs₁.extBut hlt
  have hot₁ : HotAt A x1 h₁ := hotUp hot fun o e => hs₁.extBut x1 o hxl (Heap.get?_push_of_some _ e)
  refine wpAny_bind (wpAny_holding (tup_end_hot (x1 := x1) (t := t) (i := 0 + items.size) hot₁ hxl hit₁ ht₁ (by simp) fun h₂ he₂ => ?_))
  simp only [Option.isSome_none, Bool.false_eq_true, if_false]
  exact wpAny_pure (hQ h₂ fun b o hb e => he₂ b o hb (hs₁.extBut b o hb (Heap.get?_push_of_some _ e)))
theorem tup_asg_hot {env : Env} {elts : List Expr} {k : Nat} {pos : Pos} {t : Addr} {items : Array Value} {Q : Unit → Shared → Prop} (hot : HotAt A x1 s.heap) (ht : IsTup s.heap t items)
    (hn : (assignEach elts env).length = items.size) (hstar : (assignEach elts env).findIdx? (·.1) = none)
    (h : ∀ h', Heap.ExtBut s.heap.objs.size s.heap h' → wpAny (model prog w) A (assignInOrder ((assignEach elts env).map (·.2)) items.toList) Q E { s with heap := h' }) : wpAny (model prog w) A (assign (.Tuple elts k pos) env (.ref t)) Q E s := by
  rw [assign_Tuple]
  refine wpAny_bind (wpAny_standAt ?_)
  unfold unpack
  rw [hn, hstar]
  exact wpAny_bind (wpAny_holding (items_hot (x1 := x1) hot ht h))
theorem walks_hot {I ax : Addr} {items : Array Value} (hne : ax ≠ I) (nx : x1 ≠ I) :
    Walks prog w A I [I, ax, x1] [I] items.size (fun i v => items[i]? = some v) (fun i h => h.IsTupleIter I ax i ∧ h.IsTuple ax items ∧ HotAt A x1 h) where
  sub := fun b hb => by
    rw [List.mem_singleton.mp hb]
    exact List.mem_cons_self ..
  frame := fun _ _ _ st hk => ⟨st.1.at fun o e => hk I (by simp) o e, st.2.1.at fun o e => hk ax (by simp) o e, hotUp st.2.2 fun o e => hk x1 (by simp) o e⟩
  item := fun i s Q E hi st hQ => by
    refine wpAny_pyNext_tuple_item st.1 st.2.1 (x := items[i]) (by simp [hi]) fun h' hi' hs' => hQ _ h' s.toks (by simp [hi]) ⟨hi', st.2.1.extBut hs'.extBut hne, hotUp st.2.2 fun o e => hs'.extBut x1 o nx e⟩ fun b o hb e => hs'.extBut b o (fun z => hb (by simp [z])) e
  done := fun s Q E st hQ => tup_end_hot (x1 := x1) st.2.2 nx st.1 st.2.1 (by simp) fun h' he' => hQ h' s.toks fun b o hb e => he' b o (fun z => hb (by simp [z])) e
  self := fun _ _ _ _ st hQ => wpAny_pyIter_tupleiter st.1 hQ
theorem min_hot {a b : Int} {t u : Tok} {Q : Value → Shared → Prop} (hot : HotAt A x1 s.heap)
    (h : ∀ h' tk, (∀ c o, s.heap.get? c = some o → h'.get? c = some o) → Q (if b < a then .int b u else .int a t) { s with heap := h', toks := tk }) : wpAny (model prog w) A (call (.builtin "min") [.int a t, .int b u]) Q E s := by
  have hT : (s.heap.push { cls := .type "tuple", data := .seq #[.int a t, .int b u] }).IsTuple s.heap.objs.size (intItems #[(a, t), (b, u)]) := ⟨_, Heap.get?_push_size _ rfl, rfl, 0, by simp [intItems]⟩
  have sz : (s.heap.push { cls := .type "tuple", data := .seq #[.int a t, .int b u] }).objs.size = s.heap.objs.size + 1 := Heap.size_push ..
  have hx := hotLt hot
  refine call_min_two (wpAny_pyIter_tuple hT ⟨_, [_, s.heap.objs.size, x1], [_], _, _, _, _, rfl, walks_hot (A := A.in1) (x1 := x1) (ax := s.heap.objs.size) (items := intItems #[(a, t), (b, u)]) (by rw [sz]; exact Nat.ne_of_lt (Nat.lt_succ_self _)) (by rw [sz]; exact Nat.ne_of_lt (Nat.lt_succ_of_lt hx)),
    ⟨⟨_, Heap.get?_push_size _ rfl, rfl, rfl⟩, hT.push _, hotUp hot fun o e => Heap.get?_push_of_some _ (Heap.get?_push_of_some _ e)⟩, fun c hc => ?_, by simp [intItems], CmpOf.ints_lt (numAt #[(a, t), (b, u)]) (fun _ _ => intItems_at), fun v h' tk hP hk => ?_⟩)
  · show c < ((s.heap.push _).push _).objs.size; rw [Heap.size_push, sz]
    rcases List.mem_cons.mp hc with z | hc
    · rw [z, sz]; exact Nat.lt_succ_self _
    rcases List.mem_cons.mp hc with z | hc
    · rw [z]; exact Nat.lt_succ_of_lt (Nat.lt_succ_self _)
    · rw [List.mem_singleton.mp hc]; exact Nat.lt_succ_of_lt (Nat.lt_succ_of_lt hx)
  · have old : ∀ c o, s.heap.get? c = some o → h'.get? c = some o := fun c o e => by
      refine hk c o (fun hm => ?_) (Heap.get?_push_of_some _ (Heap.get?_push_of_some _ e))
      have z := Heap.lt_size e
      rw [List.mem_singleton.mp hm, sz] at z
      exact Nat.lt_irrefl _ (Nat.lt_of_succ_lt z)
    have q := h h' tk old
    have hv : v = if b < a then Value.int b u else Value.int a t := by
      have hP' : (intItems #[(a, t), (b, u)])[argBest (fun i j => decide (numAt #[(a, t), (b, u)] i < numAt #[(a, t), (b, u)] j)) 1]? = some v := by
        rw [show 1 = (intItems #[(a, t), (b, u)]).size - 1 by simp [intItems]]; exact hP
      by_cases hba : b < a
      · rw [show argBest (fun i j => decide (numAt #[(a, t), (b, u)] i < numAt #[(a, t), (b, u)] j)) 1 = 1 by simp [argBest, numAt, hba]] at hP'
        simpa [intItems, hba] using hP'.symm
      · rw [show argBest (fun i j => decide (numAt #[(a, t), (b, u)] i < numAt #[(a, t), (b, u)] j)) 1 = 0 by simp [argBest, numAt, hba]] at hP'
        simpa [intItems, hba] using hP'.symm
    rw [hv]; exact q
end
end HY
namespace L2H
open PySem PySem.Spec PyProof.Rows L2 HotX HY
section
variable {X : Cx} {pos : Pos}
theorem pg_tupH {es : List Expr} {k : Nat} {t : TGs} {n : Nat} (hc : HotC X) (h : PGs X es t)
    (hn : (assignEach es X.env).length = n := by rfl) (hst : (assignEach es X.env).findIdx? (·.1) = none := by rfl) : PG X (.Tuple es k pos) (gTup X.K n t) := by
  refine ⟨fun pins s σ H v u Q I r hw => ?_⟩
  obtain ⟨a, xs, e1, hq, hl, hw⟩ := hw
  subst e1
  cases r
  obtain ⟨its, rv, ht, hz⟩ := I.tuple hq
  obtain ⟨x1, hot⟩ := hc.at I
  refine tup_asg_hot (x1 := x1) hot ht (by simp [hn, ← hl, rv.length]) hst fun h' hx => ?_
  exact h.run pins _ σ H xs _ Q (I.kept (t' := s.toks) fun b o e => hx b o (Nat.ne_of_lt (Heap.lt_size e)) e) (by simpa using rv) hw
theorem call_min2H (hc : HotC X) : CallR X (.builtin "min") (fun xs H Q => ∃ i j, xs = [.int i, .int j] ∧ Q (.int (if j < i then j else i)) H) := by
  intro pins s σ H xs us Q I r h
  obtain ⟨i, j, rfl, q⟩ := h
  obtain ⟨u, w', rfl, ⟨t, rfl⟩, ⟨t', rfl⟩⟩ := vals2 r
  obtain ⟨x1, hot⟩ := hc.at I
  refine min_hot (x1 := x1) hot fun h' tk k => ⟨_, H, I.kept k, ?_, q⟩
  by_cases hj : j < i
  · (rw [if_pos hj, if_pos hj]); exact ⟨_, rfl⟩
  · (rw [if_neg hj, if_neg hj]); exact ⟨_, rfl⟩
theorem turn_enumH {P : Program} {w : World} {K : PySem.W.Frag} {elts : List Expr} {kk : Nat} {tpos : Pos} (a e it : Addr) :
    TurnH P w K (.Tuple elts kk tpos) (Ite K a) [e, it] e (fun i h => (∃ old, IsEnum h e it ((i : Nat) : Int) old) ∧ h.IsListIter it a i ∧ e ≠ it) where
  mem := (turn_enum (P := P) (w := w) (K := K) (elts := elts) (kk := kk) (tpos := tpos) a e it).mem
  obj := (turn_enum (P := P) (w := w) (K := K) (elts := elts) (kk := kk) (tpos := tpos) a e it).obj
  keep := (turn_enum (P := P) (w := w) (K := K) (elts := elts) (kk := kk) (tpos := tpos) a e it).keep
  self := (turn_enum (P := P) (w := w) (K := K) (elts := elts) (kk := kk) (tpos := tpos) a e it).self
  item := by
    intro X hP hw hK hc i pins s σ H E I hf st hg
    subst hP hw hK
    obtain ⟨⟨old, he⟩, hit, hne⟩ := st
    obtain ⟨xs, x, hq, hx⟩ := hg
    obtain ⟨its, rv, p, hz⟩ := I.list hq
    obtain ⟨u, hu, ru⟩ := rv.get hx
    have hel : e < s.heap.objs.size := Heap.lt_size he
    have hil : it < s.heap.objs.size := by (obtain ⟨_, q, _⟩ := hit); (exact Heap.lt_size q)
    refine wpAny_pyNext_enum_item he hit p.isList (x := u) (by simpa using hu) hne fun h' ho hit' hT hsz hk => ⟨_, rfl, wpAny_letOwnedTupleGo_enum (s := { s with heap := h', toks := s.toks + 1 }) ho fun h2 he2 sb => ?_⟩
    have hT2 : h2.get? s.heap.objs.size = some { cls := .type "tuple", data := .seq #[.int i s.toks, u] } := (sb.2 _ (Nat.ne_of_gt hel)).trans hT
    have new : ObjOk X.prog X.w (upd H s.heap.objs.size (.tup [.int (i : Nat), x])) h2 s.heap.objs.size (.tup [.int (i : Nat), x]) := ⟨(show 2 ≤ sizeLine by decide), [.int i s.toks, u], .cons ⟨_, rfl⟩ (.cons ru .nil), ⟨_, hT2, rfl, _, rfl⟩⟩
    have I1 : Inv X pins σ (upd H s.heap.objs.size (.tup [.int (i : Nat), x])) { s with heap := h2, toks := s.toks + 1 } := I.turnedNew (ch := [e, it]) (fun b ob hb q => (sb.2 b (fun z => hb (by simp [z]))).trans (hk b ob (fun z => hb (by simp [z])) (fun z => hb (by simp [z])) q)) hf (Nat.le_refl _) new
    refine ⟨.ref s.heap.objs.size, _, I1, rfl, ⟨_, x, rfl, I.hok.fresh (Nat.le_refl _), rfl, fun ys hy => by rw [I.list_inj hy hq]; exact hx⟩, ⟨⟨u, (by rw [show ((i + 1 : Nat) : Int) = (i : Int) + 1 by omega]; exact he2)⟩, hit'.at fun o q => (sb.2 it (Ne.symm hne)).trans q, hne⟩, fun b hb => ?_⟩
    have hb' : b < s.heap.objs.size := by
      rcases (show b = e ∨ b = it by simpa using hb) with z | z
      · (rw [z]); (exact hel)
      · (rw [z]); (exact hil)
    exact (upd_ne (Nat.ne_of_lt hb')).trans (hf b hb).1
  done := by
    intro X hP hw hK hc i pins s σ H E I hf st hg
    subst hP hw hK
    obtain ⟨⟨old, he⟩, hit, hne⟩ := st
    obtain ⟨xs, hq, hx⟩ := hg
    obtain ⟨its, rv, p, hz⟩ := I.list hq
    obtain ⟨f0, f1, f2, f3, f4, f5⟩ := hf it (by simp)
    have hl := rv.length
    obtain ⟨q, ⟨hh, v1, e1, c1⟩, hp⟩ := id hc
    have hpin := I.pin q (List.mem_append_left _ hp)
    have nx : q.1 ≠ it := fun z => by
      obtain ⟨o, ho, hco, hdo⟩ := hit
      rw [z, ho] at hpin
      have e2 := Option.some.inj hpin.1
      rw [← e2, hdo] at e1
      have e3 : v1 = _ := (Data.fields.inj e1).symm
      rw [e3] at c1
      cases c1
    exact enum_end_hot (x1 := q.1) ⟨hh, q.2, v1, hpin.1, e1, c1⟩ nx he hit p.isList (by simp; omega) fun h' eb => ⟨rfl, I.turned (t' := s.toks) (fun b o hb q => eb b o hb q) f0 f1 f3 f4 f5⟩
theorem pi_enumH {e : Expr} {ta : TA} {p pos tpos : Pos} {elts : List Expr} {kk : Nat} (hg : Gl X "enumerate") (hm : X.mg "enumerate" = none) (ha : PA X [e] ta) (hs : starEach [e] X.env = [(false, eval e X.env)] := by rfl) :
    PIH X (.Tuple elts kk tpos) (.Call (.Name "enumerate" p) [e] [] pos) (iEnum X.K ta) := by
  refine ⟨fun pins s σ H R I h => ?_⟩
  refine Call_ (ld_blt I hg hm boot_enumerate (PyProof.Rows.callWith_type1 (thn (ha.run pos pins s σ H _ I h) fun us s1 ⟨vs, H1, I1, r1, a, xs, ex, hq, q⟩ => ?_) hs rfl))
  subst ex
  cases r1 with
  | cons r rr =>
    cases rr
    cases r
    obtain ⟨its, rv, p', hz⟩ := I1.list hq
    refine call_enumerate_list p'.isList fun h' he hit hsz hk => wpAny_pyIter_enum he ⟨s1.heap.objs.size + 1, [s1.heap.objs.size + 1, s1.heap.objs.size], _, _, H1, rfl, I1.kept (t' := s1.toks) hk, turn_enumH a (s1.heap.objs.size + 1) s1.heap.objs.size, ⟨⟨.none, he⟩, hit, Nat.succ_ne_self _⟩, fun b hb => ?_, q⟩
    have hle : s1.heap.objs.size ≤ b := by
      rcases (show b = s1.heap.objs.size + 1 ∨ b = s1.heap.objs.size by simpa using hb) with z | z
      · (rw [z]); (exact Nat.le_add_right _ _)
      · (rw [z]); (exact Nat.le_refl _)
    exact I1.fpOk hle (I1.hok.fresh hle)
end
end L2H

namespace K3
open PySem PySem.Spec PyProof.Rows L2
/-! ### _law_first_bad within an except suite -/
section
variable {P : Program} {w : World} {K : PySem.W.Frag} {mg : Str → Option Value} {base : Heap}
theorem ok_firstH {f : Addr} {fd : FuncData} {j : Nat} (F : Fun K "_law_first_bad" "_law_first_bad" sFirst f fd)
    (m1 : mg "len" = none) (m2 : mg "int" = none) (m3 : mg "enumerate" = none) (m4 : mg "isinstance" = none) (m5 : mg "bool" = none) (m6 : mg "min" = none) (m7 : mg "tuple" = none) : L2H.FnH P w K mg base CX0 (j + 1) f fd ["_law_row_here", "_law_lead"] spFirst := by
  refine okH F scFirst (fun vs H Q E h => ?_) (fun cdv A outer s H vs Q E pn hot hr h => ?_)
  · obtain ⟨pr, pl, us, any, lead, rfl, _⟩ := h
    rfl
  · obtain ⟨pr, pl, us, any, lead, rfl, hpr, hany, hpl, hl, q⟩ := h
    have hz := PySem.sizeLine_eq
    have hcX : L2H.HotC (L2H.cxH CX0 P w K mg base NFb "_law_first_bad" (defScope sFirst) f cdv A outer s H E pn) := ⟨pn, hot, List.mem_singleton_self pn⟩
    refine ⟨_, pss_cons (ps_set (i := 2) scFirst.nd rfl (.inl rfl) (pe_callB call_len_seq (by rfl) m1 PySem.boot_len (pa_cons (pv 1) pa_nil)))
      (pss_cons (L2H.ps_forH (passes_of rfl) hcX (L2H.pi_enumH (by rfl) m3 (pa_cons (pv 0) pa_nil)) (L2H.pg_tupH hcX (pgs_cons (pg_name (i := 3) scFirst.nd rfl (.inl rfl)) (pgs_cons (pg_name (i := 4) scFirst.nd rfl (.inl rfl)) pgs_nil)))
        (pss_one (ps_if (PW.pt (pw_and (pt_val (pe_callB call_isi (by rfl) m4 (by decide +kernel) (pa_cons (pv 4) (pa_cons (pe_bltn (v := .ty "int") (by rfl) m2 (by decide +kernel) rfl) pa_nil))))
            (pw_and1 (pt_not (pt_val (pe_callB call_isi (by rfl) m4 (by decide +kernel) (pa_cons (pv 4) (pa_cons (pe_bltn (v := .ty "bool") (by rfl) m5 (by decide +kernel) rfl) pa_nil))))))))
          (pss_cons (ps_if (pt_not (pt_chain op_le op_le pe_int (pv 4) pe_int)) (pss_one (ps_ret (pv 3))) pss_nil)
            (pss_one (ps_set (i := 2) scFirst.nd rfl (.inl rfl) (pe_op op_add (pv 2) pe_int))))
          (pss_cons (ps_if (PW.pt (pw_or (pt_not (pt_val (pe_callB call_isi (by rfl) m4 (by decide +kernel) (pa_cons (pv 4) (pa_cons (pe_bltn (v := .ty "tuple") (by rfl) m7 (by decide +kernel) rfl) pa_nil)))))
              (pw_or (pt_cmpR op_ne (pe_callB call_len_seq (by rfl) m1 PySem.boot_len (pa_cons (pv 4) pa_nil)) pe_int (nomark _))
              (pw_or1 (pt_not (pt_chain op_le op_le pe_int (pe_ix ix_tup (pv 4) pe_int (fun _ _ => rfl)) pe_int))))))
            (pss_one (ps_ret (pv 3))) pss_nil)
          (pss_cons (ps_if (pt_not (pt_chain op_le op_le pe_int (pe_ix ix_tup (pv 4) pe_int (fun _ _ => rfl)) (pe_callB (L2H.call_min2H hcX) (by rfl) m6 (by decide +kernel) (pa_cons pe_int (pa_cons (pv 2) pa_nil))))) (pss_one (ps_ret (pv 3))) pss_nil)
            (pss_one (ps_set (i := 2) scFirst.nd rfl (.inl rfl) (pe_op op_add (pv 2) (pe_ix ix_tup (pv 4) pe_int (fun _ _ => rfl))))))))))
      (pss_one (ps_ret pe_non))), ?_⟩
    refine ⟨_, rfl, pl, _, rfl, .inl (.inl (.inl hpl)), ?_⟩
    refine ⟨_, rfl, pr, _, rfl, .inl (.inl hpr), ?_⟩
    have hlen := hany.length
    refine for_it (walk_enum (K := K) (a := pr) (xs := us)) (fun i σ H' => ∃ (y3 y4 : Option V) (size : Int), σ = [some (.ref pr), some (.ref pl), some (.int size), y3, y4] ∧ Same H H' ∧ firstBad (lead.length : Int) 0 any = firstBad size i (any.drop i)) ⟨_, _, _, rfl, Same.refl H, rfl⟩ (fun i σ H' _ h => ?_) (fun i x σ H1 H2 hi h y => ?_) (fun σ H' h => ?_)
    · obtain ⟨y3, y4, size, rfl, sm, e⟩ := h
      exact .inl (.inl (sm _ _ hpr))
    · obtain ⟨y3, y4, size, rfl, sm, efb⟩ := h
      obtain ⟨T0, x0, u, rfl, nT0, rfl, e0, e1⟩ := y
      obtain rfl := Option.some.inj e0
      have hia : i < any.length := by omega
      obtain ⟨u', e1', ha⟩ := paired_get hany (List.getElem?_eq_getElem hia)
      have euu : u' = u := Option.some.inj (e1'.symm.trans e1)
      subst euu
      have sT : Same H1 (upd H1 T0 (.tup [.int ((i : Nat) : Int), u'])) := same_upd nT0
      have ha2 := (ha.same sm).same sT
      have hT : (upd H1 T0 (.tup [.int ((i : Nat) : Int), u'])) T0 = some (.tup [.int ((i : Nat) : Int), u']) := upd_same
      have sm2 := sm.trans sT
      rw [List.drop_eq_getElem_cons hia] at efb
      generalize any[i] = x at *
      generalize upd H1 T0 (.tup [.int ((i : Nat) : Int), u']) = H3 at *
      refine ⟨T0, _, rfl, .inl (.inl hT), rfl, ?_⟩
      refine ⟨_, _, rfl, _, _, rfl, rfl, ?_⟩
      cases x with
      | num n =>
        obtain rfl : u' = .int n := ha
        refine ⟨_, rfl, _, _, _, _, _, rfl, .ty "int", .base (.int _), kit_ty (a := "int") (r := true) (by decide +kernel), _, rfl, iteT ?_⟩
        refine ⟨_, rfl, _, _, _, _, _, rfl, .ty "bool", .base (.int _), kit_ty (a := "int") (r := false) (by decide +kernel), _, rfl, iteT ?_⟩
        refine ⟨_, rfl, _, _, rfl, rfl, _, rfl, ?_⟩
        have bad : ¬ (0 ≤ n ∧ n ≤ 255) → Q (.int (i : Int)) H3 := fun c => by
          have q' := q H3 sm2
          rw [efb, firstBad_no (by show (if 0 ≤ n ∧ n ≤ 255 then some (size + 1) else none) = none; rw [if_neg c])] at q'
          exact q'
        refine ite2 (fun c1 => ⟨_, _, rfl, rfl, _, rfl, ite2 (fun c2 => ?_) (fun c2 => ?_)⟩) (fun c1 => ⟨_, rfl, ite2 (fun c2 => ?_) (fun c2 => ?_)⟩)
        · exact ⟨_, rfl, bad (by simp at c2; omega)⟩
        · have c1' := of_decide_eq_true c1
          simp at c2
          exact ⟨_, rfl, _, _, rfl, rfl, _, _, size + 1, rfl, sm2, by rw [efb, firstBad_yes (by show (if 0 ≤ n ∧ n ≤ 255 then some (size + 1) else none) = _; rw [if_pos ⟨c1', by omega⟩])]⟩
        · exact ⟨_, rfl, bad (by simp at c1; omega)⟩
        · simp at c1 c2
      | lst l =>
        obtain ⟨t, rfl, ht⟩ := ha2
        refine ⟨_, rfl, _, _, .type "list", _, false, rfl, .ty "int", .base (.lst ht), kit_ty (a := "list") (r := false) (by decide +kernel), _, rfl, iteF ?_⟩
        refine ⟨_, rfl, _, _, .type "list", _, false, rfl, .ty "tuple", .base (.lst ht), kit_ty (a := "list") (r := false) (by decide +kernel), _, rfl, iteT ?_⟩
        have q' := q H3 sm2
        rw [efb, firstBad_no rfl] at q'
        exact ⟨_, rfl, q'⟩
      | tup l =>
        obtain ⟨t, rfl, ht⟩ := ha2
        refine ⟨_, rfl, _, _, .type "tuple", _, false, rfl, .ty "int", .base (.tup ht), kit_ty (a := "tuple") (r := false) (by decide +kernel), _, rfl, iteF ?_⟩
        refine ⟨_, rfl, _, _, .type "tuple", _, true, rfl, .ty "tuple", .base (.tup ht), kit_ty (a := "tuple") (r := true) (by decide +kernel), _, rfl, iteF ?_⟩
        refine ⟨_, rfl, t, _, rfl, .inr (.inl (.inl ht)), rfl, _, rfl, ite2 (fun c1 => ?_) (fun c1 => ?_)⟩
        · have hne : l.length ≠ 2 := by
            intro z
            rw [List.length_map, z] at c1
            cases c1
          have q' := q H3 sm2
          rw [efb, firstBad_no (stepA_ne hne)] at q'
          exact ⟨_, rfl, q'⟩
        · have h2 : l.length = 2 := by
            simp at c1
            omega
          obtain ⟨m, b, rfl⟩ : ∃ m b, l = [m, b] := by
            match l, h2 with
            | [m, b], _ => exact ⟨m, b, rfl⟩
          have bad : ¬ (3 ≤ m ∧ m ≤ 18 ∧ 1 ≤ b ∧ b ≤ 1024 ∧ b ≤ size) → Q (.int (i : Int)) H3 := fun c => by
            have q' := q H3 sm2
            rw [efb, firstBad_no (by show (if 3 ≤ m ∧ m ≤ 18 ∧ 1 ≤ b ∧ b ≤ 1024 ∧ b ≤ size then some (size + m) else none) = none; rw [if_neg c])] at q'
            exact q'
          have good : 3 ≤ m → m ≤ 18 → 1 ≤ b → b ≤ 1024 → b ≤ size → firstBad (lead.length : Int) 0 any = firstBad (size + m) (i + 1) (any.drop (i + 1)) := fun g1 g2 g3 g4 g5 => by
            rw [efb, firstBad_yes (by show (if 3 ≤ m ∧ m ≤ 18 ∧ 1 ≤ b ∧ b ≤ 1024 ∧ b ≤ size then some (size + m) else none) = _; rw [if_pos ⟨g1, g2, g3, g4, g5⟩])]
          refine ⟨_, rfl, t, _, 0, _, rfl, rfl, .inl (.inl ht), rfl, _, _, rfl, rfl, _, rfl, ?_⟩
          refine ite2 (fun c3 => ⟨_, _, rfl, rfl, _, rfl, ite2 (fun c4 => ?_) (fun c4 => ?_)⟩) (fun c3 => ⟨_, rfl, ite2 (fun c4 => ?_) (fun c4 => ?_)⟩)
          · exact ⟨_, rfl, bad (by simp at c4; omega)⟩
          · have c3' := of_decide_eq_true c3
            simp at c4
            refine ⟨_, rfl, t, _, 1, _, rfl, rfl, .inl (.inl ht), rfl, _, _, rfl, rfl, _, rfl, ?_⟩
            refine ite2 (fun c5 => ⟨_, rfl, _, _, rfl, _, _, rfl, rfl, _, rfl, ite2 (fun c6 => ?_) (fun c6 => ?_)⟩) (fun c5 => ⟨_, rfl, ite2 (fun c6 => ?_) (fun c6 => ?_)⟩)
            · refine ⟨_, rfl, bad fun z => ?_⟩
              have e7 : (if size < 1024 then size else 1024) < b := by simpa using c6
              split at e7 <;> omega
            · have e7 : b ≤ (if size < 1024 then size else 1024) := by simpa using c6
              have c5' := of_decide_eq_true c5
              have e8 : b ≤ 1024 ∧ b ≤ size := by split at e7 <;> omega
              exact ⟨_, rfl, _, rfl, t, _, 0, _, rfl, rfl, .inl (.inl ht), rfl, _, _, rfl, rfl, _, _, size + m, rfl, sm2, good c3' (by omega) c5' e8.1 e8.2⟩
            · exact ⟨_, rfl, bad (by simp at c5; omega)⟩
            · simp at c5 c6
          · exact ⟨_, rfl, bad (by simp at c3; omega)⟩
          · simp at c3 c4
    · obtain ⟨y3, y4, size, rfl, sm, e⟩ := h
      have q' := q H' sm
      rw [e, ← hlen, List.drop_length] at q'
      exact q'
end
end K3

namespace L2
open PySem PySem.Spec PyProof.Rows
/-! ### f(e, .., k = v, ..) in a try -/
theorem takes0N {X : Cx} : L2N.Takes X (fun _ _ _ _ => False) := fun _ _ z => by
  obtain ⟨_, _, _, _, _, _, _, _, _, _, _, _, _, _, _, _, q⟩ := z
  exact q.elim
def tCallNS (n m : Nat) (sp : Sp) (gV : List V → List V → List V) (E : St → XK) (t tk : TA) : TE := fun σ H Q => t σ H fun vs H1 => tk σ H1 fun zs H2 => vs.length = n ∧ zs.length = m ∧ sp (gV vs zs) H2 Q (E σ)
theorem pe_callNS {X : Cx} {CX : CXT} {k n : Nat} {f : Addr} {fd : FuncData} {ps ks : List Str} {sp : Sp} {E : St → XK} {x : Str} {p pos : Pos} {e : Expr} {es : List Expr} {kws : List Keyword} {t tk : TA} {g : List Value → List Value → List Value} {gV : List V → List V → List V}
    (F : FnOk X.prog X.w X.K X.mg X.base CX k f fd ps sp) (hr : Room k X.A) (hg : Gl X x) (hm : X.mg x = some (.ref f)) (hk : PySem.W.keepIn X.K (.ref f) = true) (hb : KBn X.K fd ps n ks g gV) (hx : ∀ σ, PassesAt CX X σ (E σ)) (ha : PA X (e :: es) t) (hkw : PK X kws tk)
    (hall : (backToKw pos (keywordEach kws X.env)).all (·.1.isSome) = true := by rfl) (hks : (backToKw pos (keywordEach kws X.env)).filterMap (·.1) = ks := by rfl) (hdb : (x == ("__debug__" : Str)) = false := by decide) (he : starEach (e :: es) X.env = (false, eval e X.env) :: starEach es X.env := by rfl)
    (hpl : ((backTo pos (starEach (e :: es) X.env)).any (·.1) || (backToKw pos (keywordEach kws X.env)).any (·.1.isNone)) = false := by rfl) : PE X (.Call (.Name x p) (e :: es) kws pos) (tCallNS n ks.length sp gV E t tk) := by
  refine ⟨fun pins s σ H Q I h => wpAny_Call_Name_kw (ld_glob I hg hm ?_ hdb)⟩
  refine PySem.W.callWith_KW (h₀ := X.base) I.ok.mod.kin hk hall (thn (ha.run pos pins s σ H _ I h) fun us sA ⟨vs, HA, IA, r, q⟩ => thn (hkw.run pos pins sA σ HA _ IA q) fun ws sB ⟨zs, HB, IB, rz, l1, l2, q2⟩ => ⟨IB.kIn, ?_⟩) hpl he
  rw [hks]
  refine wpAny_call (codeAny_mono (F.run X.A X.stack sB HB ⟨us, ks.zip ws⟩ (g us ws) (gV vs zs) Q (E σ) hr IB.env0 (hb.to sB us ws IB.kIn (r.length.symm.trans l1) (rz.length.symm.trans l2)) (hb.rel r rz) q2) fun rr sC hq => ?_)
  cases rr with
  | error er => exact hx σ pins HB sB er sC IB hq
  | ok fl => cases fl with
    | ret u => exact IB.after hq
    | next => exact hq.elim
    | brk => exact hq.elim
    | cont => exact hq.elim
end L2
namespace K3
open PySem PySem.Spec PyProof.Rows L2
/-! ### _law_judged -/
theorem bys_map (ks : List Nat) : bys ks = ks.map fun (k : Nat) => V.int (k : Int) := by
  unfold bys
  rw [List.map_map]
  rfl
theorem scJudged : FnScope ["_law_row_here", "_law_lead", "error"] ["_law_row_here", "_law_lead"] (defScope sJudged) := ⟨rfl, rfl, rfl, by decide +kernel, rfl, by decide +kernel, by decide +kernel⟩
section
variable {P : Program} {w : World} {K : PySem.W.Frag} {mg : Str → Option Value} {base : Heap} {CI fE : Addr}
abbrev spTldS (C : Addr) : Sp := fun vs H Q E => spBehind C vs H Q E ∧ ∃ (pr : Addr) (lead : List Nat), vs = [.ref pr, .byt (byB lead)] ∧ lead.length ≤ 4096
def t_jSuite (C : Addr) : Addr → Value → Option Addr → TS := fun a cls d => tRet (tAndV (tOp rEq (tSxF C "at" a cls d (tVar 2)) (tCallS spFirst (fun _ => E0) (tCons (tVar 0) (tCons (tVar 1) tNil)))) (tNotN (tSxF C "at" a cls d (tVar 2))))
def spJudged : Sp := fun vs H Q _ => ∃ (pr pl : Addr) (us : List V) (any : List Any) (lead : List Nat), vs = [.ref pr, .ref pl] ∧ H pr = some (.lst us) ∧ Paired (AnyAt H) any us ∧ H pl = some (.lst (bys lead)) ∧ (∀ k ∈ lead, k < 256) ∧ lead.length ≤ 4096 ∧ any.length ≤ 1000 ∧
  ∀ H', Same H H' → Q (.bl true) H'
theorem ok_judged (T : BadIt P K mg CI fE) (eT : PySem.W.exmOne K (.ref CI) (.ref CI) = some true) {f fT fO fX fF : Addr} {fd fdT fdO fdX fdF : FuncData} {j : Nat} (F : Fun K "_law_judged" "_law_judged" sJudged f fd) (FT : Fun K "told" "told" sTld fT fdT)
    (GT : FnOk P w K mg base (L2N.CX P w) (j + 5) fT fdT ["items", "ahead"] (spTldS CI)) (gT : mg "told" = some (.ref fT))
    (GO : FnOk P w K mg base CX0 (j + 5) fO fdO ["text"] spOfHex) (bO : Binds K fdO ["text"] []) (kO : PySem.W.keepIn K (.ref fO) = true) (gO : mg "of_hex" = some (.ref fO))
    (GX : FnOk P w K mg base CX0 (j + 5) fX fdX ["_law_numbers_here"] spHex) (bX : Binds K fdX ["_law_numbers_here"] []) (kX : PySem.W.keepIn K (.ref fX) = true) (gX : mg "_law_hex" = some (.ref fX))
    (GF : FnOk P w K mg base CX0 (j + 5) fF fdF ["_law_row_here", "_law_lead"] spFirst) (GFH : L2H.FnH P w K mg base CX0 (j + 5) fF fdF ["_law_row_here", "_law_lead"] spFirst) (bF : Binds K fdF ["_law_row_here", "_law_lead"] []) (kF : PySem.W.keepIn K (.ref fF) = true) (gF : mg "_law_first_bad" = some (.ref fF)) :
    FnOk P w K mg base CX0 (j + 6) f fd ["_law_row_here", "_law_lead"] spJudged := by
  refine F.ok scJudged (fun vs H Q E h => ?_) (fun cdv A outer s H vs Q E hr h => ?_)
  · obtain ⟨pr, pl, us, any, lead, rfl, _⟩ := h
    rfl
  · obtain ⟨pr, pl, us, any, lead, rfl, hpr, hany, hpl, hk, hl, hl1, q⟩ := h
    refine ⟨_, pss_cons (L2N.ps_try_as (i := 2) (tb := fun W => tDrop (tCallNS 1 1 (spTldS CI) (fun vs zs => vs ++ zs) (WE W) (tCons (tVar 0) tNil) (tCons (tCall spOfHex [] E0 (tCons (tCall spHex [] E0 (tCons (tVar 1) tNil)) tNil)) tNil))) (ts := t_jSuite CI) (Wout := fun _ _ _ _ => False)
        rfl rfl scJudged.nd rfl rfl ⟨rfl, by decide, Or.inl T.gC⟩ takes0N
        (fun W pn xe tk _ => pss_one (ps_expr (by exact (pe_callNS GT hr (by rfl) gT FT.kp (kb_tld FT) (fun σ => L2N.passAt tk σ) (by exact (pa_cons (pv 0) pa_nil))
          (by exact (pk_cons (pe_call GO hr (by rfl) gO kO bO .nil pass0 (pa_cons (pe_call GX hr (by rfl) gX kX bX .nil pass0 (pa_cons (pv 1) pa_nil)) pa_nil)) pk_nil))))))
        (fun a oe cls d pn hz hf => pss_one (ps_ret (by exact (pe_and (pe_cmpR op_eq (pe_sxF T hz.zc hf (pv 2)) (L2H.pe_callH GFH ⟨hr.dp, hr.un⟩ ⟨(a, oe), ⟨rfl, by obtain ⟨fv, e⟩ := hf; exact ⟨fv, e, hz.2.2 fv e⟩⟩, List.mem_cons_self ..⟩ (by rfl) gF kF bF (fun σ _ _ _ _ _ _ z => z.elim) (pa_cons (pv 0) (pa_cons (pv 1) pa_nil))) (nomark _))
          (pe_one (pe_cmp (pc_notN (pe_sxF T hz.zc hf (pv 2))) rfl)))))))
      (pss_one (ps_ret (pe_cmp (pc_isN (pe_call GF hr (by rfl) gF kF bF .nil pass0 (pa_cons (pv 0) (pa_cons (pv 1) pa_nil)))) rfl))), ?_⟩
    refine ⟨_, rfl, _, rfl, pl, lead, rfl, by rw [hpl, bys_map], hk, by omega, fun H1 s1 => ?_⟩
    refine ⟨lead, rfl, hk, by omega, fun H2 s2 => ⟨rfl, rfl, ?_⟩⟩
    have s12 := s1.trans s2
    refine ⟨⟨pr, us, any, lead, rfl, s12 _ _ hpr, hany.mono fun x v h => h.same s12, hk, by omega, hl1, fun n en H3 d s3 hd => ?_, fun en H3 due s3 _ _ _ => ?_⟩, pr, lead, rfl, hl⟩
    · have s13 := s12.trans s3
      refine ⟨true, eT, fun _ a ha => ?_, fun z => Bool.noConfusion z⟩
      refine ⟨_, rfl, rfl, rfl, d, _, rfl, hd, _, rfl, _, rfl, pr, pl, us, any, bys lead, rfl, s13 _ _ hpr, hany.mono fun x v h => h.same s13, s13 _ _ hpl, hl1, fun H4 s4 => ?_⟩
      rw [bys_len, en]
      refine ⟨rfl, _, rfl, iteC (decide_eq_true rfl) ?_⟩
      refine ⟨_, rfl, rfl, rfl, d, _, rfl, s4 _ _ hd, ?_⟩
      exact q H4 (s13.trans s4)
    · have s13 := s12.trans s3
      refine ⟨_, rfl, _, rfl, pr, pl, us, any, bys lead, rfl, s13 _ _ hpr, hany.mono fun x v h => h.same s13, s13 _ _ hpl, hl1, fun H4 s4 => ?_⟩
      rw [bys_len, en]
      exact q H4 (s13.trans s4)
end
end K3

namespace K3
open PySem PySem.Spec PyProof.Rows L2
/-! ### _law_all_right -/
abbrev NAl : List Str := ["_law_script", "_law_shared", "_law_letters", "_law_backs", "_law_own", "_law_mine", "_law_k", "_law_lead", "_law_row_here", "_law_due", "_law_found", "_law_costs", "_law_turn", "_law_digits", "_law_spot", "_law_size", "_law_bad", "_law_other", "_law_item"]
theorem scAll : FnScope NAl ["_law_script"] (defScope sAll) := ⟨rfl, rfl, rfl, by decide +kernel, rfl, by decide +kernel, by decide +kernel⟩
def ownL : List Int := ((((List.replicate 273 (0 : Int)).set 97 2).set 98 2).set 256 2).set 257 2
def ownB : List Int := [0, 1] ++ List.replicate 9 0
theorem own_good : PrL 273 ownL ∧ PrL 11 ownB := ⟨⟨by decide +kernel, by decide +kernel, by decide +kernel⟩, ⟨by decide +kernel, by decide +kernel, by decide +kernel⟩⟩
theorem told_some {it : Itm} (h : ItmOk it) : ∃ c, costO toldL toldB it = some c := by
  have hL : ∀ i : Fin 273, 0 < toldL.getD i.1 0 := by decide +kernel
  have hB : ∀ i : Fin 11, 0 < toldB.getD i.1 0 := by decide +kernel
  cases it with
  | b k =>
    have h' : k < 256 := h
    exact ⟨toldL.getD k 0, if_pos (hL ⟨k, by omega⟩)⟩
  | c m r =>
    obtain ⟨h1, h2, h3, h4⟩ := h
    have hlog : Nat.log2 r < 11 := (Nat.log2_lt (by omega)).mpr (by omega)
    have a1 : 0 < toldL.getD (254 + m) 0 := hL ⟨254 + m, by omega⟩
    have a2 : 0 < toldB.getD (Nat.log2 r) 0 := hB ⟨Nat.log2 r, hlog⟩
    exact ⟨_, if_neg (fun z => by rcases z with z | z <;> omega)⟩
theorem mkB {σ : L2.St} {H : Hp} {Q : VK} (h : ∀ H' p, Same H H' → H p = none → H' p = some (.lst (ownB.map V.int)) → Q (.ref p) H') :
    tOp rCat (tLst (tCons (tC (.int 0)) (tCons (tC (.int 1)) tNil))) (tOp rRep (tLst (tCons (tC (.int 0)) tNil)) (tC (V.int 9))) σ H Q := by
  have hz := PySem.sizeLine_eq
  refine ⟨(by show 2 ≤ sizeLine; rw [hz]; decide), fun a na => ⟨(by show 1 ≤ sizeLine; rw [hz]; decide), fun a2 na2 => ⟨_, _, _, rfl, rfl, upd_same, by omega, by omega, by rw [hz]; decide, fun b nb => ?_⟩⟩⟩
  have s1 : Same H (upd H a (.lst [.int 0, .int 1])) := same_upd na
  have e1 : (upd H a (.lst [.int 0, .int 1])) a = some (.lst [.int 0, .int 1]) := upd_same
  generalize upd H a (.lst [.int 0, .int 1]) = H1 at *
  have s2 : Same H1 (upd H1 a2 (.lst [.int 0])) := same_upd na2
  generalize upd H1 a2 (.lst [.int 0]) = H2 at *
  have s3 := same_upd (o := .lst (List.replicate (Int.toNat 9) [V.int 0]).flatten) nb
  refine ⟨a, b, _, _, rfl, rfl, s3 _ _ (s2 _ _ e1), upd_same, by rw [hz]; decide, fun p np => ?_⟩
  have s4 := same_upd (o := .lst ([V.int 0, V.int 1] ++ (List.replicate (Int.toNat 9) [V.int 0]).flatten)) np
  exact h _ p (((s1.trans s2).trans s3).trans s4) (none_back ((s1.trans s2).trans s3) np) upd_same
theorem asIt_toAny (it : Itm) : asIt (toAny it) = it := by
  cases it with
  | b k => rfl
  | c m r => rfl
theorem map_asIt (its : List Itm) : (its.map toAny).map asIt = its := by
  rw [List.map_map]
  conv => rhs; rw [← List.map_id its]
  exact List.map_congr_left fun it _ => asIt_toAny it
theorem good_none : ∀ {its : List Itm} {every e : List Nat} {i : Nat}, tells every its = some e → (∀ it ∈ its, ItmOk it) → firstBad (every.length : Int) i (its.map toAny) = none
  | [], _, _, _, _, _ => rfl
  | .b k :: r, every, e, i, h, ok => by
    have h' : tells (every ++ [k]) r = some e := h
    have k0 : k < 256 := ok (.b k) (List.mem_cons_self ..)
    have ih := good_none (i := i + 1) h' fun it m => ok it (List.mem_cons_of_mem _ m)
    rw [List.length_append, List.length_singleton] at ih
    show firstBad (every.length : Int) i (.num (k : Int) :: r.map toAny) = none
    rw [firstBad_yes (s := ((every.length + 1 : Nat) : Int)) (by show (if 0 ≤ (k : Int) ∧ (k : Int) ≤ 255 then some ((every.length : Int) + 1) else none) = _; rw [if_pos (by omega)]; push_cast; rfl)]
    exact ih
  | .c m b :: r, every, e, i, h, ok => by
    have h0 : (if b ≤ every.length then tells (copyN every b m) r else none) = some e := h
    obtain ⟨k1, k2, k3, k4⟩ := ok (.c m b) (List.mem_cons_self ..)
    by_cases hb : b ≤ every.length
    · rw [if_pos hb] at h0
      have ih := good_none (i := i + 1) h0 fun it m => ok it (List.mem_cons_of_mem _ m)
      rw [copyN_len] at ih
      show firstBad (every.length : Int) i (.tup [(m : Int), (b : Int)] :: r.map toAny) = none
      rw [firstBad_yes (s := ((every.length + m : Nat) : Int)) (by show (if 3 ≤ (m : Int) ∧ (m : Int) ≤ 18 ∧ 1 ≤ (b : Int) ∧ (b : Int) ≤ 1024 ∧ (b : Int) ≤ (every.length : Int) then some ((every.length : Int) + (m : Int)) else none) = _; rw [if_pos (by omega)]; push_cast; rfl)]
      exact ih
    · rw [if_neg hb] at h0
      cases h0
theorem row_any {H : Hp} {its : List Itm} {us : List V} (h : RowAt H its us) : Paired (AnyAt H) (its.map toAny) us := by
  induction h with
  | nil => exact .nil
  | cons a _ ih => exact .cons (toAny_at a) ih
theorem pickO {cs : List (Option Int)} {A B : Prop} {x0 : V} {H : Hp} {kont : VK} (hA : rNe x0 .non H kont → A) (hB : ∀ ns : List Int, cs = ns.map some → rNe x0 (.int ns.sum) H kont → B) (h : rNe x0 (optV (sumO cs)) H kont) : if decide (none ∈ cs) = true then A else B := by
  by_cases e : none ∈ cs
  · rw [if_pos (decide_eq_true e)]
    rw [sumO_none e] at h
    exact hA h
  · rw [if_neg (by simpa using e)]
    obtain ⟨ns, rfl⟩ := all_some e
    rw [sumO_some] at h
    exact hB ns rfl h
theorem cut_to {xs : List V} {n : Nat} (h : n ≤ xs.length) : cutV xs none (some (n : Int)) = xs.take n := by
  unfold cutV
  rw [HT.sIx_nat, HT.sIx_none, Nat.min_eq_left h, List.drop_zero, Nat.sub_zero]
theorem cut_from {xs : List V} {n : Nat} (h : n ≤ xs.length) : cutV xs (some (n : Int)) none = xs.drop n := by
  unfold cutV
  rw [HT.sIx_nat, HT.sIx_none, Nat.min_eq_left h]
  exact List.take_of_length_le (by rw [List.length_drop]; omega)
def szI : Itm → Int
  | .b _ => 1
  | .c m _ => (m : Int)
theorem pTake {α β : Type} {R : α → β → Prop} {xs : List α} {ys : List β} (h : Paired R xs ys) : ∀ n, Paired R (xs.take n) (ys.take n) := by
  induction h with
  | nil => intro n; rw [List.take_nil, List.take_nil]; exact .nil
  | cons a _ ih => intro n; cases n with
    | zero => exact .nil
    | succ n => exact .cons a (ih n)
theorem pDrop {α β : Type} {R : α → β → Prop} {xs : List α} {ys : List β} (h : Paired R xs ys) : ∀ n, Paired R (xs.drop n) (ys.drop n) := by
  induction h with
  | nil => intro n; rw [List.drop_nil, List.drop_nil]; exact .nil
  | cons a r ih => intro n; cases n with
    | zero => exact .cons a r
    | succ n => exact ih n
theorem pApp {α β : Type} {R : α → β → Prop} {xs xs' : List α} {ys ys' : List β} (h : Paired R xs ys) (g : Paired R xs' ys') : Paired R (xs ++ xs') (ys ++ ys') := by
  induction h with
  | nil => exact g
  | cons a _ ih => exact .cons a ih
theorem ixTK (K : PySem.W.Frag) {X : Cx} (h : X.K = K := by rfl) : IxR X (rIxT K) := by
  subst h
  exact ix_tup
theorem isiKK (K : PySem.W.Frag) {X : Cx} (h : X.K = K := by rfl) : CallR X (.builtin "isinstance") (rIsi K) := by
  subst h
  exact call_isi
section
variable {P : Program} {w : World} {K : PySem.W.Frag} {mg : Str → Option Value} {base : Heap} {CI fE C fPI fL fB : Addr}
def spAll (K : PySem.W.Frag) : Sp := fun vs H Q _ => ∃ (p : Addr) (xs : List Int), vs = [.ref p] ∧ SqL K H p (xs.map V.int) ∧ ∀ H', Same H H' → Q (.bl true) H'
theorem ok_all (T : PrTxt K mg C fPI fL fB) {f fTP fTL fC fD fR fT fO fX fHO fBt fCo fN fJ : Addr} {fd fdI fdTP fdTL fdC fdD fdR fdT fdO fdX fdHO fdBt fdCo fdN fdJ : FuncData} {j : Nat} (F : Fun K "_law_all_right" "_law_all_right" sAll f fd) (FT : Fun K "told" "told" sTld fT fdT)
    (GI : FnOk P w K mg base CX0 (j + 5) fPI fdI ["self", "letters", "backs"] (spPInit C)) (bI : Binds K fdI ["self", "letters", "backs"] [])
    (GTP : FnOk P w K mg base CX0 (j + 7) fTP fdTP [] (spToldP C)) (bTP : Binds K fdTP [] []) (kTP : PySem.W.keepIn K (.ref fTP) = true) (gTP : mg "told_prices" = some (.ref fTP))
    (GTL : FnOk P w K mg base CX0 (j + 7) fTL fdTL [] spTold) (bTL : Binds K fdTL [] []) (kTL : PySem.W.keepIn K (.ref fTL) = true) (gTL : mg "_law_told_lengths" = some (.ref fTL))
    (GC : FnOk P w K mg base CX0 (j + 7) fC fdC ["_law_script", "_law_k"] (K3.spCell K)) (bC : Binds K fdC ["_law_script", "_law_k"] []) (kC : PySem.W.keepIn K (.ref fC) = true) (gC : mg "_law_cell_at" = some (.ref fC))
    (GD : FnOk P w K mg base CX0 (j + 7) fD fdD ["_law_script", "_law_at", "_law_most"] (spData K)) (bD : Binds K fdD ["_law_script", "_law_at", "_law_most"] []) (kD : PySem.W.keepIn K (.ref fD) = true) (gD : mg "_law_data" = some (.ref fD))
    (GR : FnOk P w K mg base CX0 (j + 7) fR fdR ["_law_script", "_law_at", "_law_lead"] (spRow K)) (bR : Binds K fdR ["_law_script", "_law_at", "_law_lead"] []) (kR : PySem.W.keepIn K (.ref fR) = true) (gR : mg "_law_row" = some (.ref fR))
    (GT : FnOk P w K mg base (L2N.CX P w) (j + 5) fT fdT ["items", "ahead"] (spTldS CI)) (gT : mg "told" = some (.ref fT))
    (GO : FnOk P w K mg base CX0 (j + 7) fO fdO ["text"] spOfHex) (bO : Binds K fdO ["text"] []) (kO : PySem.W.keepIn K (.ref fO) = true) (gO : mg "of_hex" = some (.ref fO))
    (GX : FnOk P w K mg base CX0 (j + 7) fX fdX ["_law_numbers_here"] spHex) (bX : Binds K fdX ["_law_numbers_here"] []) (kX : PySem.W.keepIn K (.ref fX) = true) (gX : mg "_law_hex" = some (.ref fX))
    (GHO : FnOk P w K mg base CX0 (j + 7) fHO fdHO ["told"] spHexOf) (bHO : Binds K fdHO ["told"] []) (kHO : PySem.W.keepIn K (.ref fHO) = true) (gHO : mg "hex_of" = some (.ref fHO))
    (GBt : FnOk P w K mg base CX0 (j + 5) fBt fdBt ["items", "prices"] (spBits C)) (bBt : Binds K fdBt ["items", "prices"] []) (kBt : PySem.W.keepIn K (.ref fBt) = true) (gBt : mg "bits_of" = some (.ref fBt))
    (GCo : FnOk P w K mg base CX0 (j + 7) fCo fdCo ["_law_item", "_law_letters", "_law_backs"] spCost) (bCo : Binds K fdCo ["_law_item", "_law_letters", "_law_backs"] []) (kCo : PySem.W.keepIn K (.ref fCo) = true) (gCo : mg "_law_cost" = some (.ref fCo))
    (GN : FnOk P w K mg base CX0 (j + 7) fN fdN ["_law_cell", "_law_limits"] spNums) (bN : Binds K fdN ["_law_cell", "_law_limits"] []) (kN : PySem.W.keepIn K (.ref fN) = true) (gN : mg "_law_numbers" = some (.ref fN))
    (GJ : FnOk P w K mg base CX0 (j + 6) fJ fdJ ["_law_row_here", "_law_lead"] spJudged) (bJ : Binds K fdJ ["_law_row_here", "_law_lead"] []) (kJ : PySem.W.keepIn K (.ref fJ) = true) (gJ : mg "_law_judged" = some (.ref fJ))
    (m1 : mg "len" = none) (m2 : mg "int" = none) (m3 : mg "range" = none) (m4 : mg "list" = none) (m5 : mg "sum" = none) (m6 : mg "isinstance" = none) : FnOk P w K mg base CX0 (j + 8) f fd ["_law_script"] (spAll K) := by
  refine F.ok scAll (fun vs H Q E h => ?_) (fun cdv A outer s H vs Q E hr h => ?_)
  · obtain ⟨p, xs, rfl, _⟩ := h
    rfl
  · obtain ⟨p, xs, rfl, hp, q⟩ := h
    have hz := PySem.sizeLine_eq
    have hr5 := hr.mono (show j + 5 ≤ j + 7 by omega)
    have hr6 := hr.mono (show j + 6 ≤ j + 7 by omega)
    refine ⟨_, pss_cons (ps_set (i := 1) scAll.nd rfl (.inl rfl) (pe_call0 GTP hr (by rfl) gTP kTP bTP .nil pass0))
      (pss_cons (ps_asg (pe_call0 GTL hr (by rfl) gTL kTL bTL .nil pass0) (pg_tup (by rfl) (pgs_cons (pg_name (i := 2) scAll.nd rfl (.inr rfl)) (pgs_cons (pg_name (i := 3) scAll.nd rfl (.inr rfl)) pgs_nil))))
      (pss_cons (ps_set (i := 4) scAll.nd rfl (.inr rfl) (pe_op op_rep (pe_lst (pa_cons pe_int pa_nil)) pe_int))
      (pss_cons (ps_asg (pe_tup (pa_cons pe_int (pa_cons pe_int (pa_cons pe_int (pa_cons pe_int pa_nil))))) (pg_tup (by rfl) (pgs_cons (pg_sub (pv 4) pe_int set_list (by intro _; rfl)) (pgs_cons (pg_sub (pv 4) pe_int set_list (by intro _; rfl)) (pgs_cons (pg_sub (pv 4) pe_int set_list (by intro _; rfl)) (pgs_cons (pg_sub (pv 4) pe_int set_list (by intro _; rfl)) pgs_nil))))))
      (pss_cons (ps_set (i := 5) scAll.nd rfl (.inl rfl) (pe_make T.made GI hr6 (by rfl) T.gC bI .nil pass0 (pa_cons (pv 4) (pa_cons (pe_op op_cat (pe_lst (pa_cons pe_int (pa_cons pe_int pa_nil))) (pe_op op_rep (pe_lst (pa_cons pe_int pa_nil)) pe_int)) pa_nil))))
      (pss_cons (ps_for PassesOwn.never rfl (pi_range1 (by rfl) m3 (pa_cons pe_int pa_nil)) (pg_name (i := 6) scAll.nd rfl (.inl rfl))
        (pss_cons (ps_set (i := 7) scAll.nd rfl (.inl rfl) (pe_ifExp (pt_cmpR op_eq (pe_op op_modN (pe_call GC hr (by rfl) gC kC bC .nil pass0 (pa_cons (pv 0) (pa_cons (pe_op op_mul pe_int (pv 6)) pa_nil))) pe_int) pe_int (nomark _)) (pe_call GD hr (by rfl) gD kD bD .nil pass0 (pa_cons (pv 0) (pa_cons (pe_op op_add (pe_op op_mul pe_int (pv 6)) pe_int) (pa_cons pe_int pa_nil)))) (pe_lst pa_nil)))
        (pss_cons (ps_asg (pe_call GR hr (by rfl) gR kR bR .nil pass0 (pa_cons (pv 0) (pa_cons (pe_op op_add (pe_op op_mul pe_int (pv 6)) pe_int) (pa_cons (pv 7) pa_nil)))) (pg_tup (by rfl) (pgs_cons (pg_name (i := 8) scAll.nd rfl (.inl rfl)) (pgs_cons (pg_name (i := 9) scAll.nd rfl (.inl rfl)) pgs_nil))))
        (pss_cons (ps_set (i := 10) scAll.nd rfl (.inl rfl) (pe_callN GT hr5 (by rfl) gT FT.kp (kb_tld FT) passF (pa_cons (pv 8) pa_nil) (pk_cons (pe_call GO hr (by rfl) gO kO bO .nil pass0 (pa_cons (pe_call GX hr (by rfl) gX kX bX .nil pass0 (pa_cons (pv 7) pa_nil)) pa_nil)) pk_nil)))
        (pss_cons (ps_if (PW.pt (pw_or (pt_cmpR (op_neD hr.units) (pe_listOfB rfl (by rfl) m4 (pv 10)) (pv 9) (nomark _)) (pw_or1 (pt_cmpR op_ne (pe_call GHO hr (by rfl) gHO kHO bHO .nil pass0 (pa_cons (pv 10) pa_nil)) (pe_call GX hr (by rfl) gX kX bX .nil pass0 (pa_cons (pv 9) pa_nil)) (nomark _))))) (pss_one (ps_ret pe_bl)) pss_nil)
        (pss_cons (ps_if (pt_cmpR op_ne (pe_call GBt hr5 (by rfl) gBt kBt bBt .nil pass0 (pa_cons (pv 8) (pa_cons (pv 1) pa_nil))) (pe_callB (cr_sum rfl) (by rfl) m5 (by decide +kernel) (pa_cons (pe_lc (own := [("_law_item", 18)]) (g := gName 18) (tt := tYes) rfl scAll.nd (pi_list (pv 8)) (blkOk_by (N := NAl) (sc := defScope sAll) (by decide +kernel))
            (fun _ _ _ _ _ => pg_name (i := 18) scAll.nd rfl (.inl rfl)) (fun _ _ _ _ _ => pts_nil) (fun _ _ _ _ _ => pe_call GCo hr (by rfl) gCo kCo bCo .nil pass0 (pa_cons (pv 18) (pa_cons (pv 2) (pa_cons (pv 3) pa_nil))))) pa_nil)) (nomark _)) (pss_one (ps_ret pe_bl)) pss_nil)
        (pss_cons (ps_setLc (i := 11) (own := [("_law_item", 18)]) (g := gName 18) (tt := tYes) rfl scAll.nd rfl rfl (sw_true rfl rfl rfl (by decide +kernel)) (pi_list (pv 8)) (blkOk_by (N := NAl) (sc := defScope sAll) (by decide +kernel))
            (fun _ _ _ _ _ => pg_name (i := 18) scAll.nd rfl (.inl rfl)) (fun _ _ _ _ _ => pts_nil) (fun _ _ _ _ _ => pe_call GCo hr (by rfl) gCo kCo bCo .nil pass0 (pa_cons (pv 18) (pa_cons (pv 4) (pa_cons (pe_op op_cat (pe_lst (pa_cons pe_int (pa_cons pe_int pa_nil))) (pe_op op_rep (pe_lst (pa_cons pe_int pa_nil)) pe_int)) pa_nil)))))
        (pss_cons (ps_if (pt_cmpR op_ne (pe_call GBt hr5 (by rfl) gBt kBt bBt .nil pass0 (pa_cons (pv 8) (pa_cons (pv 5) pa_nil))) (pe_ifExp (pt_cmpR op_in_seq pe_non (pv 11) (by rfl)) pe_non (pe_callB (cr_sum rfl) (by rfl) m5 (by decide +kernel) (pa_cons (pv 11) pa_nil))) (nomark _)) (pss_one (ps_ret pe_bl)) pss_nil)
        (pss_one (ps_for PassesOwn.never rfl (pi_range1 (by rfl) m3 (pa_cons pe_int pa_nil)) (pg_name (i := 12) scAll.nd rfl (.inl rfl))
          (pss_cons (ps_set (i := 13) scAll.nd rfl (.inl rfl) (pe_call GN hr (by rfl) gN kN bN .nil pass0 (pa_cons (pe_call GC hr (by rfl) gC kC bC .nil pass0 (pa_cons (pv 0) (pa_cons (pe_op op_add (pe_op op_add (pe_op op_mul pe_int (pv 6)) pe_int) (pv 12)) pa_nil))) (pa_cons (pe_lst (pa_cons pe_int (pa_cons pe_int (pa_cons pe_int pa_nil)))) pa_nil))))
          (pss_cons (ps_set (i := 14) scAll.nd rfl (.inl rfl) (pe_op op_modN (pe_callTy call_int1 (by rfl) m2 (by decide +kernel) (pa_cons (pe_ix ix_list (pv 13) pe_int (fun _ _ => rfl)) pa_nil)) (pe_op op_add (pe_callB call_len_seq (by rfl) m1 PySem.boot_len (pa_cons (pv 8) pa_nil)) pe_int)))
          (pss_cons (ps_set (i := 15) scAll.nd rfl (.inl rfl) (pe_op op_add (pe_callB call_len_seq (by rfl) m1 PySem.boot_len (pa_cons (pv 7) pa_nil)) (pe_callB (cr_sum rfl) (by rfl) m5 (by decide +kernel) (pa_cons (pe_lc (own := [("_law_item", 18)]) (g := gName 18) (tt := tYes) rfl scAll.nd (pi_list (pe_slice sl_list (pv 8) po_none (po_some (pv 14)))) (blkOk_by (N := NAl) (sc := defScope sAll) (by decide +kernel))
            (fun _ _ _ _ _ => pg_name (i := 18) scAll.nd rfl (.inl rfl)) (fun _ _ _ _ _ => pts_nil) (fun _ _ _ _ _ => pe_ifExp (pt_val (pe_callB (isiKK K) (by rfl) m6 (by decide +kernel) (pa_cons (pv 18) (pa_cons (pe_bltn (v := .ty "int") (by rfl) m2 (by decide +kernel) rfl) pa_nil)))) pe_int (pe_ix (ixTK K) (pv 18) pe_int (fun _ _ => rfl)))) pa_nil))))
          (pss_cons (ps_set (i := 16) scAll.nd rfl (.inl rfl) (pe_ix ix_list (pe_lst (pa_cons pe_int (pa_cons (pe_un un_neg pe_int) (pa_cons (pe_tup (pa_cons pe_int (pa_cons pe_int pa_nil))) (pa_cons (pe_tup (pa_cons pe_int (pa_cons pe_int pa_nil))) (pa_cons (pe_tup (pa_cons pe_int (pa_cons pe_int pa_nil)))
            (pa_cons (pe_tup (pa_cons pe_int (pa_cons (pe_ix ix_list (pv 13) pe_int (fun _ _ => rfl)) pa_nil))) (pa_cons (pe_lst (pa_cons pe_int (pa_cons pe_int pa_nil))) (pa_cons (pe_tup (pa_cons pe_int pa_nil)) (pa_cons (pe_tup (pa_cons pe_int (pa_cons (pe_op op_add (pv 15) pe_int) pa_nil))) pa_nil)))))))))) (pe_ix ix_list (pv 13) pe_int (fun _ _ => rfl)) (fun _ _ => rfl)))
          (pss_cons (ps_set (i := 17) scAll.nd rfl (.inl rfl) (pe_op op_cat (pe_op op_cat (pe_slice sl_list (pv 8) po_none (po_some (pv 14))) (pe_lst (pa_cons (pv 16) pa_nil))) (pe_slice sl_list (pv 8) (po_some (pv 14)) po_none)))
          (pss_one (ps_if (pt_not (pt_val (pe_call GJ hr6 (by rfl) gJ kJ bJ .nil pass0 (pa_cons (pv 17) (pa_cons (pv 7) pa_nil))))) (pss_one (ps_ret pe_bl)) pss_nil)))))))))))))))))
      (pss_one (ps_ret (pe_and (pe_cmpR op_eq (pe_call GBt hr5 (by rfl) gBt kBt bBt .nil pass0 (pa_cons (pe_lst (pa_cons pe_int (pa_cons (pe_tup (pa_cons pe_int (pa_cons pe_int pa_nil))) (pa_cons (pe_tup (pa_cons pe_int (pa_cons pe_int pa_nil))) (pa_cons pe_int pa_nil))))) (pa_cons (pv 5) pa_nil))) pe_int (nomark _))
        (pe_one (pe_cmp (pc_isN (pe_call GBt hr5 (by rfl) gBt kBt bBt .nil pass0 (pa_cons (pe_lst (pa_cons pe_int (pa_cons (pe_tup (pa_cons pe_int (pa_cons pe_int pa_nil))) pa_nil))) (pa_cons (pv 5) pa_nil)))) rfl)))))))))), ?_⟩
    refine ⟨rfl, fun H1 sh s1 nsh hsh => ?_⟩
    refine ⟨rfl, fun H2 t pl pb s2 ht hpl hpb _ _ _ => ?_⟩
    refine ⟨t, _, rfl, .inl (.inl ht), rfl, _, _, rfl, _, _, rfl, rfl, ?_⟩
    have s12 := s1.trans s2
    have hsh := hsh.same s2
    refine ⟨(by show 1 ≤ sizeLine; rw [hz]; decide), fun a na => ⟨_, _, _, rfl, rfl, upd_same, by omega, by omega, by rw [hz]; decide, fun ow now => ?_⟩⟩
    have e0 : (List.replicate (Int.toNat 273) [V.int 0]).flatten = (List.replicate 273 (0 : Int)).map V.int := by
      rw [show Int.toNat 273 = 273 from rfl, rep_flat, List.map_replicate]
    rw [e0]
    have sa : Same H2 (upd H2 a (.lst [.int 0])) := same_upd na
    generalize upd H2 a (.lst [.int 0]) = H3 at *
    have so : Same H3 (upd H3 ow (.lst ((List.replicate 273 (0 : Int)).map V.int))) := same_upd now
    have ho : (upd H3 ow (.lst ((List.replicate 273 (0 : Int)).map V.int))) ow = some (.lst ((List.replicate 273 (0 : Int)).map V.int)) := upd_same
    have sb := (s12.trans sa)
    have nowH : H ow = none := none_back sb now
    have sc : Same H3 (upd H3 ow (.lst ((List.replicate 273 (0 : Int)).map V.int))) := same_upd now
    generalize upd H3 ow (.lst ((List.replicate 273 (0 : Int)).map V.int)) = H4 at *
    refine ⟨(by show 4 ≤ sizeLine; rw [hz]; decide), fun tt ntt => ?_⟩
    have st : Same H4 (upd H4 tt (.tup [.int 2, .int 2, .int 2, .int 2])) := same_upd ntt
    have ett : (upd H4 tt (.tup [.int 2, .int 2, .int 2, .int 2])) tt = some (.tup [.int 2, .int 2, .int 2, .int 2]) := upd_same
    have ho5 := st _ _ ho
    generalize upd H4 tt (.tup [.int 2, .int 2, .int 2, .int 2]) = H5 at *
    refine ⟨tt, _, rfl, .inl (.inl ett), rfl, ?_⟩
    refine ⟨_, _, rfl, ⟨_, rfl, ow, _, 97, 97, rfl, rfl, ho5, by rw [List.length_map, List.length_replicate]; rfl, ?_⟩⟩
    refine ⟨_, _, rfl, ⟨_, rfl, ow, _, 98, 98, rfl, rfl, upd_same, by rw [List.length_set, List.length_map, List.length_replicate]; rfl, ?_⟩⟩
    refine ⟨_, _, rfl, ⟨_, rfl, ow, _, 256, 256, rfl, rfl, upd_same, by rw [List.length_set, List.length_set, List.length_map, List.length_replicate]; rfl, ?_⟩⟩
    refine ⟨_, _, rfl, ⟨_, rfl, ow, _, 257, 257, rfl, rfl, upd_same, by rw [List.length_set, List.length_set, List.length_set, List.length_map, List.length_replicate]; rfl, ?_⟩⟩
    refine ⟨rfl, ?_⟩
    have eown : ((((((List.replicate 273 (0 : Int)).map V.int).set 97 (.int 2)).set 98 (.int 2)).set 256 (.int 2)).set 257 (.int 2)) = ownL.map V.int := by
      unfold ownL
      rw [List.map_set, List.map_set, List.map_set, List.map_set]
    rw [eown]
    have s5 : Same H H5 := (sb.trans sc).trans st
    have s6 : Same H (upd (upd (upd (upd H5 ow (.lst (((List.replicate 273 (0 : Int)).map V.int).set 97 (.int 2)))) ow (.lst ((((List.replicate 273 (0 : Int)).map V.int).set 97 (.int 2)).set 98 (.int 2)))) ow (.lst (((((List.replicate 273 (0 : Int)).map V.int).set 97 (.int 2)).set 98 (.int 2)).set 256 (.int 2)))) ow (.lst (ownL.map V.int))) :=
      same_put (same_put (same_put (same_put s5 nowH) nowH) nowH) nowH
    have k6 : ∀ b o, b ≠ ow → H5 b = some o → (upd (upd (upd (upd H5 ow (.lst (((List.replicate 273 (0 : Int)).map V.int).set 97 (.int 2)))) ow (.lst ((((List.replicate 273 (0 : Int)).map V.int).set 97 (.int 2)).set 98 (.int 2)))) ow (.lst (((((List.replicate 273 (0 : Int)).map V.int).set 97 (.int 2)).set 98 (.int 2)).set 256 (.int 2)))) ow (.lst (ownL.map V.int))) b = some o := fun b o hb e => by
      rw [upd_ne hb, upd_ne hb, upd_ne hb, upd_ne hb]
      exact e
    have o6 : (upd (upd (upd (upd H5 ow (.lst (((List.replicate 273 (0 : Int)).map V.int).set 97 (.int 2)))) ow (.lst ((((List.replicate 273 (0 : Int)).map V.int).set 97 (.int 2)).set 98 (.int 2)))) ow (.lst (((((List.replicate 273 (0 : Int)).map V.int).set 97 (.int 2)).set 98 (.int 2)).set 256 (.int 2)))) ow (.lst (ownL.map V.int))) ow = some (.lst (ownL.map V.int)) := upd_same
    generalize upd (upd (upd (upd H5 ow (.lst (((List.replicate 273 (0 : Int)).map V.int).set 97 (.int 2)))) ow (.lst ((((List.replicate 273 (0 : Int)).map V.int).set 97 (.int 2)).set 98 (.int 2)))) ow (.lst (((((List.replicate 273 (0 : Int)).map V.int).set 97 (.int 2)).set 98 (.int 2)).set 256 (.int 2)))) ow (.lst (ownL.map V.int)) = H6 at *
    have s25 : ∀ b o, H2 b = some o → b ≠ ow ∧ H5 b = some o := fun b o e => ⟨ne_of_none (sa _ _ e) now, st _ _ (sc _ _ (sa _ _ e))⟩
    have s26 : Same H2 H6 := fun b o e => k6 b o (s25 b o e).1 (s25 b o e).2
    refine ⟨_, rfl, mkB fun H7 pB s7 npB hpB => ?_⟩
    intro x dx nx nd ne
    have sm : Same H7 (upd (upd H7 dx (.own x)) x (.ins C dx [])) := fun b o e => by
      rw [upd_ne (ne_of_none e nx), upd_ne (ne_of_none e nd)]
      exact e
    refine ⟨x, dx, ow, pB, ownL, ownB, rfl, upd_same, sm _ _ (s7 _ _ o6), sm _ _ hpB, own_good.1, own_good.2, fun H8 k8 hmi => ⟨rfl, ?_⟩⟩
    have s78 : Same H7 H8 := fun b o e => k8 b o (ne_of_none e nx) (sm _ _ e)
    have s68 : Same H6 H8 := s7.trans s78
    have s28 : Same H2 H8 := s26.trans s68
    have s08 : Same H H8 := s12.trans s28
    have hsh8 := hsh.same s28
    have hpl8 := s28 _ _ hpl
    have hpb8 := s28 _ _ hpb
    have how8 := s68 _ _ o6
    clear hsh hpl hpb hpB o6 k6 k8 s25 s26 s7 sm nx nd ne npB ho5 ett eown e0 ho ntt
    refine ⟨3, rfl, by decide, by decide, ?_⟩
    refine for_range (lo := 0) (n := 3) (fun i σ H' => ∃ (y6 y7 y8 y9 y10 y11 y12 y13 y14 y15 y16 y17 : Option V), σ = [some (.ref p), some (.ref sh), some (.ref pl), some (.ref pb), some (.ref ow), some (.ref x), y6, y7, y8, y9, y10, y11, y12, y13, y14, y15, y16, y17, none] ∧ Same H8 H') ⟨_, _, _, _, _, _, _, _, _, _, _, _, rfl, Same.refl H8⟩ (fun i σ H' hi h => ?_) (fun σ H' h => ?_)
    · obtain ⟨y6, y7, y8, y9, y10, y11, y12, y13, y14, y15, y16, y17, rfl, sm⟩ := h
      have s08' := s08.trans sm
      have mul100 : (100 : Int) * (0 + (i : Int)) = ((100 * i : Nat) : Int) := by push_cast; omega
      refine ⟨_, rfl, _, rfl, _, _, rfl, rfl, .inl ⟨by decide, by decide⟩, p, xs, 100 * i, (by show [V.ref p, V.int ((100 : Int) * (0 + (i : Int)))] = _; rw [mul100]), s08'.seq hp, by omega, fun H9 s9 => ⟨_, _, rfl, rfl, (by show (2 : Int) ≠ 0; decide), rfl, _, rfl, ite2 (fun e => ?A) (fun e => ?B)⟩⟩
      case' A =>
        refine ⟨_, rfl, _, rfl, _, _, rfl, rfl, .inl ⟨by decide, by decide⟩, _, _, rfl, rfl, p, xs, 100 * i + 60, 30, (by rw [mul100]; push_cast; rfl), (s08'.trans s9).seq hp, by omega, by omega, fun H10 ld lead s10 nld hld hk hll => ?_⟩
        have s910 : Same H' H10 := s9.trans s10
      case' B =>
        refine ⟨Nat.zero_le _, fun ld nld => ?_⟩
        have s910 : Same H' (upd H9 ld (.lst [])) := s9.trans (same_upd nld)
        have hld : (upd H9 ld (.lst [])) ld = some (.lst (bys [])) := upd_same
        generalize upd H9 ld (.lst []) = H10 at *
        obtain ⟨lead, elead⟩ : ∃ lead : List Nat, lead = [] := ⟨_, rfl⟩
        rw [← elead] at hld
        have hk : ∀ k ∈ lead, k < 256 := fun k hk => by rw [elead] at hk; cases hk
        have hll : lead.length ≤ 30 := by rw [elead]; decide
      all_goals
        have sx := s08'.trans s910
        have s8x := sm.trans s910
        refine ⟨_, rfl, _, rfl, _, _, rfl, rfl, .inl ⟨by decide, by decide⟩, _, _, rfl, rfl, _, rfl, p, xs, 100 * i + 1, ld, lead, (by rw [mul100]; push_cast; rfl), sx.seq hp, by omega, hld, hk, by omega, fun H11 t11 Fr Er us its due s11 ht11 hF hrow hok hil hE htl hkd hdl _ _ _ => ?_⟩
        refine ⟨t11, _, rfl, .inl (.inl ht11), rfl, _, _, rfl, _, _, rfl, rfl, ?_⟩
        have hld11 := s11 _ _ hld
        have hul := hrow.length
        refine ⟨_, rfl, _, rfl, ld, lead, rfl, by rw [hld11, bys_map], hk, by omega, fun H12 s12' => ⟨lead, rfl, hk, by omega, fun H13 s13 => ⟨rfl, rfl, ?_⟩⟩⟩
        have s11d := s12'.trans s13
        refine ⟨⟨Fr, us, its.map toAny, lead, rfl, s11d _ _ hF, (row_any hrow).mono fun x v h => h.same s11d, hk, by omega, by rw [List.length_map]; omega, fun n en => (by rw [good_none htl hok] at en; cases en), fun _ H14 due' s14 htl' _ _ => ?_⟩, Fr, lead, rfl, by omega⟩
        obtain rfl : due = due' := by
          rw [map_asIt, htl] at htl'
          exact (List.append_cancel_left (Option.some.inj htl'))
        have s114 := s11d.trans s14
        have hF14 := s114 _ _ hF
        have hE14 := s114 _ _ hE
        have hld14 := s114 _ _ hld11
        have hrow14 : RowAt H14 its us := hrow.mono fun it v h => h.same s114
        have s814 : Same H8 H14 := (s8x.trans s11).trans s114
        clear ht11 hF hE hrow hld hld11 s11d htl'
        refine ⟨_, rfl, _, rfl, (by rw [byB_size, hz]; omega), fun W nW => ?_⟩
        rw [bi_byB hkd]
        have sW := same_upd (o := .lst (bys due)) nW
        have eW : (upd H14 W (.lst (bys due))) W = some (.lst (bys due)) := upd_same
        generalize upd H14 W (.lst (bys due)) = H15 at *
        have hF15 := sW _ _ hF14
        have hE15 := sW _ _ hE14
        have hld15 := sW _ _ hld14
        have hrow15 : RowAt H15 its us := hrow14.mono fun it v h => h.same sW
        have s815 := s814.trans sW
        refine ⟨_, rfl, .list ((due.map fun (k : Nat) => (k : Int)).map .int), .list ((due.map fun (k : Nat) => (k : Int)).map .int), .lst (.inl (.inl eW)) (dp_ints _), .lst (.inl (.inl hE15)) (dp_ints _), shaped_intsQ _, shaped_intsQ _, _, rfl, ?_⟩
        rw [eqv_ints, decide_eq_true rfl]
        refine iteF ⟨_, rfl, due, rfl, hkd, by omega, _, rfl, Er, due, rfl, by rw [hE15, bys_map], hkd, by omega, fun H16 s16 => ?_⟩
        refine ⟨rfl, _, rfl, iteNS rfl ?_⟩
        have hF16 := s16 _ _ hF15
        have hld16 := s16 _ _ hld15
        have hrow16 : RowAt H16 its us := hrow15.mono fun it v h => h.same s16
        have s816 := s815.trans s16
        clear hE15 hE14 hF14 hld14 hrow14 hF15 hld15 hrow15 eW
        have hr10 : its.length ≤ 1000 := by omega
        -- told prices
        obtain ⟨ns, ens⟩ := all_some (cs := its.map (costO toldL toldB)) (fun z => by
          obtain ⟨it, m, e⟩ := List.mem_map.mp z
          obtain ⟨c, ec⟩ := told_some (hok it m)
          rw [ec] at e
          cases e)
        refine ⟨_, rfl, _, rfl, Fr, sh, us, its, toldL, toldB, rfl, hF16, hrow16, hok, hr10, hsh8.same s816, told_good.1, told_good.2, fun H17 s17 => ?_⟩
        rw [show bitsO toldL toldB its = some ns.sum by unfold bitsO; rw [ens, sumO_some]]
        have hF17 := s17 _ _ hF16
        have hrow17 : RowAt H17 its us := hrow16.mono fun it v h => h.same s17
        have s817 := s816.trans s17
        have hpl17 := s817 _ _ hpl8
        have hpb17 := s817 _ _ hpb8
        refine ⟨_, rfl, Fr, rfl, ⟨_, .inl (.inl hF17)⟩, fun D nD => ?_⟩
        refine lc_list (K := K) (a := Fr) (xs := us) (fun i H' => Same H17 H' ∧ H' D = some (.lst (((its.take i).map (costO toldL toldB)).map optV))) ⟨same_upd nD, upd_same⟩ (fun i H' _ h => .inl (.inl (h.1 _ _ hF17))) (fun i x H1 hx h => ?_) (fun H18 h => ?_)
        · have hia : i < its.length := by
            have := (List.getElem?_eq_some_iff.mp hx).1
            omega
          obtain ⟨u', e1', ha⟩ := paired_get hrow17 (List.getElem?_eq_getElem hia)
          have euu : u' = x := Option.some.inj (e1'.symm.trans hx)
          subst euu
          refine ⟨rfl, yes ?_⟩
          refine ⟨_, rfl, _, rfl, _, rfl, u', its[i], pl, pb, toldL, toldB, rfl, ha.same h.1, hok _ (List.getElem_mem hia), h.1 _ _ hpl17, h.1 _ _ hpb17, told_good.1.1, told_good.2.1, _, h.2, ?_, same_put h.1 nD, ?_⟩
          · rw [List.length_map, List.length_map, List.length_take]
            exact small1000 (by omega)
          · rw [upd_same, List.take_add_one, List.getElem?_eq_getElem hia, List.map_append, List.map_append]
            rfl
        obtain ⟨s18, hD⟩ := h
        rw [← hul, List.take_length, ens, List.map_map] at hD
        refine ⟨D, ns, rfl, .inl (.inl hD), rfl, _, rfl, iteNS rfl ?_⟩
        have hF18 := s18 _ _ hF17
        have hrow18 : RowAt H18 its us := hrow17.mono fun it v h => h.same s18
        have s818 := s817.trans s18
        have how18 := s818 _ _ how8
        clear hpl17 hpb17 hF17 hrow17 hF16 hrow16 hD
        -- own prices
        refine ⟨_, rfl, Fr, rfl, ⟨_, .inl (.inl hF18)⟩, fun D2 nD2 => ?_⟩
        refine lc_list (K := K) (a := Fr) (xs := us) (fun i H' => Same H18 H' ∧ H' D2 = some (.lst (((its.take i).map (costO ownL ownB)).map optV))) ⟨same_upd nD2, upd_same⟩ (fun i H' _ h => .inl (.inl (h.1 _ _ hF18))) (fun i x H1 hx h => ?_) (fun H19 h => ?_)
        · have hia : i < its.length := by
            have := (List.getElem?_eq_some_iff.mp hx).1
            omega
          obtain ⟨u', e1', ha⟩ := paired_get hrow18 (List.getElem?_eq_getElem hia)
          have euu : u' = x := Option.some.inj (e1'.symm.trans hx)
          subst euu
          refine ⟨rfl, yes ?_⟩
          refine ⟨_, rfl, _, rfl, mkB fun HB pB' sB npB hpB => ?_⟩
          have h1B := h.1.trans sB
          refine ⟨u', its[i], ow, pB', ownL, ownB, rfl, ha.same h1B, hok _ (List.getElem_mem hia), h1B _ _ how18, hpB, own_good.1.1, own_good.2.1, _, sB _ _ h.2, ?_, same_put h1B nD2, ?_⟩
          · rw [List.length_map, List.length_map, List.length_take]
            exact small1000 (by omega)
          · rw [upd_same, List.take_add_one, List.getElem?_eq_getElem hia, List.map_append, List.map_append]
            rfl
        obtain ⟨s19, hD2⟩ := h
        rw [← hul, List.take_length] at hD2
        have hF19 := s19 _ _ hF18
        have hrow19 : RowAt H19 its us := hrow18.mono fun it v h => h.same s19
        have s819 := s818.trans s19
        refine ⟨_, rfl, _, rfl, Fr, x, us, its, ownL, ownB, rfl, hF19, hrow19, hok, hr10, hmi.same s819, own_good.1, own_good.2, fun H20 s20 => ?_⟩
        have hD20 := s20 _ _ hD2
        have hF20 := s20 _ _ hF19
        have hrow20 : RowAt H20 its us := hrow19.mono fun it v h => h.same s20
        have s820 := s819.trans s20
        have hld20 : H20 ld = some (.lst (bys lead)) := s20 _ _ (s19 _ _ (s18 _ _ (s17 _ _ hld16)))
        unfold bitsO
        generalize its.map (costO ownL ownB) = cs at *
        refine ⟨_, rfl, D2, _, rfl, .inl (.inl (.inl hD20)), rfl, flat_opt cs, _, rfl, ?_⟩
        rw [inV_non]
        clear hD2 hF18 hF19 hrow18 hrow19 how18
        show (if decide (none ∈ cs) = true then tC V.non _ H20 _ else _)
        rw [show ∀ (σ' : L2.St) (R : VK), tC V.non σ' H20 R = R .non H20 from fun _ _ => rfl]
        refine pickO (cs := cs) (x0 := optV (sumO cs)) (H := H20) (fun h => h) (fun ms e h => ⟨_, rfl, D2, ms, rfl, .inl (.inl (by rw [hD20, e, List.map_map]; rfl)), h⟩) ?_
        refine ⟨by cases sumO cs <;> rfl, _, rfl, iteNS rfl ?_⟩
        clear hD20
        refine ⟨3, rfl, by decide, by decide, ?_⟩
        refine for_range (lo := 0) (n := 3) (fun m σ H' => ∃ (z12 z13 z14 z15 z16 z17 : Option V), σ = [some (.ref p), some (.ref sh), some (.ref pl), some (.ref pb), some (.ref ow), some (.ref x), some (.int (0 + (i : Int))), some (.ref ld), some (.ref Fr), some (.ref Er), some (.byt (byB due)), some (.ref D2), z12, z13, z14, z15, z16, z17, none] ∧ Same H20 H') ⟨_, _, _, _, _, _, rfl, Same.refl H20⟩ (fun m σ H' hm h => ?_) (fun σ H' h => ?_)
        · obtain ⟨z12, z13, z14, z15, z16, z17, rfl, sm3⟩ := h
          have s0x := s08.trans (s820.trans sm3)
          refine ⟨_, rfl, _, rfl, _, _, rfl, rfl, .inl ⟨by decide, by decide⟩, _, _, rfl, rfl, _, rfl, _, _, rfl, rfl, p, xs, 100 * i + 90 + m, ?_, s0x.seq hp, by omega, fun H21 s21 => ?_⟩
          · show [V.ref p, V.int ((100 : Int) * (0 + (i : Int)) + 90 + (0 + (m : Int)))] = _
            rw [show (100 : Int) * (0 + (i : Int)) + 90 + (0 + (m : Int)) = ((100 * i + 90 + m : Nat) : Int) by push_cast; omega]
          refine ⟨(by show 3 ≤ sizeLine; rw [hz]; decide), fun z nz => ?_⟩
          refine ⟨z, cellAt xs (100 * i + 90 + m), [9, 30, 1100], rfl, upd_same, by decide, by decide, fun H22 dg ds s22 nq hdg hdl hin => ?_⟩
          obtain ⟨d0, d1, d2, rfl⟩ : ∃ d0 d1 d2, ds = [d0, d1, d2] := by
            match ds, hdl with
            | [a, b, c], _ => exact ⟨a, b, c, rfl⟩
          have hd0 := hin.2 0 d0 9 rfl rfl
          have sH := sm3.trans ((s21.trans (same_upd (o := .lst [V.int 9, V.int 30, V.int 1100]) nz)).trans s22)
          clear nq hin hdl
          have hF22 := sH _ _ hF20
          have hld22 := sH _ _ hld20
          have hrow22 : RowAt H22 its us := hrow20.mono fun it v h => h.same sH
          have hdgS : SqL K H22 dg [.int d0, .int d1, .int d2] := .inl (.inl hdg)
          refine ⟨_, rfl, dg, _, 1, _, rfl, rfl, hdgS, rfl, .inl ⟨_, rfl, _, rfl, Fr, _, rfl, .inl (.inl (.inl hF22)), _, _, rfl, rfl, _, _, rfl, rfl, (by omega), ?_⟩⟩
          have hsp := fmod_in (a := d1) (l := (us.length : Int) + 1) (by omega)
          dsimp only
          generalize d1.fmod ((us.length : Int) + 1) = spv at *
          obtain ⟨sp, rfl⟩ := nat_of hsp.1
          have hspl : sp ≤ us.length := by omega
          refine ⟨_, rfl, ld, _, rfl, .inl (.inl (.inl hld22)), ?_⟩
          refine ⟨_, rfl, _, rfl, _, rfl, Fr, _, rfl, .inl (.inl hF22), fun r nr => ?_⟩
          rw [cut_to hspl]
          have sr := same_upd (o := .lst (us.take sp)) nr
          have er : (upd H22 r (.lst (us.take sp))) r = some (.lst (us.take sp)) := upd_same
          generalize upd H22 r (.lst (us.take sp)) = H23 at *
          have hrow23 : RowAt H23 its us := hrow22.mono fun it v h => h.same sr
          refine ⟨r, rfl, ⟨_, .inl (.inl er)⟩, fun D3 nD3 => ?_⟩
          refine lc_list (K := K) (a := r) (xs := us.take sp) (fun i H' => Same H23 H' ∧ H' D3 = some (.lst (((its.take i).map szI).map V.int))) ⟨same_upd nD3, upd_same⟩ (fun i H' _ h => .inl (.inl (h.1 _ _ er))) (fun i x H1 hx h => ?_) (fun H24 h => ?_)
          · have hx2 : us[i]? = some x := by
              rw [List.getElem?_take] at hx
              split at hx
              · exact hx
              · cases hx
            have hia : i < its.length := by
              have := (List.getElem?_eq_some_iff.mp hx2).1
              omega
            obtain ⟨u', e1', ha⟩ := paired_get hrow23 (List.getElem?_eq_getElem hia)
            have euu : u' = x := Option.some.inj (e1'.symm.trans hx2)
            subst euu
            have ha := ha.same h.1
            refine ⟨rfl, yes ?_⟩
            have last : (its.take (i + 1)).map szI = (its.take i).map szI ++ [szI its[i]] := by
              rw [List.take_add_one, List.getElem?_eq_getElem hia, List.map_append]
              rfl
            have small : (((its.take i).map szI).map V.int).length < sizeLine := by
              rw [List.length_map, List.length_map, List.length_take]
              exact small1000 (by omega)
            rw [last, List.map_append]
            generalize its[i] = it at *
            cases it with
            | b k =>
              obtain rfl : u' = .int (k : Int) := ha
              exact ⟨_, rfl, _, _, _, _, _, rfl, .ty "int", .base (.int _), kit_ty (a := "int") (r := true) (by decide +kernel), _, rfl, iteT ⟨_, h.2, small, same_put h.1 nD3, upd_same⟩⟩
            | c mm bb =>
              obtain ⟨t, rfl, ht⟩ := ha
              exact ⟨_, rfl, _, _, .type "tuple", _, _, rfl, .ty "int", .base (.tup ht), kit_ty (a := "tuple") (r := false) (by decide +kernel), _, rfl, iteF ⟨_, rfl, t, _, 0, _, rfl, rfl, .inl (.inl ht), rfl, _, h.2, small, same_put h.1 nD3, upd_same⟩⟩
          obtain ⟨s24, hD3⟩ := h
          rw [List.length_take, Nat.min_eq_left hspl] at hD3
          refine ⟨D3, _, rfl, .inl (.inl hD3), _, _, rfl, rfl, ?_⟩
          dsimp only
          generalize ((bys lead).length : Int) + ((its.take sp).map szI).sum = szv at *
          have s224 := sr.trans s24
          have hF24 := s224 _ _ hF22
          have hld24 := s224 _ _ hld22
          have hrow24 : RowAt H24 its us := hrow22.mono fun it v h => h.same s224
          have hdg24 := s224.seq hdgS
          clear hD3 er hrow23 hrow22 hF22 hld22 hdgS hdg
          -- the item that is none
          refine ⟨_, rfl, (by show 2 ≤ sizeLine; rw [hz]; decide), fun t1 n1 => ?_⟩
          have a1 := same_upd (o := .tup [.int 2, .int 1]) n1
          have b1 : (upd H24 t1 (.tup [.int 2, .int 1])) t1 = some (.tup [.int 2, .int 1]) := upd_same
          generalize upd H24 t1 (.tup [.int 2, .int 1]) = J1 at *
          refine ⟨(by show 2 ≤ sizeLine; rw [hz]; decide), fun t2 n2 => ?_⟩
          have a2 := same_upd (o := .tup [.int 19, .int 1]) n2
          have b2 : (upd J1 t2 (.tup [.int 19, .int 1])) t2 = some (.tup [.int 19, .int 1]) := upd_same
          generalize upd J1 t2 (.tup [.int 19, .int 1]) = J2 at *
          refine ⟨(by show 2 ≤ sizeLine; rw [hz]; decide), fun t3 n3 => ?_⟩
          have a3 := same_upd (o := .tup [.int 3, .int 1025]) n3
          have b3 : (upd J2 t3 (.tup [.int 3, .int 1025])) t3 = some (.tup [.int 3, .int 1025]) := upd_same
          generalize upd J2 t3 (.tup [.int 3, .int 1025]) = J3 at *
          have a13 := (a1.trans a2).trans a3
          refine ⟨_, rfl, dg, _, 2, _, rfl, rfl, a13.seq hdg24, rfl, (by show 2 ≤ sizeLine; rw [hz]; decide), fun t4 n4 => ?_⟩
          have a4 := same_upd (o := .tup [.int 3, .int d2]) n4
          have b4 : (upd J3 t4 (.tup [.int 3, .int d2])) t4 = some (.tup [.int 3, .int d2]) := upd_same
          generalize upd J3 t4 (.tup [.int 3, .int d2]) = J4 at *
          refine ⟨(by show 2 ≤ sizeLine; rw [hz]; decide), fun t5 n5 => ?_⟩
          have a5 := same_upd (o := .lst [.int 3, .int 1]) n5
          have b5 : (upd J4 t5 (.lst [.int 3, .int 1])) t5 = some (.lst [.int 3, .int 1]) := upd_same
          generalize upd J4 t5 (.lst [.int 3, .int 1]) = J5 at *
          refine ⟨(by show 1 ≤ sizeLine; rw [hz]; decide), fun t6 n6 => ?_⟩
          have a6 := same_upd (o := .tup [.int 3]) n6
          have b6 : (upd J5 t6 (.tup [.int 3])) t6 = some (.tup [.int 3]) := upd_same
          generalize upd J5 t6 (.tup [.int 3]) = J6 at *
          refine ⟨_, rfl, _, _, rfl, rfl, (by show 2 ≤ sizeLine; rw [hz]; decide), fun t7 n7 => ?_⟩
          have a7 := same_upd (o := .tup [.int 3, .int (szv + 1)]) n7
          have b7 : (upd J6 t7 (.tup [.int 3, .int (szv + 1)])) t7 = some (.tup [.int 3, .int (szv + 1)]) := upd_same
          dsimp only at n7 ⊢
          generalize upd J6 t7 (.tup [.int 3, .int (szv + 1)]) = J7 at *
          refine ⟨(by show 9 ≤ sizeLine; rw [hz]; decide), fun t8 n8 => ?_⟩
          have a8 := same_upd (o := .lst [.int 256, .int (-1), .ref t1, .ref t2, .ref t3, .ref t4, .ref t5, .ref t6, .ref t7]) n8
          have b8 : (upd J7 t8 (.lst [.int 256, .int (-1), .ref t1, .ref t2, .ref t3, .ref t4, .ref t5, .ref t6, .ref t7])) t8 = some (.lst [.int 256, .int (-1), .ref t1, .ref t2, .ref t3, .ref t4, .ref t5, .ref t6, .ref t7]) := upd_same
          generalize upd J7 t8 (.lst [.int 256, .int (-1), .ref t1, .ref t2, .ref t3, .ref t4, .ref t5, .ref t6, .ref t7]) = J8 at *
          have a48 := ((((a4.trans a5).trans a6).trans a7).trans a8)
          have a18 := a13.trans a48
          obtain ⟨vb, xb, hvb, hab⟩ : ∃ v y, atI [V.int 256, .int (-1), .ref t1, .ref t2, .ref t3, .ref t4, .ref t5, .ref t6, .ref t7] d0 = some v ∧ AnyAt J8 y v := by
            have a78 := a7.trans a8
            have a68 := a6.trans a78
            have a58 := a5.trans a68
            rcases (show d0 = 0 ∨ d0 = 1 ∨ d0 = 2 ∨ d0 = 3 ∨ d0 = 4 ∨ d0 = 5 ∨ d0 = 6 ∨ d0 = 7 ∨ d0 = 8 by omega) with z | z | z | z | z | z | z | z | z <;> subst z
            · exact ⟨_, .num 256, rfl, rfl⟩
            · exact ⟨_, .num (-1), rfl, rfl⟩
            · exact ⟨_, .tup [2, 1], rfl, t1, rfl, a48 _ _ (a3 _ _ (a2 _ _ b1))⟩
            · exact ⟨_, .tup [19, 1], rfl, t2, rfl, a48 _ _ (a3 _ _ b2)⟩
            · exact ⟨_, .tup [3, 1025], rfl, t3, rfl, a48 _ _ b3⟩
            · exact ⟨_, .tup [3, d2], rfl, t4, rfl, a58 _ _ b4⟩
            · exact ⟨_, .lst [3, 1], rfl, t5, rfl, a68 _ _ b5⟩
            · exact ⟨_, .tup [3], rfl, t6, rfl, a78 _ _ b6⟩
            · exact ⟨_, .tup [3, szv + 1], rfl, t7, rfl, a8 _ _ b7⟩
          refine ⟨_, rfl, dg, _, 0, _, rfl, rfl, a18.seq hdg24, rfl, t8, _, _, vb, rfl, rfl, .inl (.inl b8), hvb, ?_⟩
          have hF30 := a18 _ _ hF24
          have hld30 := a18 _ _ hld24
          have hrow30 : RowAt J8 its us := hrow24.mono fun it v h => h.same a18
          have sH30 := (sH.trans s224).trans a18
          clear b1 b2 b3 b4 b5 b6 b7 b8 hvb hdg24 hF24 hld24 hrow24
          refine ⟨_, rfl, _, rfl, _, rfl, Fr, _, rfl, .inl (.inl hF30), fun r1 nr1 => ?_⟩
          rw [cut_to hspl]
          have c1 := same_upd (o := .lst (us.take sp)) nr1
          have g1 : (upd J8 r1 (.lst (us.take sp))) r1 = some (.lst (us.take sp)) := upd_same
          generalize upd J8 r1 (.lst (us.take sp)) = M1 at *
          refine ⟨_, rfl, (by show 1 ≤ sizeLine; rw [hz]; decide), fun r2 nr2 => ?_⟩
          have c2 := same_upd (o := .lst [vb]) nr2
          have g2 : (upd M1 r2 (.lst [vb])) r2 = some (.lst [vb]) := upd_same
          generalize upd M1 r2 (.lst [vb]) = M2 at *
          refine ⟨r1, r2, _, _, rfl, rfl, c2 _ _ g1, g2, (by rw [hz, List.length_take]; simp; omega), fun r3 nr3 => ?_⟩
          have c3 := same_upd (o := .lst (us.take sp ++ [vb])) nr3
          have g3 : (upd M2 r3 (.lst (us.take sp ++ [vb]))) r3 = some (.lst (us.take sp ++ [vb])) := upd_same
          generalize upd M2 r3 (.lst (us.take sp ++ [vb])) = M3 at *
          have c13 := (c1.trans c2).trans c3
          refine ⟨_, rfl, _, rfl, _, rfl, Fr, _, rfl, .inl (.inl (c13 _ _ hF30)), fun r4 nr4 => ?_⟩
          rw [cut_from hspl]
          have c4 := same_upd (o := .lst (us.drop sp)) nr4
          have g4 : (upd M3 r4 (.lst (us.drop sp))) r4 = some (.lst (us.drop sp)) := upd_same
          generalize upd M3 r4 (.lst (us.drop sp)) = M4 at *
          refine ⟨r3, r4, _, _, rfl, rfl, c4 _ _ g3, g4, (by rw [hz, List.length_append, List.length_take, List.length_drop]; simp; omega), fun r5 nr5 => ?_⟩
          have c5 := same_upd (o := .lst (us.take sp ++ [vb] ++ us.drop sp)) nr5
          have g5 : (upd M4 r5 (.lst (us.take sp ++ [vb] ++ us.drop sp))) r5 = some (.lst (us.take sp ++ [vb] ++ us.drop sp)) := upd_same
          generalize upd M4 r5 (.lst (us.take sp ++ [vb] ++ us.drop sp)) = M5 at *
          have c15 := (c13.trans c4).trans c5
          have hany : Paired (AnyAt M5) (its.map toAny) us := (row_any hrow30).mono fun y v h => h.same c15
          have hall : Paired (AnyAt M5) ((its.map toAny).take sp ++ [xb] ++ (its.map toAny).drop sp) (us.take sp ++ [vb] ++ us.drop sp) := pApp (pApp (pTake hany sp) (.cons (hab.same c15) .nil)) (pDrop hany sp)
          refine ⟨_, rfl, _, rfl, r5, ld, _, _, lead, rfl, g5, hall, c15 _ _ hld30, hk, by omega, ?_, fun H40 s40 => ⟨_, rfl, iteF ⟨_, _, _, _, _, _, rfl, (sH30.trans c15).trans s40⟩⟩⟩
          rw [List.length_append, List.length_append, List.length_take, List.length_drop, List.length_map]
          simp
          omega
        · obtain ⟨z12, z13, z14, z15, z16, z17, rfl, sm3⟩ := h
          exact ⟨_, _, _, _, _, _, _, _, _, _, _, _, rfl, s820.trans sm3⟩
    · obtain ⟨y6, y7, y8, y9, y10, y11, y12, y13, y14, y15, y16, y17, rfl, sm⟩ := h
      have hmi' := hmi.same sm
      have s0 := s08.trans sm
      refine ⟨(by show 2 ≤ sizeLine; rw [hz]; decide), fun ta nta => ⟨(by show 2 ≤ sizeLine; rw [hz]; decide), fun tb ntb => ⟨(by show 4 ≤ sizeLine; rw [hz]; decide), fun ll nll => ?_⟩⟩⟩
      have q1 := same_upd (o := .tup [.int 3, .int 2]) nta
      have e1 : (upd H' ta (.tup [.int 3, .int 2])) ta = some (.tup [.int 3, .int 2]) := upd_same
      generalize upd H' ta (.tup [.int 3, .int 2]) = G1 at *
      have q2 := same_upd (o := .tup [.int 3, .int 3]) ntb
      have e2 : (upd G1 tb (.tup [.int 3, .int 3])) tb = some (.tup [.int 3, .int 3]) := upd_same
      generalize upd G1 tb (.tup [.int 3, .int 3]) = G2 at *
      have q3 := same_upd (o := .lst [.int 97, .ref ta, .ref tb, .int 98]) nll
      have e3 : (upd G2 ll (.lst [.int 97, .ref ta, .ref tb, .int 98])) ll = some (.lst [.int 97, .ref ta, .ref tb, .int 98]) := upd_same
      generalize upd G2 ll (.lst [.int 97, .ref ta, .ref tb, .int 98]) = G3 at *
      have q23 := q2.trans q3
      have r4 : RowAt G3 [.b 97, .c 3 2, .c 3 3, .b 98] [.int 97, .ref ta, .ref tb, .int 98] := .cons rfl (.cons ⟨ta, rfl, q23 _ _ e1⟩ (.cons ⟨tb, rfl, q3 _ _ e2⟩ (.cons rfl .nil)))
      have k4 : ∀ it ∈ ([.b 97, .c 3 2, .c 3 3, .b 98] : List Itm), ItmOk it := by
        intro it m
        simp only [List.mem_cons, List.not_mem_nil, or_false] at m
        rcases m with rfl | rfl | rfl | rfl
        · show 97 < 256; decide
        · exact ⟨by decide, by decide, by decide, by decide⟩
        · exact ⟨by decide, by decide, by decide, by decide⟩
        · show 98 < 256; decide
      have b4 : bitsO ownL ownB [.b 97, .c 3 2, .c 3 3, .b 98] = some 12 := by decide +kernel
      have q03 := q1.trans q23
      refine ⟨_, rfl, ll, x, _, _, ownL, ownB, rfl, e3, r4, k4, by decide, hmi'.same q03, own_good.1, own_good.2, fun G4 q4 => ?_⟩
      rw [b4]
      refine ⟨rfl, _, rfl, iteC (decide_eq_true rfl) ?_⟩
      have q04 := q03.trans q4
      refine ⟨(by show 2 ≤ sizeLine; rw [hz]; decide), fun tc ntc => ⟨(by show 2 ≤ sizeLine; rw [hz]; decide), fun l2 nl2 => ?_⟩⟩
      have q5 := same_upd (o := .tup [.int 4, .int 2]) ntc
      have e5 : (upd G4 tc (.tup [.int 4, .int 2])) tc = some (.tup [.int 4, .int 2]) := upd_same
      generalize upd G4 tc (.tup [.int 4, .int 2]) = G5 at *
      have q6 := same_upd (o := .lst [.int 97, .ref tc]) nl2
      have e6 : (upd G5 l2 (.lst [.int 97, .ref tc])) l2 = some (.lst [.int 97, .ref tc]) := upd_same
      generalize upd G5 l2 (.lst [.int 97, .ref tc]) = G6 at *
      have r2 : RowAt G6 [.b 97, .c 4 2] [.int 97, .ref tc] := .cons rfl (.cons ⟨tc, rfl, q6 _ _ e5⟩ .nil)
      have k2 : ∀ it ∈ ([.b 97, .c 4 2] : List Itm), ItmOk it := by
        intro it m
        simp only [List.mem_cons, List.not_mem_nil, or_false] at m
        rcases m with rfl | rfl
        · show 97 < 256; decide
        · exact ⟨by decide, by decide, by decide, by decide⟩
      have b2 : bitsO ownL ownB [.b 97, .c 4 2] = none := by decide +kernel
      have q06 := (q04.trans q5).trans q6
      refine ⟨_, rfl, l2, x, _, _, ownL, ownB, rfl, e6, r2, k2, by decide, hmi'.same q06, own_good.1, own_good.2, fun G7 q7 => ?_⟩
      rw [b2]
      exact q G7 (s0.trans (q06.trans q7))
end
end K3

namespace K3
open PySem PySem.Spec PyProof.Rows L2
/-! ### law, and what the top has written -/
theorem scLaw : FnScope ["_law_script"] ["_law_script"] (defScope sLaw) := ⟨rfl, rfl, rfl, by decide +kernel, rfl, by decide +kernel, by decide +kernel⟩
section
variable {P : Program} {w : World} {K : PySem.W.Frag} {mg : Str → Option Value} {base : Heap}
theorem ok_law {f fA : Addr} {fd fdA : FuncData} {j : Nat} (F : Fun K "law" "law" sLaw f fd)
    (GA : FnOk P w K mg base CX0 (j + 8) fA fdA ["_law_script"] (spAll K)) (bA : Binds K fdA ["_law_script"] []) (kA : PySem.W.keepIn K (.ref fA) = true) (gA : mg "_law_all_right" = some (.ref fA)) : FnOk P w K mg base CX0 (j + 9) f fd ["_law_script"] (spAll K) := by
  refine F.ok scLaw (fun vs H Q E h => ?_) (fun cdv A outer s H vs Q E hr h => ?_)
  · obtain ⟨p, xs, rfl, _⟩ := h
    rfl
  · refine ⟨_, pss_one (ps_try_thru0 (pss_one (ps_ret (pe_call GA hr (by rfl) gA kA bA .nil pass0 (pa_cons (pv 0) pa_nil))))), ?_⟩
    obtain ⟨p, xs, rfl, hp, q⟩ := h
    exact ⟨_, rfl, p, xs, rfl, hp, q⟩
end
/-- where the parts of BadItems' __init__ stand in the text -/
def qBI : Nat → Pos
  | 0 => ⟨13, 8, 13, 13⟩
  | 1 => ⟨13, 8, 13, 15⟩
  | 2 => ⟨13, 8, 13, 24⟩
  | 3 => ⟨13, 27, 13, 52⟩
  | 4 => ⟨13, 53, 13, 55⟩
  | 5 => ⟨13, 52, 13, 56⟩
  | 6 => ⟨13, 25, 13, 57⟩
  | 7 => ⟨13, 8, 13, 58⟩
  | 8 => ⟨13, 8, 13, 58⟩
  | 9 => ⟨14, 8, 14, 12⟩
  | 10 => ⟨14, 8, 14, 15⟩
  | 11 => ⟨14, 18, 14, 20⟩
  | 12 => ⟨14, 8, 14, 20⟩
  | _ => ⟨13, 8, 13, 13⟩
theorem exm_own {K : PySem.W.Frag} {S : Addr} (h1 : PySem.W.subIn K (.ref S) (.type "BaseException") = some true) (h2 : PySem.W.isClsIn K S = true) (h3 : PySem.W.typeIn K (.ref S) = some (.type "type")) (h4 : PySem.W.subIn K (.ref S) (.ref S) = some true) : PySem.W.exmOne K (.ref S) (.ref S) = some true := by
  have a : (PySem.W.subIn K (.ref S) (.type "BaseException") == some true) = true := by rw [h1]; rfl
  have b : ((PySem.W.clsIn K S).isSome && PySem.W.typeIn K (.ref S) == some (.type "type")) = true := by
    rw [show (PySem.W.clsIn K S).isSome = true from h2, h3]; rfl
  exact (if_pos a).trans ((if_pos b).trans h4)
theorem qBI_ok : SX.SxPos qBI := fun env o es pe => ⟨_, rfl⟩
theorem sqt_of {K : PySem.W.Frag} {H : Hp} {a : Addr} {dd : Option Addr} {its : Array Value} {n : Nat} {sl : Array (Option Value)} {xs : List V} (h : K.lookup a = some ⟨.type "tuple", dd, .seq its n, sl⟩) (z : its.size ≤ sizeLine) (r : Vals xs its.toList) : SqT K H a xs :=
  .inr ⟨_, its, n, h, rfl, rfl, z, r⟩
theorem runs_of {K : PySem.W.Frag} {mg : Str → Option Value} {x : Str} {l1 : Int} {n1 : Nat} {l2 : Int} {n2 : Nat} {T t1 t2 : Addr} {d0 d1 d2 : Option Addr} {c0 c1 c2 : Nat} {s0 s1 s2 : Array (Option Value)} {k1 k2 k3 k4 : Tok} (g : mg x = some (.ref T))
    (h0 : K.lookup T = some ⟨.type "tuple", d0, .seq #[.ref t1, .ref t2] c0, s0⟩) (h1 : K.lookup t1 = some ⟨.type "tuple", d1, .seq #[.int l1 k1, .int (n1 : Int) k2] c1, s1⟩) (h2 : K.lookup t2 = some ⟨.type "tuple", d2, .seq #[.int l2 k3, .int (n2 : Int) k4] c2, s2⟩) : RunsAt K mg x l1 n1 l2 n2 := by
  have hz := PySem.sizeLine_eq
  exact ⟨T, t1, t2, g, fun H => ⟨sqt_of h0 (by rw [hz]; show 2 ≤ 16777216; decide) (.cons rfl (.cons rfl .nil)), sqt_of h1 (by rw [hz]; show 2 ≤ 16777216; decide) (.cons ⟨_, rfl⟩ (.cons ⟨_, rfl⟩ .nil)), sqt_of h2 (by rw [hz]; show 2 ≤ 16777216; decide) (.cons ⟨_, rfl⟩ (.cons ⟨_, rfl⟩ .nil))⟩⟩
theorem all_mk {l : PySem.W.OpenLaw} {w : World} {K : PySem.W.Frag} {h : Heap} {mg : Str → Option Value} {fa : Addr} (X : K.In h) (G : h.Ns mainGlobals mg) (hfa : mg "law" = some (.ref fa))
    {f0 f1 f2 f3 f4 f5 f6 f7 f8 f9 f10 f11 f12 f13 f14 f15 f16 f17 f18 f19 f20 f21 f22 f23 f24 f25 f26 f27 f28 f29 f30 f31 C CI CP fE cda cc xN Tr rt1 rt2 Tq qt1 qt2 : Addr} {od0 an0 od1 an1 od2 an2 od3 an3 od4 an4 od5 an5 od6 an6 od7 an7 od8 an8 od9 an9 od10 an10 od11 an11 od12 an12 od13 an13 od14 an14 od15 an15 od16 an16 od17 an17 od18 an18 od19 an19 od20 an20 od21 an21 od22 an22 od23 an23 od24 an24 od25 an25 od26 an26 od27 an27 od28 an28 od29 an29 od30 an30 od31 an31 xdd odE anE cdd xcld rd0 rd1 rd2 qd0 qd1 qd2 : Option Addr} {sl0 sl1 sl2 sl3 sl4 sl5 sl6 sl7 sl8 sl9 sl10 sl11 sl12 sl13 sl14 sl15 sl16 sl17 sl18 sl19 sl20 sl21 sl22 sl23 sl24 sl25 sl26 sl27 sl28 sl29 sl30 sl31 slE ccs xcsl rs0 rs1 rs2 qs0 qs1 qs2 : Array (Option Value)} {oc0 kV0 dc0 pm0 ct0 cd0 oc1 kV1 dc1 pm1 ct1 cd1 oc2 kV2 dc2 pm2 ct2 cd2 oc3 kV3 dc3 pm3 ct3 cd3 oc4 kV4 dc4 pm4 ct4 cd4 oc5 kV5 dc5 pm5 ct5 cd5 oc6 kV6 dc6 pm6 ct6 cd6 oc7 kV7 dc7 pm7 ct7 cd7 oc8 kV8 dc8 pm8 ct8 cd8 oc9 kV9 dc9 pm9 ct9 cd9 oc10 kV10 dc10 pm10 ct10 cd10 oc11 kV11 dc11 pm11 ct11 cd11 oc12 kV12 dc12 pm12 ct12 cd12 oc13 kV13 dc13 pm13 ct13 cd13 oc14 kV14 dc14 pm14 ct14 cd14 oc15 kV15 dc15 pm15 ct15 cd15 oc16 kV16 dc16 pm16 ct16 cd16 oc17 kV17 dc17 pm17 ct17 cd17 oc18 kV18 dc18 pm18 ct18 cd18 oc19 kV19 dc19 pm19 ct19 cd19 oc20 kV20 dc20 pm20 ct20 cd20 oc21 kV21 dc21 pm21 ct21 cd21 oc22 kV22 dc22 pm22 ct22 cd22 oc23 kV23 dc23 pm23 ct23 cd23 oc24 kV24 dc24 pm24 ct24 cd24 oc25 kV25 dc25 pm25 ct25 cd25 oc26 kV26 dc26 pm26 ct26 cd26 oc27 kV27 dc27 pm27 ct27 cd27 oc28 kV28 dc28 pm28 ct28 cd28 oc29 kV29 dc29 pm29 ct29 cd29 oc30 kV30 dc30 pm30 ct30 cd30 oc31 kV31 dc31 pm31 ct31 cd31 ocE dcE pmE ctE ccl xcl : Value} {xvs : Array Value} {xfile xnm xq : Str} {xbs xsub : List Value} {xsn : List Str} {xab : Bool} {xcol : Option Bool} {y0 y1 y2 y3 y5 : Option Value} {rn0 rn1 rn2 qn0 qn1 qn2 : Nat} {tS xtf rk1 rk2 rk3 rk4 qk1 qk2 qk3 qk4 tv0 tv1 tv2 tv3 tv4 tv5 tv6 tv7 : Tok}
    (a0 : PySem.W.nsIn K mainGlobals "is_whole" = some (some (.ref f0))) (l0 : K.lookup f0 = some ⟨oc0, od0, .func (PySem.W.fnOf "is_whole" "is_whole" (defArgs sWhole) (defBody sWhole) (defScope sWhole) .none kV0 dc0 pm0 an0 cd0 ct0), sl0⟩) (c0 : PySem.W.codeIn K cd0 "is_whole" = true) (k0 : PySem.W.keepIn K (.ref f0) = true)
    (a1 : PySem.W.nsIn K mainGlobals "is_number" = some (some (.ref f1))) (l1 : K.lookup f1 = some ⟨oc1, od1, .func (PySem.W.fnOf "is_number" "is_number" (defArgs sIsNum) (defBody sIsNum) (defScope sIsNum) .none kV1 dc1 pm1 an1 cd1 ct1), sl1⟩) (c1 : PySem.W.codeIn K cd1 "is_number" = true) (k1 : PySem.W.keepIn K (.ref f1) = true)
    (a2 : PySem.W.nsIn K mainGlobals "are_numbers" = some (some (.ref f2))) (l2 : K.lookup f2 = some ⟨oc2, od2, .func (PySem.W.fnOf "are_numbers" "are_numbers" (defArgs sAreNum) (defBody sAreNum) (defScope sAreNum) .none kV2 dc2 pm2 an2 cd2 ct2), sl2⟩) (c2 : PySem.W.codeIn K cd2 "are_numbers" = true) (k2 : PySem.W.keepIn K (.ref f2) = true)
    (a3 : PySem.W.nsIn K mainGlobals "are_bytes" = some (some (.ref f3))) (l3 : K.lookup f3 = some ⟨oc3, od3, .func (PySem.W.fnOf "are_bytes" "are_bytes" (defArgs sAreBytes) (defBody sAreBytes) (defScope sAreBytes) .none kV3 dc3 pm3 an3 cd3 ct3), sl3⟩) (c3 : PySem.W.codeIn K cd3 "are_bytes" = true) (k3 : PySem.W.keepIn K (.ref f3) = true)
    (a4 : PySem.W.nsIn K mainGlobals "of_hex" = some (some (.ref f4))) (l4 : K.lookup f4 = some ⟨oc4, od4, .func (PySem.W.fnOf "of_hex" "of_hex" (defArgs sOfHex) (defBody sOfHex) (defScope sOfHex) .none kV4 dc4 pm4 an4 cd4 ct4), sl4⟩) (c4 : PySem.W.codeIn K cd4 "of_hex" = true) (k4 : PySem.W.keepIn K (.ref f4) = true)
    (a5 : PySem.W.nsIn K mainGlobals "hex_of" = some (some (.ref f5))) (l5 : K.lookup f5 = some ⟨oc5, od5, .func (PySem.W.fnOf "hex_of" "hex_of" (defArgs sHexOf) (defBody sHexOf) (defScope sHexOf) .none kV5 dc5 pm5 an5 cd5 ct5), sl5⟩) (c5 : PySem.W.codeIn K cd5 "hex_of" = true) (k5 : PySem.W.keepIn K (.ref f5) = true)
    (a6 : PySem.W.nsIn K mainGlobals "are_good" = some (some (.ref f6))) (l6 : K.lookup f6 = some ⟨oc6, od6, .func (PySem.W.fnOf "are_good" "are_good" (defArgs sAreGood) (defBody sAreGood) (defScope sAreGood) .none kV6 dc6 pm6 an6 cd6 ct6), sl6⟩) (c6 : PySem.W.codeIn K cd6 "are_good" = true) (k6 : PySem.W.keepIn K (.ref f6) = true)
    (a7 : PySem.W.nsIn K mainGlobals "are_prices" = some (some (.ref f7))) (l7 : K.lookup f7 = some ⟨oc7, od7, .func (PySem.W.fnOf "are_prices" "are_prices" (defArgs sAreP) (defBody sAreP) (defScope sAreP) .none kV7 dc7 pm7 an7 cd7 ct7), sl7⟩) (c7 : PySem.W.codeIn K cd7 "are_prices" = true) (k7 : PySem.W.keepIn K (.ref f7) = true)
    (a8 : PySem.W.nsIn K mainGlobals "told_prices" = some (some (.ref f8))) (l8 : K.lookup f8 = some ⟨oc8, od8, .func (PySem.W.fnOf "told_prices" "told_prices" (defArgs sToldP) (defBody sToldP) (defScope sToldP) .none kV8 dc8 pm8 an8 cd8 ct8), sl8⟩) (c8 : PySem.W.codeIn K cd8 "told_prices" = true) (k8 : PySem.W.keepIn K (.ref f8) = true)
    (a9 : PySem.W.nsIn K mainGlobals "drawn_out" = some (some (.ref f9))) (l9 : K.lookup f9 = some ⟨oc9, od9, .func (PySem.W.fnOf "drawn_out" "drawn_out" (defArgs sDrawn) (defBody sDrawn) (defScope sDrawn) .none kV9 dc9 pm9 an9 cd9 ct9), sl9⟩) (c9 : PySem.W.codeIn K cd9 "drawn_out" = true) (k9 : PySem.W.keepIn K (.ref f9) = true)
    (a10 : PySem.W.nsIn K mainGlobals "back_of" = some (some (.ref f10))) (l10 : K.lookup f10 = some ⟨oc10, od10, .func (PySem.W.fnOf "back_of" "back_of" (defArgs sBackOf) (defBody sBackOf) (defScope sBackOf) .none kV10 dc10 pm10 an10 cd10 ct10), sl10⟩) (c10 : PySem.W.codeIn K cd10 "back_of" = true) (k10 : PySem.W.keepIn K (.ref f10) = true)
    (a11 : PySem.W.nsIn K mainGlobals "told" = some (some (.ref f11))) (l11 : K.lookup f11 = some ⟨oc11, od11, .func (PySem.W.fnOf "told" "told" (defArgs sTld) (defBody sTld) (defScope sTld) .none kV11 dc11 pm11 an11 cd11 ct11), sl11⟩) (c11 : PySem.W.codeIn K cd11 "told" = true) (k11 : PySem.W.keepIn K (.ref f11) = true)
    (a12 : PySem.W.nsIn K mainGlobals "bits_of" = some (some (.ref f12))) (l12 : K.lookup f12 = some ⟨oc12, od12, .func (PySem.W.fnOf "bits_of" "bits_of" (defArgs sBits) (defBody sBits) (defScope sBits) .none kV12 dc12 pm12 an12 cd12 ct12), sl12⟩) (c12 : PySem.W.codeIn K cd12 "bits_of" = true) (k12 : PySem.W.keepIn K (.ref f12) = true)
    (a13 : PySem.W.nsIn K mainGlobals "is_item" = some (some (.ref f13))) (l13 : K.lookup f13 = some ⟨oc13, od13, .func (PySem.W.fnOf "is_item" "is_item" (defArgs sIsItem) (defBody sIsItem) (defScope sIsItem) .none kV13 dc13 pm13 an13 cd13 ct13), sl13⟩) (c13 : PySem.W.codeIn K cd13 "is_item" = true) (k13 : PySem.W.keepIn K (.ref f13) = true)
    (a14 : PySem.W.nsIn K mainGlobals "bytes_behind" = some (some (.ref f14))) (l14 : K.lookup f14 = some ⟨oc14, od14, .func (PySem.W.fnOf "bytes_behind" "bytes_behind" (defArgs sBehind) (defBody sBehind) (defScope sBehind) .none kV14 dc14 pm14 an14 cd14 ct14), sl14⟩) (c14 : PySem.W.codeIn K cd14 "bytes_behind" = true) (k14 : PySem.W.keepIn K (.ref f14) = true)
    (a15 : PySem.W.nsIn K mainGlobals "copy_behind" = some (some (.ref f15))) (l15 : K.lookup f15 = some ⟨oc15, od15, .func (PySem.W.fnOf "copy_behind" "copy_behind" (defArgs sCopyB) (defBody sCopyB) (defScope sCopyB) .none kV15 dc15 pm15 an15 cd15 ct15), sl15⟩) (c15 : PySem.W.codeIn K cd15 "copy_behind" = true) (k15 : PySem.W.keepIn K (.ref f15) = true)
    (a16 : PySem.W.nsIn K mainGlobals "item_bits" = some (some (.ref f16))) (l16 : K.lookup f16 = some ⟨oc16, od16, .func (PySem.W.fnOf "item_bits" "item_bits" (defArgs sItemB) (defBody sItemB) (defScope sItemB) .none kV16 dc16 pm16 an16 cd16 ct16), sl16⟩) (c16 : PySem.W.codeIn K cd16 "item_bits" = true) (k16 : PySem.W.keepIn K (.ref f16) = true)
    (a17 : PySem.W.nsIn K mainGlobals "_law_cell_at" = some (some (.ref f17))) (l17 : K.lookup f17 = some ⟨oc17, od17, .func (PySem.W.fnOf "_law_cell_at" "_law_cell_at" (defArgs sCell) (defBody sCell) (defScope sCell) .none kV17 dc17 pm17 an17 cd17 ct17), sl17⟩) (c17 : PySem.W.codeIn K cd17 "_law_cell_at" = true) (k17 : PySem.W.keepIn K (.ref f17) = true)
    (a18 : PySem.W.nsIn K mainGlobals "_law_numbers" = some (some (.ref f18))) (l18 : K.lookup f18 = some ⟨oc18, od18, .func (PySem.W.fnOf "_law_numbers" "_law_numbers" (defArgs sNums) (defBody sNums) (defScope sNums) .none kV18 dc18 pm18 an18 cd18 ct18), sl18⟩) (c18 : PySem.W.codeIn K cd18 "_law_numbers" = true) (k18 : PySem.W.keepIn K (.ref f18) = true)
    (a19 : PySem.W.nsIn K mainGlobals "_law_hex" = some (some (.ref f19))) (l19 : K.lookup f19 = some ⟨oc19, od19, .func (PySem.W.fnOf "_law_hex" "_law_hex" (defArgs sHex) (defBody sHex) (defScope sHex) .none kV19 dc19 pm19 an19 cd19 ct19), sl19⟩) (c19 : PySem.W.codeIn K cd19 "_law_hex" = true) (k19 : PySem.W.keepIn K (.ref f19) = true)
    (a20 : PySem.W.nsIn K mainGlobals "_law_data" = some (some (.ref f20))) (l20 : K.lookup f20 = some ⟨oc20, od20, .func (PySem.W.fnOf "_law_data" "_law_data" (defArgs sData) (defBody sData) (defScope sData) .none kV20 dc20 pm20 an20 cd20 ct20), sl20⟩) (c20 : PySem.W.codeIn K cd20 "_law_data" = true) (k20 : PySem.W.keepIn K (.ref f20) = true)
    (a21 : PySem.W.nsIn K mainGlobals "_law_back" = some (some (.ref f21))) (l21 : K.lookup f21 = some ⟨oc21, od21, .func (PySem.W.fnOf "_law_back" "_law_back" (defArgs sBack) (defBody sBack) (defScope sBack) .none kV21 dc21 pm21 an21 cd21 ct21), sl21⟩) (c21 : PySem.W.codeIn K cd21 "_law_back" = true) (k21 : PySem.W.keepIn K (.ref f21) = true)
    (a22 : PySem.W.nsIn K mainGlobals "_law_cost" = some (some (.ref f22))) (l22 : K.lookup f22 = some ⟨oc22, od22, .func (PySem.W.fnOf "_law_cost" "_law_cost" (defArgs sCost) (defBody sCost) (defScope sCost) .none kV22 dc22 pm22 an22 cd22 ct22), sl22⟩) (c22 : PySem.W.codeIn K cd22 "_law_cost" = true) (k22 : PySem.W.keepIn K (.ref f22) = true)
    (a23 : PySem.W.nsIn K mainGlobals "_law_told_lengths" = some (some (.ref f23))) (l23 : K.lookup f23 = some ⟨oc23, od23, .func (PySem.W.fnOf "_law_told_lengths" "_law_told_lengths" (defArgs sTold) (defBody sTold) (defScope sTold) .none kV23 dc23 pm23 an23 cd23 ct23), sl23⟩) (c23 : PySem.W.codeIn K cd23 "_law_told_lengths" = true) (k23 : PySem.W.keepIn K (.ref f23) = true)
    (a24 : PySem.W.nsIn K mainGlobals "_law_row" = some (some (.ref f24))) (l24 : K.lookup f24 = some ⟨oc24, od24, .func (PySem.W.fnOf "_law_row" "_law_row" (defArgs sRow) (defBody sRow) (defScope sRow) .none kV24 dc24 pm24 an24 cd24 ct24), sl24⟩) (c24 : PySem.W.codeIn K cd24 "_law_row" = true) (k24 : PySem.W.keepIn K (.ref f24) = true)
    (a25 : PySem.W.nsIn K mainGlobals "_law_first_bad" = some (some (.ref f25))) (l25 : K.lookup f25 = some ⟨oc25, od25, .func (PySem.W.fnOf "_law_first_bad" "_law_first_bad" (defArgs sFirst) (defBody sFirst) (defScope sFirst) .none kV25 dc25 pm25 an25 cd25 ct25), sl25⟩) (c25 : PySem.W.codeIn K cd25 "_law_first_bad" = true) (k25 : PySem.W.keepIn K (.ref f25) = true)
    (a26 : PySem.W.nsIn K mainGlobals "_law_judged" = some (some (.ref f26))) (l26 : K.lookup f26 = some ⟨oc26, od26, .func (PySem.W.fnOf "_law_judged" "_law_judged" (defArgs sJudged) (defBody sJudged) (defScope sJudged) .none kV26 dc26 pm26 an26 cd26 ct26), sl26⟩) (c26 : PySem.W.codeIn K cd26 "_law_judged" = true) (k26 : PySem.W.keepIn K (.ref f26) = true)
    (a27 : PySem.W.nsIn K mainGlobals "_law_all_right" = some (some (.ref f27))) (l27 : K.lookup f27 = some ⟨oc27, od27, .func (PySem.W.fnOf "_law_all_right" "_law_all_right" (defArgs sAll) (defBody sAll) (defScope sAll) .none kV27 dc27 pm27 an27 cd27 ct27), sl27⟩) (c27 : PySem.W.codeIn K cd27 "_law_all_right" = true) (k27 : PySem.W.keepIn K (.ref f27) = true)
    (a28 : PySem.W.nsIn K mainGlobals "law" = some (some (.ref f28))) (l28 : K.lookup f28 = some ⟨oc28, od28, .func (PySem.W.fnOf "law" "law" (defArgs sLaw) (defBody sLaw) (defScope sLaw) .none kV28 dc28 pm28 an28 cd28 ct28), sl28⟩) (c28 : PySem.W.codeIn K cd28 "law" = true) (k28 : PySem.W.keepIn K (.ref f28) = true)
    (m0 : PySem.W.findIn K (.ref C) "__init__" = some (some (.ref f29))) (n0 : PySem.W.isFn K (.ref f29) = true) (l29 : K.lookup f29 = some ⟨oc29, od29, .func (PySem.W.fnOf "__init__" "Prices.__init__" (defArgs sPInit) (defBody sPInit) (defScope sPInit) .none kV29 dc29 pm29 an29 cd29 ct29), sl29⟩) (c29 : PySem.W.codeIn K cd29 "Prices.__init__" = true) (k29 : PySem.W.keepIn K (.ref f29) = true)
    (m1 : PySem.W.findIn K (.ref C) "letters" = some (some (.ref f30))) (n1 : PySem.W.isFn K (.ref f30) = true) (l30 : K.lookup f30 = some ⟨oc30, od30, .func (PySem.W.fnOf "letters" "Prices.letters" (defArgs sPLet) (defBody sPLet) (defScope sPLet) .none kV30 dc30 pm30 an30 cd30 ct30), sl30⟩) (c30 : PySem.W.codeIn K cd30 "Prices.letters" = true) (k30 : PySem.W.keepIn K (.ref f30) = true)
    (m2 : PySem.W.findIn K (.ref C) "backs" = some (some (.ref f31))) (n2 : PySem.W.isFn K (.ref f31) = true) (l31 : K.lookup f31 = some ⟨oc31, od31, .func (PySem.W.fnOf "backs" "Prices.backs" (defArgs sPBk) (defBody sPBk) (defScope sPBk) .none kV31 dc31 pm31 an31 cd31 ct31), sl31⟩) (c31 : PySem.W.codeIn K cd31 "Prices.backs" = true) (k31 : PySem.W.keepIn K (.ref f31) = true)
    (aC : PySem.W.nsIn K mainGlobals "Prices" = some (some (.ref C))) (p0 : PySem.W.plainGet K C Str.empty = true) (p1 : PySem.W.hasDictIn K C = true) (p2 : PySem.W.plainOver K C = true) (p3 : PySem.W.findIn K (.ref C) "__setattr__" = some (some (.builtin "object.__setattr__"))) (p4 : PySem.W.findIn K (.ref C) "_letters" = some none) (p5 : PySem.W.findIn K (.ref C) "_backs" = some none) (p6 : PySem.W.makesIn K C = true) (p7 : PySem.W.keepIn K (.ref C) = true) (p8 : PySem.W.findIn K (.ref C) "__class__" = some (some (.builtin "object.__class__"))) (p9 : PySem.W.specialIn K (.builtin "object.__class__") "__get__" = some (some (.builtin "getset_descriptor.__get__"))) (p10 : PySem.W.takesIn K (.builtin "object.__class__") = some true) (p11 : PySem.W.mroIn K C (.type "object") = some true) (p12 : PySem.W.kitOne K (.ref C) (.ref C) = some true)
    (e0 : PySem.W.nsIn K mainGlobals "BadItems" = some (some (.ref CI))) (e1 : K.lookup CI = some (excClassObj xnm xq CI xN xbs [.ref CP, .type "ValueError", .type "Exception", .type "BaseException", .type "object"] true xsn xsub xab xcol xdd y0 y1 y2 y3 y5 "ValueError.__new__")) (e2 : PySem.W.alongIn K "__init__" [.ref CP, .type "ValueError", .type "Exception", .type "BaseException", .type "object"] = some (some (.builtin "ValueError.__init__"))) (e3 : PySem.W.findIn K (.ref CI) "__setattr__" = some (some (.builtin "object.__setattr__"))) (e4 : PySem.W.findIn K (.ref CI) "__getattribute__" = some (some (.builtin "BaseException.__getattribute__"))) (e5 : PySem.W.findIn K (.ref CI) "__getattr__" = some none) (e6 : PySem.W.findIn K (.ref CI) "at" = some none) (e7 : PySem.W.findIn K (.ref CI) "__init__" = some (some (.ref fE))) (e8 : PySem.W.typeIn K (.ref fE) = some (.type "function")) (e9 : PySem.W.keepIn K (.ref CI) = true) (e10 : PySem.W.subIn K (.ref CI) (.type "BaseException") = some true) (e11 : PySem.W.subIn K (.ref CI) (.type "ValueError") = some true) (e12 : PySem.W.subIn K (.ref CI) (.ref CI) = some true) (e13 : PySem.W.typeIn K (.ref CI) = some (.type "type")) (e14 : PySem.W.hasDictIn K CI = true) (e15 : PySem.W.nsIn K PySem.cStatics "thirdparty.any" = some none) (e16 : (l.prog.main.scope.names.lookup ("super" : Str)).isSome = false)
    (e17 : K.lookup fE = some ⟨ocE, odE, .func (PySem.W.ksFn "__init__" "BadItems.__init__" (SX.sxA "at" ⟨12, 17, 12, 21⟩ ⟨12, 23, 12, 25⟩) (SX.sxB "at" "no row of items, seen at " 0 qBI) (SX.sxS "at") .none .none dcE pmE anE (.ref cda) ctE cc), slE⟩) (e18 : PySem.W.codeIn K (.ref cda) "BadItems.__init__" = true) (e19 : K.lookup cda = some ⟨ccl, cdd, .fields xvs, ccs⟩) (e20 : xvs[2]? = some (.str xfile xtf)) (e21 : ((l.prog.main.file : Str) == xfile) = true) (e22 : K.lookup cc = some ⟨xcl, xcld, .cell (some (.ref CI)), xcsl⟩) (e23 : PySem.W.isClsIn K CI = true)
    (s0 : PySem.W.nsIn K mainGlobals "SIGNS" = some (some (.str hexTab tS)))
    (r0 : PySem.W.nsIn K mainGlobals "TOLD_LETTERS" = some (some (.ref Tr))) (r1 : K.lookup Tr = some ⟨.type "tuple", rd0, .seq #[.ref rt1, .ref rt2] rn0, rs0⟩) (r2 : K.lookup rt1 = some ⟨.type "tuple", rd1, .seq #[.int 8 rk1, .int 239 rk2] rn1, rs1⟩) (r3 : K.lookup rt2 = some ⟨.type "tuple", rd2, .seq #[.int 9 rk3, .int 34 rk4] rn2, rs2⟩)
    (q0 : PySem.W.nsIn K mainGlobals "TOLD_BACKS" = some (some (.ref Tq))) (q1 : K.lookup Tq = some ⟨.type "tuple", qd0, .seq #[.ref qt1, .ref qt2] qn0, qs0⟩) (q2 : K.lookup qt1 = some ⟨.type "tuple", qd1, .seq #[.int 4 qk1, .int 6 qk2] qn1, qs1⟩) (q3 : K.lookup qt2 = some ⟨.type "tuple", qd2, .seq #[.int 3 qk3, .int 5 qk4] qn2, qs2⟩)
    (z0 : PySem.W.nsIn K mainGlobals "isinstance" = some none)
    (z1 : PySem.W.nsIn K mainGlobals "bool" = some none)
    (z2 : PySem.W.nsIn K mainGlobals "int" = some none)
    (z3 : PySem.W.nsIn K mainGlobals "list" = some none)
    (z4 : PySem.W.nsIn K mainGlobals "all" = some none)
    (z5 : PySem.W.nsIn K mainGlobals "len" = some none)
    (z6 : PySem.W.nsIn K mainGlobals "str" = some none)
    (z7 : PySem.W.nsIn K mainGlobals "bytes" = some none)
    (z8 : PySem.W.nsIn K mainGlobals "sum" = some none)
    (z9 : PySem.W.nsIn K mainGlobals "range" = some none)
    (z10 : PySem.W.nsIn K mainGlobals "max" = some none)
    (z11 : PySem.W.nsIn K mainGlobals "min" = some none)
    (z12 : PySem.W.nsIn K mainGlobals "enumerate" = some none)
    (z13 : PySem.W.nsIn K mainGlobals "tuple" = some none)
    (z14 : PySem.W.nsIn K mainGlobals "super" = some none)
    (v0 : PySem.W.nsIn K mainGlobals "LONGEST" = some (some (.int 12 tv0)))
    (v1 : PySem.W.nsIn K mainGlobals "LETTERS" = some (some (.int 273 tv1)))
    (v2 : PySem.W.nsIn K mainGlobals "AHEAD_OF_COPIES" = some (some (.int 254 tv2)))
    (v3 : PySem.W.nsIn K mainGlobals "FEWEST_COPIED" = some (some (.int 3 tv3)))
    (v4 : PySem.W.nsIn K mainGlobals "MOST_COPIED" = some (some (.int 18 tv4)))
    (v5 : PySem.W.nsIn K mainGlobals "BACKS" = some (some (.int 11 tv5)))
    (v6 : PySem.W.nsIn K mainGlobals "FARTHEST" = some (some (.int 1024 tv6)))
    (v7 : PySem.W.nsIn K mainGlobals "MOST_AHEAD" = some (some (.int 4096 tv7))) :
    ∃ fd : FuncData, (∀ (s : Shared) (u : Value), BindsTo s fd ⟨[u], []⟩ [("_law_script", u)]) ∧ ∀ base : Heap, K.In base → base.Ns mainGlobals mg → FnOk l.prog w K mg base CX0 9 fa fd ["_law_script"] (spAll K) := by
  have e := hfa.symm.trans (PySem.W.mg_of X G a28)
  cases e
  have F0 := fun_mk (st := sWhole) l0 c0 k0
  have F1 := fun_mk (st := sIsNum) l1 c1 k1
  have F2 := fun_mk (st := sAreNum) l2 c2 k2
  have F3 := fun_mk (st := sAreBytes) l3 c3 k3
  have F4 := fun_mk (st := sOfHex) l4 c4 k4
  have F5 := fun_mk (st := sHexOf) l5 c5 k5
  have F6 := fun_mk (st := sAreGood) l6 c6 k6
  have F7 := fun_mk (st := sAreP) l7 c7 k7
  have F8 := fun_mk (st := sToldP) l8 c8 k8
  have F9 := fun_mk (st := sDrawn) l9 c9 k9
  have F10 := fun_mk (st := sBackOf) l10 c10 k10
  have F11 := fun_mk (st := sTld) l11 c11 k11
  have F12 := fun_mk (st := sBits) l12 c12 k12
  have F13 := fun_mk (st := sIsItem) l13 c13 k13
  have F14 := fun_mk (st := sBehind) l14 c14 k14
  have F15 := fun_mk (st := sCopyB) l15 c15 k15
  have F16 := fun_mk (st := sItemB) l16 c16 k16
  have F17 := fun_mk (st := sCell) l17 c17 k17
  have F18 := fun_mk (st := sNums) l18 c18 k18
  have F19 := fun_mk (st := sHex) l19 c19 k19
  have F20 := fun_mk (st := sData) l20 c20 k20
  have F21 := fun_mk (st := sBack) l21 c21 k21
  have F22 := fun_mk (st := sCost) l22 c22 k22
  have F23 := fun_mk (st := sTold) l23 c23 k23
  have F24 := fun_mk (st := sRow) l24 c24 k24
  have F25 := fun_mk (st := sFirst) l25 c25 k25
  have F26 := fun_mk (st := sJudged) l26 c26 k26
  have F27 := fun_mk (st := sAll) l27 c27 k27
  have F28 := fun_mk (st := sLaw) l28 c28 k28
  have F29 := fun_mk (st := sPInit) l29 c29 k29
  have F30 := fun_mk (st := sPLet) l30 c30 k30
  have F31 := fun_mk (st := sPBk) l31 c31 k31
  have b0 := F0.binds (ps := ["told"]) fun _ _ _ _ _ _ us hl => match us, hl with | [_], _ => rfl
  have b1 := F1.binds (ps := ["told", "least", "most"]) fun _ _ _ _ _ _ us hl => match us, hl with | [_, _, _], _ => rfl
  have b2 := F2.binds (ps := ["told", "least", "most"]) fun _ _ _ _ _ _ us hl => match us, hl with | [_, _, _], _ => rfl
  have b3 := F3.binds (ps := ["told", "most"]) fun _ _ _ _ _ _ us hl => match us, hl with | [_, _], _ => rfl
  have b4 := F4.binds (ps := ["text"]) fun _ _ _ _ _ _ us hl => match us, hl with | [_], _ => rfl
  have b5 := F5.binds (ps := ["told"]) fun _ _ _ _ _ _ us hl => match us, hl with | [_], _ => rfl
  have b6 := F6.binds (ps := ["lengths"]) fun _ _ _ _ _ _ us hl => match us, hl with | [_], _ => rfl
  have b7 := F7.binds (ps := ["lengths", "many"]) fun _ _ _ _ _ _ us hl => match us, hl with | [_, _], _ => rfl
  have b8 := F8.binds (ps := ([] : List Str)) fun _ _ _ _ _ _ us hl => match us, hl with | [], _ => rfl
  have b9 := F9.binds (ps := ["runs"]) fun _ _ _ _ _ _ us hl => match us, hl with | [_], _ => rfl
  have b10 := F10.binds (ps := ["back"]) fun _ _ _ _ _ _ us hl => match us, hl with | [_], _ => rfl
  have b12 := F12.binds (ps := ["items", "prices"]) fun _ _ _ _ _ _ us hl => match us, hl with | [_, _], _ => rfl
  have b13 := F13.binds (ps := ["item"]) fun _ _ _ _ _ _ us hl => match us, hl with | [_], _ => rfl
  have b14 := F14.binds (ps := ["items", "ahead"]) fun _ _ _ _ _ _ us hl => match us, hl with | [_, _], _ => rfl
  have b15 := F15.binds (ps := ["whole", "item"]) fun _ _ _ _ _ _ us hl => match us, hl with | [_, _], _ => rfl
  have b16 := F16.binds (ps := ["item", "letters", "backs"]) fun _ _ _ _ _ _ us hl => match us, hl with | [_, _, _], _ => rfl
  have b17 := F17.binds (ps := ["_law_script", "_law_k"]) fun _ _ _ _ _ _ us hl => match us, hl with | [_, _], _ => rfl
  have b18 := F18.binds (ps := ["_law_cell", "_law_limits"]) fun _ _ _ _ _ _ us hl => match us, hl with | [_, _], _ => rfl
  have b19 := F19.binds (ps := ["_law_numbers_here"]) fun _ _ _ _ _ _ us hl => match us, hl with | [_], _ => rfl
  have b20 := F20.binds (ps := ["_law_script", "_law_at", "_law_most"]) fun _ _ _ _ _ _ us hl => match us, hl with | [_, _, _], _ => rfl
  have b21 := F21.binds (ps := ["_law_back_here"]) fun _ _ _ _ _ _ us hl => match us, hl with | [_], _ => rfl
  have b22 := F22.binds (ps := ["_law_item", "_law_letters", "_law_backs"]) fun _ _ _ _ _ _ us hl => match us, hl with | [_, _, _], _ => rfl
  have b23 := F23.binds (ps := ([] : List Str)) fun _ _ _ _ _ _ us hl => match us, hl with | [], _ => rfl
  have b24 := F24.binds (ps := ["_law_script", "_law_at", "_law_lead"]) fun _ _ _ _ _ _ us hl => match us, hl with | [_, _, _], _ => rfl
  have b25 := F25.binds (ps := ["_law_row_here", "_law_lead"]) fun _ _ _ _ _ _ us hl => match us, hl with | [_, _], _ => rfl
  have b26 := F26.binds (ps := ["_law_row_here", "_law_lead"]) fun _ _ _ _ _ _ us hl => match us, hl with | [_, _], _ => rfl
  have b27 := F27.binds (ps := ["_law_script"]) fun _ _ _ _ _ _ us hl => match us, hl with | [_], _ => rfl
  have b29 := F29.binds (ps := ["self", "letters", "backs"]) fun _ _ _ _ _ _ us hl => match us, hl with | [_, _, _], _ => rfl
  have b30 := F30.binds (ps := ["self"]) fun _ _ _ _ _ _ us hl => match us, hl with | [_], _ => rfl
  have b31 := F31.binds (ps := ["self"]) fun _ _ _ _ _ _ us hl => match us, hl with | [_], _ => rfl
  have T : PrTxt K mg C f29 f30 f31 := { cl := ⟨p0, p1, p2, p3⟩, nL := p4, nB := p5, gC := PySem.W.mg_of X G aC, made := ⟨p6, m0, n0, p7⟩, mL := ⟨m1, n1, k30⟩, mB := ⟨m2, n2, k31⟩, ity := fun e => .ins e ⟨p0, p1, p2, p3⟩ p8 p9 p10 p11, isC := p12 }
  have TB : BadIt l.prog K mg CI fE := { gC := PySem.W.mg_of X G e0, cls := ⟨_, _, _, _, _, _, _, _, _, _, _, _, _, _, _, e1, rfl, e2⟩, sa := e3, ga := e4, gg := e5, noN := e6, iC := e7, tI := e8, kC := e9, exC := e10, veC := e11, seC := e12, tyC := e13, hdC := e14, op := e15, sup := PySem.W.mg_none_of X G z14, top := (e16), fn := ⟨_, _, _, _, _, _, _, _, _, _, _, _, _, _, _, _, _, _, _, _, _, _, e17, e18, e19, e20, e21, e22, qBI_ok⟩, fBind := fun _ _ _ _ _ _ _ _ _ _ _ _ => rfl, preS := (by decide +kernel), fSelf := (by decide +kernel), fDbg := (by decide +kernel), fLoc := (by rfl), fSup := (by rfl), fCls := (by rfl) }
  refine ⟨PySem.W.fnOf "law" "law" (defArgs sLaw) (defBody sLaw) (defScope sLaw) .none kV28 dc28 pm28 an28 cd28 ct28, fun s u => .of_eq rfl, fun base _ _ => ?_⟩
  have G0 : FnOk l.prog w K mg base CX0 (0 + 1) f0 _ ["told"] _ := ok_whole (k := 0) F0 (PySem.W.mg_none_of X G z0) (PySem.W.mg_none_of X G z1) (PySem.W.mg_none_of X G z2)
  have G1 : FnOk l.prog w K mg base CX0 (0 + 2) f1 _ ["told", "least", "most"] _ := ok_isNum (k := 0) F1 F0 G0 b0 (PySem.W.mg_of X G a0)
  have G2 : FnOk l.prog w K mg base CX0 (0 + 3) f2 _ ["told", "least", "most"] _ := ok_areNum (k := 0) F2 F1 G1 b1 (PySem.W.mg_of X G a1) (PySem.W.mg_none_of X G z0) (PySem.W.mg_none_of X G z3) (PySem.W.mg_none_of X G z4)
  have G6 : FnOk l.prog w K mg base CX0 (2 + 1) f6 _ ["lengths"] _ := ok_areGood (j := 2) F6 (PySem.W.mg_none_of X G z8) (PySem.W.mg_none_of X G z5) (PySem.W.mg_of X G v0)
  have G7 : FnOk l.prog w K mg base CX0 (0 + 4) f7 _ ["lengths", "many"] _ := ok_areP (j := 0) F7 G2 b2 k2 (PySem.W.mg_of X G a2) G6 b6 k6 (PySem.W.mg_of X G a6) (PySem.W.mg_none_of X G z5) (PySem.W.mg_of X G v0)
  have G29 : FnOk l.prog w K mg base CX0 (0 + 5) f29 _ ["self", "letters", "backs"] _ := ok_pInit (j := 0) T F29 G7 b7 k7 (PySem.W.mg_of X G a7) (PySem.W.mg_none_of X G z3) (PySem.W.mg_of X G v1) (PySem.W.mg_of X G v5)
  have G30 : FnOk l.prog w K mg base CX0 (3 + 1) f30 _ ["self"] _ := ok_pLet (j := 3) T F30 (PySem.W.mg_none_of X G z3)
  have G31 : FnOk l.prog w K mg base CX0 (3 + 1) f31 _ ["self"] _ := ok_pBk (j := 3) T F31 (PySem.W.mg_none_of X G z3)
  have G9 : FnOk l.prog w K mg base CX0 (5 + 1) f9 _ ["runs"] _ := ok_drawn (j := 5) F9
  have G8 : FnOk l.prog w K mg base CX0 (0 + 7) f8 _ [] _ := ok_toldP (j := 0) T F8 G29 b29 G9 b9 k9 (PySem.W.mg_of X G a9) (runs_of (PySem.W.mg_of X G r0) r1 r2 r3) (runs_of (PySem.W.mg_of X G q0) q1 q2 q3)
  have G10 : FnOk l.prog w K mg base CX0 (2 + 1) f10 _ ["back"] _ := ok_backOf (j := 2) F10
  have G13 : FnOk l.prog w K mg base CX0 (0 + 3) f13 _ ["item"] _ := ok_isItem (j := 0) F13 G1 b1 k1 (PySem.W.mg_of X G a1) (PySem.W.mg_none_of X G z0) (PySem.W.mg_none_of X G z13) (PySem.W.mg_none_of X G z5) (PySem.W.mg_of X G v3) (PySem.W.mg_of X G v4) (PySem.W.mg_of X G v6)
  have G13' : FnOk l.prog w K mg base CX0 (1 + 3) f13 _ ["item"] _ := ok_isItem (j := 1) F13 (ok_isNum (k := 1) F1 F0 (ok_whole (k := 1) F0 (PySem.W.mg_none_of X G z0) (PySem.W.mg_none_of X G z1) (PySem.W.mg_none_of X G z2)) b0 (PySem.W.mg_of X G a0)) b1 k1 (PySem.W.mg_of X G a1) (PySem.W.mg_none_of X G z0) (PySem.W.mg_none_of X G z13) (PySem.W.mg_none_of X G z5) (PySem.W.mg_of X G v3) (PySem.W.mg_of X G v4) (PySem.W.mg_of X G v6)
  have G15 : FnOk l.prog w K mg base CX0 (2 + 1) f15 _ ["whole", "item"] _ := ok_copyB (j := 2) F15 (PySem.W.mg_none_of X G z9)
  have G16 : FnOk l.prog w K mg base CX0 (2 + 2) f16 _ ["item", "letters", "backs"] _ := ok_itemB (j := 2) F16 G10 b10 k10 (PySem.W.mg_of X G a10) (PySem.W.mg_none_of X G z0) (PySem.W.mg_none_of X G z13) (PySem.W.mg_of X G v2)
  have G3 : FnOk l.prog w K mg base CX0 (3 + 1) f3 _ ["told", "most"] _ := ok_areBytes (j := 3) F3 (PySem.W.mg_none_of X G z0) (PySem.W.mg_none_of X G z7) (PySem.W.mg_none_of X G z5)
  have G14 : FnOk l.prog w K mg base (L2N.CX l.prog w) (0 + 4) f14 _ ["items", "ahead"] _ := ok_behind (j := 0) TB F14 G13 b13 k13 (PySem.W.mg_of X G a13) G15 b15 k15 (PySem.W.mg_of X G a15) (PySem.W.mg_none_of X G z0) (PySem.W.mg_none_of X G z3) (PySem.W.mg_none_of X G z12) (PySem.W.mg_none_of X G z13) (PySem.W.mg_none_of X G z5) (PySem.W.mg_none_of X G z7)
  have G11 : FnOk l.prog w K mg base (L2N.CX l.prog w) (0 + 5) f11 _ ["items", "ahead"] _ := ok_tld (j := 0) F11 G3 b3 k3 (PySem.W.mg_of X G a3) G14 b14 k14 (PySem.W.mg_of X G a14) (PySem.W.mg_of X G v7)
  have G12 : FnOk l.prog w K mg base CX0 (0 + 5) f12 _ ["items", "prices"] _ := ok_bits (j := 0) T F12 G13' b13 k13 (PySem.W.mg_of X G a13) G16 b16 k16 (PySem.W.mg_of X G a16) G30 b30 G31 b31 (PySem.W.mg_none_of X G z0) (PySem.W.mg_none_of X G z3) (PySem.W.mg_none_of X G z12) (PySem.W.mg_none_of X G z8)
  have G4 : FnOk l.prog w K mg base CX0 (4 + 1) f4 _ ["text"] _ := ok_ofHex (j := 4) F4 (PySem.W.mg_none_of X G z0) (PySem.W.mg_none_of X G z6) (PySem.W.mg_none_of X G z5) (PySem.W.mg_none_of X G z4) (PySem.W.mg_none_of X G z7) (PySem.W.mg_of X G s0)
  have G4' : FnOk l.prog w K mg base CX0 (6 + 1) f4 _ ["text"] _ := ok_ofHex (j := 6) F4 (PySem.W.mg_none_of X G z0) (PySem.W.mg_none_of X G z6) (PySem.W.mg_none_of X G z5) (PySem.W.mg_none_of X G z4) (PySem.W.mg_none_of X G z7) (PySem.W.mg_of X G s0)
  have G19 : FnOk l.prog w K mg base CX0 (4 + 1) f19 _ ["_law_numbers_here"] _ := ok_hex (j := 4) F19 (PySem.W.mg_none_of X G z2)
  have G19' : FnOk l.prog w K mg base CX0 (6 + 1) f19 _ ["_law_numbers_here"] _ := ok_hex (j := 6) F19 (PySem.W.mg_none_of X G z2)
  have G5 : FnOk l.prog w K mg base CX0 (6 + 1) f5 _ ["told"] _ := ok_hexOf (j := 6) F5 (PySem.W.mg_none_of X G z0) (PySem.W.mg_none_of X G z7)
  have G17 : FnOk l.prog w K mg base CX0 (5 + 1) f17 _ ["_law_script", "_law_k"] _ := ok_cell (j := 5) F17 (PySem.W.mg_none_of X G z5)
  have G17' : FnOk l.prog w K mg base CX0 (6 + 1) f17 _ ["_law_script", "_law_k"] _ := ok_cell (j := 6) F17 (PySem.W.mg_none_of X G z5)
  have G18 : FnOk l.prog w K mg base CX0 (5 + 1) f18 _ ["_law_cell", "_law_limits"] _ := ok_nums (j := 5) F18 (PySem.W.mg_none_of X G z2)
  have G18' : FnOk l.prog w K mg base CX0 (6 + 1) f18 _ ["_law_cell", "_law_limits"] _ := ok_nums (j := 6) F18 (PySem.W.mg_none_of X G z2)
  have G20 : FnOk l.prog w K mg base CX0 (5 + 2) f20 _ ["_law_script", "_law_at", "_law_most"] _ := ok_data (j := 5) F20 G17 b17 k17 (PySem.W.mg_of X G a17) G18 b18 k18 (PySem.W.mg_of X G a18) (PySem.W.mg_none_of X G z5) (PySem.W.mg_none_of X G z2) (PySem.W.mg_none_of X G z9)
  have G24 : FnOk l.prog w K mg base CX0 (5 + 2) f24 _ ["_law_script", "_law_at", "_law_lead"] _ := ok_row (j := 5) F24 G17 b17 k17 (PySem.W.mg_of X G a17) G18 b18 k18 (PySem.W.mg_of X G a18) (PySem.W.mg_none_of X G z5) (PySem.W.mg_none_of X G z2) (PySem.W.mg_none_of X G z9) (PySem.W.mg_none_of X G z3) (PySem.W.mg_none_of X G z10) (PySem.W.mg_none_of X G z11)
  have G21 : FnOk l.prog w K mg base CX0 (5 + 1) f21 _ ["_law_back_here"] _ := ok_back (j := 5) F21
  have G22 : FnOk l.prog w K mg base CX0 (5 + 2) f22 _ ["_law_item", "_law_letters", "_law_backs"] _ := ok_cost (j := 5) F22 G21 b21 k21 (PySem.W.mg_of X G a21) (PySem.W.mg_none_of X G z0) (PySem.W.mg_none_of X G z2)
  have G23 : FnOk l.prog w K mg base CX0 (6 + 1) f23 _ [] _ := ok_told (j := 6) F23
  have G25 : FnOk l.prog w K mg base CX0 (4 + 1) f25 _ ["_law_row_here", "_law_lead"] _ := ok_first (j := 4) F25 (PySem.W.mg_none_of X G z5) (PySem.W.mg_none_of X G z2) (PySem.W.mg_none_of X G z12) (PySem.W.mg_none_of X G z0) (PySem.W.mg_none_of X G z1) (PySem.W.mg_none_of X G z11) (PySem.W.mg_none_of X G z13)
  have GH : L2H.FnH l.prog w K mg base CX0 (4 + 1) f25 _ ["_law_row_here", "_law_lead"] _ := ok_firstH (j := 4) F25 (PySem.W.mg_none_of X G z5) (PySem.W.mg_none_of X G z2) (PySem.W.mg_none_of X G z12) (PySem.W.mg_none_of X G z0) (PySem.W.mg_none_of X G z1) (PySem.W.mg_none_of X G z11) (PySem.W.mg_none_of X G z13)
  have G26 : FnOk l.prog w K mg base CX0 (0 + 6) f26 _ ["_law_row_here", "_law_lead"] _ := ok_judged (j := 0) TB (exm_own e10 e23 e13 e12) F26 F11 G11 (PySem.W.mg_of X G a11) G4 b4 k4 (PySem.W.mg_of X G a4) G19 b19 k19 (PySem.W.mg_of X G a19) G25 GH b25 k25 (PySem.W.mg_of X G a25)
  have G27 : FnOk l.prog w K mg base CX0 (0 + 8) f27 _ ["_law_script"] _ := ok_all (j := 0) T F27 F11 G29 b29 G8 b8 k8 (PySem.W.mg_of X G a8) G23 b23 k23 (PySem.W.mg_of X G a23) G17' b17 k17 (PySem.W.mg_of X G a17) G20 b20 k20 (PySem.W.mg_of X G a20) G24 b24 k24 (PySem.W.mg_of X G a24) G11 (PySem.W.mg_of X G a11) G4' b4 k4 (PySem.W.mg_of X G a4) G19' b19 k19 (PySem.W.mg_of X G a19) G5 b5 k5 (PySem.W.mg_of X G a5) G12 b12 k12 (PySem.W.mg_of X G a12) G22 b22 k22 (PySem.W.mg_of X G a22) G18' b18 k18 (PySem.W.mg_of X G a18) G26 b26 k26 (PySem.W.mg_of X G a26) (PySem.W.mg_none_of X G z5) (PySem.W.mg_none_of X G z2) (PySem.W.mg_none_of X G z9) (PySem.W.mg_none_of X G z3) (PySem.W.mg_none_of X G z8) (PySem.W.mg_none_of X G z0)
  exact ok_law (j := 0) F28 G27 b27 k27 (PySem.W.mg_of X G a27)
end K3

open PySem PySem.W PyProof.Rows
set_option maxHeartbeats 0 in
theorem PySem.Challenge.cw_presshouse_k03_whole_rows_holds : PySem.Challenge.rw_presshouse_k03_whole_rows.Holds := by
  w_on; o_law; k_head; (case hw => w_witness2)
  k_fill
  refine L2.walk_ofK (l := PySem.Challenge.rw_presshouse_k03_whole_rows) (n := 63) (k := 9) (x := "_law_script") (CX := L2.CX0) (sp := K3.spAll) rfl (by decide) rfl ⟨rfl, by decide, by decide⟩ (fun w h Y => PySem.W.kIn_of Y) ?F (fun K H a ns hl hO hS => ⟨a, ns, rfl, hS, fun _ _ => rfl⟩) (fun _ _ _ _ z => z)
  case F =>
    intro w mg fa h KX G hmg
    refine' K3.all_mk KX G hmg ?a0 ?l0 ?c0 ?k0 ?a1 ?l1 ?c1 ?k1 ?a2 ?l2 ?c2 ?k2 ?a3 ?l3 ?c3 ?k3 ?a4 ?l4 ?c4 ?k4 ?a5 ?l5 ?c5 ?k5 ?a6 ?l6 ?c6 ?k6 ?a7 ?l7 ?c7 ?k7 ?a8 ?l8 ?c8 ?k8 ?a9 ?l9 ?c9 ?k9 ?a10 ?l10 ?c10 ?k10 ?a11 ?l11 ?c11 ?k11 ?a12 ?l12 ?c12 ?k12 ?a13 ?l13 ?c13 ?k13 ?a14 ?l14 ?c14 ?k14 ?a15 ?l15 ?c15 ?k15 ?a16 ?l16 ?c16 ?k16 ?a17 ?l17 ?c17 ?k17 ?a18 ?l18 ?c18 ?k18 ?a19 ?l19 ?c19 ?k19 ?a20 ?l20 ?c20 ?k20 ?a21 ?l21 ?c21 ?k21 ?a22 ?l22 ?c22 ?k22 ?a23 ?l23 ?c23 ?k23 ?a24 ?l24 ?c24 ?k24 ?a25 ?l25 ?c25 ?k25 ?a26 ?l26 ?c26 ?k26 ?a27 ?l27 ?c27 ?k27 ?a28 ?l28 ?c28 ?k28 ?m0 ?n0 ?l29 ?c29 ?k29 ?m1 ?n1 ?l30 ?c30 ?k30 ?m2 ?n2 ?l31 ?c31 ?k31 ?aC ?p0 ?p1 ?p2 ?p3 ?p4 ?p5 ?p6 ?p7 ?p8 ?p9 ?p10 ?p11 ?p12 ?e0 ?e1 ?e2 ?e3 ?e4 ?e5 ?e6 ?e7 ?e8 ?e9 ?e10 ?e11 ?e12 ?e13 ?e14 ?e15 ?e16 ?e17 ?e18 ?e19 ?e20 ?e21 ?e22 ?e23 ?s0 ?r0 ?r1 ?r2 ?r3 ?q0 ?q1 ?q2 ?q3 ?z0 ?z1 ?z2 ?z3 ?z4 ?z5 ?z6 ?z7 ?z8 ?z9 ?z10 ?z11 ?z12 ?z13 ?z14 ?v0 ?v1 ?v2 ?v3 ?v4 ?v5 ?v6 ?v7
    (case aC => first | k_is | kernel_rfl | rfl | decide +kernel)
    (case a0 => first | k_is | kernel_rfl | rfl | decide +kernel)
    (case l0 => first | k_is | kernel_rfl | rfl | decide +kernel)
    (case c0 => first | k_is | kernel_rfl | rfl | decide +kernel)
    (case k0 => first | k_is | kernel_rfl | rfl | decide +kernel)
    (case a1 => first | k_is | kernel_rfl | rfl | decide +kernel)
    (case l1 => first | k_is | kernel_rfl | rfl | decide +kernel)
    (case c1 => first | k_is | kernel_rfl | rfl | decide +kernel)
    (case k1 => first | k_is | kernel_rfl | rfl | decide +kernel)
    (case a2 => first | k_is | kernel_rfl | rfl | decide +kernel)
    (case l2 => first | k_is | kernel_rfl | rfl | decide +kernel)
    (case c2 => first | k_is | kernel_rfl | rfl | decide +kernel)
    (case k2 => first | k_is | kernel_rfl | rfl | decide +kernel)
    (case a3 => first | k_is | kernel_rfl | rfl | decide +kernel)
    (case l3 => first | k_is | kernel_rfl | rfl | decide +kernel)
    (case c3 => first | k_is | kernel_rfl | rfl | decide +kernel)
    (case k3 => first | k_is | kernel_rfl | rfl | decide +kernel)
    (case a4 => first | k_is | kernel_rfl | rfl | decide +kernel)
    (case l4 => first | k_is | kernel_rfl | rfl | decide +kernel)
    (case c4 => first | k_is | kernel_rfl | rfl | decide +kernel)
    (case k4 => first | k_is | kernel_rfl | rfl | decide +kernel)
    (case a5 => first | k_is | kernel_rfl | rfl | decide +kernel)
    (case l5 => first | k_is | kernel_rfl | rfl | decide +kernel)
    (case c5 => first | k_is | kernel_rfl | rfl | decide +kernel)
    (case k5 => first | k_is | kernel_rfl | rfl | decide +kernel)
    (case a6 => first | k_is | kernel_rfl | rfl | decide +kernel)
    (case l6 => first | k_is | kernel_rfl | rfl | decide +kernel)
    (case c6 => first | k_is | kernel_rfl | rfl | decide +kernel)
    (case k6 => first | k_is | kernel_rfl | rfl | decide +kernel)
    (case a7 => first | k_is | kernel_rfl | rfl | decide +kernel)
    (case l7 => first | k_is | kernel_rfl | rfl | decide +kernel)
    (case c7 => first | k_is | kernel_rfl | rfl | decide +kernel)
    (case k7 => first | k_is | kernel_rfl | rfl | decide +kernel)
    (case a8 => first | k_is | kernel_rfl | rfl | decide +kernel)
    (case l8 => first | k_is | kernel_rfl | rfl | decide +kernel)
    (case c8 => first | k_is | kernel_rfl | rfl | decide +kernel)
    (case k8 => first | k_is | kernel_rfl | rfl | decide +kernel)
    (case a9 => first | k_is | kernel_rfl | rfl | decide +kernel)
    (case l9 => first | k_is | kernel_rfl | rfl | decide +kernel)
    (case c9 => first | k_is | kernel_rfl | rfl | decide +kernel)
    (case k9 => first | k_is | kernel_rfl | rfl | decide +kernel)
    (case a10 => first | k_is | kernel_rfl | rfl | decide +kernel)
    (case l10 => first | k_is | kernel_rfl | rfl | decide +kernel)
    (case c10 => first | k_is | kernel_rfl | rfl | decide +kernel)
    (case k10 => first | k_is | kernel_rfl | rfl | decide +kernel)
    (case a11 => first | k_is | kernel_rfl | rfl | decide +kernel)
    (case l11 => first | k_is | kernel_rfl | rfl | decide +kernel)
    (case c11 => first | k_is | kernel_rfl | rfl | decide +kernel)
    (case k11 => first | k_is | kernel_rfl | rfl | decide +kernel)
    (case a12 => first | k_is | kernel_rfl | rfl | decide +kernel)
    (case l12 => first | k_is | kernel_rfl | rfl | decide +kernel)
    (case c12 => first | k_is | kernel_rfl | rfl | decide +kernel)
    (case k12 => first | k_is | kernel_rfl | rfl | decide +kernel)
    (case a13 => first | k_is | kernel_rfl | rfl | decide +kernel)
    (case l13 => first | k_is | kernel_rfl | rfl | decide +kernel)
    (case c13 => first | k_is | kernel_rfl | rfl | decide +kernel)
    (case k13 => first | k_is | kernel_rfl | rfl | decide +kernel)
    (case a14 => first | k_is | kernel_rfl | rfl | decide +kernel)
    (case l14 => first | k_is | kernel_rfl | rfl | decide +kernel)
    (case c14 => first | k_is | kernel_rfl | rfl | decide +kernel)
    (case k14 => first | k_is | kernel_rfl | rfl | decide +kernel)
    (case a15 => first | k_is | kernel_rfl | rfl | decide +kernel)
    (case l15 => first | k_is | kernel_rfl | rfl | decide +kernel)
    (case c15 => first | k_is | kernel_rfl | rfl | decide +kernel)
    (case k15 => first | k_is | kernel_rfl | rfl | decide +kernel)
    (case a16 => first | k_is | kernel_rfl | rfl | decide +kernel)
    (case l16 => first | k_is | kernel_rfl | rfl | decide +kernel)
    (case c16 => first | k_is | kernel_rfl | rfl | decide +kernel)
    (case k16 => first | k_is | kernel_rfl | rfl | decide +kernel)
    (case a17 => first | k_is | kernel_rfl | rfl | decide +kernel)
    (case l17 => first | k_is | kernel_rfl | rfl | decide +kernel)
    (case c17 => first | k_is | kernel_rfl | rfl | decide +kernel)
    (case k17 => first | k_is | kernel_rfl | rfl | decide +kernel)
    (case a18 => first | k_is | kernel_rfl | rfl | decide +kernel)
    (case l18 => first | k_is | kernel_rfl | rfl | decide +kernel)
    (case c18 => first | k_is | kernel_rfl | rfl | decide +kernel)
    (case k18 => first | k_is | kernel_rfl | rfl | decide +kernel)
    (case a19 => first | k_is | kernel_rfl | rfl | decide +kernel)
    (case l19 => first | k_is | kernel_rfl | rfl | decide +kernel)
    (case c19 => first | k_is | kernel_rfl | rfl | decide +kernel)
    (case k19 => first | k_is | kernel_rfl | rfl | decide +kernel)
    (case a20 => first | k_is | kernel_rfl | rfl | decide +kernel)
    (case l20 => first | k_is | kernel_rfl | rfl | decide +kernel)
    (case c20 => first | k_is | kernel_rfl | rfl | decide +kernel)
    (case k20 => first | k_is | kernel_rfl | rfl | decide +kernel)
    (case a21 => first | k_is | kernel_rfl | rfl | decide +kernel)
    (case l21 => first | k_is | kernel_rfl | rfl | decide +kernel)
    (case c21 => first | k_is | kernel_rfl | rfl | decide +kernel)
    (case k21 => first | k_is | kernel_rfl | rfl | decide +kernel)
    (case a22 => first | k_is | kernel_rfl | rfl | decide +kernel)
    (case l22 => first | k_is | kernel_rfl | rfl | decide +kernel)
    (case c22 => first | k_is | kernel_rfl | rfl | decide +kernel)
    (case k22 => first | k_is | kernel_rfl | rfl | decide +kernel)
    (case a23 => first | k_is | kernel_rfl | rfl | decide +kernel)
    (case l23 => first | k_is | kernel_rfl | rfl | decide +kernel)
    (case c23 => first | k_is | kernel_rfl | rfl | decide +kernel)
    (case k23 => first | k_is | kernel_rfl | rfl | decide +kernel)
    (case a24 => first | k_is | kernel_rfl | rfl | decide +kernel)
    (case l24 => first | k_is | kernel_rfl | rfl | decide +kernel)
    (case c24 => first | k_is | kernel_rfl | rfl | decide +kernel)
    (case k24 => first | k_is | kernel_rfl | rfl | decide +kernel)
    (case a25 => first | k_is | kernel_rfl | rfl | decide +kernel)
    (case l25 => first | k_is | kernel_rfl | rfl | decide +kernel)
    (case c25 => first | k_is | kernel_rfl | rfl | decide +kernel)
    (case k25 => first | k_is | kernel_rfl | rfl | decide +kernel)
    (case a26 => first | k_is | kernel_rfl | rfl | decide +kernel)
    (case l26 => first | k_is | kernel_rfl | rfl | decide +kernel)
    (case c26 => first | k_is | kernel_rfl | rfl | decide +kernel)
    (case k26 => first | k_is | kernel_rfl | rfl | decide +kernel)
    (case a27 => first | k_is | kernel_rfl | rfl | decide +kernel)
    (case l27 => first | k_is | kernel_rfl | rfl | decide +kernel)
    (case c27 => first | k_is | kernel_rfl | rfl | decide +kernel)
    (case k27 => first | k_is | kernel_rfl | rfl | decide +kernel)
    (case a28 => first | k_is | kernel_rfl | rfl | decide +kernel)
    (case l28 => first | k_is | kernel_rfl | rfl | decide +kernel)
    (case c28 => first | k_is | kernel_rfl | rfl | decide +kernel)
    (case k28 => first | k_is | kernel_rfl | rfl | decide +kernel)
    (case m0 => first | k_is | kernel_rfl | rfl | decide +kernel)
    (case n0 => first | k_is | kernel_rfl | rfl | decide +kernel)
    (case l29 => first | k_is | kernel_rfl | rfl | decide +kernel)
    (case c29 => first | k_is | kernel_rfl | rfl | decide +kernel)
    (case k29 => first | k_is | kernel_rfl | rfl | decide +kernel)
    (case m1 => first | k_is | kernel_rfl | rfl | decide +kernel)
    (case n1 => first | k_is | kernel_rfl | rfl | decide +kernel)
    (case l30 => first | k_is | kernel_rfl | rfl | decide +kernel)
    (case c30 => first | k_is | kernel_rfl | rfl | decide +kernel)
    (case k30 => first | k_is | kernel_rfl | rfl | decide +kernel)
    (case m2 => first | k_is | kernel_rfl | rfl | decide +kernel)
    (case n2 => first | k_is | kernel_rfl | rfl | decide +kernel)
    (case l31 => first | k_is | kernel_rfl | rfl | decide +kernel)
    (case c31 => first | k_is | kernel_rfl | rfl | decide +kernel)
    (case k31 => first | k_is | kernel_rfl | rfl | decide +kernel)
    (case p0 => first | k_is | kernel_rfl | rfl | decide +kernel)
    (case p1 => first | k_is | kernel_rfl | rfl | decide +kernel)
    (case p2 => first | k_is | kernel_rfl | rfl | decide +kernel)
    (case p3 => first | k_is | kernel_rfl | rfl | decide +kernel)
    (case p4 => first | k_is | kernel_rfl | rfl | decide +kernel)
    (case p5 => first | k_is | kernel_rfl | rfl | decide +kernel)
    (case p6 => first | k_is | kernel_rfl | rfl | decide +kernel)
    (case p7 => first | k_is | kernel_rfl | rfl | decide +kernel)
    (case p8 => first | k_is | kernel_rfl | rfl | decide +kernel)
    (case p9 => first | k_is | kernel_rfl | rfl | decide +kernel)
    (case p10 => first | k_is | kernel_rfl | rfl | decide +kernel)
    (case p11 => first | k_is | kernel_rfl | rfl | decide +kernel)
    (case p12 => first | k_is | kernel_rfl | rfl | decide +kernel)
    (case e0 => first | k_is | kernel_rfl | rfl | decide +kernel)
    (case e1 => first | k_is | kernel_rfl | rfl | decide +kernel)
    (case e2 => first | k_is | kernel_rfl | rfl | decide +kernel)
    (case e3 => first | k_is | kernel_rfl | rfl | decide +kernel)
    (case e4 => first | k_is | kernel_rfl | rfl | decide +kernel)
    (case e5 => first | k_is | kernel_rfl | rfl | decide +kernel)
    (case e6 => first | k_is | kernel_rfl | rfl | decide +kernel)
    (case e7 => first | k_is | kernel_rfl | rfl | decide +kernel)
    (case e8 => first | k_is | kernel_rfl | rfl | decide +kernel)
    (case e9 => first | k_is | kernel_rfl | rfl | decide +kernel)
    (case e10 => first | k_is | kernel_rfl | rfl | decide +kernel)
    (case e11 => first | k_is | kernel_rfl | rfl | decide +kernel)
    (case e12 => first | k_is | kernel_rfl | rfl | decide +kernel)
    (case e13 => first | k_is | kernel_rfl | rfl | decide +kernel)
    (case e14 => first | k_is | kernel_rfl | rfl | decide +kernel)
    (case e15 => first | k_is | kernel_rfl | rfl | decide +kernel)
    (case e16 => first | rfl | with_unfolding_all rfl | decide +kernel)
    (case e17 => first | k_is | kernel_rfl | rfl | decide +kernel)
    (case e18 => first | k_is | kernel_rfl | rfl | decide +kernel)
    (case e19 => first | k_is | kernel_rfl | rfl | decide +kernel)
    (case e20 => first | rfl | with_unfolding_all rfl | decide +kernel)
    (case e21 => first | rfl | with_unfolding_all rfl | decide +kernel)
    (case e22 => first | k_is | kernel_rfl | rfl | decide +kernel)
    (case e23 => first | k_is | kernel_rfl | rfl | decide +kernel)
    (case s0 => first | k_is | kernel_rfl | rfl | decide +kernel)
    (case r0 => first | k_is | kernel_rfl | rfl | decide +kernel)
    (case r1 => first | k_is | kernel_rfl | rfl | decide +kernel)
    (case r2 => first | k_is | kernel_rfl | rfl | decide +kernel)
    (case r3 => first | k_is | kernel_rfl | rfl | decide +kernel)
    (case q0 => first | k_is | kernel_rfl | rfl | decide +kernel)
    (case q1 => first | k_is | kernel_rfl | rfl | decide +kernel)
    (case q2 => first | k_is | kernel_rfl | rfl | decide +kernel)
    (case q3 => first | k_is | kernel_rfl | rfl | decide +kernel)
    (case z0 => first | k_is | kernel_rfl | rfl | decide +kernel)
    (case z1 => first | k_is | kernel_rfl | rfl | decide +kernel)
    (case z2 => first | k_is | kernel_rfl | rfl | decide +kernel)
    (case z3 => first | k_is | kernel_rfl | rfl | decide +kernel)
    (case z4 => first | k_is | kernel_rfl | rfl | decide +kernel)
    (case z5 => first | k_is | kernel_rfl | rfl | decide +kernel)
    (case z6 => first | k_is | kernel_rfl | rfl | decide +kernel)
    (case z7 => first | k_is | kernel_rfl | rfl | decide +kernel)
    (case z8 => first | k_is | kernel_rfl | rfl | decide +kernel)
    (case z9 => first | k_is | kernel_rfl | rfl | decide +kernel)
    (case z10 => first | k_is | kernel_rfl | rfl | decide +kernel)
    (case z11 => first | k_is | kernel_rfl | rfl | decide +kernel)
    (case z12 => first | k_is | kernel_rfl | rfl | decide +kernel)
    (case z13 => first | k_is | kernel_rfl | rfl | decide +kernel)
    (case z14 => first | k_is | kernel_rfl | rfl | decide +kernel)
    (case v0 => first | k_is | kernel_rfl | rfl | decide +kernel)
    (case v1 => first | k_is | kernel_rfl | rfl | decide +kernel)
    (case v2 => first | k_is | kernel_rfl | rfl | decide +kernel)
    (case v3 => first | k_is | kernel_rfl | rfl | decide +kernel)
    (case v4 => first | k_is | kernel_rfl | rfl | decide +kernel)
    (case v5 => first | k_is | kernel_rfl | rfl | decide +kernel)
    (case v6 => first | k_is | kernel_rfl | rfl | decide +kernel)
    (case v7 => first | k_is | kernel_rfl | rfl | decide +kernel)

