import PyProof.Rows.All
import Wide.All
import OpenK.AllK
import Wide.FinOn
import PyProof.EqAt
import PyProof.EqKinds
import PyProof.TupleCall
import HandS.ForMost
import HandS.ForExc
import HandS.IsInst
import HandS.SortKw
import HandS.SortRule
import HandS.SetFor
import HandS.Flow
import HandS.Zip
import HandS.Walk
import HandS.Bytes
import HandS.BytesMake
import HandS.ToBytes
import HandS.Defaults
import KE.KBytesHexOf
import HandS.WideBits
import KE.KExcSuper
import HandS.ExcInit
import HandS.FStr
import PyProof.FString2
import HandS.HotCalls
import KE.KBytesFind
import KE.GoesMore
import KE.DataMinMax
import HandS.Iter
import HandS.Comp
import HandS.Style
import HandS.RevRange
import HandS.Conv
import PySem.Challenge.RW_presshouse_k10_whole_flat
set_option Elab.async false
set_option linter.all false
set_option maxRecDepth 100000
set_option maxHeartbeats 4100000
namespace K0
open PySem PySem.Spec PyProof.Rows L2
def topS (i : Nat) : Stmt := PySem.Challenge.pw_presshouse_k10_whole_flat.main.body.getD i (.Pass ⟨0, 0, 0, 0⟩)
abbrev sWhole : Stmt := topS 8
abbrev sIsNum : Stmt := topS 9
abbrev sOfHex : Stmt := topS 11
abbrev sAreBytes : Stmt := topS 10
abbrev sCosts : Stmt := topS 36
abbrev sCell : Stmt := topS 46
abbrev sNums : Stmt := topS 47
abbrev sHex : Stmt := topS 48
abbrev sData : Stmt := topS 49
abbrev sAll : Stmt := topS 56
abbrev sLaw : Stmt := topS 57
abbrev sMarkOf : Stmt := topS 22
abbrev sIsMark : Stmt := topS 23
abbrev sIsDif : Stmt := topS 24
abbrev sTellsM : Stmt := topS 25
abbrev sManyOf : Stmt := topS 26
abbrev sOrig : Stmt := topS 27
abbrev sRowFr : Stmt := topS 28
abbrev sGoesOn : Stmt := topS 29
abbrev sPutTo : Stmt := topS 30
abbrev sLongN : Stmt := topS 33
abbrev sLongO : Stmt := topS 34
abbrev sMostAt : Stmt := topS 35
abbrev sCostsR : Stmt := topS 36
abbrev sLeastR : Stmt := topS 37
abbrev sDiff : Stmt := topS 39
abbrev sPutOn : Stmt := topS 40
abbrev sFlat : Stmt := topS 41
abbrev sJoined : Stmt := topS 42
abbrev sRefB : Stmt := topS 43
abbrev sRefD : Stmt := topS 44
abbrev sLMark : Stmt := topS 50
abbrev sLWide : Stmt := topS 51
abbrev sLOrig : Stmt := topS 52
abbrev sLPair : Stmt := topS 53
abbrev sLFlat : Stmt := topS 54
abbrev sLAny : Stmt := topS 55
abbrev sReInit : Stmt := inClass (topS 32) 0
abbrev sReAt : Stmt := inClass (topS 32) 1
abbrev sReOne : Stmt := inClass (topS 32) 2
theorem scIsNum : FnScope ["told", "least", "most"] ["told", "least", "most"] (defScope sIsNum) := ⟨rfl, rfl, rfl, by decide +kernel, rfl, by decide +kernel, by decide +kernel⟩
theorem same_upd {H : Hp} {p : Addr} {o : HO} (h : H p = none) : Same H (upd H p o) := fun b x e => by
  rw [upd_ne (ne_of_none e h)]
  exact e
theorem same_put {H H' : Hp} {D : Addr} {o : HO} (h : Same H H') (n : H D = none) : Same H (upd H' D o) := fun b x e => by
  rw [upd_ne (ne_of_none e n)]
  exact h _ _ e
theorem none_back {H H' : Hp} {D : Addr} (h : Same H H') (n : H' D = none) : H D = none := by
  cases e : H D with
  | none => rfl
  | some o => (rw [h _ _ e] at n); (cases n)
theorem int_of {xs : List Int} {i : Nat} {v : V} (h : (xs.map V.int)[i]? = some v) : ∃ x, v = .int x ∧ xs[i]? = some x := by
  rw [List.getElem?_map] at h
  cases e : xs[i]? with
  | none => (rw [e] at h); (cases h)
  | some y => rw [e] at h; exact ⟨y, (Option.some.inj h).symm, rfl⟩
theorem yes {σ : L2.St} {H : Hp} {A B : Hp → Prop} (h : A H) : tYes σ H fun b H3 => if b = true then A H3 else B H3 := by simpa [tYes] using h
section
variable {P : Program} {w : World} {K : PySem.W.Frag} {mg : Str → Option Value} {base : Heap}
def spWhole : Sp := fun vs H Q _ => ∃ v, vs = [v] ∧ ((∃ x : Int, v = .int x ∧ Q (.bl true) H) ∨ (∃ (p : Addr) (xs : List V), v = .ref p ∧ H p = some (.lst xs) ∧ Q (.bl false) H) ∨ (v = .non ∧ Q (.bl false) H))
theorem scWhole : FnScope ["told"] ["told"] (defScope sWhole) := ⟨rfl, rfl, rfl, by decide +kernel, rfl, by decide +kernel, by decide +kernel⟩
theorem ok_whole {f : Addr} {fd : FuncData} {k : Nat} (F : Fun K "is_whole" "is_whole" sWhole f fd) (m1 : mg "isinstance" = none) (m2 : mg "bool" = none) (m3 : mg "int" = none) : FnOk P w K mg base CX0 (k + 1) f fd ["told"] spWhole := by
  refine F.ok scWhole (fun vs H Q E h => ?_) (fun cdv A outer s H vs Q E hr h => ?_)
  · obtain ⟨v, rfl, _⟩ := h
    rfl
  · obtain ⟨v, rfl, h⟩ := h
    refine ⟨_, pss_one (ps_ret (pe_and (pe_callB call_isi (by rfl) m1 (by decide +kernel) (pa_cons (pv 0) (pa_cons (pe_bltn (v := .ty "int") (by rfl) m3 (by decide +kernel) rfl) pa_nil)))
      (pe_one (pe_not (pe_callB call_isi (by rfl) m1 (by decide +kernel) (pa_cons (pv 0) (pa_cons (pe_bltn (v := .ty "bool") (by rfl) m2 (by decide +kernel) rfl) pa_nil))))))), ?_⟩
    rcases h with ⟨x, rfl, q⟩ | ⟨p, xs, rfl, hp, q⟩ | ⟨rfl, q⟩
    · refine ⟨_, rfl, _, _, _, _, _, rfl, .ty "int", .base (.int _), kit_ty (a := "int") (r := true) (by decide +kernel), _, rfl, iteT ?_⟩
      exact ⟨_, rfl, _, _, _, _, _, rfl, .ty "bool", .base (.int _), kit_ty (a := "int") (r := false) (by decide +kernel), _, rfl, q⟩
    · exact ⟨_, rfl, _, _, _, _, _, rfl, .ty "int", .base (.lst hp), kit_ty (a := "list") (r := false) (by decide +kernel), _, rfl, iteF q⟩
    · exact ⟨_, rfl, _, _, _, _, _, rfl, .ty "int", .base .non, kit_ty (a := "NoneType") (r := false) (by decide +kernel), _, rfl, iteF q⟩
def spIsNum : Sp := fun vs H Q _ => ∃ (v : V) (a b : Int), vs = [v, .int a, .int b] ∧ ((∃ x : Int, v = .int x ∧ Q (.bl (decide (a ≤ x ∧ x ≤ b))) H) ∨ (∃ (p : Addr) (xs : List V), v = .ref p ∧ H p = some (.lst xs) ∧ Q (.bl false) H) ∨ (v = .non ∧ Q (.bl false) H))
theorem ok_isNum {f f0 : Addr} {fd fd0 : FuncData} {k : Nat} (F : Fun K "is_number" "is_number" sIsNum f fd) (F0 : Fun K "is_whole" "is_whole" sWhole f0 fd0) (G0 : FnOk P w K mg base CX0 (k + 1) f0 fd0 ["told"] spWhole) (b0 : Binds K fd0 ["told"] []) (g0 : mg "is_whole" = some (.ref f0)) :
    FnOk P w K mg base CX0 (k + 2) f fd ["told", "least", "most"] spIsNum := by
  refine F.ok scIsNum (fun vs H Q E h => ?_) (fun cdv A outer s H vs Q E hr h => ?_)
  · obtain ⟨v, a, b, rfl, _⟩ := h
    rfl
  · obtain ⟨v, a, b, rfl, h⟩ := h
    refine ⟨_, pss_one (ps_ret (pe_and (pe_call G0 hr (by rfl) g0 F0.kp b0 .nil pass0 (pa_cons (pv 0) pa_nil)) (pe_one (pe_chain op_le op_le (pv 1) (pv 0) (pv 2))))), ?_⟩
    rcases h with ⟨x, rfl, q⟩ | ⟨p, xs, rfl, hp, q⟩ | ⟨rfl, q⟩
    · refine ⟨_, rfl, _, rfl, .inl ⟨x, rfl, _, rfl, iteT ?_⟩⟩
      refine ⟨_, rfl, _, rfl, _, _, rfl, rfl, _, rfl, ?_⟩
      by_cases h1 : a ≤ x
      · rw [if_pos (decide_eq_true h1)]
        refine ⟨_, rfl, _, _, rfl, rfl, ?_⟩
        simpa [h1] using q
      · rw [if_neg (by simpa using h1)]
        simpa [h1] using q
    · exact ⟨_, rfl, _, rfl, .inr (.inl ⟨p, xs, rfl, hp, _, rfl, iteF q⟩)⟩
    · exact ⟨_, rfl, _, rfl, .inr (.inr ⟨rfl, _, rfl, iteF q⟩)⟩
/-- a list that is made beside all that was there -/
def spAreNum : Sp := fun vs H Q _ => ∃ (p : Addr) (xs : List Int) (a b : Int), vs = [.ref p, .int a, .int b] ∧ H p = some (.lst (xs.map V.int)) ∧ xs.length ≤ 1000 ∧ ∀ H', Same H H' → Q (.bl (xs.all fun x => decide (a ≤ x ∧ x ≤ b))) H'
end
end K0

namespace K0
open PySem PySem.Spec PyProof.Rows L2
/-! ### equal lists -/
theorem dp_ints {K : PySem.W.Frag} {H : Hp} : ∀ xs : List Int, DpAll K H (xs.map V.int) (xs.map PyData.int)
  | [] => .nil
  | x :: xs => .cons (.int x) (dp_ints xs)
theorem dp_bools {K : PySem.W.Frag} {H : Hp} : ∀ xs : List Bool, DpAll K H (xs.map V.bl) (xs.map PyData.bool)
  | [] => .nil
  | x :: xs => .cons (.bl x) (dp_bools xs)
theorem eqvA_ints : ∀ xs ys : List Int, PyData.eqvAll (xs.map .int) (ys.map .int) = decide (xs = ys)
  | [], [] => by simp [PyData.eqvAll]
  | [], _ :: _ => by simp [PyData.eqvAll]
  | _ :: _, [] => by simp [PyData.eqvAll]
  | x :: xs, y :: ys => by
    simp only [List.map_cons, PyData.eqvAll, PyData.eqv, eqvA_ints xs ys]
    by_cases h : x = y <;> simp [h]
theorem eqvA_bools : ∀ xs ys : List Bool, PyData.eqvAll (xs.map .bool) (ys.map .bool) = decide (xs = ys)
  | [], [] => by simp [PyData.eqvAll]
  | [], _ :: _ => by simp [PyData.eqvAll]
  | _ :: _, [] => by simp [PyData.eqvAll]
  | x :: xs, y :: ys => by
    simp only [List.map_cons, PyData.eqvAll, PyData.eqv, eqvA_bools xs ys]
    by_cases h : x = y <;> simp [h]
theorem eqv_ints (xs ys : List Int) : PyData.eqv (.list (xs.map .int)) (.list (ys.map .int)) = decide (xs = ys) := by rw [PyData.eqv, eqvA_ints]
theorem eqv_bools (xs ys : List Bool) : PyData.eqv (.list (xs.map .bool)) (.list (ys.map .bool)) = decide (xs = ys) := by rw [PyData.eqv, eqvA_bools]
theorem clA_ints : ∀ ns : List Int, PyData.canLayAll0 (ns.map PyData.int) = true
  | [] => by (simp [PyData.canLayAll0])
  | _ :: r => by simp [PyData.canLayAll0, PyData.canLay0, clA_ints r]
theorem dA_ints : ∀ ns : List Int, PyData.depthAll (ns.map PyData.int) = 0
  | [] => rfl
  | _ :: r => by simp [PyData.depthAll, PyData.depth, dA_ints r]
theorem shaped_intsQ (ns : List Int) : SeqAt.shaped (.list (ns.map PyData.int)) = true := by
  simp [SeqAt.shaped, PyData.canLay0, PyData.depth, clA_ints, dA_ints]
theorem clA_bools : ∀ ns : List Bool, PyData.canLayAll0 (ns.map PyData.bool) = true
  | [] => by (simp [PyData.canLayAll0])
  | _ :: r => by simp [PyData.canLayAll0, PyData.canLay0, clA_bools r]
theorem dA_bools : ∀ ns : List Bool, PyData.depthAll (ns.map PyData.bool) = 0
  | [] => rfl
  | _ :: r => by simp [PyData.depthAll, PyData.depth, dA_bools r]
theorem shaped_bools (ns : List Bool) : SeqAt.shaped (.list (ns.map PyData.bool)) = true := by
  simp [SeqAt.shaped, PyData.canLay0, PyData.depth, clA_bools, dA_bools]
def cellAt (xs : List Int) (k : Nat) : Int := if k < xs.length then xs.getD k 0 else if xs = [] then (k : Int) * 48271 else ((xs.getD (k % xs.length) 0 + k) * 48271).fmod 2147483647
theorem scCell : FnScope ["_law_script", "_law_k"] ["_law_script", "_law_k"] (defScope sCell) := ⟨rfl, rfl, rfl, by decide +kernel, rfl, by decide +kernel, by decide +kernel⟩
section
variable {P : Program} {w : World} {K : PySem.W.Frag} {mg : Str → Option Value} {base : Heap}
def spCell (K : PySem.W.Frag) : Sp := fun vs H Q _ => ∃ (p : Addr) (xs : List Int) (k : Nat), vs = [.ref p, .int (k : Int)] ∧ SqL K H p (xs.map V.int) ∧ k ≤ 100000 ∧ ∀ H', Same H H' → Q (.int (cellAt xs k)) H'
theorem ok_cell {f : Addr} {fd : FuncData} {j : Nat} (F : Fun K "_law_cell_at" "_law_cell_at" sCell f fd) (m1 : mg "len" = none) : FnOk P w K mg base CX0 (j + 1) f fd ["_law_script", "_law_k"] (K0.spCell K) := by
  refine F.ok scCell (fun vs H Q E h => ?_) (fun cdv A outer s H vs Q E hr h => ?_)
  · obtain ⟨p, xs, k, rfl, _⟩ := h
    rfl
  · obtain ⟨p, xs, k, rfl, hp, hk, q⟩ := h
    refine ⟨_, pss_cons (ps_if (pt_cmpR op_lt (pv 1) (pe_callB call_len_seq (by rfl) m1 PySem.boot_len (pa_cons (pv 0) pa_nil)) (nomark _)) (pss_one (ps_ret (pe_ix ix_list (pv 0) (pv 1) (fun _ _ => rfl)))) pss_nil)
      (pss_cons (ps_if (pt_cmpR (op_eqD hr.units) (pv 0) (pe_lst pa_nil) (nomark _)) (pss_one (ps_ret (pe_op op_mul (pv 1) pe_int))) pss_nil)
      (pss_one (ps_ret (pe_op op_modN (pe_op op_mul (pe_op op_add (pe_ix ix_list (pv 0) (pe_op op_modN (pv 1) (pe_callB call_len_seq (by rfl) m1 PySem.boot_len (pa_cons (pv 0) pa_nil))) (fun _ _ => rfl)) (pv 1)) pe_int) pe_int)))), ?_⟩
    refine ⟨_, rfl, _, rfl, p, _, rfl, .inl hp, _, _, rfl, rfl, _, rfl, ite2 (fun e => ?_) (fun e => ?_)⟩
    · have hlt : k < xs.length := by
        have := of_decide_eq_true e
        rw [List.length_map] at this
        omega
      have q' := q H (Same.refl H)
      rw [cellAt, if_pos hlt] at q'
      refine ⟨_, rfl, _, rfl, p, _, _, .int (xs.getD k 0), rfl, rfl, hp, atI_nat ?_, q'⟩
      rw [List.getElem?_map, List.getElem?_eq_getElem hlt, List.getD_eq_getElem?_getD, List.getElem?_eq_getElem hlt]
      rfl
    · have hge : ¬ k < xs.length := fun z => e (decide_eq_true (by rw [List.length_map]; omega))
      refine ⟨_, rfl, Nat.zero_le _, fun z nz => ?_⟩
      have sm : Same H (upd H z (.lst [])) := same_upd nz
      have q' := q _ sm
      rw [cellAt, if_neg hge] at q'
      refine ⟨_, _, .lst (sm.seq hp) (dp_ints xs), .lst (ds := []) (.inl (.inl upd_same)) .nil, shaped_intsQ xs, shaped_intsQ [], ?_⟩
      have ee : PyData.eqv (.list (xs.map .int)) (.list []) = decide (xs = []) := eqv_ints xs []
      rw [ee]
      refine ⟨_, rfl, ite2 (fun e2 => ?_) (fun e2 => ?_)⟩
      · have : xs = [] := of_decide_eq_true e2
        rw [if_pos this] at q'
        exact ⟨_, rfl, _, _, rfl, rfl, .inl ⟨by omega, by omega⟩, q'⟩
      · have hne : ¬ xs = [] := fun z => e2 (decide_eq_true z)
        rw [if_neg hne] at q'
        have hpos : 0 < xs.length := List.length_pos_iff.mpr hne
        have hm : k % xs.length < xs.length := Nat.mod_lt _ hpos
        have em : (k : Int).fmod ((xs.map V.int).length : Int) = ((k % xs.length : Nat) : Int) := by
          rw [List.length_map, Int.fmod_eq_emod_of_nonneg _ (by omega)]
          rfl
        refine ⟨_, rfl, _, rfl, _, rfl, p, _, rfl, .inl (sm.seq hp), _, _, rfl, rfl, by rw [List.length_map]; omega, p, _, _, .int (xs.getD (k % xs.length) 0), rfl, rfl, sm.seq hp, (by rw [em]; exact atI_nat (by
          rw [List.getElem?_map, List.getElem?_eq_getElem hm, List.getD_eq_getElem?_getD, List.getElem?_eq_getElem hm]
          rfl)), _, rfl, _, _, rfl, rfl, _, _, rfl, rfl, .inr ⟨by decide, by decide⟩, _, _, rfl, rfl, (by show (2147483647 : Int) ≠ 0; decide), q'⟩
end
/-! ### _law_numbers -/
def InLims (ds lims : List Int) : Prop := ds.length ≤ lims.length ∧ ∀ (j : Nat) (d l : Int), ds[j]? = some d → lims[j]? = some l → 0 ≤ d ∧ d < l
theorem fmod_in {a l : Int} (h : 0 < l) : 0 ≤ a.fmod l ∧ a.fmod l < l := by
  rw [Int.fmod_eq_emod_of_nonneg _ (Int.le_of_lt h)]
  exact ⟨Int.emod_nonneg _ (by omega), Int.emod_lt_of_pos _ h⟩
theorem InLims.snoc {ds lims : List Int} {d l : Int} (h : InLims ds lims) (hl : lims[ds.length]? = some l) (hd : 0 ≤ d ∧ d < l) : InLims (ds ++ [d]) lims := by
  refine ⟨by have := (List.getElem?_eq_some_iff.mp hl).1; simp; omega, fun j d' l' h1 h2 => ?_⟩
  by_cases q : j < ds.length
  · rw [List.getElem?_append_left q] at h1
    exact h.2 j d' l' h1 h2
  · have e : j = ds.length := by
      have := (List.getElem?_eq_some_iff.mp h1).1
      simp at this
      omega
    subst e
    rw [List.getElem?_append_right (Nat.le_refl _)] at h1
    simp at h1
    rw [hl] at h2
    cases h2
    rw [← h1]
    exact hd
theorem scNums : FnScope ["_law_cell", "_law_limits", "_law_rest", "_law_found"] ["_law_cell", "_law_limits"] (defScope sNums) := ⟨rfl, rfl, rfl, by decide +kernel, rfl, by decide +kernel, by decide +kernel⟩
section
variable {P : Program} {w : World} {K : PySem.W.Frag} {mg : Str → Option Value} {base : Heap}
def spNums : Sp := fun vs H Q _ => ∃ (p : Addr) (c : Int) (lims : List Int), vs = [.int c, .ref p] ∧ H p = some (.lst (lims.map V.int)) ∧ lims.length ≤ 1000 ∧ (∀ l ∈ lims, 0 < l ∧ l < 1000000) ∧
  ∀ H' q ds, Same H H' → H q = none → H' q = some (.lst (ds.map V.int)) → ds.length = lims.length → InLims ds lims → Q (.ref q) H'
theorem ok_nums {f : Addr} {fd : FuncData} {j : Nat} (F : Fun K "_law_numbers" "_law_numbers" sNums f fd) (m1 : mg "int" = none) : FnOk P w K mg base CX0 (j + 1) f fd ["_law_cell", "_law_limits"] spNums := by
  refine F.ok scNums (fun vs H Q E h => ?_) (fun cdv A outer s H vs Q E hr h => ?_)
  · obtain ⟨p, c, lims, rfl, _⟩ := h
    rfl
  · obtain ⟨p, c, lims, rfl, hp, hl, hpos, q⟩ := h
    refine ⟨_, pss_cons (ps_set (i := 2) scNums.nd rfl (.inl rfl) (pv 0))
      (pss_cons (ps_if (pt_cmpR op_lt (pv 0) (pe_op op_pow pe_int pe_int) (nomark _))
        (pss_one (ps_set (i := 2) scNums.nd rfl (.inl rfl) (pe_op op_fdivN (pe_op op_pow (pe_op op_add (pe_op op_mul (pe_op op_modN (pv 0) pe_int) pe_int) pe_int) pe_int) pe_int))) pss_nil)
      (pss_cons (ps_set (i := 3) scNums.nd rfl (.inl rfl) (pe_lst pa_nil))
      (pss_cons (ps_for PassesOwn.never rfl (pi_list (pv 1)) (pg_name (i := 1) scNums.nd rfl (.inl rfl))
        (pss_cons (ps_expr (pe_bm PySem.F.plainAttrs_list PySem.F.slot_list_append PySem.F.type_list_append mt_append (pv 3) (pa_cons (pe_op op_modN (pe_callTy call_int1 (by rfl) m1 (by decide +kernel) (pa_cons (pv 2) pa_nil)) (pv 1)) pa_nil)))
        (pss_one (ps_set (i := 2) scNums.nd rfl (.inl rfl) (pe_op op_fdivN (pv 2) (pv 1))))))
      (pss_one (ps_ret (pv 3)))))), ?_⟩
    refine ⟨_, rfl, _, rfl, _, _, rfl, rfl, ⟨by decide, by decide, by decide⟩, _, _, rfl, rfl, _, rfl, ite2 (fun e => ?_) (fun e => ?_)⟩
    · have hm := fmod_in (a := c) (l := 2147483647) (by decide)
      refine ⟨_, rfl, _, _, rfl, rfl, (by show (2147483647 : Int) ≠ 0; decide), _, _, rfl, rfl, .inr ⟨by decide, by decide⟩, _, _, rfl, rfl, _, _, rfl, rfl, ⟨by decide, by decide, by omega⟩, _, _, rfl, rfl, ⟨by decide, by decide⟩, ?_⟩
      refine ⟨Nat.zero_le _, fun D nD => ?_⟩
      have hpD : (upd H D (.lst [])) p = some (.lst (lims.map V.int)) := same_upd nD _ _ hp
      refine ⟨_, rfl, p, rfl, ⟨_, .inl (.inl hpD)⟩, ?_⟩
      refine for_list (K := K) (a := p) (xs := lims.map V.int) (fun i σ H' => ∃ (y1 : Option V) (r : Int) (ds : List Int), σ = [some (.int c), y1, some (.int r), some (.ref D)] ∧ Same H H' ∧ H' D = some (.lst (ds.map V.int)) ∧ ds.length = i ∧ InLims ds lims)
        ⟨_, _, [], rfl, same_upd nD, upd_same, rfl, Nat.zero_le _, fun j d l h => by simp at h⟩ (fun i σ H' _ h => ?_) (fun i x σ H' hx h => ?_) (fun σ H' h => ?_)
      · obtain ⟨_, _, _, _, sm, _⟩ := h
        exact .inl (.inl (sm _ _ hp))
      · obtain ⟨y1, r, ds, rfl, sm, hD, hdl, hin⟩ := h
        obtain ⟨x, rfl, hx'⟩ := int_of hx
        obtain ⟨hx0, hx1⟩ := hpos x (List.mem_of_getElem? hx')
        refine ⟨.ref D, rfl, .inl ⟨rfl, _, .inl (.inl hD)⟩, .int r, rfl, .inl ⟨r, rfl, .int x, rfl, _, _, rfl, rfl, (by omega), D, _, _, rfl, rfl, hD, ?_, ?_⟩⟩
        · rw [List.length_map]
          exact small1000 (by have := (List.getElem?_eq_some_iff.mp hx').1; omega)
        · refine ⟨.int r, rfl, .int x, rfl, _, _, rfl, rfl, ⟨(by omega), (by omega)⟩, some (.int x), r.fdiv x, ds ++ [r.fmod x], rfl, same_put sm nD, ?_, by simp [hdl], hin.snoc (by rw [hdl]; exact hx') (fmod_in hx0)⟩
          rw [upd_same, List.map_append]
          rfl
      · obtain ⟨y1, r, ds, rfl, sm, hD, hdl, hin⟩ := h
        rw [List.length_map] at hdl
        exact ⟨.ref D, rfl, q H' D ds sm nD hD hdl hin⟩
    · refine ⟨Nat.zero_le _, fun D nD => ?_⟩
      have hpD : (upd H D (.lst [])) p = some (.lst (lims.map V.int)) := same_upd nD _ _ hp
      refine ⟨_, rfl, p, rfl, ⟨_, .inl (.inl hpD)⟩, ?_⟩
      refine for_list (K := K) (a := p) (xs := lims.map V.int) (fun i σ H' => ∃ (y1 : Option V) (r : Int) (ds : List Int), σ = [some (.int c), y1, some (.int r), some (.ref D)] ∧ Same H H' ∧ H' D = some (.lst (ds.map V.int)) ∧ ds.length = i ∧ InLims ds lims)
        ⟨_, _, [], rfl, same_upd nD, upd_same, rfl, Nat.zero_le _, fun j d l h => by simp at h⟩ (fun i σ H' _ h => ?_) (fun i x σ H' hx h => ?_) (fun σ H' h => ?_)
      · obtain ⟨_, _, _, _, sm, _⟩ := h
        exact .inl (.inl (sm _ _ hp))
      · obtain ⟨y1, r, ds, rfl, sm, hD, hdl, hin⟩ := h
        obtain ⟨x, rfl, hx'⟩ := int_of hx
        obtain ⟨hx0, hx1⟩ := hpos x (List.mem_of_getElem? hx')
        refine ⟨.ref D, rfl, .inl ⟨rfl, _, .inl (.inl hD)⟩, .int r, rfl, .inl ⟨r, rfl, .int x, rfl, _, _, rfl, rfl, (by omega), D, _, _, rfl, rfl, hD, ?_, ?_⟩⟩
        · rw [List.length_map]
          exact small1000 (by have := (List.getElem?_eq_some_iff.mp hx').1; omega)
        · refine ⟨.int r, rfl, .int x, rfl, _, _, rfl, rfl, ⟨(by omega), (by omega)⟩, some (.int x), r.fdiv x, ds ++ [r.fmod x], rfl, same_put sm nD, ?_, by simp [hdl], hin.snoc (by rw [hdl]; exact hx') (fmod_in hx0)⟩
          rw [upd_same, List.map_append]
          rfl
      · obtain ⟨y1, r, ds, rfl, sm, hD, hdl, hin⟩ := h
        rw [List.length_map] at hdl
        exact ⟨.ref D, rfl, q H' D ds sm nD hD hdl hin⟩
end
end K0

namespace K0
open PySem PySem.Spec PyProof.Rows L2
open PySem.Calls
/-! ### bytes.fromhex(text) of a text that bytes have -/
abbrev dg : Nat → Nat := PySem.Builtin.Bytes.hexDigit
def sg (ks : List Nat) : List Nat := ks.flatMap fun k => [dg (k / 16), dg (k % 16)]
theorem hex_key {f : Nat → Nat → List Nat → Array UInt8 → Except Nat (Array UInt8)} (e0 : ∀ n i out, f n i [] out = .ok out)
    (e1 : ∀ (a b : Fin 16) n i rest out, f (n + 1) i (dg a.1 :: dg b.1 :: rest) out = f n (i + 2) rest (out.push (a.1 * 16 + b.1).toUInt8)) :
    ∀ (ks : List Nat) (n i : Nat) (out : Array UInt8), (∀ k ∈ ks, k < 256) → ks.length ≤ n → f n i (sg ks) out = .ok (out ++ (ks.map Nat.toUInt8).toArray)
  | [], n, i, out, _, _ => by
    show f n i [] out = _
    rw [e0]
    simp
  | k :: ks, 0, i, out, _, hn => by simp at hn
  | k :: ks, n + 1, i, out, hk, hn => by
    have k0 : k < 256 := hk k (by simp)
    have h1 : k / 16 < 16 := by omega
    have h2 : k % 16 < 16 := by omega
    show f (n + 1) i (dg (k / 16) :: dg (k % 16) :: sg ks) out = _
    rw [e1 ⟨k / 16, h1⟩ ⟨k % 16, h2⟩, hex_key e0 e1 ks n (i + 2) _ (fun k m => hk k (by simp [m])) (by simpa using hn)]
    have e : k / 16 * 16 + k % 16 = k := by omega
    simp [e]
theorem sg_len : ∀ ks : List Nat, (sg ks).length = 2 * ks.length
  | [] => rfl
  | k :: ks => by
    show ([dg (k / 16), dg (k % 16)] ++ sg ks).length = _
    rw [List.length_append, sg_len ks, List.length_cons]
    simp
    omega
theorem dg_lt (n : Nat) (h : n < 16) : dg n < 128 := by
  have : ∀ m : Fin 16, dg m.1 < 128 := by decide +kernel
  exact this ⟨n, h⟩
theorem sg_lt : ∀ {ks : List Nat}, (∀ k ∈ ks, k < 256) → ∀ c ∈ sg ks, c < 128
  | [], _, c, h => by (cases h)
  | k :: ks, hk, c, h => by
    have k0 : k < 256 := hk k (by simp)
    have h' : c ∈ [dg (k / 16), dg (k % 16)] ++ sg ks := h
    rcases (List.mem_append.mp h') with (q | q)
    · simp at q
      rcases q with rfl | rfl
      · exact dg_lt _ (by omega)
      · exact dg_lt _ (by omega)
    · exact sg_lt (fun k m => hk k (by simp [m])) c q
/-- a method of the class bytes, bound to it -/
def fhBound : Obj := { cls := .type "builtin_function_or_method", data := .fields #[.builtin "bytes.fromhex", .type "bytes"] }
def fhHO (u : Addr) : HO := .ext fun h => h.get? u = some fhBound
theorem fh_type : typeOf (.builtin "bytes.fromhex") = pure (.type "classmethod_descriptor") := by
  show builtinType _ = _
  rw [builtinType_eq_fast]
  kernel_rfl
theorem fh_entry : entryFor table "bytes.fromhex" = some Builtin.«bytes.fromhex» := entryFor_of_tree (by kernel_rfl)
theorem fh_quiet {as : Args} : (Code.builtin "bytes.fromhex" as).quiet = true := Code.quiet_builtin _ (by decide +kernel)
theorem fh_isType : isType (.type "bytes") = pure true := by first | rfl | kernel_rfl | (unfold isType; rw [isSubtype_type]; kernel_rfl)
theorem fh_sub : isSubtype (.type "bytes") (.type "bytes") = pure true := by
  rw [isSubtype_type]
  kernel_rfl
theorem fh_owner : (kfb_private% "ownerAndName") "bytes.fromhex" = ("bytes", "fromhex") := by first | decide +kernel | kernel_rfl
theorem fh_check {o : PySem.Str} {u : Tok} : checkBoundCall "bytes.fromhex" ⟨[.type "bytes", .str o u], []⟩ = pure () := by first | kernel_rfl | rfl
section
variable {prog : Program} {w : World} {M : Model} {E : Value → Shared → Prop} {s : Shared} {A : Around} {K : PySem.W.Frag}
theorem fh_run {R : Fin → Shared → Prop} (h : R (.done (.ret (.ref s.heap.objs.size))) { s with heap := s.heap.push fhBound }) :
    wpAny M A (Builtin.«classmethod_descriptor.__get__» ⟨[.builtin "bytes.fromhex", .none, .type "bytes"], []⟩) R E s := by
  unfold Builtin.«classmethod_descriptor.__get__»
  refine wpAny_bind (wpAny_of_eq (a := (.builtin "bytes.fromhex", none, some (.type "bytes"))) (by first | rfl | kernel_rfl) ?_)
  simp only [fh_owner]
  refine wpAny_bind (wpAny_of_eq (a := .type "bytes") rfl ?_)
  refine wpAny_bind (wpAny_of_eq (a := true) fh_isType ?_)
  refine PySem.W.KFB.if_not rfl ?_
  refine wpAny_bind (wpAny_of_eq (a := true) fh_sub ?_)
  refine PySem.W.KFB.if_not rfl ?_
  exact wpAny_bind (wpAny_newObj_type (wpAny_pure h))
theorem fh_tree {ks : List Nat} {u : Tok} {R : Fin → Shared → Prop} (hk : ∀ k ∈ ks, k < 256) (hl : ks.length ≤ 1000000)
    (h : R (.done (.ret (.bytes (ks.map Nat.toUInt8).toArray s.toks))) { s with toks := s.toks + 1 }) :
    wpAny M A (Builtin.«bytes.fromhex» ⟨[.type "bytes", .str ⟨(sg ks).toArray⟩ u], []⟩) R E s := by
  unfold Builtin.«bytes.fromhex» Builtin.Bytes.fromhexM
  dsimp only
  have hno : Array.findIdx? (fun x : Nat => decide (x ≥ 128)) (sg ks).toArray = none := by
    rw [Array.findIdx?_eq_none_iff]
    intro c hc
    have := sg_lt hk c (by simpa using hc)
    exact decide_eq_false (by omega)
  refine wpAny_bind (wpAny_of_eq (a := "bytes") (by first | rfl | kernel_rfl) ?_)
  refine PySem.W.KFB.if_not rfl ?_
  refine wpAny_bind (wpAny_of_eq (a := some ⟨(sg ks).toArray⟩) rfl ?_)
  dsimp only
  rw [hno]
  dsimp only
  split
  all_goals
    rename_i v heq
    have z := (hex_key (by intro n i out; cases n <;> rfl) (by
      intro a b n i rest out
      obtain ⟨a, ha⟩ := a
      obtain ⟨b, hb⟩ := b
      have ea : a = 0 ∨ a = 1 ∨ a = 2 ∨ a = 3 ∨ a = 4 ∨ a = 5 ∨ a = 6 ∨ a = 7 ∨ a = 8 ∨ a = 9 ∨ a = 10 ∨ a = 11 ∨ a = 12 ∨ a = 13 ∨ a = 14 ∨ a = 15 := by omega
      have eb : b = 0 ∨ b = 1 ∨ b = 2 ∨ b = 3 ∨ b = 4 ∨ b = 5 ∨ b = 6 ∨ b = 7 ∨ b = 8 ∨ b = 9 ∨ b = 10 ∨ b = 11 ∨ b = 12 ∨ b = 13 ∨ b = 14 ∨ b = 15 := by omega
      rcases ea with rfl | rfl | rfl | rfl | rfl | rfl | rfl | rfl | rfl | rfl | rfl | rfl | rfl | rfl | rfl | rfl <;>
        (rcases eb with rfl | rfl | rfl | rfl | rfl | rfl | rfl | rfl | rfl | rfl | rfl | rfl | rfl | rfl | rfl | rfl <;> rfl)) ks (sg ks).toArray.size 0 #[] hk (by simp [sg_len]; omega)).symm.trans heq
  · cases z
  · have e := Except.ok.inj z
    rw [← e]
    refine PySem.W.KFB.if_so (by decide +kernel) ?_
    refine wpAny_bind (wpAny_mkBytes ?_ ?_)
    · rw [Array.empty_append]
      exact wpAny_pure h
    · have hz := PySem.sizeLine_eq
      simp
      omega
theorem fh_call {x : Addr} {ks : List Nat} {u : Tok} {Q : Value → Shared → Prop} (ho : s.heap.get? x = some fhBound) (hk : ∀ k ∈ ks, k < 256) (hl : ks.length ≤ 1000000)
    (h : Q (.bytes (ks.map Nat.toUInt8).toArray s.toks) { s with toks := s.toks + 1 }) : wpAny (model prog w) A (call (.ref x) [.str ⟨(sg ks).toArray⟩ u]) Q E s := by
  refine wpAny_call (codeAny_of_tree ?_)
  show wpAny _ A.in1 (callAny (.ref x) ⟨[.str ⟨(sg ks).toArray⟩ u], []⟩) _ _ s
  simp only [callAny]
  refine wpAny_bind (wpAny_load ho ?_)
  simp only [fhBound, show (Value.type "builtin_function_or_method" == Value.type "method" || Value.type "builtin_function_or_method" == Value.type "builtin_function_or_method" || Value.type "builtin_function_or_method" == Value.type "method-wrapper") = true by decide, if_true]
  refine PySem.W.KFB.if_so (by decide) ?_
  refine wpAny_bind (wpAny_of_eq (a := ()) fh_check ?_)
  refine wpAny_bind (wpAny_pure (wpAny_pure ?_))
  exact ⟨fh_quiet, codeAny_builtin fh_entry (fh_tree hk hl h)⟩
theorem fh_fields {pos : Pos} {u : Addr} {first : List Value} {args : List (Bool × Sem Value)} {Q : Value → Shared → Prop} (hplain : args.any (·.1) = false)
    (h : wpAny M A (evalArgs (.ref u) true args []) (fun x s₁ => s₁.heap.get? u = some fhBound ∧ wpAny M A (call (.ref u) (first ++ x.pos) x.kw) Q E s₁) E s) :
    wpAny M A (callWith pos (.ref u) first args []) Q E s := by
  unfold callWith
  refine wpAny_bind (wpAny_holding (wpAny_mono h (fun x s₁ hx => ?_) fun _ _ z => z))
  refine wpAny_bind (wpAny_standAt ?_)
  simp only [hplain, List.any_nil, Bool.or_false]
  refine wpAny_bind (m := keeperOf (.ref u)) ?_
  unfold keeperOf
  refine wpAny_bind (wpAny_load hx.1 ?_)
  simp only [fhBound, show (Value.type "builtin_function_or_method" != Value.type "method") = true by decide, show (Value.type "builtin_function_or_method" == Value.type "builtin_function_or_method" || Value.type "builtin_function_or_method" == Value.type "method-wrapper") = true by decide, if_true]
  refine wpAny_pure ?_
  exact wpAny_bind (wpAny_mono hx.2 (fun r s₂ hr => wpAny_bind (wpAny_holding (wpAny_point (wpAny_pure hr)))) fun _ _ z => z)
theorem fh_with {pos : Pos} {u : Addr} {first : List Value} {env : Env} {e : Expr} {rest : List Expr} {Q : Value → Shared → Prop}
    (h : wpAny M A (spliced (backTo pos (starEach (e :: rest) env))) (fun vs s₁ => s₁.heap.get? u = some fhBound ∧ wpAny M A (call (.ref u) (first ++ vs)) Q E s₁) E s)
    (he : starEach (e :: rest) env = (false, eval e env) :: starEach rest env := by rfl) (hplain : (backTo pos (starEach rest env)).any (·.1) = false := by rfl) :
    wpAny M A (callWith pos (.ref u) first (backTo pos (starEach (e :: rest) env)) []) Q E s := by
  rw [he] at h ⊢
  exact fh_fields (by show (false || (backTo pos (starEach rest env)).any (·.1)) = false; rw [hplain]; rfl) (Calls.evalArgs_plain h)
theorem fh_find (K : PySem.W.Frag) : PySem.W.findCls K (.type "bytes") (.type "type") (PySem.Str.ofString "fromhex") = some (.get (.builtin "classmethod_descriptor.__get__") (.builtin "bytes.fromhex") .none (.type "bytes")) := by first | rfl | kernel_rfl
theorem fh_get {pl : Sem Bool} {Q : Value × List Value → Shared → Prop} (X : K.In s.heap)
    (h : Q (.ref s.heap.objs.size, []) { s with heap := s.heap.push fhBound, toks := s.toks + 1 }) : wpAny (model prog w) A (getMethod (.type "bytes") (PySem.Str.ofString "fromhex") pl) Q E s := by
  have L0 : PySem.W.Looks (model prog w) s.heap (typeOf (.type "bytes")) (.type "type") := PySem.W.Looks.of_pure (by first | rfl | kernel_rfl)
  have LO : PySem.W.Looks (model prog w) s.heap (opaqueClassAbove (.type "bytes")) none := PySem.W.Looks.of_pure (by
    unfold opaqueClassAbove
    dsimp only
    rw [show Manifest.isStub "bytes" = false by decide +kernel]
    rfl)
  have hg : PySem.W.findIn K (.type "type") "__getattribute__" = some (some (.builtin "type.__getattribute__")) := PySem.W.type_tga
  unfold getMethod specialOf
  refine wpAny_bind (wpAny_bind (L0.here ((PySem.W.looks_findIn X hg).here ?_)))
  dsimp only
  rw [if_pos PySem.W.canon_tga]
  refine wpAny_bind (wpAny_mono (E := E) (Q := fun v => Q (v, [])) ?_ (fun _ _ z => wpAny_pure z) fun _ _ z => z)
  refine PySem.W.cls_open X LO L0 hg (PySem.W.looks_hook X (r := none) (by rfl)) (by show PySem.W.subIn K _ _ = _; rfl) (fh_find K) ?_
  show wpAny _ _ (holding [.builtin "bytes.fromhex"] (call (.builtin "classmethod_descriptor.__get__") [.builtin "bytes.fromhex", .none, .type "bytes"]) >>= fun v => ret v) _ _ _
  exact wpAny_bind (wpAny_holding (wpAny_call_entry PySem.W.KFB.slot_get fh_type PySem.W.KFB.entry_get (fh_run ⟨_, rfl, wpAny_pure (wpAny_pure h)⟩) (PySem.W.KFB.args_get _ _ _)))
end
def rFh : List V → Hp → VK → Prop := fun vs H Q => ∃ ks : List Nat, vs = [.str ⟨(sg ks).toArray⟩] ∧ (∀ k ∈ ks, k < 256) ∧ ks.length ≤ 1000000 ∧ Q (.byt (ks.map Nat.toUInt8).toArray) H
def tFh (to : TE) (t : TA) : TE := fun σ H Q => to σ H fun x H1 => x = .ty "bytes" ∧ ∀ u, H1 u = none → t σ (upd H1 u (fhHO u)) fun vs H2 => H2 u = some (fhHO u) ∧ rFh vs H2 Q
theorem fh_at {X : Cx} {pins : List (Addr × Obj)} {s : Shared} {σ : L2.St} {H : Hp} {u : Addr} (I : Inv X pins σ H s) (hu : H u = some (fhHO u)) : s.heap.get? u = some fhBound := by
  have x : ObjOk X.prog X.w H s.heap u (.ext fun h => h.get? u = some fhBound) := I.hok u _ hu
  exact x.1
section
variable {X : Cx} {o e : Expr} {es : List Expr} {to : TE} {t : TA} {apos pos : Pos}
theorem pe_fromhex {pl : Sem Bool} (ho : PE X o to) (ha : PA X (e :: es) t) (hst : starEach (e :: es) X.env = (false, eval e X.env) :: starEach es X.env := by rfl) (hpl : (backTo pos (starEach es X.env)).any (·.1) = false := by rfl)
    (ht : eval (.Call (.Attribute o "fromhex" apos) (e :: es) [] pos) X.env = (do
      let own ← eval o X.env
      standAt apos.atName
      let (f, first) ← holding [own] (getMethod own "fromhex" pl)
      callWith pos f first (backTo pos (starEach (e :: es) X.env)) (backToKw pos (keywordEach [] X.env))) := by rfl) :
    PE X (.Call (.Attribute o "fromhex" apos) (e :: es) [] pos) (tFh to t) := by
  constructor
  intro pins s σ H Q I h
  refine PySem.W.methodCall_KW (pl := pl) (thn (ho.run pins s σ H _ I h) fun v s1 ⟨x, H1, I1, rx, ex, q⟩ => ?_) ht
  subst ex
  obtain rfl : v = Value.type "bytes" := rx
  refine fh_get I1.kIn ?_
  have eb : (s1.heap.push fhBound).get? s1.heap.objs.size = some fhBound := Heap.get?_push_size _ rfl
  have I2 := I1.laid (t' := s1.toks + 1) (a := s1.heap.objs.size) (o := fhHO s1.heap.objs.size) (h' := s1.heap.push fhBound) (fun b u q => Heap.get?_push_of_some _ q) (Nat.le_refl _) ⟨eb, ⟨_, eb⟩, fun h1 h2 f k => k _ f⟩
  show wpAny _ _ (callWith pos (.ref s1.heap.objs.size) [] (backTo pos (starEach (e :: es) X.env)) []) _ _ _
  refine fh_with (thn (ha.run pos pins _ σ _ _ I2 (q _ (I1.hok.fresh (Nat.le_refl _)))) fun us s2 ⟨vs, H2, I3, rv, hu, ks, ev, hk, hl, qq⟩ => ⟨fh_at I3 hu, ?_⟩) hst hpl
  subst ev
  obtain ⟨u1, rfl, ru1⟩ := (vals1 rv)
  obtain ⟨t1, rfl⟩ := ru1
  exact fh_call (fh_at I3 hu) hk hl ⟨.byt _, H2, I3.tok _, ⟨_, rfl⟩, qq⟩
/-! ### b.hex() -/
theorem mt_hex : MtR X "bytes.hex" (fun x vs H Q => ∃ ks : List Nat, x = .byt (ks.map Nat.toUInt8).toArray ∧ vs = [] ∧ (∀ k ∈ ks, k < 256) ∧ ks.length ≤ 1000000 ∧ Q (.str ⟨(sg ks).toArray⟩) H) := by
  intro pins s σ H x vs v us Q I rx rv h
  obtain ⟨ks, rfl, rfl, hk, hl, q⟩ := h
  obtain ⟨t, rfl⟩ := rx
  cases rv
  have hb : PySem.W.KBw.bInts (ks.map Nat.toUInt8).toArray = ks.map fun (k : Nat) => (k : Int) := by
    unfold PySem.W.KBw.bInts
    show ((ks.map Nat.toUInt8).map fun c : UInt8 => ((c.toNat : Nat) : Int)) = _
    rw [List.map_map]
    refine (List.map_congr_left fun n hn => ?_)
    show (((n.toUInt8).toNat : Nat) : Int) = n
    have := hk n hn
    simp [Nat.toUInt8]
    omega
  have ht : PySem.W.KBhx.text (ks.map fun (k : Nat) => (k : Int)) = ⟨(sg ks).toArray⟩ := by
    unfold PySem.W.KBhx.text PySem.W.KBhx.signs sg
    rw [List.flatMap_map]
    rfl
  refine PySem.W.KBhx.hex_K hb (by rw [List.length_map]; omega) fun t' k _ => ?_
  rw [ht]
  exact ⟨.str _, H, I.tok _, ⟨_, rfl⟩, q⟩
end
end K0

namespace K0
open PySem PySem.Spec PyProof.Rows L2
/-! ### of_hex, hex_of -/
def sgS (ks : List Nat) : Str := ⟨(sg ks).toArray⟩
def byB (ks : List Nat) : Array UInt8 := (ks.map Nat.toUInt8).toArray
def hexTab : Str := "0123456789abcdef"
theorem dg_in {n : Nat} (h : n < 16) : dg n ∈ hexTab.cps.toList := by
  have : ∀ m : Fin 16, dg m.1 ∈ hexTab.cps.toList := by decide +kernel
  exact this ⟨n, h⟩
theorem sg_in : ∀ {ks : List Nat}, (∀ k ∈ ks, k < 256) → ∀ c ∈ sg ks, c ∈ hexTab.cps.toList
  | [], _, c, h => by (cases h)
  | k :: ks, hk, c, h => by
    have k0 : k < 256 := hk k (by simp)
    have h' : c ∈ [dg (k / 16), dg (k % 16)] ++ sg ks := h
    rcases (List.mem_append.mp h') with (q | q)
    · simp at q
      rcases q with rfl | rfl
      · exact dg_in (by omega)
      · exact dg_in (by omega)
    · exact sg_in (fun k m => hk k (by simp [m])) c q
theorem scOfHex : FnScope ["text", "sign"] ["text"] (defScope sOfHex) := ⟨rfl, rfl, rfl, by decide +kernel, rfl, by decide +kernel, by decide +kernel⟩
section
variable {P : Program} {w : World} {K : PySem.W.Frag} {mg : Str → Option Value} {base : Heap}
def spOfHex : Sp := fun vs H Q _ => ∃ ks : List Nat, vs = [.str (sgS ks)] ∧ (∀ k ∈ ks, k < 256) ∧ ks.length ≤ 100000 ∧ ∀ H', Same H H' → Q (.byt (byB ks)) H'
theorem ok_ofHex {f : Addr} {fd : FuncData} {j : Nat} {t : Tok} (F : Fun K "of_hex" "of_hex" sOfHex f fd) (m1 : mg "isinstance" = none) (m2 : mg "str" = none) (m3 : mg "len" = none) (m4 : mg "all" = none) (m5 : mg "bytes" = none) (c1 : mg "SIGNS" = some (.str hexTab t)) :
    FnOk P w K mg base CX0 (j + 1) f fd ["text"] spOfHex := by
  refine F.ok scOfHex (fun vs H Q E h => ?_) (fun cdv A outer s H vs Q E hr h => ?_)
  · obtain ⟨ks, rfl, _⟩ := h
    rfl
  · obtain ⟨ks, rfl, hk, hl, q⟩ := h
    refine ⟨_, pss_cons (ps_if (PW.pt (pw_or (pt_not (pt_val (pe_callB call_isi (by rfl) m1 (by decide +kernel) (pa_cons (pv 0) (pa_cons (pe_bltn (v := .ty "str") (by rfl) m2 (by decide +kernel) rfl) pa_nil)))))
        (pw_or (pt_truth (pe_op op_and (pe_callB call_len_str (by rfl) m3 PySem.boot_len (pa_cons (pv 0) pa_nil)) pe_int) (by intro _; rfl))
        (pw_or1 (pt_not (pt_val (pe_callB (cr_all rfl) (by rfl) m4 (by decide +kernel) (pa_cons (pe_lc (own := [("sign", 1)]) (g := gName 1) (tt := tYes) rfl scOfHex.nd (pi_str (pv 0)) (blkOk_by (N := ["text", "sign"]) (sc := defScope sOfHex) (by decide +kernel))
          (fun _ _ _ _ _ => pg_name (i := 1) scOfHex.nd rfl (Or.inl rfl)) (fun _ _ _ _ _ => pts_nil)
          (fun _ _ _ _ _ => pe_cmpR op_in_sign (pv 1) (pe_glob (v := .str hexTab) rfl c1 ⟨_, rfl⟩) (by with_unfolding_all rfl))) pa_nil))))))))
        (pss_one ps_never) pss_nil)
      (pss_one (ps_ret (pe_fromhex (pe_bltn (v := .ty "bytes") (by rfl) m5 (by decide +kernel) rfl) (pa_cons (pv 0) pa_nil)))), ?_⟩
    have hsz : (sgS ks).length = 2 * ks.length := sg_len ks
    have hz := PySem.sizeLine_eq
    refine ⟨_, rfl, _, _, _, _, _, rfl, .ty "str", .base (.str _), kit_ty (a := "str") (r := true) (by decide +kernel), _, rfl, ?_⟩
    refine iteF ?_
    refine ⟨_, rfl, _, rfl, by rw [hsz, hz]; omega, _, _, rfl, rfl, _, rfl, ?_⟩
    have hev : Builtin.bitAnd (((sgS ks).length : Nat) : Int) 1 = 0 := by
      rw [PyProof.Rows.bitAnd_m1, hsz]
      omega
    rw [hev]
    refine iteF ?_
    refine ⟨_, rfl, _, rfl, fun D nD => ?_⟩
    refine lc_it (walk_str (z := sgS ks)) (fun i H' => Same H H' ∧ H' D = some (.lst (List.replicate i (.bl true)))) ⟨same_upd nD, upd_same⟩ (fun _ _ _ _ => trivial) (fun i x H1 H2 hi h y => ?_) (fun H' h => ?_)
    · obtain ⟨rfl, c, hc, rfl⟩ := y
      refine ⟨rfl, yes ?_⟩
      have hcs : c ∈ sg ks := by
        have := Array.mem_of_getElem? hc
        simpa [sgS] using this
      refine ⟨_, rfl, c, hexTab, rfl, rfl, _, h.2, ?_, same_put h.1 nD, ?_⟩
      · rw [List.length_replicate]
        have : (sgS ks).cps.size = 2 * ks.length := hsz
        omega
      · rw [upd_same, decide_eq_true (sg_in hk c hcs), List.replicate_succ']
    · have hall : (List.replicate (sgS ks).cps.size true).all id = true := by simp
      refine ⟨D, List.replicate (sgS ks).cps.size true, rfl, .inl (.inl (by rw [h.2, List.map_replicate])), _, rfl, ?_⟩
      rw [hall]
      refine iteF ?_
      refine ⟨rfl, fun u nu => ⟨_, rfl, upd_same, ks, rfl, hk, by omega, ?_⟩⟩
      exact q _ (same_put h.1 (none_back h.1 nu))
end
end K0

namespace K0
open PySem PySem.Spec PyProof.Rows L2 TL
section
variable {X : Cx} {o : Expr} {to : TE}
def tB0 (r : V → List V → Hp → VK → Prop) (to : TE) : TE := fun σ H Q => to σ H fun x H1 => (∃ b, x = .byt b) ∧ r x [] H1 Q
theorem pe_b0 {id : String} {name : Str} {apos pos : Pos} {r : V → List V → Hp → VK → Prop} (slot : Slot "bytes" name id) (ty : typeOf (.builtin id) = pure (.type "method_descriptor")) (rule : MtR X id r) (ho : PE X o to)
    (hbase : attributeBase o name X.env (eval o X.env) = eval o X.env := by rfl) (hline : (apos.endLine == pos.line) = true := by rfl) : PE X (.Call (.Attribute o name apos) [] [] pos) (tB0 r to) := by
  constructor
  intro pins s σ H Q I h
  refine PySem.Call_method0 hbase hline (thn (ho.run pins s σ H _ I h) fun v s1 ⟨x, H1, I1, r1, ⟨b, eb⟩, q1⟩ => ?_)
  subst eb
  obtain ⟨t, rfl⟩ := _root_.id r1
  exact ⟨"bytes", _, PySem.W.FB.plainAttrs_bytes, slot, ty, PySem.W.typeIs_bytes _ _ _, (fun _ e => nomatch e), Calls.callWith_builtin rfl (PySem.evalArgs_none (rule pins s1 σ H1 _ [] _ [] Q I1 r1 .nil q1))⟩
end
section
variable {P : Program} {w : World} {K : PySem.W.Frag} {mg : Str → Option Value} {base : Heap}
/-! ### _law_hex -/
theorem scHex : FnScope ["_law_numbers_here", "_law_one"] ["_law_numbers_here"] (defScope sHex) := ⟨rfl, rfl, rfl, by decide +kernel, rfl, by decide +kernel, by decide +kernel⟩
theorem tab_at {n : Nat} (h : n < 16) : atI hexTab.cps.toList ((n : Nat) : Int) = some (dg n) := by
  have : ∀ m : Fin 16, hexTab.cps.toList[m.1]? = some (dg m.1) := by decide +kernel
  exact atI_nat (this ⟨n, h⟩)
def two (k : Nat) : Str := ⟨#[dg (k / 16)]⟩ ++ ⟨#[dg (k % 16)]⟩
theorem joinL_nil : ∀ ls : List (List Nat), joinL [] ls = ls.flatten
  | [] => rfl
  | [p] => by simp [joinL]
  | p :: q :: r => by
    show p ++ ([] ++ joinL [] (q :: r)) = _
    rw [joinL_nil (q :: r)]
    rfl
theorem join_two (ks : List Nat) : Txt.join "" (ks.map two) = sgS ks := by
  refine (List.cons.inj (map_tl_inj (l := [_]) (m := [_]) ?_)).1
  rw [List.map_singleton, List.map_singleton, join_eq, tl_join]
  show [joinL [] ((ks.map two).map tl)] = [(sg ks)]
  rw [joinL_nil, List.map_map]
  congr 1
def spHex : Sp := fun vs H Q _ => ∃ (p : Addr) (ks : List Nat), vs = [.ref p] ∧ H p = some (.lst (ks.map fun (k : Nat) => V.int (k : Int))) ∧ (∀ k ∈ ks, k < 256) ∧ ks.length ≤ 100000 ∧ ∀ H', Same H H' → Q (.str (sgS ks)) H'
theorem ok_hex {f : Addr} {fd : FuncData} {j : Nat} (F : Fun K "_law_hex" "_law_hex" sHex f fd) (m1 : mg "int" = none) : FnOk P w K mg base CX0 (j + 1) f fd ["_law_numbers_here"] spHex := by
  refine F.ok scHex (fun vs H Q E h => ?_) (fun cdv A outer s H vs Q E hr h => ?_)
  · obtain ⟨p, ks, rfl, _⟩ := h
    rfl
  · obtain ⟨p, ks, rfl, hp, hk, hl, q⟩ := h
    refine ⟨_, pss_one (ps_ret (pe_join pe_str (pe_lc (own := [("_law_one", 1)]) (g := gName 1) (tt := tYes) rfl scHex.nd (pi_list (pv 0)) (blkOk_by (N := ["_law_numbers_here", "_law_one"]) (sc := defScope sHex) (by decide +kernel))
        (fun _ _ _ _ _ => pg_name (i := 1) scHex.nd rfl (Or.inl rfl)) (fun _ _ _ _ _ => pts_nil)
        (fun _ _ _ _ _ => pe_op op_add_str (pe_ix ix_str pe_str (pe_op op_fdivN (pv 1) pe_int) (fun _ _ => rfl)) (pe_ix ix_str pe_str (pe_op op_modN (pe_callTy call_int1 (by rfl) m1 (by decide +kernel) (pa_cons (pv 1) pa_nil)) pe_int) (fun _ _ => rfl)))))), ?_⟩
    refine ⟨⟨_, rfl⟩, _, rfl, p, rfl, ⟨_, .inl (.inl hp)⟩, fun D nD => ?_⟩
    have hz := PySem.sizeLine_eq
    refine lc_list (K := K) (a := p) (xs := ks.map fun (k : Nat) => V.int (k : Int)) (fun i H' => Same H H' ∧ H' D = some (.lst (((ks.take i).map two).map V.str))) ⟨same_upd nD, upd_same⟩ (fun i H' _ h => .inl (.inl (h.1 _ _ hp))) (fun i x H1 hx h => ?_) (fun H1 h => ?_)
    · obtain ⟨k, hk', rfl⟩ : ∃ k, ks[i]? = some k ∧ x = V.int (k : Int) := by
        rw [List.getElem?_map] at hx
        cases e : ks[i]? with
        | none => (rw [e] at hx); (cases hx)
        | some k => rw [e] at hx; exact ⟨k, rfl, (Option.some.inj hx).symm⟩
      have k0 := hk k (List.mem_of_getElem? hk')
      have e1 : ((k : Nat) : Int).fdiv 16 = ((k / 16 : Nat) : Int) := by
        rw [Int.fdiv_eq_ediv_of_nonneg _ (by decide)]
        rfl
      have e2 : ((k : Nat) : Int).fmod 16 = ((k % 16 : Nat) : Int) := by
        rw [Int.fmod_eq_emod_of_nonneg _ (by decide)]
        rfl
      refine ⟨rfl, yes ?_⟩
      refine ⟨_, rfl, _, _, rfl, rfl, ⟨by decide, by decide⟩, hexTab, _, dg (k / 16), rfl, rfl, (by rw [hz]; decide), (by rw [e1]; exact tab_at (by omega)), ?_⟩
      refine ⟨_, rfl, .inl ⟨_, rfl, _, _, rfl, rfl, (by show (16 : Int) ≠ 0; decide), hexTab, _, dg (k % 16), rfl, rfl, (by rw [hz]; decide), (by rw [e2]; exact tab_at (by omega)), ?_⟩⟩
      refine ⟨_, _, rfl, rfl, (by rw [hz]; show 1 + 1 ≤ 16777216; decide), _, h.2, ?_, same_put h.1 nD, ?_⟩
      · rw [List.length_map, List.length_map, List.length_take]
        omega
      · rw [upd_same, List.take_add_one, hk', List.map_append, List.map_append]
        rfl
    · have e : ks.take (ks.map fun (k : Nat) => V.int (k : Int)).length = ks := by rw [List.length_map, List.take_length]
      rw [e] at h
      have hsum : ((ks.map two).map (·.length)).sum = 2 * ks.length := by
        rw [List.map_map]
        have : ((fun x : Str => x.length) ∘ two) = fun _ => 2 := by
          funext k
          rfl
        rw [this]
        clear this h e hp hk q hl
        induction ks with
        | nil => rfl
        | cons k ks ih =>
          rw [List.map_cons, List.sum_cons, ih, List.length_cons]
          omega
      refine ⟨_, D, ks.map two, rfl, rfl, .inl (.inl (.inl h.2)), ?_, ?_⟩
      · rw [hsum, List.length_map]
        show 2 * ks.length + ks.length * 0 ≤ _
        omega
      · rw [join_two]
        exact q H1 h.1
end
end K0

namespace K0
open PySem PySem.Spec PyProof.Rows L2
/-! ### _law_back -/
section
variable {P : Program} {w : World} {K : PySem.W.Frag} {mg : Str → Option Value} {base : Heap}
def spBack : Sp := fun vs H Q _ => ∃ b : Nat, vs = [.int (b : Int)] ∧ 1 ≤ b ∧ b ≤ 5000 ∧ Q (.int ((Nat.log2 b : Nat) : Int)) H
end
end K0

namespace K0
open PySem PySem.Spec PyProof.Rows L2
/-! ### _law_told_lengths -/
def toldL : List Int := List.replicate 239 8 ++ List.replicate 34 9
def toldB : List Int := List.replicate 6 4 ++ List.replicate 5 3
theorem rep_flat (n : Nat) (x : V) : (List.replicate n [x]).flatten = List.replicate n x := by
  induction n with
  | zero => rfl
  | succ n ih => rw [List.replicate_succ, List.flatten_cons, ih, List.replicate_succ]; rfl
theorem half {σ : L2.St} {H : Hp} {Q : VK} (x1 x2 : V) (n1 n2 : Nat) (h1 : n1 ≤ 1000) (h2 : n2 ≤ 1000)
    (h : ∀ H' p, Same H H' → H p = none → H' p = some (.lst (List.replicate n1 x1 ++ List.replicate n2 x2)) → Q (.ref p) H') :
    tOp rCat (tOp rRep (tLst (tCons (tC x1) tNil)) (tC (V.int (n1 : Int)))) (tOp rRep (tLst (tCons (tC x2) tNil)) (tC (V.int (n2 : Int)))) σ H Q := by
  have hz := PySem.sizeLine_eq
  refine ⟨by show 1 ≤ sizeLine; rw [hz]; decide, fun a na => ⟨_, _, _, rfl, rfl, upd_same, by omega, by omega, by rw [hz]; simp; omega, fun b nb => ⟨by show 1 ≤ sizeLine; rw [hz]; decide, fun a2 na2 => ⟨_, _, _, rfl, rfl, upd_same, by omega, by omega, by rw [hz]; simp; omega, fun b2 nb2 => ?_⟩⟩⟩⟩
  rw [Int.toNat_natCast, Int.toNat_natCast, rep_flat, rep_flat] at *
  have s1 : Same H (upd H a (.lst [x1])) := same_upd na
  generalize upd H a (.lst [x1]) = H1 at *
  have s2 : Same H1 (upd H1 b (.lst (List.replicate n1 x1))) := same_upd nb
  have e2 : (upd H1 b (.lst (List.replicate n1 x1))) b = some (.lst (List.replicate n1 x1)) := upd_same
  generalize upd H1 b (.lst (List.replicate n1 x1)) = H2 at *
  have s3 : Same H2 (upd H2 a2 (.lst [x2])) := same_upd na2
  generalize upd H2 a2 (.lst [x2]) = H3 at *
  have s4 : Same H3 (upd H3 b2 (.lst (List.replicate n2 x2))) := same_upd nb2
  have e4 : (upd H3 b2 (.lst (List.replicate n2 x2))) b2 = some (.lst (List.replicate n2 x2)) := upd_same
  generalize upd H3 b2 (.lst (List.replicate n2 x2)) = H4 at *
  have s14 := ((s1.trans s2).trans s3).trans s4
  refine ⟨_, _, _, _, rfl, rfl, s4 _ _ (s3 _ _ e2), e4, by rw [List.length_replicate, List.length_replicate, hz]; omega, fun p np => ?_⟩
  exact h _ p (s14.trans (same_upd np)) (none_back s14 np) upd_same
section
variable {P : Program} {w : World} {K : PySem.W.Frag} {mg : Str → Option Value} {base : Heap}
def spTold : Sp := fun vs H Q _ => vs = [] ∧ ∀ H' t p q, Same H H' → H' t = some (.tup [.ref p, .ref q]) → H' p = some (.lst (toldL.map V.int)) → H' q = some (.lst (toldB.map V.int)) → H t = none → H p = none → H q = none → Q (.ref t) H'
end
end K0

namespace K0
open PySem PySem.Spec PyProof.Rows L2
/-! ### items and _law_cost -/
inductive Itm where
  | b (k : Nat)
  | c (many back : Nat)
def ItmAt (H : Hp) : Itm → V → Prop
  | .b k, v => v = .int (k : Int)
  | .c m r, v => ∃ t, v = .ref t ∧ H t = some (.tup [.int (m : Int), .int (r : Int)])
def ItmOk : Itm → Prop
  | .b k => k < 256
  | .c m r => 3 ≤ m ∧ m ≤ 18 ∧ 1 ≤ r ∧ r ≤ 1024
theorem ItmAt.same {H H' : Hp} {it : Itm} {v : V} (h : ItmAt H it v) (s : Same H H') : ItmAt H' it v := by
  cases it with
  | b k => exact h
  | c m r =>
    obtain ⟨t, e, ht⟩ := h
    exact ⟨t, e, s _ _ ht⟩
def costO (L B : List Int) : Itm → Option Int
  | .b k => if 0 < L.getD k 0 then some (L.getD k 0) else none
  | .c m r => if L.getD (254 + m) 0 = 0 ∨ B.getD (Nat.log2 r) 0 = 0 then none else some (L.getD (254 + m) 0 + B.getD (Nat.log2 r) 0 + (Nat.log2 r : Nat))
def optV : Option Int → V
  | none => .non
  | some i => .int i
theorem at_getD {L : List Int} {k : Nat} (h : k < L.length) : atI (L.map V.int) (k : Int) = some (.int (L.getD k 0)) := by
  refine atI_nat ?_
  rw [List.getElem?_map, List.getElem?_eq_getElem h, List.getD_eq_getElem?_getD, List.getElem?_eq_getElem h]
  rfl
section
variable {P : Program} {w : World} {K : PySem.W.Frag} {mg : Str → Option Value} {base : Heap}
def spCost : Sp := fun vs H Q _ => ∃ (v : V) (it : Itm) (pL pB : Addr) (L B : List Int), vs = [v, .ref pL, .ref pB] ∧ ItmAt H it v ∧ ItmOk it ∧ H pL = some (.lst (L.map V.int)) ∧ H pB = some (.lst (B.map V.int)) ∧ L.length = 273 ∧ B.length = 11 ∧ Q (optV (costO L B it)) H
end
end K0

namespace K0
open PySem PySem.Spec PyProof.Rows L2
/-! ### prices: good lengths, drawn out runs -/
def usedL (xs : List Int) : List Int := xs.filter fun x => decide (0 < x)
def goodP (xs : List Int) : Bool := if (usedL xs).length < 2 then decide (usedL xs = []) || decide (usedL xs = [1]) else decide (((usedL xs).map fun x => (1 : Int) * 2 ^ (12 - x).toNat).sum = 4096)
theorem used_succ {xs : List Int} {i : Nat} {x : Int} (h : xs[i]? = some x) : usedL (xs.take (i + 1)) = usedL (xs.take i) ++ (if 0 < x then [x] else []) := by
  rw [List.take_add_one, h]
  unfold usedL
  rw [List.filter_append]
  congr 1
  by_cases q : 0 < x <;> simp [q]
theorem used_le (xs : List Int) : (usedL xs).length ≤ xs.length := List.length_filter_le _ _
theorem same_tupK {K : PySem.W.Frag} {H H' : Hp} {a : Addr} {xs : List V} (e : Same H H') (h : SqT K H a xs) : SqT K H' a xs := by
  rcases h with (h | ⟨o, h⟩) | h
  · exact .inl (.inl (e _ _ h))
  · exact .inl (.inr ⟨o, e _ _ h⟩)
  · exact .inr h
theorem iteC {A B : Prop} {c : Bool} (hc : c = true) (h : A) : if c = true then A else B := by
  rw [if_pos hc]
  exact h
section
variable {P : Program} {w : World} {K : PySem.W.Frag} {mg : Str → Option Value} {base : Heap}
def spAreGood : Sp := fun vs H Q _ => ∃ (p : Addr) (xs : List Int), vs = [.ref p] ∧ H p = some (.lst (xs.map V.int)) ∧ xs.length ≤ 1000 ∧ (∀ x ∈ xs, x ≤ 12) ∧ ∀ H', Same H H' → Q (.bl (goodP xs)) H'
/-- of what is good -/
def PrL (n : Nat) (xs : List Int) : Prop := xs.length = n ∧ (∀ x ∈ xs, 0 ≤ x ∧ x ≤ 12) ∧ goodP xs = true
def spAreP : Sp := fun vs H Q _ => ∃ (p : Addr) (xs : List Int) (n : Nat), vs = [.ref p, .int (n : Int)] ∧ H p = some (.lst (xs.map V.int)) ∧ n ≤ 1000 ∧ PrL n xs ∧ ∀ H', Same H H' → Q (.bl true) H'
/-! ### back_of -/
def spBackOf : Sp := fun vs H Q _ => ∃ b : Nat, vs = [.int (b : Int)] ∧ 1 ≤ b ∧ b ≤ 5000 ∧ Q (.int ((Nat.log2 b : Nat) : Int)) H
end
end K0

namespace K0
open PySem PySem.Spec PyProof.Rows L2
/-! ### Prices -/
def prF (p q : Addr) : List (Str × V) := [(("_letters" : Str), V.ref p), (("_backs" : Str), V.ref q)]
theorem lkH {k : Str} {v : V} {r : List (Str × V)} : List.lookup k ((k, v) :: r) = some v := by
  rw [List.lookup, beq_self_eq_true]
theorem lkP {k g : Str} {v : V} {r : List (Str × V)} (h : (k == g) = false) : List.lookup k ((g, v) :: r) = List.lookup k r := by
  rw [List.lookup, h]
theorem prF_l (p q : Addr) : (prF p q).lookup ("_letters" : Str) = some (.ref p) := lkH
theorem prF_b (p q : Addr) : (prF p q).lookup ("_backs" : Str) = some (.ref q) := (lkP (by decide +kernel)).trans lkH
theorem prF_m (p q : Addr) : (prF p q).lookup ("letters" : Str) = none := (lkP (by decide +kernel)).trans ((lkP (by decide +kernel)).trans rfl)
theorem prF_n (p q : Addr) : (prF p q).lookup ("backs" : Str) = none := (lkP (by decide +kernel)).trans ((lkP (by decide +kernel)).trans rfl)
theorem prF_put (p q : Addr) : putF "_backs" (.ref q) (putF "_letters" (.ref p) []) = prF p q := (if_neg (by decide +kernel)).trans rfl
def PcAt (C : Addr) (H : Hp) (a : Addr) (L B : List Int) : Prop := ∃ dx p q, H a = some (.ins C dx (prF p q)) ∧ H p = some (.lst (L.map V.int)) ∧ H q = some (.lst (B.map V.int))
theorem PcAt.same {C a : Addr} {H H' : Hp} {L B : List Int} (h : PcAt C H a L B) (s : Same H H') : PcAt C H' a L B := by
  obtain ⟨dx, p, q, h1, h2, h3⟩ := h
  exact ⟨dx, p, q, s _ _ h1, s _ _ h2, s _ _ h3⟩
/-- what the written part says of Prices -/
structure PrTxt (K : PySem.W.Frag) (mg : Str → Option Value) (C fI fL fB : Addr) : Prop where
  cl : Cls K C
  nL : NoAttr K C "_letters"
  nB : NoAttr K C "_backs"
  gC : mg "Prices" = some (.ref C)
  made : Mk K C fI
  mL : Meth K C "letters" fL
  mB : Meth K C "backs" fB
  ity : ∀ {H : Hp} {a dx : Addr} {fs : List (Str × V)}, H a = some (.ins C dx fs) → TyOf K H (.ref a) (.ref C)
  isC : PySem.W.kitOne K (.ref C) (.ref C) = some true
section
variable {P : Program} {w : World} {K : PySem.W.Frag} {mg : Str → Option Value} {base : Heap} {C fI fL fB : Addr}
def spPInit (C : Addr) : Sp := fun vs H Q _ => ∃ (a dx pl pb : Addr) (L B : List Int), vs = [.ref a, .ref pl, .ref pb] ∧ H a = some (.ins C dx []) ∧ H pl = some (.lst (L.map V.int)) ∧ H pb = some (.lst (B.map V.int)) ∧ PrL 273 L ∧ PrL 11 B ∧
  ∀ H', (∀ b o, b ≠ a → H b = some o → H' b = some o) → PcAt C H' a L B → Q .non H'
def spPLet (C : Addr) : Sp := fun vs H Q _ => ∃ (a : Addr) (L B : List Int), vs = [.ref a] ∧ PcAt C H a L B ∧ ∀ H' p, Same H H' → H p = none → H' p = some (.lst (L.map V.int)) → Q (.ref p) H'
def spPBk (C : Addr) : Sp := fun vs H Q _ => ∃ (a : Addr) (L B : List Int), vs = [.ref a] ∧ PcAt C H a L B ∧ ∀ H' p, Same H H' → H p = none → H' p = some (.lst (B.map V.int)) → Q (.ref p) H'
theorem told_good : PrL 273 toldL ∧ PrL 11 toldB := by
  refine ⟨⟨by decide +kernel, ?_, by decide +kernel⟩, ⟨by decide +kernel, ?_, by decide +kernel⟩⟩
  · intro x hx
    rcases List.mem_append.mp hx with h | h
    · rw [(List.mem_replicate.mp h).2]; decide
    · rw [(List.mem_replicate.mp h).2]; decide
  · intro x hx
    rcases List.mem_append.mp hx with h | h
    · rw [(List.mem_replicate.mp h).2]; decide
    · rw [(List.mem_replicate.mp h).2]; decide
end
end K0

namespace K0
open PySem PySem.Spec PyProof.Rows L2
theorem ixL {X : Cx} (K : PySem.W.Frag) (h : X.K = K := by rfl) : IxR X (rIxL K) := by subst h; exact ix_list
/-! ### _law_data -/
abbrev NDa : List Str := ["_law_script", "_law_at", "_law_most", "_law_found", "_law_many", "_law_k", "_law_digits", "_law_begin", "_law_turn"]
theorem scData : FnScope NDa ["_law_script", "_law_at", "_law_most"] (defScope sData) := ⟨rfl, rfl, rfl, by decide +kernel, rfl, by decide +kernel, by decide +kernel⟩
def bys (ks : List Nat) : List V := (ks.map fun (k : Nat) => (k : Int)).map V.int
theorem bys_eq (ks : List Nat) : bys ks = ks.map fun (k : Nat) => V.int (k : Int) := by
  unfold bys
  rw [List.map_map]
  rfl
theorem bys_len (ks : List Nat) : (bys ks).length = ks.length := by
  unfold bys
  rw [List.length_map, List.length_map]
theorem bys_app (a b : List Nat) : bys a ++ bys b = bys (a ++ b) := by
  unfold bys
  rw [List.map_append, List.map_append]
theorem bys_one (k : Nat) : [V.int (k : Int)] = bys [k] := rfl
theorem bys_cut (ks : List Nat) (a b : Nat) : cutV (bys ks) (some (a : Int)) (some (b : Int)) = bys ((ks.drop (min a ks.length)).take (min b ks.length - min a ks.length)) := by
  unfold cutV
  rw [HT.sIx_nat, HT.sIx_nat, bys_len]
  unfold bys
  rw [← List.map_drop, ← List.map_drop, ← List.map_take, ← List.map_take]
theorem bys_to (ks : List Nat) (b : Nat) : cutV (bys ks) none (some (b : Int)) = bys (ks.take b) := by
  unfold cutV
  rw [HT.sIx_nat, HT.sIx_none, bys_len, List.drop_zero, Nat.sub_zero]
  unfold bys
  rw [← List.map_take, ← List.map_take]
  congr 2
  by_cases h : b ≤ ks.length
  · rw [Nat.min_eq_left h]
  · rw [Nat.min_eq_right (by omega), List.take_length, List.take_of_length_le (by omega)]
theorem nat_of {x : Int} (h : 0 ≤ x) : ∃ k : Nat, x = (k : Int) := ⟨x.toNat, by omega⟩
theorem item_in {d1 d2 : Int} (h1 : 0 ≤ d1 ∧ d1 < 256) : ∃ v : Nat, v < 256 ∧ atI [V.int 97, V.int 98, V.int 32, V.int 0, V.int 255, V.int d1, V.int (d1.fmod 4), V.int 200] (d2.fmod 8) = some (.int (v : Int)) := by
  have a1 := fmod_in (a := d1) (l := 4) (by decide)
  have a2 := fmod_in (a := d2) (l := 8) (by decide)
  obtain ⟨k1, rfl⟩ := nat_of h1.1
  obtain ⟨k4, e4⟩ := nat_of a1.1
  rw [e4] at a1 ⊢
  obtain ⟨n, en⟩ := nat_of a2.1
  rw [en] at a2 ⊢
  have hn : n = 0 ∨ n = 1 ∨ n = 2 ∨ n = 3 ∨ n = 4 ∨ n = 5 ∨ n = 6 ∨ n = 7 := by omega
  rcases hn with rfl | rfl | rfl | rfl | rfl | rfl | rfl | rfl
  · exact ⟨97, by decide, rfl⟩
  · exact ⟨98, by decide, rfl⟩
  · exact ⟨32, by decide, rfl⟩
  · exact ⟨0, by decide, rfl⟩
  · exact ⟨255, by decide, rfl⟩
  · exact ⟨k1, by omega, rfl⟩
  · exact ⟨k4, by omega, rfl⟩
  · exact ⟨200, by decide, rfl⟩
section
variable {P : Program} {w : World} {K : PySem.W.Frag} {mg : Str → Option Value} {base : Heap}
def spData (K : PySem.W.Frag) : Sp := fun vs H Q _ => ∃ (p : Addr) (xs : List Int) (a n : Nat), vs = [.ref p, .int (a : Int), .int (n : Int)] ∧ SqL K H p (xs.map V.int) ∧ a ≤ 50000 ∧ n ≤ 1000 ∧
  ∀ H' r ks, Same H H' → H r = none → H' r = some (.lst (bys ks)) → (∀ k ∈ ks, k < 256) → ks.length ≤ n → Q (.ref r) H'
theorem ok_data {f fC fN : Addr} {fd fdC fdN : FuncData} {j : Nat} (F : Fun K "_law_data" "_law_data" sData f fd) (GC : FnOk P w K mg base CX0 (j + 1) fC fdC ["_law_script", "_law_k"] (K0.spCell K)) (bC : Binds K fdC ["_law_script", "_law_k"] []) (kC : PySem.W.keepIn K (.ref fC) = true) (gC : mg "_law_cell_at" = some (.ref fC))
    (GN : FnOk P w K mg base CX0 (j + 1) fN fdN ["_law_cell", "_law_limits"] spNums) (bN : Binds K fdN ["_law_cell", "_law_limits"] []) (kN : PySem.W.keepIn K (.ref fN) = true) (gN : mg "_law_numbers" = some (.ref fN))
    (m1 : mg "len" = none) (m2 : mg "int" = none) (m3 : mg "range" = none) : FnOk P w K mg base CX0 (j + 2) f fd ["_law_script", "_law_at", "_law_most"] (spData K) := by
  refine F.ok scData (fun vs H Q E h => ?_) (fun cdv A outer s H vs Q E hr h => ?_)
  · obtain ⟨p, xs, a, n, rfl, _⟩ := h
    rfl
  · obtain ⟨p, xs, a, n, rfl, hp, ha, hn, q⟩ := h
    refine ⟨_, pss_cons (ps_par (i := 3) (j := 4) rfl scData.nd rfl rfl (by decide) rfl rfl (pa_cons (pe_lst pa_nil) (pa_cons (pe_op op_modN (pe_call GC hr (by rfl) gC kC bC .nil pass0 (pa_cons (pv 0) (pa_cons (pv 1) pa_nil))) (pe_op op_add (pv 2) pe_int)) pa_nil)) (by rfl))
      (pss_cons (ps_for PassesOwn.never rfl (pi_range1 (by rfl) m3 (pa_cons pe_int pa_nil)) (pg_name (i := 5) scData.nd rfl (.inl rfl))
        (pss_cons (ps_set (i := 6) scData.nd rfl (.inr rfl) (pe_call GN hr (by rfl) gN kN bN .nil pass0 (pa_cons (pe_call GC hr (by rfl) gC kC bC .nil pass0 (pa_cons (pv 0) (pa_cons (pe_op op_add (pe_op op_add (pv 1) pe_int) (pv 5)) pa_nil))) (pa_cons (pe_lst (pa_cons pe_int (pa_cons pe_int (pa_cons pe_int (pa_cons pe_int pa_nil))))) pa_nil))))
        (pss_one (ps_if (pt_cmpR op_eq (pe_ix ix_list (pv 6) pe_int (fun _ _ => rfl)) pe_int (nomark _))
          (pss_one (ps_set (i := 3) scData.nd rfl (.inl rfl) (pe_op op_cat (pv 3) (pe_op op_rep (pe_lst (pa_cons (pe_ix ix_list (pv 6) pe_int (fun _ _ => rfl)) pa_nil)) (pe_op op_add pe_int (pe_ix ix_list (pv 6) pe_int (fun _ _ => rfl)))))))
          (pss_one (ps_if (PW.pt (pw_and (pt_cmpR op_lt (pe_ix ix_list (pv 6) pe_int (fun _ _ => rfl)) pe_int (nomark _)) (pw_and1 (pt_cmpR (op_neD hr.units) (pv 3) (pe_lst pa_nil) (nomark _)))))
            (pss_cons (ps_set (i := 7) scData.nd rfl (.inl rfl) (pe_op op_modN (pe_callTy call_int1 (by rfl) m2 (by decide +kernel) (pa_cons (pe_ix ix_list (pv 6) pe_int (fun _ _ => rfl)) pa_nil)) (pe_callB call_len_seq (by rfl) m1 PySem.boot_len (pa_cons (pv 3) pa_nil))))
            (pss_one (ps_set (i := 3) scData.nd rfl (.inl rfl) (pe_op op_cat (pv 3) (pe_slice sl_list (pv 3) (po_some (pv 7)) (po_some (pe_op op_add (pe_op op_add (pv 7) pe_int) (pe_op op_modN (pe_callTy call_int1 (by rfl) m2 (by decide +kernel) (pa_cons (pe_ix ix_list (pv 6) pe_int (fun _ _ => rfl)) pa_nil)) pe_int))))))))
            (pss_one (ps_if (pt_cmpR op_eq (pe_ix ix_list (pv 6) pe_int (fun _ _ => rfl)) pe_int (nomark _))
              (pss_one (ps_set (i := 3) scData.nd rfl (.inl rfl) (pe_op op_cat (pv 3) (pe_lc (own := [("_law_turn", 8)]) (g := gName 8) (tt := tYes) rfl scData.nd (pi_range1 (by rfl) m3 (pa_cons pe_int pa_nil)) (blkOk_by (N := NDa) (sc := defScope sData) (by decide +kernel))
                (fun _ _ _ _ _ => pg_name (i := 8) scData.nd rfl (.inl rfl)) (fun _ _ _ _ _ => pts_nil) (fun _ _ _ _ _ => pe_op op_add pe_int (pe_op op_and (pe_op op_shr (pe_ix (ixL K) (pv 6) pe_int (fun _ _ => rfl)) (pv 8)) pe_int))))))
              (pss_one (ps_expr (pe_bm PySem.F.plainAttrs_list PySem.F.slot_list_append PySem.F.type_list_append mt_append (pv 3) (pa_cons (pe_ix ix_list (pe_lst (pa_cons pe_int (pa_cons pe_int (pa_cons pe_int (pa_cons pe_int (pa_cons pe_int (pa_cons (pe_ix ix_list (pv 6) pe_int (fun _ _ => rfl)) (pa_cons (pe_op op_modN (pe_callTy call_int1 (by rfl) m2 (by decide +kernel) (pa_cons (pe_ix ix_list (pv 6) pe_int (fun _ _ => rfl)) pa_nil)) pe_int) (pa_cons pe_int pa_nil)))))))))
                (pe_op op_modN (pe_callTy call_int1 (by rfl) m2 (by decide +kernel) (pa_cons (pe_ix ix_list (pv 6) pe_int (fun _ _ => rfl)) pa_nil)) pe_int) (fun _ _ => rfl)) pa_nil))))))))))))
      (pss_one (ps_ret (pe_slice sl_list (pv 3) po_none (po_some (pv 4)))))), ?_⟩
    refine ⟨Nat.zero_le _, fun D nD => ?_⟩
    have sm0 : Same H (upd H D (.lst [])) := same_upd nD
    have hD0 : (upd H D (.lst [])) D = some (.lst (bys [])) := upd_same
    generalize upd H D (.lst []) = H0 at *
    refine ⟨_, rfl, _, rfl, p, xs, a, rfl, sm0.seq hp, by omega, fun H1 sm1 => ?_⟩
    refine ⟨_, rfl, _, _, rfl, rfl, _, _, rfl, rfl, (by omega), _, _, rfl, ?_⟩
    have hm := fmod_in (a := cellAt xs a) (l := (n : Int) + 1) (by omega)
    obtain ⟨many, em⟩ := nat_of hm.1
    rw [em] at hm
    have sm01 := sm0.trans sm1
    refine ⟨24, rfl, by decide, by decide, ?_⟩
    refine for_range (lo := 0) (n := 24) (fun i σ H' => ∃ (y5 y6 y7 : Option V) (D : Addr) (ks : List Nat), σ = [some (.ref p), some (.int (a : Int)), some (.int (n : Int)), some (.ref D), some (.int ((cellAt xs a).fmod ((n : Int) + 1))), y5, y6, y7, none] ∧ Same H H' ∧ H D = none ∧ H' D = some (.lst (bys ks)) ∧ (∀ k ∈ ks, k < 256) ∧ ks.length ≤ 40 * i)
      ⟨none, none, none, D, [], rfl, sm01, nD, sm1 _ _ hD0, fun k h => by (cases h), by simp⟩ (fun i σ H' hi h => ?_) (fun σ H' h => ?_)
    · obtain ⟨y5, y6, y7, D, ks0, rfl, sm, nD, hD, hk, hl⟩ := h
      refine ⟨_, rfl, _, rfl, _, _, rfl, rfl, _, rfl, _, _, rfl, rfl, p, xs, a + 1 + i, ?_, sm.seq hp, by omega, fun H5 sm5 => ?_⟩
      · show [V.ref p, V.int ((a : Int) + 1 + (0 + (i : Int)))] = _
        rw [show (a : Int) + 1 + (0 + (i : Int)) = ((a + 1 + i : Nat) : Int) by omega]
      · refine ⟨(by show 4 ≤ sizeLine; decide), fun z nz => ?_⟩
        refine ⟨z, cellAt xs (a + 1 + i), [6, 256, 40, 300], rfl, upd_same, by decide, by decide, fun H6 dg ds sm6 nq hdg hdl hin => ?_⟩
        obtain ⟨d0, d1, d2, d3, rfl⟩ : ∃ d0 d1 d2 d3, ds = [d0, d1, d2, d3] := by
          match ds, hdl with
          | [a, b, c, d], _ => exact ⟨a, b, c, d, rfl⟩
        have hd0 := hin.2 0 d0 6 rfl rfl
        have hd1 := hin.2 1 d1 256 rfl rfl
        have hd2 := hin.2 2 d2 40 rfl rfl
        have hd3 := hin.2 3 d3 300 rfl rfl
        have sm46 : Same H' H6 := (sm5.trans (same_upd nz)).trans sm6
        have sm06 : Same H H6 := sm.trans sm46
        have hD6 := sm46 _ _ hD
        have hdgS : SqL K H6 dg [.int d0, .int d1, .int d2, .int d3] := .inl (.inl hdg)
        clear nq hin hdl hdg hm em
        have hz := PySem.sizeLine_eq
        have fin : ∀ (H9 : Hp) (r : Addr) (ks2 : List Nat) (y7 : Option V), Same H H9 → H9 r = none → (∀ k ∈ ks2, k < 256) → ks2.length ≤ 40 →
            ∃ (y5' y6' y7' : Option V) (D : Addr) (ks : List Nat), [some (.ref p), some (.int (a : Int)), some (.int (n : Int)), some (.ref r), some (.int ((cellAt xs a).fmod ((n : Int) + 1))), some (.int (0 + (i : Int))), some (.ref dg), y7, none] = [some (.ref p), some (.int (a : Int)), some (.int (n : Int)), some (.ref D), some (.int ((cellAt xs a).fmod ((n : Int) + 1))), y5', y6', y7', none] ∧ Same H (upd H9 r (.lst (bys ks0 ++ bys ks2))) ∧ H D = none ∧ (upd H9 r (.lst (bys ks0 ++ bys ks2))) D = some (.lst (bys ks)) ∧ (∀ k ∈ ks, k < 256) ∧ ks.length ≤ 40 * (i + 1) := by
          intro H9 r ks2 y7 sm9 nr h2 hl2
          refine ⟨_, _, y7, r, ks0 ++ ks2, rfl, sm9.trans (same_upd nr), none_back sm9 nr, by rw [upd_same, bys_app], fun k m => ?_, by rw [List.length_append]; omega⟩
          rcases (List.mem_append.mp m) with (m | m)
          · exact hk k m
          · exact h2 k m
        obtain ⟨k1, rfl⟩ := nat_of hd1.1
        refine ⟨_, rfl, dg, _, 0, _, rfl, rfl, hdgS, rfl, rfl, _, rfl, ite2 (fun e => ?_) (fun e => ?_)⟩
        · refine ⟨_, rfl, _, rfl, dg, _, 1, _, rfl, rfl, hdgS, rfl, (by show 1 ≤ sizeLine; rw [hz]; decide), fun z1 nz1 => ?_⟩
          have s1 : Same H6 (upd H6 z1 (.lst [.int (k1 : Int)])) := same_upd nz1
          have e1 : (upd H6 z1 (.lst [.int (k1 : Int)])) z1 = some (.lst [.int (k1 : Int)]) := upd_same
          refine ⟨_, rfl, dg, _, 2, _, rfl, rfl, s1.seq hdgS, rfl, _, _, rfl, rfl, z1, 1 + d2, _, rfl, rfl, e1, by omega, by omega, (by rw [hz]; simp; omega), fun r1 nr1 => ?_⟩
          rw [rep_flat]
          have s2 := same_upd (o := .lst (List.replicate (1 + d2).toNat (V.int (k1 : Int)))) nr1
          have e2 : (upd (upd H6 z1 (.lst [.int (k1 : Int)])) r1 (.lst (List.replicate (1 + d2).toNat (V.int (k1 : Int))))) r1 = some (.lst (List.replicate (1 + d2).toNat (V.int (k1 : Int)))) := upd_same
          have eb : List.replicate (1 + d2).toNat (V.int (k1 : Int)) = bys (List.replicate (1 + d2).toNat k1) := by simp [bys]
          rw [eb] at s2 e2 ⊢
          refine ⟨D, r1, _, _, rfl, rfl, s2 _ _ (s1 _ _ hD6), e2, (by rw [bys_len, bys_len, List.length_replicate, hz]; omega), fun r2 nr2 => ?_⟩
          exact fin _ r2 _ y7 ((sm06.trans s1).trans s2) nr2 (fun k m => by rw [List.eq_of_mem_replicate m]; omega) (by rw [List.length_replicate]; omega)
        · refine ⟨_, rfl, dg, _, 0, _, rfl, rfl, hdgS, rfl, _, _, rfl, rfl, _, rfl, ite2 (fun e3 => ?ltYes) (fun e3 => ?ltNo)⟩
          case' ltYes =>
            refine ⟨_, rfl, Nat.zero_le _, fun z2 nz2 => ?_⟩
            have sm67 : Same H6 (upd H6 z2 (.lst [])) := same_upd nz2
            have hz2 : (upd H6 z2 (.lst [])) z2 = some (.lst []) := upd_same
            generalize upd H6 z2 (.lst []) = H7 at *
            have hD7 := sm67 _ _ hD6
            refine ⟨_, _, .lst (.inl (.inl hD7)) (dp_ints _), .lst (ds := []) (.inl (.inl hz2)) .nil, shaped_intsQ _, shaped_intsQ [], _, rfl, ite2 (fun e4 => ?good) (fun e4 => ?_)⟩
            case good =>
              have hne : ks0 ≠ [] := by
                intro z
                subst z
                cases e4
              have hpos : 0 < ks0.length := List.length_pos_iff.mpr hne
              have hb := fmod_in (a := d3) (l := (ks0.length : Int)) (by omega)
              have hc := fmod_in (a := d2) (l := 20) (by decide)
              obtain ⟨b, eb⟩ := nat_of hb.1
              obtain ⟨c, ec⟩ := nat_of hc.1
              have hdg7 := sm67.seq hdgS
              refine ⟨_, rfl, dg, _, 3, _, rfl, rfl, hdg7, rfl, .inl ⟨_, rfl, _, rfl, D, _, rfl, .inl (.inl (.inl hD7)), _, _, rfl, rfl, (by rw [bys_len]; omega), ?_⟩⟩
              refine ⟨_, rfl, _, rfl, _, rfl, _, rfl, _, rfl, _, _, rfl, rfl, _, rfl, dg, _, 2, _, rfl, rfl, hdg7, rfl, .inl ⟨_, rfl, _, _, rfl, rfl, (by show (20 : Int) ≠ 0; decide), _, _, rfl, rfl, _, rfl, D, _, rfl, .inl (.inl hD7), fun r nr => ?_⟩⟩
              have ecut : cutV (bys ks0) (some (d3.fmod ((bys ks0).length : Int))) (some (d3.fmod ((bys ks0).length : Int) + 3 + d2.fmod 20)) = bys ((ks0.drop (min b ks0.length)).take (min (b + 3 + c) ks0.length - min b ks0.length)) := by
                rw [bys_len, eb, ec]
                exact bys_cut ks0 b (b + 3 + c)
              rw [ecut]
              have s2 := same_upd (o := .lst (bys ((ks0.drop (min b ks0.length)).take (min (b + 3 + c) ks0.length - min b ks0.length)))) nr
              have hlen : ((ks0.drop (min b ks0.length)).take (min (b + 3 + c) ks0.length - min b ks0.length)).length ≤ 40 := by
                rw [List.length_take]
                omega
              refine ⟨D, r, _, _, rfl, rfl, s2 _ _ hD7, upd_same, (by rw [bys_len, bys_len, hz]; omega), fun r2 nr2 => ?_⟩
              exact fin _ r2 _ _ ((sm06.trans sm67).trans s2) nr2 (fun k m => hk k (List.mem_of_mem_drop (List.mem_of_mem_take m))) hlen
          case' ltNo =>
            obtain ⟨H7, eH, sm67, hD7⟩ : ∃ H7, H7 = H6 ∧ Same H6 H7 ∧ H7 D = some (.lst (bys ks0)) := ⟨H6, rfl, Same.refl H6, hD6⟩
            rw [← eH]
          all_goals
            have hdg7 := sm67.seq hdgS
            have sm07 := sm06.trans sm67
            refine ⟨_, rfl, dg, _, 0, _, rfl, rfl, hdg7, rfl, rfl, _, rfl, ite2 (fun e5 => ?_) (fun e5 => ?_)⟩
            · refine ⟨_, rfl, 8, rfl, by decide, by decide, fun C nC => ?_⟩
              have s8 : Same H7 (upd H7 C (.lst [])) := same_upd nC
              refine lc_range (lo := 0) (n := 8) (fun i H' => ∃ ks2 : List Nat, Same H7 H' ∧ H' C = some (.lst (bys ks2)) ∧ ks2.length = i ∧ ∀ k ∈ ks2, k < 256) ⟨[], s8, upd_same, rfl, fun k m => by (cases m)⟩ (fun i8 H8 hi8 h => ?_) (fun H8 h => ?_)
              · obtain ⟨ks2, sm78, hC, hl2, hk2⟩ := h
                refine ⟨rfl, yes ?_⟩
                refine ⟨_, rfl, dg, _, 1, _, rfl, rfl, sm78.seq hdg7, rfl, _, rfl, _, _, rfl, rfl, (by omega), _, _, rfl, rfl, _, _, rfl, rfl, _, hC, ?_, ?_⟩
                · rw [bys_len, hz]
                  omega
                · refine ⟨ks2 ++ [97 + (k1 / 2 ^ i8) % 2], same_put sm78 nC, ?_, by simp [hl2], fun k m => ?_⟩
                  · have ev : (97 : Int) + Builtin.bitAnd ((k1 : Int) / 2 ^ (0 + (i8 : Int)).toNat) 1 = ((97 + (k1 / 2 ^ i8) % 2 : Nat) : Int) := by
                      rw [PyProof.Rows.bitAnd_m1, Int.zero_add, Int.toNat_natCast]
                      push_cast
                      rfl
                    rw [upd_same]
                    show some (HO.lst (bys ks2 ++ [V.int (97 + Builtin.bitAnd ((k1 : Int) / 2 ^ (0 + (i8 : Int)).toNat) 1)])) = _
                    rw [ev, ← bys_app]
                    rfl
                  · rcases (List.mem_append.mp m) with (m | m)
                    · exact hk2 k m
                    · rw [List.mem_singleton.mp m]
                      omega
              · obtain ⟨ks2, sm78, hC, hl2, hk2⟩ := h
                refine ⟨D, C, _, _, rfl, rfl, sm78 _ _ hD7, hC, (by rw [bys_len, bys_len, hz]; omega), fun r2 nr2 => ?_⟩
                exact fin _ r2 _ _ (sm07.trans sm78) nr2 hk2 (by omega)
            · refine ⟨_, rfl, .inl ⟨rfl, _, .inl (.inl hD7)⟩, ?_⟩
              refine ⟨_, rfl, dg, _, 1, _, rfl, rfl, hdg7, rfl, _, rfl, dg, _, 1, _, rfl, rfl, hdg7, rfl, .inl ⟨_, rfl, _, _, rfl, rfl, (by show (4 : Int) ≠ 0; decide), (by show 8 ≤ sizeLine; rw [hz]; decide), fun z3 nz3 => ?_⟩⟩
              obtain ⟨v, hv, ev⟩ := item_in (d1 := (k1 : Int)) (d2 := d2) hd1
              have s3 := same_upd (o := .lst [V.int 97, V.int 98, V.int 32, V.int 0, V.int 255, V.int (k1 : Int), V.int ((k1 : Int).fmod 4), V.int 200]) nz3
              have e3' : (upd H7 z3 (.lst [V.int 97, V.int 98, V.int 32, V.int 0, V.int 255, V.int (k1 : Int), V.int ((k1 : Int).fmod 4), V.int 200])) z3 = some (.lst [V.int 97, V.int 98, V.int 32, V.int 0, V.int 255, V.int (k1 : Int), V.int ((k1 : Int).fmod 4), V.int 200]) := upd_same
              refine ⟨_, rfl, dg, _, 2, _, rfl, rfl, s3.seq hdg7, rfl, .inl ⟨_, rfl, _, _, rfl, rfl, (by show (8 : Int) ≠ 0; decide), z3, _, _, _, rfl, rfl, .inl (.inl e3'), ev, D, _, _, rfl, rfl, s3 _ _ hD7, (by rw [bys_len, hz]; omega), ?_⟩⟩
              refine ⟨_, _, y7, D, ks0 ++ [v], rfl, same_put (sm07.trans s3) nD, nD, by rw [upd_same, ← bys_app]; rfl, fun k m => ?_, by simp; omega⟩
              rcases (List.mem_append.mp m) with (m | m)
              · exact hk k m
              · rw [List.mem_singleton.mp m]
                exact hv
    · obtain ⟨y5, y6, y7, D, ks, rfl, sm, nD, hD, hk, hl⟩ := h
      refine ⟨_, rfl, _, rfl, _, rfl, D, _, rfl, .inl (.inl hD), fun r nr => ?_⟩
      refine q _ r (ks.take many) (sm.trans (same_upd nr)) (none_back sm nr) ?_ (fun k m => hk k (List.mem_of_mem_take m)) ?_
      · rw [upd_same, em, bys_to]
      · rw [List.length_take]
        omega
end
end K0

namespace K0
open PySem PySem.Spec PyProof.Rows L2
/-! ### what a row tells -/
def copyN (every : List Nat) (b : Nat) : Nat → List Nat
  | 0 => every
  | m + 1 => copyN (every ++ [every.getD (every.length - b) 0]) b m
def tells : List Nat → List Itm → Option (List Nat)
  | every, [] => some every
  | every, .b k :: r => tells (every ++ [k]) r
  | every, .c m b :: r => if b ≤ every.length then tells (copyN every b m) r else none
theorem tells_app : ∀ (a b : List Itm) (every : List Nat), tells every (a ++ b) = (tells every a).bind fun e => tells e b
  | [], b, every => rfl
  | .b k :: a, b, every => by
    show tells (every ++ [k]) (a ++ b) = (tells (every ++ [k]) a).bind _
    exact tells_app a b _
  | .c m r :: a, b, every => by
    show (if r ≤ every.length then tells (copyN every r m) (a ++ b) else none) = (if r ≤ every.length then tells (copyN every r m) a else none).bind _
    by_cases h : r ≤ every.length
    · rw [if_pos h, if_pos h]
      exact tells_app a b _
    · rw [if_neg h, if_neg h]
      rfl
theorem copyN_succ (b : Nat) : ∀ (m : Nat) (every : List Nat), copyN every b (m + 1) = copyN every b m ++ [(copyN every b m).getD ((copyN every b m).length - b) 0]
  | 0, every => rfl
  | m + 1, every => by
    show copyN (every ++ [every.getD (every.length - b) 0]) b (m + 1) = _
    rw [copyN_succ b m]
    rfl
theorem copyN_len (b : Nat) : ∀ (m : Nat) (every : List Nat), (copyN every b m).length = every.length + m
  | 0, every => rfl
  | m + 1, every => by
    show (copyN (every ++ _) b m).length = _
    rw [copyN_len b m, List.length_append, List.length_singleton]
    omega
theorem copyN_lt (b : Nat) : ∀ (m : Nat) {every : List Nat}, (∀ k ∈ every, k < 256) → ∀ k ∈ copyN every b m, k < 256
  | 0, every, h => h
  | m + 1, every, h => by
    refine copyN_lt b m (every := every ++ [every.getD (every.length - b) 0]) fun k q => ?_
    rcases (List.mem_append.mp q) with (q | q)
    · exact h k q
    · rw [List.mem_singleton.mp q, List.getD_eq_getElem?_getD]
      cases e : every[every.length - b]? with
      | none => decide
      | some x => exact h x (List.mem_of_getElem? e)
theorem copyN_pre (b : Nat) : ∀ (m : Nat) (every : List Nat), ∃ r, copyN every b m = every ++ r
  | 0, every => ⟨[], by simp [copyN]⟩
  | m + 1, every => by
    obtain ⟨r, e⟩ := copyN_pre b m (every ++ [every.getD (every.length - b) 0])
    exact ⟨[every.getD (every.length - b) 0] ++ r, by show copyN (every ++ _) b m = _; rw [e, List.append_assoc]⟩
abbrev RowAt (H : Hp) : List Itm → List V → Prop := Paired (ItmAt H)
theorem ItmAt.put {H : Hp} {it : Itm} {v : V} {D : Addr} {xs ys : List V} (h : ItmAt H it v) (hD : H D = some (.lst xs)) : ItmAt (upd H D (.lst ys)) it v := by
  cases it with
  | b k => exact h
  | c m r =>
    obtain ⟨t, e, ht⟩ := h
    refine ⟨t, e, ?_⟩
    rw [upd_ne (ne_of ht hD (fun z => nomatch z))]
    exact ht
end K0

namespace K0
open PySem PySem.Spec PyProof.Rows L2
/-! ### items of any kind -/
inductive Any where
  | num (n : Int)
  | tup (l : List Int)
  | lst (l : List Int)
def AnyAt (H : Hp) : Any → V → Prop
  | .num n, v => v = .int n
  | .tup l, v => ∃ t, v = .ref t ∧ H t = some (.tup (l.map V.int))
  | .lst l, v => ∃ t, v = .ref t ∧ H t = some (.lst (l.map V.int))
theorem AnyAt.same {H H' : Hp} {x : Any} {v : V} (h : AnyAt H x v) (s : Same H H') : AnyAt H' x v := by
  cases x with
  | num n => exact h
  | tup l =>
    obtain ⟨t, e, ht⟩ := h
    exact ⟨t, e, s _ _ ht⟩
  | lst l =>
    obtain ⟨t, e, ht⟩ := h
    exact ⟨t, e, s _ _ ht⟩
def stepA (size : Int) : Any → Option Int
  | .num n => if 0 ≤ n ∧ n ≤ 255 then some (size + 1) else none
  | .tup [m, b] => if 3 ≤ m ∧ m ≤ 18 ∧ 1 ≤ b ∧ b ≤ 1024 ∧ b ≤ size then some (size + m) else none
  | _ => none
def firstBad (size : Int) (i : Nat) : List Any → Option Nat
  | [] => none
  | x :: r => match stepA size x with
    | some s => firstBad s (i + 1) r
    | none => some i
theorem firstBad_yes {size s : Int} {i : Nat} {x : Any} {r : List Any} (h : stepA size x = some s) : firstBad size i (x :: r) = firstBad s (i + 1) r := by
  show (match stepA size x with
    | some s => firstBad s (i + 1) r
    | none => some i) = _
  rw [h]
theorem firstBad_no {size : Int} {i : Nat} {x : Any} {r : List Any} (h : stepA size x = none) : firstBad size i (x :: r) = some i := by
  show (match stepA size x with
    | some s => firstBad s (i + 1) r
    | none => some i) = _
  rw [h]
theorem stepA_ne {size : Int} : ∀ {l : List Int}, l.length ≠ 2 → stepA size (.tup l) = none
  | [], _ => rfl
  | [_], _ => rfl
  | [_, _], h => absurd rfl h
  | _ :: _ :: _ :: _, _ => rfl
def optN : Option Nat → V
  | none => .non
  | some i => .int (i : Int)
end K0

namespace K0
open PySem PySem.Spec PyProof.Rows L2
theorem back_at {ks : List Nat} {b : Nat} (h1 : 1 ≤ b) (h2 : b ≤ ks.length) : atI (bys ks) (-(b : Int)) = some (.int ((ks.getD (ks.length - b) 0 : Nat) : Int)) := by
  unfold atI ixN
  rw [if_neg (by omega), bys_len, if_pos (by omega)]
  show (bys ks)[(-(b : Int) + (ks.length : Int)).toNat]? = _
  have e : (-(b : Int) + (ks.length : Int)).toNat = ks.length - b := by omega
  have hi : ks.length > ks.length - b := by omega
  rw [e, bys_eq, List.getElem?_map, List.getElem?_eq_getElem hi, List.getD_eq_getElem?_getD, List.getElem?_eq_getElem hi]
  rfl
theorem back_at' {ks : List Nat} {b : Nat} {bv : Int} (e : bv = (b : Int)) (h1 : 1 ≤ b) (h2 : b ≤ ks.length) : atI (bys ks) (-bv) = some (.int ((ks.getD (ks.length - b) 0 : Nat) : Int)) := by
  subst e
  exact back_at h1 h2
end K0

namespace K0
open PySem PySem.Spec PyProof.Rows L2
/-! ### items of rows: is_item, copy_behind, item_bits, are_bytes -/
def itemB : Any → Bool
  | .num n => decide (0 ≤ n ∧ n ≤ 255)
  | .tup [m, b] => decide (3 ≤ m ∧ m ≤ 18) && decide (1 ≤ b ∧ b ≤ 1024)
  | _ => false
theorem itemB_ne : ∀ {l : List Int}, l.length ≠ 2 → itemB (.tup l) = false
  | [], _ => rfl
  | [_], _ => rfl
  | [_, _], h => absurd rfl h
  | _ :: _ :: _ :: _, _ => rfl
theorem scAreBytes : FnScope ["told", "most"] ["told", "most"] (defScope sAreBytes) := ⟨rfl, rfl, rfl, by decide +kernel, rfl, by decide +kernel, by decide +kernel⟩
section
variable {P : Program} {w : World} {K : PySem.W.Frag} {mg : Str → Option Value} {base : Heap}
def spIsItem : Sp := fun vs H Q _ => ∃ (v : V) (x : Any), vs = [v] ∧ AnyAt H x v ∧ Q (.bl (itemB x)) H
def spCopyB : Sp := fun vs H Q _ => ∃ (W t : Addr) (every : List Nat) (m b : Nat), vs = [.ref W, .ref t] ∧ H W = some (.lst (bys every)) ∧ H t = some (.tup [.int (m : Int), .int (b : Int)]) ∧ 1 ≤ b ∧ b ≤ every.length ∧ m ≤ 18 ∧ every.length ≤ 100000 ∧
  ∀ H', (∀ a, a ≠ W → H' a = H a) → H' W = some (.lst (bys (copyN every b m))) → Q .non H'
def spItemB : Sp := fun vs H Q _ => ∃ (v : V) (it : Itm) (pL pB : Addr) (L B : List Int), vs = [v, .ref pL, .ref pB] ∧ ItmAt H it v ∧ ItmOk it ∧ H pL = some (.lst (L.map V.int)) ∧ H pB = some (.lst (B.map V.int)) ∧ PrL 273 L ∧ PrL 11 B ∧ Q (optV (costO L B it)) H
def spAreBytes : Sp := fun vs H Q _ => ∃ (b : Array UInt8) (n : Nat), vs = [.byt b, .int (n : Int)] ∧ b.size ≤ 1000000 ∧ Q (.bl (decide (b.size ≤ n))) H
theorem ok_areBytes {f : Addr} {fd : FuncData} {j : Nat} (F : Fun K "are_bytes" "are_bytes" sAreBytes f fd) (m1 : mg "isinstance" = none) (m2 : mg "bytes" = none) (m3 : mg "len" = none) : FnOk P w K mg base CX0 (j + 1) f fd ["told", "most"] spAreBytes := by
  refine F.ok scAreBytes (fun vs H Q E h => ?_) (fun cdv A outer s H vs Q E hr h => ?_)
  · obtain ⟨b, n, rfl, _⟩ := h
    rfl
  · obtain ⟨b, n, rfl, hb, q⟩ := h
    have hz := PySem.sizeLine_eq
    refine ⟨_, pss_one (ps_ret (pe_and (pe_callB call_isi (by rfl) m1 (by decide +kernel) (pa_cons (pv 0) (pa_cons (pe_bltn (v := .ty "bytes") (by rfl) m2 (by decide +kernel) rfl) pa_nil)))
      (pe_one (pe_cmpR op_le (pe_callB call_len (by rfl) m3 PySem.boot_len (pa_cons (pv 0) pa_nil)) (pv 1) (nomark _))))), ?_⟩
    refine ⟨_, rfl, _, _, _, _, _, rfl, .ty "bytes", .byt _, kit_ty (a := "bytes") (r := true) (by decide +kernel), _, rfl, iteT ?_⟩
    refine ⟨_, rfl, _, b.size, rfl, ⟨by omega, rfl⟩, _, rfl, _, _, rfl, rfl, ?_⟩
    have e : decide (((b.size : Nat) : Int) ≤ (n : Int)) = decide (b.size ≤ n) := by simp
    show Q (.bl (decide (((b.size : Nat) : Int) ≤ (n : Int)))) H
    rw [e]
    exact q
end
end K0

/-! ### own exceptions that say super().__init__(f"..{x}") and then self.x = x -/
namespace SX
open PySem PySem.W PySem.Calls PyProof.Rows PySem.HandSPX
def sxA (f : Str) (p1 p2 : Pos) : Arguments := { posonlyargs := [], args := [⟨"self", none, p1⟩, ⟨f, none, p2⟩], vararg := none, kwonlyargs := [], kw_defaults := [], kwarg := none, defaults := [] }
def sxB (f pre : Str) (k : Nat) (q : Nat → Pos) : List Stmt :=
  [.Expr (.Call (.Attribute (.Call (.Name "super" (q 0)) [] [] (q 1)) "__init__" (q 2)) [.JoinedStr [.Constant (.str pre) k (q 3), .FormattedValue (.Name f (q 4)) (-1) none (q 5)] (q 6)] [] (q 7)) (q 8),
   .Assign [.Attribute (.Name "self" (q 9)) f (q 10)] (.Name f (q 11)) (q 12)]
def sxS (f : Str) : Scope := { kind := .function, names := [("self", .local), (f, .local), ("__class__", .free), ("super", .globalImplicit)], isGenerator := false, isCoroutine := false, more := [] }
/-- the call's places stand so that nothing of its row is asked -/
def SxPos (q : Nat → Pos) : Prop := ∀ (env : Env) (o : Expr) (es : List Expr) (pe : Pos), ∃ pl : Sem Bool, eval (.Call (.Attribute o "__init__" (q 2)) [.JoinedStr es pe] [] (q 7)) env = (do
  let ov ← attributeBase o "__init__" env (eval o env)
  standAt (q 2).atName
  let (g, first) ← holding [ov] (getMethod ov "__init__" pl)
  callWith (q 7) g first (backTo (q 7) (starEach [.JoinedStr es pe] env)) [])
/-- what the written part says of such a class -/
structure SxTxt (prog : Program) (K : Frag) (mg : Str → Option Value) (C fI : Addr) (cn f pre qual : Str) : Prop where
  gC : mg cn = some (.ref C)
  cls : ∃ nm q N bs bm sn sub ab col dd k0 k1 k2 k3 k5, K.lookup C = some (excClassObj nm q C N bs bm true sn sub ab col dd k0 k1 k2 k3 k5 "ValueError.__new__") ∧ refsVE bm = true ∧ alongIn K "__init__" bm = some (some (.builtin "ValueError.__init__"))
  sa : findIn K (.ref C) "__setattr__" = some (some (.builtin "object.__setattr__"))
  ga : findIn K (.ref C) "__getattribute__" = some (some (.builtin "BaseException.__getattribute__"))
  gg : findIn K (.ref C) "__getattr__" = some none
  noN : findIn K (.ref C) f = some none
  iC : findIn K (.ref C) "__init__" = some (some (.ref fI))
  tI : typeIn K (.ref fI) = some (.type "function")
  kC : keepIn K (.ref C) = true
  exC : subIn K (.ref C) (.type "BaseException") = some true
  veC : subIn K (.ref C) (.type "ValueError") = some true
  seC : subIn K (.ref C) (.ref C) = some true
  tyC : typeIn K (.ref C) = some (.type "type")
  hdC : hasDictIn K C = true
  op : nsIn K cStatics "thirdparty.any" = some none
  sup : mg "super" = none
  top : (prog.main.scope.names.lookup ("super" : Str)).isSome = false
  fn : ∃ (oc : Value) (od : Option Addr) (doc pm : Value) (an : Option Addr) (ct : Value) (osl : Array (Option Value)) (p1 p2 : Pos) (k : Nat) (q : Nat → Pos) (cda cc : Addr) (ccl : Value) (cdd : Option Addr) (vs : Array Value) (ccs : Array (Option Value)) (file : Str) (tf : Tok) (cl : Value) (cld : Option Addr) (csl : Array (Option Value)),
    K.lookup fI = some ⟨oc, od, .func (ksFn "__init__" qual (sxA f p1 p2) (sxB f pre k q) (sxS f) .none .none doc pm an (.ref cda) ct cc), osl⟩ ∧ codeIn K (.ref cda) qual = true ∧
    K.lookup cda = some ⟨ccl, cdd, .fields vs, ccs⟩ ∧ vs[2]? = some (.str file tf) ∧ ((prog.main.file : Str) == file) = true ∧ K.lookup cc = some ⟨cl, cld, .cell (some (.ref C)), csl⟩ ∧ SxPos q
  fBind : ∀ (doc pm : Value) (an : Option Addr) (cdv ct : Value) (cc : Addr) (p1 p2 : Pos) (k : Nat) (q : Nat → Pos) (a v : Value), bindArgs (ksFn "__init__" qual (sxA f p1 p2) (sxB f pre k q) (sxS f) .none .none doc pm an cdv ct cc) ⟨[a, v], []⟩ = pure [(("self" : Str), a), (f, v)]
  preS : pre.length ≤ 1000
  fSelf : (("self" : Str) == f) = false
  fDbg : (f == ("__debug__" : Str)) = false
  fLoc : (sxS f).names.lookup f = some .local
  fSup : (sxS f).names.lookup ("super" : Str) = some .globalImplicit
  fCls : (sxS f).names.lookup ("__class__" : Str) = some .free
/-- what such an __init__ leaves of a new exception at x -/
structure SxEnd (h h' : Heap) (x C dx : Addr) (f : Str) (v : Value) : Prop where
  keep : ∀ b o, b ≠ x → h.get? b = some o → h'.get? b = some o
  obj : ∃ t1, h'.get? x = some { cls := .ref C, dict := some dx, data := .fields #[.ref t1, .none, .none, .none, .bool false, .none] }
  dbig : h.objs.size ≤ dx
  dne : dx ≠ x
  ns : h'.Ns1 dx (fun y => if y = f then some v else none)
theorem boot_super : bootBuiltins "super" = some (.type "super") := by decide +kernel
theorem drop_first (C : Addr) (l : List Value) : ((Value.ref C :: l).dropWhile fun y => y != .ref C).drop 1 = l := by simp [List.dropWhile_cons]
section
variable {prog : Program} {w : World} {A : Around} {E : Value → Shared → Prop} {R : Result → Shared → Prop} {K : Frag} {mg : Str → Option Value} {C fI : Addr} {cn f pre qual : Str}
/-- a built-in __init__ that is bound to x, called -/
theorem call_mw {h : Heap} {g : Array GenState} {d : Drawn} {t : Nat} {os : OsState} {u x t0 : Addr} {rest : List Value} {Q : Value → Shared → Prop} {nm q : Str} {N : Addr} {bs bm : List Value} {hdct : Bool} {sn : List Str} {sub : List Value} {ab : Bool} {col : Option Bool} {dd : Option Addr} {k0 k1 k2 k3 k5 : Option Value}
    (hC : h.get? C = some (excClassObj nm q C N bs bm hdct sn sub ab col dd k0 k1 k2 k3 k5 "ValueError.__new__")) (hx : h.get? x = some (excO C t0)) (hu : h.get? u = some (kxs_mw "ValueError.__init__" x)) (hr : rest.length ≤ sizeLine)
    (hq : ∀ h' t1, (∀ b o, b ≠ x → h.get? b = some o → h'.get? b = some o) → h'.get? x = some (excO C t1) → Q .none ⟨h', g, d, t, os⟩) : wpAny (model prog w) A (call (.ref u) rest) Q E ⟨h, g, d, t, os⟩ := by
  refine' wpAny_call (codeAny_of_tree _)
  show wpAny (model prog w) A.in1 (callAny (.ref u) ⟨rest, []⟩) _ _ _
  (simp only [callAny]); (refine wpAny_bind (wpAny_load hu ?_))
  have c1 : (Value.type "method-wrapper" == Value.type "method" || Value.type "method-wrapper" == Value.type "builtin_function_or_method" || Value.type "method-wrapper" == Value.type "method-wrapper") = true := by decide
  simp only [kxs_mw, c1, if_true]
  refine W.KFB.if_so (by decide) (wpAny_bind (check_bound_init F.excBase_ValueError.toExcCallFacts hC hx rfl ?_))
  refine wpAny_bind (wpAny_pure (wpAny_pure ⟨plainId_quiet F.excBase_ValueError.init.plain _, codeAny_builtin F.excBase_ValueError.initEntry ?_⟩))
  exact exc_init_tree (cls := .ref C) (t0 := t0) (dv := none) (c2 := .none) (c3 := .none) (b4 := .bool false) hx hr fun h' k hx' _ => hq h' _ k hx'
abbrev sxE (f pre qual : Str) (p1 p2 : Pos) (kk : Nat) (q : Nat → Pos) (doc pm : Value) (an : Option Addr) (cda : Addr) (ct : Value) (cc L fI : Addr) : Env :=
  callEnv (ksFn "__init__" qual (sxA f p1 p2) (sxB f pre kk q) (sxS f) .none .none doc pm an (.ref cda) ct cc) L fI
/-- from the bound __init__'s call on -/
theorem sx_rest (T : SxTxt prog K mg C fI cn f pre qual) {s : Shared} {x t0 u cda cc : Addr} {v : Value} {oc : Value} {od : Option Addr} {doc pm ct : Value} {an : Option Addr} {osl : Array (Option Value)} {p1 p2 : Pos} {kk : Nat} {q : Nat → Pos} {nm qn : Str} {N : Addr} {bs bm : List Value} {sn : List Str} {sub : List Value} {ab : Bool} {col : Option Bool} {dd : Option Addr} {k0 k1 k2 k3 k5 : Option Value}
    {h₀ h₂ h₃ : Heap} {y : Str} {tk tk2 : Nat}
    (ho : K.lookup fI = some ⟨oc, od, .func (ksFn "__init__" qual (sxA f p1 p2) (sxB f pre kk q) (sxS f) .none .none doc pm an (.ref cda) ct cc), osl⟩)
    (hcl : clsIn K C = some { name := nm, bases := bs, mro := .ref C :: bm, ns := N, qualname := qn, hasDict := true, slotNames := sn, subclasses := sub, abstract := ab, collection := col, hasDel := false })
    (hC : K.lookup C = some (excClassObj nm qn C N bs bm true sn sub ab col dd k0 k1 k2 k3 k5 "ValueError.__new__")) (hbm : refsVE bm = true) (X : K.In s.heap) (hx : s.heap.get? x = some (excO C t0)) (hnx : K.lookup x = none)
    (k : ∀ b o, s.heap.get? b = some o → h₀.get? b = some o) (k2' : ∀ b o, h₀.get? b = some o → h₂.get? b = some o) (k3' : ∀ b o, h₂.get? b = some o → h₃.get? b = some o)
    (hu : h₃.get? u = some (kxs_mw "ValueError.__init__" x)) (hns : h₃.Ns s.heap.objs.size fun y => List.lookup y [(("self" : Str), Value.ref x), (f, v)].reverse)
    (vself : List.lookup ("self" : Str) ([(("self" : Str), Value.ref x), (f, v)].reverse) = some (.ref x)) (vfld : List.lookup f ([(("self" : Str), Value.ref x), (f, v)].reverse) = some v)
    (hq : ∀ h' tk dx, SxEnd s.heap h' x C dx f v → R (.ok (.ret .none)) { s with heap := h', toks := tk }) :
    wpAny (model prog w) (A.deeper (sxE f pre qual p1 p2 kk q doc pm an cda ct cc s.heap.objs.size fI)) (call (.ref u) [.str y tk])
      (fun _ s' => PySem.wpAt (model prog w) (A.deeper (sxE f pre qual p1 p2 kk q doc pm an cda ct cc s.heap.objs.size fI)) (.func (sxB f pre kk q) (sxE f pre qual p1 p2 kk q doc pm an cda ct cc s.heap.objs.size fI))
        (execs [.Assign [.Attribute (.Name "self" (q 9)) f (q 10)] (.Name f (q 11)) (q 12)] (sxE f pre qual p1 p2 kk q doc pm an cda ct cc s.heap.objs.size fI))
        (fun fl s' => R (Except.ok (Flow.ret (match fl with | Flow.ret v => v | _ => Value.none))) s')
        (fun e s' => wpAny (model prog w) (A.deeper (sxE f pre qual p1 p2 kk q doc pm an cda ct cc s.heap.objs.size fI)) (leaving (sxE f pre qual p1 p2 kk q doc pm an cda ct cc s.heap.objs.size fI) e) (fun _ s'' => R (.error e) s'') (fun e' s'' => R (.error e') s'') s') s')
      (fun e s' => wpAny (model prog w) (A.deeper (sxE f pre qual p1 p2 kk q doc pm an cda ct cc s.heap.objs.size fI)) (leaving (sxE f pre qual p1 p2 kk q doc pm an cda ct cc s.heap.objs.size fI) e) (fun _ s'' => R (.error e) s'') (fun e' s'' => R (.error e') s'') s')
      { s with heap := h₃, toks := tk2 } := by
  have X₃ : K.In h₃ := ((X.keeps k).keeps k2').keeps k3'
  have hx₃ := k3' _ _ (k2' _ _ (k _ _ hx))
  refine call_mw (X₃ _ _ hC) hx₃ hu (by rw [sizeLine_eq]; show 1 ≤ 16777216; decide) fun h' t1 k' hx' => ?_
  have X' : K.In h' := fun a o e => by
    by_cases ha : a = x
    · rw [ha, hnx] at e; cases e
    · exact k' a o ha (X₃ a o e)
  have hxL : s.heap.objs.size ≠ x := Nat.ne_of_gt (Heap.lt_size hx)
  have hns' := hns.at fun o e => k' _ o hxL e
  refine wpAt_of_wpAny (wpAny_execs_cons (plainObj_wpAny_Assign_Attribute ?_))
  refine wpAny_Name (wpAny_loadName_local rfl T.fLoc hns' vfld (wpAny_Name (wpAny_loadName_local rfl rfl hns' vself ?_) (by decide))) T.fDbg
  refine set_plain X' (ox := excO C t1) (od := none) ⟨hx', rfl, rfl, trivial⟩ T.sa (exc_osa X' hx' hcl (show refsVE (.ref C :: bm) = true from hbm) rfl T.noN (fun h₅ tk₅ dx k₅ dn dne hx₅ hn₅ => ?_))
  obtain ⟨oL, _, _, hL, _⟩ := hns'
  have z : s.heap.objs.size < h'.objs.size := Heap.lt_size hL
  refine wpAny_execs_nil (hq h₅ tk₅ dx ⟨fun b o hb e => k₅ b o hb (k' b o hb (k3' _ _ (k2' _ _ (k b o e)))), ⟨_, hx₅⟩, Nat.le_of_lt (Nat.lt_of_lt_of_le z dn), dne, hn₅⟩)
theorem sx_init (T : SxTxt prog K mg C fI cn f pre qual) {s : Shared} {x t0 : Addr} {v : Value} (X : K.In s.heap) (hlim : s.heap.NoLimit) (G : s.heap.Ns mainGlobals mg) (B : ∃ mb, s.heap.Ns builtinsNs mb ∧ ∀ y : Str, y ≠ "__name__" → mb y = bootBuiltins y)
    (hx : s.heap.get? x = some (excO C t0)) (hnx : K.lookup x = none) (hroom : A.depth < recursionLimit) (hv : (∃ (i : Int) (t : Tok), v = .int i t ∧ i.natAbs.log2 < 1920) ∨ v = .none)
    (hq : ∀ h' tk dx, SxEnd s.heap h' x C dx f v → R (.ok (.ret .none)) { s with heap := h', toks := tk }) :
    codeAny (model prog w) A (.call (.ref fI) ⟨[.ref x, v], []⟩) R s := by
  obtain ⟨oc, od, doc, pm, an, ct, osl, p1, p2, kk, q, cda, cc, ccl, cdd, vs, ccs, file, tf, cl, cld, csl, ho, hcd, hcode, hvs, hfile, hcell, hpos⟩ := T.fn
  obtain ⟨nm, qn, N, bs, bm, sn, sub, ab, col, dd, k0, k1, k2, k3, k5, hC, hbm, hal⟩ := T.cls
  obtain ⟨mb, Bn, Bb⟩ := B
  have hcl : clsIn K C = some { name := nm, bases := bs, mro := .ref C :: bm, ns := N, qualname := qn, hasDict := true, slotNames := sn, subclasses := sub, abstract := ab, collection := col, hasDel := false } := by unfold clsIn; rw [hC] <;> rfl
  have hxC : x ≠ C := fun z => by rw [z, hC] at hnx; cases hnx
  refine ks_codeAny_call_defAt (fd := ksFn "__init__" qual (sxA f p1 p2) (sxB f pre kk q) (sxS f) .none .none doc pm an (.ref cda) ct cc) (body := sxB f pre kk q) (binds := [("self", .ref x), (f, v)]) hroom (X _ _ ho) rfl hlim (codeRec_of X hcd) rfl (BindsTo.of_eq ?_) ?_ ?_ (fun h₀ hns k => ?_) rfl rfl rfl
  · exact T.fBind _ _ _ _ _ _ _ _ _ _ _ _
  · intro y hy
    rcases List.mem_cons.mp hy with rfl | hy
    · exact fun z => by cases z
    rcases List.mem_cons.mp hy with rfl | hy
    · exact fun z => by cases z
    rcases List.mem_cons.mp hy with rfl | hy
    · exact fun z => by cases z
    rcases List.mem_cons.mp hy with rfl | hy
    · exact fun z => by cases z
    · cases hy
  · intro y hy
    rcases List.mem_cons.mp hy with rfl | hy
    · rfl
    rcases List.mem_cons.mp hy with rfl | hy
    · exact T.fLoc
    · cases hy
  have hxL : s.heap.objs.size ≠ x := Nat.ne_of_gt (Heap.lt_size hx)
  have X₁ : K.In h₀ := X.keeps k
  have hx₁ := k _ _ hx
  have vself : List.lookup ("self" : Str) ([(("self" : Str), Value.ref x), (f, v)].reverse) = some (.ref x) := by
    show List.lookup ("self" : Str) [(f, v), (("self" : Str), Value.ref x)] = some (.ref x)
    rw [List.lookup, T.fSelf] <;> rfl
  have vfld : List.lookup f ([(("self" : Str), Value.ref x), (f, v)].reverse) = some v := by
    show List.lookup f [(f, v), (("self" : Str), Value.ref x)] = some v
    rw [List.lookup, beq_self_eq_true]
  obtain ⟨pl, hpl⟩ := hpos (callEnv (ksFn "__init__" qual (sxA f p1 p2) (sxB f pre kk q) (sxS f) .none .none doc pm an (.ref cda) ct cc) s.heap.objs.size fI) (.Call (.Name "super" (q 0)) [] [] (q 1)) [.Constant (.str pre) kk (q 3), .FormattedValue (.Name f (q 4)) (-1) none (q 5)] (q 6)
  refine ks_wpAt_execs_cons (ks_wpAt_Expr_any (ks_wpAt_MethodCall ?_ hpl))
  refine ks_wpAt_super_base T.fSup T.fCls (by decide) rfl (k _ _ (X _ _ ho)) rfl rfl rfl (k _ _ (X _ _ hcode)) rfl hvs hfile T.top ?_
  refine ks_loadName_global rfl T.fSup (loadGlobal_builtin (mg := mg) (mb := mb) (G.keeps k) T.sup (Bn.keeps k) ((Bb _ (by decide)).trans boot_super) ⟨rfl, ?_⟩)
  refine wpAny_loadName_free rfl T.fCls (c := cc) (v := .ref C) rfl ⟨_, k _ _ (X _ _ hcell), rfl⟩ ?_
  refine wpAny_loadName_local rfl rfl hns vself ?_
  refine ks_wpAny_isType_cls (X₁ _ _ hC) rfl ⟨rfl, ?_⟩
  refine ks_wpAny_call_super (X₁ _ _ hC) rfl hx₁ rfl (fun c e => by cases e) (looks_subIn X₁ T.seC) (fun h₂ e₂ k₂ => ?_)
  have X₂ : K.In h₂ := X₁.keeps k₂
  have hx₂ := k₂ _ _ hx₁
  have I₂ : InstAt h₂ x (excO C t0) C none := ⟨hx₂, rfl, rfl, trivial⟩
  refine kxs_getMethod kxs_ValueError e₂ (looks_opaque X₂ T.op) (l₀ := .ref C :: bm) ((looks_clsIn X₂ hcl).andThen .now) (drop_first C bm) X₂ hal (I₂.type.andThen (looks_subIn X₂ T.veC)) hxC rfl ?_
  have e₃ : (h₂.push (kxs_mw "ValueError.__init__" x)).get? h₂.objs.size = some (kxs_mw "ValueError.__init__" x) := Heap.get?_push_at rfl rfl
  have k₃ : ∀ b o, h₂.get? b = some o → (h₂.push (kxs_mw "ValueError.__init__" x)).get? b = some o := fun b o e => Heap.get?_push_of_some _ e
  have hns₃ := (hns.keeps k₂).keeps k₃
  generalize h₂.push (kxs_mw "ValueError.__init__" x) = h₃ at e₃ k₃ hns₃ ⊢
  refine kxs_callWith (i := "ValueError.__init__") (x := x) rfl (evalArgs_plain ?_)
  have hlen : ∀ i : Int, i.natAbs.log2 < 1920 → (Str.empty ++ pre ++ Str.ofString (toString i)).length ≤ sizeLine := fun i hi => by
    have e := int_text_length_le (k := 1920) (by decide) hi
    have := T.preS
    rw [strLen_append, strLen_append, PySem.ofString_length, sizeLine_eq]
    show 0 + pre.length + (toString i).length ≤ 16777216
    omega
  have hpre : (Str.empty ++ pre).length ≤ sizeLine := by
    have := T.preS
    rw [strLen_append, sizeLine_eq]
    show 0 + pre.length ≤ 16777216
    omega
  rcases hv with ⟨i, ti, rfl, hi⟩ | rfl
  · refine Calls.spliced_cons (wpAny_JoinedStr (v₁ := .Constant (.str pre) kk (q 3)) (v₂ := .FormattedValue (.Name f (q 4)) (-1) none (q 5)) (rest := []) (pos := q 6) (wpAny_Constant_str ⟨pre, _, rfl, hpre, ?_⟩))
    refine wpAny_FormattedValue_plain (wpAny_Name (wpAny_loadName_local rfl T.fLoc hns₃ vfld (wpAny_formatField_int hi ⟨_, _, rfl, hlen i hi, hlen i hi, ?_⟩)) T.fDbg)
    refine Calls.spliced_nil ⟨e₃, ?_⟩
    exact sx_rest T ho hcl hC hbm X hx hnx k k₂ k₃ e₃ hns₃ vself vfld hq
  · refine Calls.spliced_cons (wpAny_JoinedStr (v₁ := .Constant (.str pre) kk (q 3)) (v₂ := .FormattedValue (.Name f (q 4)) (-1) none (q 5)) (rest := []) (pos := q 6) (wpAny_Constant_str ⟨pre, _, rfl, hpre, ?_⟩))
    have hn4 : (Str.empty ++ pre ++ Str.ofString "None").length ≤ sizeLine := by
      have := T.preS
      rw [strLen_append, strLen_append, sizeLine_eq]
      show 0 + pre.length + 4 ≤ 16777216
      omega
    refine wpAny_FormattedValue_plain (wpAny_Name (wpAny_loadName_local rfl T.fLoc hns₃ vfld (wpAny_formatField_none ⟨_, _, rfl, hn4, hn4, ?_⟩)) T.fDbg)
    exact Calls.spliced_nil ⟨e₃, sx_rest T ho hcl hC hbm X hx hnx k k₂ k₃ e₃ hns₃ vself vfld hq⟩
/-- a made one: e new, its dict d new -/
structure SxMade (h h' : Heap) (e C d : Addr) (f : Str) (v : Value) : Prop where
  keep : ∀ b o, h.get? b = some o → h'.get? b = some o
  new : h.objs.size ≤ e
  obj : ∃ oe fs, h'.get? e = some oe ∧ oe.cls = .ref C ∧ oe.dict = some d ∧ oe.data = .fields fs ∧ fs[1]? = some .none ∧ fs[2]? = some .none
  dbig : h.objs.size ≤ d
  dne : d ≠ e
  ns : h'.Ns1 d (fun y => if y = f then some v else none)
theorem sx_made (T : SxTxt prog K mg C fI cn f pre qual) {s : Shared} {v : Value} (X : K.In s.heap) (hlim : s.heap.NoLimit) (G : s.heap.Ns mainGlobals mg) (B : ∃ mb, s.heap.Ns builtinsNs mb ∧ ∀ y : Str, y ≠ "__name__" → mb y = bootBuiltins y)
    (hroom : A.depth + 1 < recursionLimit) (hv : (∃ (i : Int) (t : Tok), v = .int i t ∧ i.natAbs.log2 < 1920) ∨ v = .none)
    (hq : ∀ h' tk e d, SxMade s.heap h' e C d f v → R (.ok (.ret (.ref e))) { s with heap := h', toks := tk }) : codeAny (model prog w) A (.call (.ref C) ⟨[v], []⟩) R s := by
  obtain ⟨nm, qn, N, bs, bm, sn, sub, ab, col, dd, k0, k1, k2, k3, k5, hC, hbm, hal⟩ := T.cls
  obtain ⟨hp, g, dr, tk, os⟩ := s
  obtain ⟨mb, Bn, Bb⟩ := B
  have kp : ∀ b o, hp.get? b = some o → ((hp.push (kdv_tup [v])).push (excO C hp.objs.size)).get? b = some o := fun b o z => Heap.get?_push_of_some _ (Heap.get?_push_of_some _ z)
  have atE : ((hp.push (kdv_tup [v])).push (excO C hp.objs.size)).get? (hp.objs.size + 1) = some (excO C hp.objs.size) := by heap_get
  have notK : K.lookup (hp.objs.size + 1) = none := by
    cases z : K.lookup (hp.objs.size + 1) with
    | none => rfl
    | some o => exact absurd (Nat.lt_of_succ_lt (Heap.lt_size (X _ _ z))) (Nat.lt_irrefl _)
  have hone : ([v] : List Value).length ≤ sizeLine := by
    rw [sizeLine_eq]
    show 1 ≤ 16777216
    decide
  refine call_own F.excBase_ValueError (fun Y => refsVE_contains Y bm hbm) (X _ _ hC) (looks_findIn X T.iC) (fun self => bind_fn X self T.tI) hone (sx_init (s := ⟨(hp.push (kdv_tup [v])).push (excO C hp.objs.size), g, dr, tk, os⟩) T (X.keeps kp) (hlim.keeps kp) (G.keeps kp) ⟨mb, Bn.keeps kp, Bb⟩ atE notK ?_ hv fun h' tk' dx M => ?_)
  · show A.depth + 1 < recursionLimit
    exact hroom
  · have z : hp.objs.size + 1 + 1 ≤ dx := by
      have zz := M.dbig
      rw [Heap.size_push, Heap.size_push] at zz
      exact zz
    obtain ⟨t1, ho⟩ := M.obj
    exact ⟨rfl, hq h' tk' (hp.objs.size + 1) dx ⟨fun b o zb => M.keep b o (Nat.ne_of_lt (Nat.lt_succ_of_lt (Heap.lt_size zb))) (kp b o zb), Nat.le_succ _, ⟨_, _, ho, rfl, rfl, rfl, rfl, rfl⟩, (by show hp.objs.size ≤ dx; omega), M.dne, M.ns⟩⟩
end
end SX
namespace L2
open PySem PySem.Spec PyProof.Rows
section
variable {X : Cx} {C fI : Addr} {cn f pre qual : Str}
/-- C(e), C with such an __init__: an int or None -/
def tMkSx (C : Addr) (f : Str) (ta : TA) : St → Hp → XK → Prop := fun σ H Q => ta σ H fun vs H1 => ∃ v, vs = [v] ∧ ((∃ i : Int, v = .int i ∧ i.natAbs.log2 < 1920) ∨ v = .non) ∧ ∀ d, H1 d = none → Q (.ref C) (some d) (upd H1 d (.xd [(f, v)]))
theorem relO_sx {f : Str} {v : V} {u : Value} (r : RelV v u) (g : Str) : RelO (List.lookup g [(f, v)]) (if g = f then some u else none) := by
  by_cases hg : g = f
  · rw [if_pos hg, hg, List.lookup, beq_self_eq_true]
    exact r
  · have e : (g == f) = false := by simpa using hg
    rw [if_neg hg, List.lookup, e]
    trivial
theorem pmk_sx {a : Expr} {ta : TA} {p pos : Pos} {k : Nat} (T : SX.SxTxt X.prog X.K X.mg C fI cn f pre qual) (hr : Room k X.A) (ha : PA X [a] ta) (hg : Gl X cn) (hdb : (cn == ("__debug__" : Str)) = false := by decide)
    (he : starEach (a :: []) X.env = (false, eval a X.env) :: starEach [] X.env := by rfl) (hpl : (backTo pos (starEach [] X.env)).any (·.1) = false := by rfl) : L2N.PMk X (.Call (.Name cn p) [a] [] pos) (tMkSx C f ta) := by
  intro pins s σ H Q I h
  refine wpAny_Call_Name_kw (ld_glob I hg T.gC ?_ hdb)
  refine PySem.W.callWith_K (h₀ := X.base) I.ok.mod.kin T.kC (thn (ha.run pos pins s σ H _ I h) fun us s1 ⟨vs, H1, I1, r1, v, ev, hv, q1⟩ => ?_) he hpl
  subst ev
  refine ⟨I1.kIn, ?_⟩
  cases r1 with
  | @cons _ u _ us' rv rn =>
    cases rn
    show wpAny (model X.prog X.w) X.A (call (.ref C) [u]) _ _ _
    have hu : (∃ (i : Int) (t : Tok), u = .int i t ∧ i.natAbs.log2 < 1920) ∨ u = .none := by
      rcases hv with ⟨i, rfl, hi⟩ | rfl
      · obtain ⟨t, rfl⟩ := rv
        exact .inl ⟨i, t, rfl, hi⟩
      · exact .inr rv
    have hlim := I1.nolimit
    have hG := I1.mod.glob.keeps I1.bk
    obtain ⟨mb, hB, hBb⟩ := I1.mod.blt
    obtain ⟨hp, g, dr, tk, os⟩ := s1
    refine wpAny_call (SX.sx_made T I1.kIn hlim hG ⟨mb, hB.keeps I1.bk, hBb⟩ (by have := hr.dp; omega) hu fun h' tk' e d M => ?_)
    show L2N.MkP X pins σ Q (.ref e) ⟨h', g, dr, tk', os⟩
    obtain ⟨oe, fv, hoe, hc, hd, hdat, h1, h2⟩ := M.obj
    obtain ⟨Gh, gg, ge'⟩ := restrict h' fun b => decide (b ≠ e)
    have gk : ∀ b, b ≠ e → Gh.get? b = h'.get? b := fun b hb => gg b (decide_eq_true hb)
    have ge : Gh.get? e = none := ge' e (by simp)
    have J : Inv X pins σ (upd H1 d (.xd [(f, v)])) ⟨Gh, g, dr, tk', os⟩ := I1.laid (t' := tk') (fun b o z => (gk b (Nat.ne_of_lt (Nat.lt_of_lt_of_le (Heap.lt_size z) M.new))).trans (M.keep b o z)) M.dbig ⟨_, M.ns.at (fun o z => (gk d M.dne).trans z), fun y => relO_sx rv y⟩
    refine ⟨e, oe, fv, ⟨Gh, g, dr, tk', os⟩, _, .ref C, some d, rfl, J, fun b o z => ?_, ge, hoe, ⟨hc, hd, fun vs z => (by rw [hdat] at z; cases z; exact h2)⟩, hdat, h1, ?_, rfl, I1.bare, raises_own T.exC T.tyC, q1 d (I1.hok.fresh M.dbig)⟩
    · by_cases hb : b = e
      · rw [hb] at z
        have z' : Gh.get? e = some o := z
        rw [ge] at z'
        cases z'
      · exact (gk b hb).symm.trans z
    · rw [upd_ne (Ne.symm M.dne)]
      exact I1.hok.fresh M.new
/-- raise C(e) -/
def tRaiseSx (C : Addr) (f : Str) (W : WX) (ta : TA) : TS := fun _ σ H => tMkSx C f ta σ H fun cls d H' => W cls d σ H'
theorem ps_raiseSx {a : Expr} {ta : TA} {W : WX} {p pos pos2 : Pos} {k : Nat} (hc : X.calm = true) (T : SX.SxTxt X.prog X.K X.mg C fI cn f pre qual) (hr : Room k X.A) (tk : L2N.Takes X W) (ha : PA X [a] ta) (hg : Gl X cn) (hdb : (cn == ("__debug__" : Str)) = false := by decide)
    (he : starEach (a :: []) X.env = (false, eval a X.env) :: starEach [] X.env := by rfl) (hpl : (backTo pos (starEach [] X.env)).any (·.1) = false := by rfl) :
    PS X (.Raise (some (.Call (.Name cn p) [a] [] pos)) none pos2) (tRaiseSx C f W ta) := L2N.ps_raise hc tk (pmk_sx T hr ha hg hdb he hpl)
/-- a def that may raise, its exception's context being None -/
theorem okN {P : Program} {w : World} {K : PySem.W.Frag} {mg : Str → Option Value} {base : Heap} {x qual : Str} {st : Stmt} {f : Addr} {fd : FuncData} {N ps : List Str} {k : Nat} {sp : Sp} (F : Fun K x qual st f fd) (S : FnScope N ps (defScope st)) (len : ∀ vs H Q E, sp vs H Q E → vs.length = ps.length)
    (body : ∀ (cdv : Value) (A : Around) (outer : List Env) (s : Shared) (H : Hp) (vs : List V) (Q : VK) (E : XK), Room k (A.deeper (envOfC qual (defScope st) s.heap.objs.size f cdv)) → sp vs H Q E →
      ∃ t, PSs (cxOf (L2N.CX P w) P w K mg base N qual (defScope st) f cdv A outer s H E) (defBody st) t ∧ t { nx := fun _ H' => Q .non H', rt := Q } (start N vs) H) : FnOk P w K mg base (L2N.CX P w) (k + 1) f fd ps sp := by
  obtain ⟨oc, od, kV, doc, pm, an, cdv, ct, osl, rfl, lk, hcd⟩ := F.ex
  exact fn_of lk hcd S len fun A outer s H vs Q E => body cdv A outer s H vs Q E
/-- a def called while an exception is handled -/
theorem okH {P : Program} {w : World} {K : PySem.W.Frag} {mg : Str → Option Value} {base : Heap} {x qual : Str} {st : Stmt} {f : Addr} {fd : FuncData} {N ps : List Str} {k : Nat} {sp : Sp} (F : Fun K x qual st f fd) (S : FnScope N ps (defScope st)) (len : ∀ vs H Q E, sp vs H Q E → vs.length = ps.length)
    (body : ∀ (cdv : Value) (A : Around) (outer : List Env) (s : Shared) (H : Hp) (vs : List V) (Q : VK) (E : XK) (p : Addr × Obj), L2H.Hot1 A p → L2H.RoomH k (A.deeper (envOfC qual (defScope st) s.heap.objs.size f cdv)) → sp vs H Q E →
      ∃ t, PSs (L2H.cxH CX0 P w K mg base N qual (defScope st) f cdv A outer s H E p) (defBody st) t ∧ t { nx := fun _ H' => Q .non H', rt := Q } (start N vs) H) : L2H.FnH P w K mg base CX0 (k + 1) f fd ps sp := by
  obtain ⟨oc, od, kV, doc, pm, an, cdv, ct, osl, rfl, lk, hcd⟩ := F.ex
  exact L2H.fn_ofH lk hcd S len fun A outer s H vs Q E p => body cdv A outer s H vs Q E p
/-- x.f, x the exception that the suite holds -/
def tSxF (C : Addr) (f : Str) (a : Addr) (cls : Value) (d : Option Addr) (te : TE) : TE := fun σ H Q => te σ H fun x H1 => x = .ref a ∧ cls = .ref C ∧ ∃ (dd : Addr) (v : V), d = some dd ∧ H1 dd = some (.xd [(f, v)]) ∧ Q v H1
theorem pe_sxF {prog : Program} {a : Addr} {oe : Obj} {cls : Value} {d : Option Addr} {pn : List (Addr × Obj)} {e : Expr} {te : TE} {pos : Pos} (T : SX.SxTxt prog X.K X.mg C fI cn f pre qual) (hz : Zc cls d oe) (hf : ∃ vs, oe.data = .fields vs) (he : PE (X.suite a ((a, oe) :: pn)) e te)
    (hb : attributeBase e f X.env (eval e X.env) = eval e X.env := by rfl) : PE (X.suite a ((a, oe) :: pn)) (.Attribute e f pos) (tSxF C f a cls d te) := by
  refine ⟨fun pins s σ H Q I h => ?_⟩
  refine attr_of hb (thn (he.run pins s σ H _ I h) fun u s1 ⟨x, H1, I1, rx, ex, ec, dd, v, ed, ea, q⟩ => ?_)
  subst ex
  obtain rfl : u = Value.ref a := rx
  subst ec
  subst ed
  obtain ⟨ha, _⟩ := I1.pin (a, oe) (List.mem_append_left _ List.mem_cons_self)
  obtain ⟨vs, hd⟩ := hf
  have hx : ObjOk X.prog X.w H1 s1.heap dd (.xd [(f, v)]) := I1.hok dd _ ea
  obtain ⟨mA, hns, hr⟩ := hx
  obtain ⟨od, ho, hl⟩ := lookIn_ns hns
  have l : List.lookup f [(f, v)] = some v := by rw [List.lookup, beq_self_eq_true]
  obtain ⟨u, hu, ru⟩ := RelO.some_of (v := v) (o := mA f) (by rw [← l]; exact hr f)
  have J : PySem.W.InstAt s1.heap a oe C (some od) := ⟨ha, hz.1, by unfold PySem.W.notCls; rw [hd] <;> rfl, by rw [hz.2]; exact ho⟩
  exact HandSPX.exc_get I1.kIn J T.ga T.gg T.exC (PySem.W.findObj_own T.hdC T.noN rfl (by rw [hl, hu])) (handed_of ru) ⟨v, H1, I1.tok _, ru, q⟩
end
end L2

namespace K0
open PySem PySem.Spec PyProof.Rows L2
/-! ### bytes_behind, told -/
def asIt : Any → Itm
  | .num n => .b n.toNat
  | .tup [m, b] => .c m.toNat b.toNat
  | _ => .b 0
theorem step_bad {size : Int} : ∀ {x : Any}, itemB x = false → stepA size x = none
  | .num n, h => if_neg (of_decide_eq_false h)
  | .lst _, _ => rfl
  | .tup [], _ => rfl
  | .tup [_], _ => rfl
  | .tup (_ :: _ :: _ :: _), _ => rfl
  | .tup [m, b], h => by
    have h' : (decide (3 ≤ m ∧ m ≤ 18) && decide (1 ≤ b ∧ b ≤ 1024)) = false := h
    refine if_neg fun z => ?_
    rw [decide_eq_true (show 3 ≤ m ∧ m ≤ 18 by omega), decide_eq_true (show 1 ≤ b ∧ b ≤ 1024 by omega)] at h'
    cases h'
theorem log_small {n : Nat} (h : n ≤ 100000) : ((n : Int)).natAbs.log2 < 1920 := by
  rw [Int.natAbs_natCast]
  by_cases hn : n = 0
  · subst hn; decide
  · exact (Nat.log2_lt hn).mpr (Nat.lt_of_le_of_lt h (by decide +kernel))
theorem bi_byB {ks : List Nat} (h : ∀ k ∈ ks, k < 256) : (bi (byB ks)).map V.int = bys ks := by
  unfold bys byB
  congr 1
  show (List.map Nat.toUInt8 ks).toArray.toList.map (fun c => (c.toNat : Int)) = ks.map fun (k : Nat) => (k : Int)
  rw [List.map_map]
  refine List.map_congr_left fun k m => ?_
  show ((k.toUInt8.toNat : Nat) : Int) = k
  have := h k m
  have e : k.toUInt8.toNat = k := by
    rw [Nat.toUInt8_eq, UInt8.toNat_ofNat']
    exact Nat.mod_eq_of_lt this
  rw [e]
theorem byB_of (ks : List Nat) : byteArr (ks.map fun (k : Nat) => (k : Int)) = byB ks := by
  unfold byteArr byB
  rw [List.map_map]
  rfl
theorem byB_size (ks : List Nat) : (byB ks).size = ks.length := by
  unfold byB
  simp
abbrev NBh : List Str := ["items", "ahead", "whole", "at", "item"]
section
variable {P : Program} {w : World} {K : PySem.W.Frag} {mg : Str → Option Value} {base : Heap} {CI fE : Addr}
abbrev BadIt (P : Program) (K : PySem.W.Frag) (mg : Str → Option Value) (CI fE : Addr) : Prop := SX.SxTxt P K mg CI fE "BadItems" "at" "no row of items, seen at " "BadItems.__init__"
def spBehind (C : Addr) : Sp := fun vs H Q E => ∃ (pr : Addr) (us : List V) (any : List Any) (lead : List Nat), vs = [.ref pr, .byt (byB lead)] ∧ H pr = some (.lst us) ∧ Paired (AnyAt H) any us ∧ (∀ k ∈ lead, k < 256) ∧ lead.length ≤ 5000 ∧ any.length ≤ 1000 ∧
  (∀ n : Nat, firstBad (lead.length : Int) 0 any = some n → ∀ H' d, Same H H' → H' d = some (.xd [("at", .int (n : Int))]) → E (.ref C) (some d) H') ∧
  (firstBad (lead.length : Int) 0 any = none → ∀ H' due, Same H H' → tells lead (any.map asIt) = some (lead ++ due) → (∀ k ∈ due, k < 256) → due.length ≤ 18 * any.length → Q (.byt (byB due)) H')
end
end K0

namespace BFX
open PySem PySem.Spec PySem.Calls PyProof.Rows PySem.W PySem.Builtin
theorem args_find4 (a b c d : Value) : argsOk "bytes.find" ⟨[a, b, c, d], []⟩ := by
  unfold argsOk; rw [signature?_of (id := "bytes.find") (n := ['d', 'n', 'i', 'f']) (o := ['s', 'e', 't', 'y', 'b']) (by kernel_rfl) FB.owner_bytes]; kernel_rfl
theorem args_rfind4 (a b c d : Value) : argsOk "bytes.rfind" ⟨[a, b, c, d], []⟩ := by
  unfold argsOk; rw [signature?_of (id := "bytes.rfind") (n := ['d', 'n', 'i', 'f', 'r']) (o := ['s', 'e', 't', 'y', 'b']) (by kernel_rfl) FB.owner_bytes]; kernel_rfl
def winN (n m : Nat) (lo hi : Int) : Option (Nat × Nat) := if min (n : Int) hi - lo < (m : Int) then none else some (lo.toNat, (min (n : Int) hi).toNat)
theorem wp_bound {M : Model} {A : Around} {E : Value → Shared → Prop} {s : Shared} {n : Int} {u : Tok} {Q : Option Int → Shared → Prop} (h : Q (some n) s) : wpAny M A (Bytes.bound? (some (.int n u))) Q E s := by
  unfold Bytes.bound?
  refine wpAny_bind (wpAny_specialOf (T := "int") (typeIs_int s n u) F.slot_int_index.lookup ?_)
  try dsimp only
  rw [if_neg (show ¬ (Option.isNone (some (Value.builtin "int.__index__")) = true) from Bool.false_ne_true)]
  refine wpAny_bind (wpAny_of_eq (a := n) rfl ?_)
  exact wpAny_pure h
theorem window_nn {n : Nat} {lo hi : Int} (h1 : 0 ≤ lo) (h2 : 0 ≤ hi) : Bytes.window n (some lo) (some hi) = (lo, min (n : Int) hi) := by
  show ((if lo < 0 then max 0 (lo + n) else lo), min (n : Int) (if hi < 0 then max 0 (hi + n) else hi)) = _
  rw [if_neg (by omega), if_neg (by omega)]
theorem wp_args4 {M : Model} {A : Around} {E : Value → Shared → Prop} {s : Shared} {b c : Array UInt8} {t u v w : Tok} {lo hi : Int} {name : String} {Q : Array UInt8 × Array UInt8 × Option (Nat × Nat) → Shared → Prop} (h1 : 0 ≤ lo) (h2 : 0 ≤ hi) (h : Q (b, c, winN b.size c.size lo hi) s) :
    wpAny M A (Bytes.searchArgs .bytes name ⟨[.bytes b t, .bytes c u, .int lo v, .int hi w], []⟩) Q E s := by
  unfold Bytes.searchArgs
  refine wpAny_bind (wpAny_of_eq (a := (Value.bytes b t, [Value.bytes c u, Value.int lo v, Value.int hi w])) rfl ?_)
  refine wpAny_bind (wp_bound ?_)
  refine wpAny_bind (wp_bound ?_)
  try dsimp only [List.headD]
  refine wpAny_bind (wpAny_of_eq KBy.buffer_eq ?_)
  first
    | refine wpAny_bind (wpAny_pure ?_)
    | (dsimp only; refine wpAny_bind (wpAny_pure ?_))
    | skip
  refine wpAny_bind (wpAny_of_eq (a := b) rfl ?_)
  try dsimp only
  rw [window_nn h1 h2]
  exact wpAny_pure h
def fnd (b c : Array UInt8) (lo hi : Int) : Option Nat := (winN b.size c.size lo hi).bind fun p => Bytes.find? b c p.1 p.2
def rfnd (b c : Array UInt8) (lo hi : Int) : Option Nat := (winN b.size c.size lo hi).bind fun p => Bytes.rfind? b c p.1 p.2
theorem gives_find4 {b c : Array UInt8} {t u v w : Tok} {lo hi : Int} (h1 : 0 ≤ lo) (h2 : 0 ≤ hi) : Gives («bytes.find» ⟨[.bytes b t, .bytes c u, .int lo v, .int hi w], []⟩) (.int (KBf.told (fnd b c lo hi))) := by
  refine .of_wp fun M A E s Q hq => ?_
  show wpAny M A (Bytes.searchArgs .bytes "find" ⟨[.bytes b t, .bytes c u, .int lo v, .int hi w], []⟩ >>= fun r => _) _ E s
  refine wpAny_bind (wp_args4 h1 h2 ?_)
  show wpAny M A (match fnd b c lo hi with | some i => retInt (i : Int) | none => rule _ >>= fun _ => retInt (-1)) _ E s
  cases e : fnd b c lo hi with
  | none =>
    rw [e] at hq
    exact wpAny_bind (wpAny_rule (wpAny_bind (wpAny_mkInt (wpAny_pure ⟨_, rfl, hq⟩))))
  | some i =>
    rw [e] at hq
    exact wpAny_bind (wpAny_mkInt (wpAny_pure ⟨_, rfl, hq⟩))
theorem gives_rfind4 {b c : Array UInt8} {t u v w : Tok} {lo hi : Int} (h1 : 0 ≤ lo) (h2 : 0 ≤ hi) : Gives («bytes.rfind» ⟨[.bytes b t, .bytes c u, .int lo v, .int hi w], []⟩) (.int (KBf.told (rfnd b c lo hi))) := by
  refine .of_wp fun M A E s Q hq => ?_
  show wpAny M A (Bytes.searchArgs .bytes "rfind" ⟨[.bytes b t, .bytes c u, .int lo v, .int hi w], []⟩ >>= fun r => _) _ E s
  refine wpAny_bind (wp_args4 h1 h2 ?_)
  show wpAny M A (match rfnd b c lo hi with | some i => retInt (i : Int) | none => rule _ >>= fun _ => retInt (-1)) _ E s
  cases e : rfnd b c lo hi with
  | none =>
    rw [e] at hq
    exact wpAny_bind (wpAny_rule (wpAny_bind (wpAny_mkInt (wpAny_pure ⟨_, rfl, hq⟩))))
  | some i =>
    rw [e] at hq
    exact wpAny_bind (wpAny_mkInt (wpAny_pure ⟨_, rfl, hq⟩))
end BFX
namespace L2
open PySem PySem.Spec PySem.Calls PyProof.Rows
section
variable {X : Cx} {o e : Expr} {es : List Expr} {to : TE} {t : TA} {name : Str} {apos cpos : Pos} {id : String} {r : V → List V → Hp → VK → Prop}
def tBMB (r : V → List V → Hp → VK → Prop) (to : TE) (t : TA) : TE := fun σ H Q => to σ H fun x H1 => (∃ b, x = .byt b) ∧ t σ H1 fun xs H2 => r x xs H2 Q
/-- a method of bytes with arguments -/
theorem pe_bmB (slot : Slot "bytes" name id) (hty : typeOf (.builtin id) = pure (.type "method_descriptor")) (hm : MtR X id r) (ho : PE X o to) (ha : PA X (e :: es) t)
    (hbase : attributeBase o name X.env (eval o X.env) = eval o X.env := by rfl)
    (hfew : ((backTo cpos (starEach (e :: es) X.env)).all (fun x => !x.1) && (backToKw cpos (keywordEach [] X.env)).all (fun x => x.1.isSome)
      && decide ((e :: es).length + ([] : List Keyword).length + (if ([] : List Keyword).isEmpty then 0 else 1) < 30)) = true := by rfl)
    (hline : (apos.endLine == cpos.line) = true := by rfl) (hs : starEach (e :: es) X.env = (false, eval e X.env) :: starEach es X.env := by rfl) (hplain : (backTo cpos (starEach es X.env)).any (·.1) = false := by rfl) :
    PE X (.Call (.Attribute o name apos) (e :: es) [] cpos) (tBMB r to t) := by
  refine ⟨fun pins s σ H Q I h => ?_⟩
  refine wpAny_Call_method_late hbase hfew hline rfl (thn (ho.run pins s σ H _ I h) fun v s1 ⟨x, H1, I1, r1, ⟨b, eb⟩, q1⟩ => ?_)
  subst eb
  obtain ⟨tk, rfl⟩ := _root_.id r1
  refine ⟨"bytes", id, PySem.W.FB.plainAttrs_bytes, slot, hty, PySem.W.typeIs_bytes _ _ _, (fun _ e => nomatch e), ?_⟩
  have hA := ha.run cpos pins s1 σ H1 _ I1 q1
  rw [hs] at hA ⊢
  refine Calls.callWith_builtin (by show (false || (backTo cpos (starEach es X.env)).any (·.1)) = false; rw [hplain] <;> rfl) (Calls.evalArgs_plain ?_)
  exact thn hA fun us s2 ⟨vs, H2, I2, r2, q2⟩ => hm pins s2 σ H2 (.byt b) vs _ us Q I2 ⟨tk, rfl⟩ r2 q2
end
theorem mt_bfind4 {X : Cx} : MtR X "bytes.find" (fun x xs H Q => ∃ (a b : Array UInt8) (i j : Int), x = .byt a ∧ xs = [.byt b, .int i, .int j] ∧ 0 ≤ i ∧ 0 ≤ j ∧ Q (.int (PySem.W.KBf.told (BFX.fnd a b i j))) H) := by
  intro pins s σ H x xs v us Q I rx rs h
  obtain ⟨a, b, i, j, rfl, rfl, h1, h2, h⟩ := h
  obtain ⟨t, rfl⟩ := rx
  cases rs with
  | cons r1 rs =>
    cases rs with
    | cons r2 rs =>
      cases rs with
      | cons r3 rs =>
        cases rs
        obtain ⟨u, rfl⟩ := r1
        obtain ⟨z, rfl⟩ := r2
        obtain ⟨y, rfl⟩ := r3
        exact call_gives PySem.W.KBf.slot_find (PySem.W.typeIs_bytes _ _ _) PySem.W.KBf.entry_find (BFX.args_find4 _ _ _ _) (BFX.gives_find4 h1 h2) ⟨V.int _, H, I.tok (s.toks + 1), ⟨_, rfl⟩, h⟩
theorem mt_brfind4 {X : Cx} : MtR X "bytes.rfind" (fun x xs H Q => ∃ (a b : Array UInt8) (i j : Int), x = .byt a ∧ xs = [.byt b, .int i, .int j] ∧ 0 ≤ i ∧ 0 ≤ j ∧ Q (.int (PySem.W.KBf.told (BFX.rfnd a b i j))) H) := by
  intro pins s σ H x xs v us Q I rx rs h
  obtain ⟨a, b, i, j, rfl, rfl, h1, h2, h⟩ := h
  obtain ⟨t, rfl⟩ := rx
  cases rs with
  | cons r1 rs =>
    cases rs with
    | cons r2 rs =>
      cases rs with
      | cons r3 rs =>
        cases rs
        obtain ⟨u, rfl⟩ := r1
        obtain ⟨z, rfl⟩ := r2
        obtain ⟨y, rfl⟩ := r3
        exact call_gives PySem.W.KBf.slot_rfind (PySem.W.typeIs_bytes _ _ _) PySem.W.KBf.entry_rfind (BFX.args_rfind4 _ _ _ _) (BFX.gives_rfind4 h1 h2) ⟨V.int _, H, I.tok (s.toks + 1), ⟨_, rfl⟩, h⟩
end L2

namespace K0
open PySem PySem.Spec PyProof.Rows L2
/-! ### differences, pure -/
inductive Di | b (n : Nat) | c (nw : Bool) (m p : Nat)
  deriving DecidableEq
inductive Og | b (n : Nat) | o (p : Nat)
  deriving DecidableEq
def wideI : Di → Nat
  | .b _ => 1
  | .c _ m _ => m
def fitI (old there : Nat) : Di → Bool
  | .b n => decide (n < 256)
  | .c true m p => decide (3 ≤ m ∧ m ≤ 255 ∧ 1 ≤ p ∧ p ≤ min 2000 there)
  | .c false m p => decide (1 ≤ m ∧ m ≤ 255 ∧ p + m ≤ old)
def fitR (old : Nat) : Nat → List Di → Option Nat
  | t, [] => some t
  | t, i :: r => if fitI old t i = true then fitR old (t + wideI i) r else none
theorem fitR_app (old : Nat) : ∀ (a b : List Di) (t : Nat), fitR old t (a ++ b) = (fitR old t a).bind fun u => fitR old u b
  | [], b, t => rfl
  | i :: a, b, t => by
    show (if fitI old t i = true then fitR old (t + wideI i) (a ++ b) else none) = ((if fitI old t i = true then fitR old (t + wideI i) a else none).bind fun u => fitR old u b)
    split
    · exact fitR_app old a b _
    · rfl
theorem fit_wide {old t : Nat} : ∀ {i : Di}, fitI old t i = true → 1 ≤ wideI i ∧ wideI i ≤ 255
  | .b n, _ => ⟨Nat.le_refl 1, (by decide : 1 ≤ 255)⟩
  | .c true m p, h => by have := of_decide_eq_true h; exact ⟨by show 1 ≤ m; omega, this.2.1⟩
  | .c false m p, h => by have := of_decide_eq_true h; exact ⟨this.1, this.2.1⟩
theorem fitR_le {old : Nat} : ∀ {r : List Di} {t n : Nat}, fitR old t r = some n → t + r.length ≤ n
  | [], t, n, h => by
    have := Option.some.inj h
    show t + 0 ≤ n
    omega
  | i :: r, t, n, h => by
    have h : (if fitI old t i = true then fitR old (t + wideI i) r else none) = some n := h
    split at h
    · rename_i hf
      have := fitR_le h
      have := (fit_wide hf).1
      rw [List.length_cons]
      omega
    · cases h
def ogD : Og := .b 0
def copyO (p : Nat) : Nat → List Og → List Og
  | 0, acc => acc
  | m + 1, acc => copyO p m (acc ++ [acc.getD (acc.length - p) ogD])
def origS (acc : List Og) : Di → List Og
  | .b n => acc ++ [.b n]
  | .c true m p => copyO p m acc
  | .c false m p => acc ++ (List.range m).map fun t => .o (p + t)
def orig (row : List Di) : List Og := row.foldl origS []
def OgOk (old : Nat) : Og → Prop
  | .b n => n < 256
  | .o p => p < old
theorem copyO_len (p : Nat) : ∀ (m : Nat) (acc : List Og), (copyO p m acc).length = acc.length + m
  | 0, _ => rfl
  | m + 1, acc => by
    show (copyO p m _).length = _
    rw [copyO_len p m, List.length_append]
    show acc.length + 1 + m = acc.length + (m + 1)
    omega
theorem copyO_succ (p : Nat) : ∀ (m : Nat) (acc : List Og), copyO p (m + 1) acc = copyO p m acc ++ [(copyO p m acc).getD ((copyO p m acc).length - p) ogD]
  | 0, _ => rfl
  | m + 1, acc => copyO_succ p m (acc ++ [acc.getD (acc.length - p) ogD])
theorem getD_mem' {α : Type} {l : List α} {i : Nat} {d : α} (h : i < l.length) : l.getD i d ∈ l := by
  rw [List.getD_eq_getElem?_getD, List.getElem?_eq_getElem h]
  exact List.getElem_mem h
theorem copyO_ok {old p : Nat} (hp : 1 ≤ p) : ∀ (m : Nat) (acc : List Og), p ≤ acc.length → (∀ o ∈ acc, OgOk old o) → ∀ o ∈ copyO p m acc, OgOk old o
  | 0, _, _, h => h
  | m + 1, acc, hl, h => copyO_ok hp m _ (by rw [List.length_append]; omega) fun o ho => by
    rcases List.mem_append.mp ho with ho | ho
    · exact h o ho
    · rw [List.mem_singleton.mp ho]
      exact h _ (getD_mem' (by omega))
theorem orig_step {old : Nat} {acc : List Og} (ha : ∀ o ∈ acc, OgOk old o) : ∀ {i : Di}, fitI old acc.length i = true → (origS acc i).length = acc.length + wideI i ∧ ∀ o ∈ origS acc i, OgOk old o
  | .b n, h => by
    refine ⟨List.length_append, fun o ho => ?_⟩
    rcases List.mem_append.mp ho with ho | ho
    · exact ha o ho
    · rw [List.mem_singleton.mp ho]
      have h : decide (n < 256) = true := h
      show n < 256
      exact of_decide_eq_true h
  | .c true m p, h => by
    have := of_decide_eq_true h
    exact ⟨copyO_len p m acc, copyO_ok this.2.2.1 m acc (by omega) ha⟩
  | .c false m p, h => by
    have := of_decide_eq_true h
    refine ⟨by show (acc ++ _).length = acc.length + m; rw [List.length_append, List.length_map, List.length_range], fun o ho => ?_⟩
    rcases List.mem_append.mp ho with ho | ho
    · exact ha o ho
    · obtain ⟨t, ht, rfl⟩ := List.mem_map.mp ho
      have := List.mem_range.mp ht
      show p + t < old
      omega
theorem orig_ok {old : Nat} : ∀ {row : List Di} {acc : List Og} {n : Nat}, (∀ o ∈ acc, OgOk old o) → fitR old acc.length row = some n → (row.foldl origS acc).length = n ∧ ∀ o ∈ row.foldl origS acc, OgOk old o
  | [], acc, n, ha, h => ⟨Option.some.inj h, ha⟩
  | i :: r, acc, n, ha, h => by
    have h : (if fitI old acc.length i = true then fitR old (acc.length + wideI i) r else none) = some n := h
    split at h
    · rename_i hf
      obtain ⟨e, k⟩ := orig_step ha hf
      exact orig_ok (row := r) k (by rw [e]; exact h)
    · cases h
/-! ### flat rows -/
def flatO (acc : List Di) (q : Nat) : Option Di → List Di
  | some (.c _ m p) => if m < 255 ∧ p + m = q then acc.dropLast ++ [.c false (m + 1) p] else acc ++ [.c false 1 q]
  | _ => acc ++ [.c false 1 q]
def flatS (acc : List Di) : Og → List Di
  | .b n => acc ++ [.b n]
  | .o q => flatO acc q acc.getLast?
def flatF (os : List Og) : List Di := os.foldl flatS []
def FlI (old : Nat) : Di → Prop
  | .b n => n < 256
  | .c nw m p => nw = false ∧ 1 ≤ m ∧ m ≤ 255 ∧ p + m ≤ old
def og1 : Di → List Og
  | .b n => [.b n]
  | .c _ m p => (List.range m).map fun t => .o (p + t)
theorem og1_len : ∀ i, (og1 i).length = wideI i
  | .b _ => rfl
  | .c _ m p => by show ((List.range m).map _).length = m; rw [List.length_map, List.length_range]
theorem fl_fit {old : Nat} : ∀ {row : List Di} {t : Nat}, (∀ i ∈ row, FlI old i) → fitR old t row = some (t + (row.flatMap og1).length)
  | [], t, _ => rfl
  | i :: r, t, h => by
    have hi := h i (List.mem_cons_self ..)
    have hf : fitI old t i = true := by
      cases i with
      | b n => exact decide_eq_true hi
      | c nw m p =>
        obtain ⟨rfl, h1, h2, h3⟩ := hi
        exact decide_eq_true ⟨h1, h2, h3⟩
    show (if fitI old t i = true then fitR old (t + wideI i) r else none) = _
    rw [if_pos hf, fl_fit fun j hj => h j (List.mem_cons_of_mem _ hj), List.flatMap_cons, List.length_append, og1_len]
    congr 1
    omega
theorem fl_orig {old : Nat} : ∀ {row : List Di} {acc : List Og}, (∀ i ∈ row, FlI old i) → row.foldl origS acc = acc ++ row.flatMap og1
  | [], acc, _ => by simp
  | i :: r, acc, h => by
    have hi := h i (List.mem_cons_self ..)
    have e : origS acc i = acc ++ og1 i := by
      cases i with
      | b n => rfl
      | c nw m p =>
        obtain ⟨rfl, _⟩ := hi
        rfl
    show r.foldl origS (origS acc i) = _
    rw [e, fl_orig fun j hj => h j (List.mem_cons_of_mem _ hj), List.flatMap_cons, List.append_assoc]
theorem last_split {α : Type} {l : List α} {a : α} (h : l.getLast? = some a) : l = l.dropLast ++ [a] := by
  obtain ⟨ys, rfl⟩ := List.getLast?_eq_some_iff.mp h
  rw [List.dropLast_concat]
theorem flatS_ok {old : Nat} {acc : List Di} {o : Og} (ha : ∀ i ∈ acc, FlI old i) (ho : OgOk old o) : (∀ i ∈ flatS acc o, FlI old i) ∧ (flatS acc o).flatMap og1 = acc.flatMap og1 ++ [o] := by
  cases o with
  | b n =>
    refine ⟨fun i hi => ?_, by show (acc ++ [Di.b n]).flatMap og1 = _; rw [List.flatMap_append]; rfl⟩
    rcases List.mem_append.mp hi with hi | hi
    · exact ha i hi
    · rw [List.mem_singleton.mp hi]
      exact ho
  | o q =>
    have hq : q < old := ho
    have plain : (∀ i ∈ acc ++ [Di.c false 1 q], FlI old i) ∧ (acc ++ [Di.c false 1 q]).flatMap og1 = acc.flatMap og1 ++ [.o q] := by
      refine ⟨fun i hi => ?_, by rw [List.flatMap_append]; rfl⟩
      rcases List.mem_append.mp hi with hi | hi
      · exact ha i hi
      · rw [List.mem_singleton.mp hi]
        exact ⟨rfl, Nat.le_refl _, by decide, by omega⟩
    show (∀ i ∈ flatO acc q acc.getLast?, FlI old i) ∧ (flatO acc q acc.getLast?).flatMap og1 = _
    rcases e : acc.getLast? with _ | ⟨n⟩ | ⟨x, m, p⟩
    · exact plain
    · exact plain
    · show (∀ i ∈ (if m < 255 ∧ p + m = q then acc.dropLast ++ [Di.c false (m + 1) p] else acc ++ [Di.c false 1 q]), FlI old i) ∧ (if m < 255 ∧ p + m = q then acc.dropLast ++ [Di.c false (m + 1) p] else acc ++ [Di.c false 1 q]).flatMap og1 = _
      split
      · rename_i hc
        have es := last_split e
        have hm := ha _ (by rw [es]; exact List.mem_append_right _ (List.mem_singleton.mpr rfl) : Di.c x m p ∈ acc)
        obtain ⟨rfl, h1, h2, h3⟩ := hm
        refine ⟨fun i hi => ?_, ?_⟩
        · rcases List.mem_append.mp hi with hi | hi
          · exact ha i (by rw [es]; exact List.mem_append_left _ hi)
          · rw [List.mem_singleton.mp hi]
            exact ⟨rfl, by omega, by omega, by omega⟩
        · have e2 : acc.flatMap og1 = acc.dropLast.flatMap og1 ++ (List.range m).map fun t => Og.o (p + t) := by
            conv => lhs; rw [es]
            rw [List.flatMap_append]
            show _ ++ (og1 (Di.c false m p) ++ []) = _
            rw [List.append_nil]
            rfl
          rw [List.flatMap_append, e2]
          show _ ++ (((List.range (m + 1)).map fun t => Og.o (p + t)) ++ []) = _
          rw [List.append_nil, List.range_succ, List.map_append, ← hc.2, List.append_assoc]
          rfl
      · exact plain
theorem flat_ok {old : Nat} : ∀ {os : List Og} {acc : List Di}, (∀ i ∈ acc, FlI old i) → (∀ o ∈ os, OgOk old o) → (∀ i ∈ os.foldl flatS acc, FlI old i) ∧ (os.foldl flatS acc).flatMap og1 = acc.flatMap og1 ++ os
  | [], acc, ha, _ => ⟨ha, by simp⟩
  | o :: os, acc, ha, h => by
    obtain ⟨k, e⟩ := flatS_ok ha (h o (List.mem_cons_self ..))
    obtain ⟨k2, e2⟩ := flat_ok (os := os) k fun o ho => h o (List.mem_cons_of_mem _ ho)
    exact ⟨k2, by show (os.foldl flatS (flatS acc o)).flatMap og1 = _; rw [e2, e, List.append_assoc]; rfl⟩
theorem flat_orig {old : Nat} {os : List Og} (h : ∀ o ∈ os, OgOk old o) : orig (flatF os) = os := by
  obtain ⟨k, e⟩ := flat_ok (acc := []) (fun i hi => by cases hi) h
  unfold orig flatF
  rw [fl_orig k]
  show [] ++ (os.foldl flatS []).flatMap og1 = os
  rw [e]
  rfl
theorem flat_fit {old : Nat} {os : List Og} (h : ∀ o ∈ os, OgOk old o) : fitR old 0 (flatF os) = some os.length := by
  obtain ⟨k, e⟩ := flat_ok (acc := []) (fun i hi => by cases hi) h
  unfold flatF
  rw [fl_fit k, e]
  simp
/-! ### the bytes that are made -/
def byteO (old : List Nat) : Og → Nat
  | .b n => n
  | .o p => old.getD p 0
def makeB (os : List Og) (old : List Nat) : List Nat := os.map (byteO old)
def joinO (os1 : List Og) : Og → Og
  | .b n => .b n
  | .o p => os1.getD p ogD
theorem makeB_len (os : List Og) (old : List Nat) : (makeB os old).length = os.length := List.length_map _
theorem byteO_lt {old : List Nat} (hk : ∀ k ∈ old, k < 256) : ∀ {o : Og}, OgOk old.length o → byteO old o < 256
  | .b n, h => h
  | .o p, h => hk _ (getD_mem' h)
theorem makeB_lt {old : List Nat} {os : List Og} (hk : ∀ k ∈ old, k < 256) (ho : ∀ o ∈ os, OgOk old.length o) : ∀ k ∈ makeB os old, k < 256 := fun k hm => by
  obtain ⟨o, h1, rfl⟩ := List.mem_map.mp hm
  exact byteO_lt hk (ho o h1)
theorem join_ok {old n : Nat} {os1 os2 : List Og} (h1 : ∀ o ∈ os1, OgOk old o) (hn : os1.length = n) (h2 : ∀ o ∈ os2, OgOk n o) : ∀ o ∈ os2.map (joinO os1), OgOk old o := fun o hm => by
  obtain ⟨q, hq, rfl⟩ := List.mem_map.mp hm
  cases q with
  | b k => exact h2 _ hq
  | o p =>
    have : p < n := h2 _ hq
    exact h1 _ (getD_mem' (by omega))
theorem join_make {old : List Nat} {os1 os2 : List Og} (h2 : ∀ o ∈ os2, OgOk os1.length o) : makeB (os2.map (joinO os1)) old = makeB os2 (makeB os1 old) := by
  unfold makeB
  rw [List.map_map]
  refine List.map_congr_left fun q hq => ?_
  cases q with
  | b k => rfl
  | o p =>
    have hp : p < os1.length := h2 _ hq
    show byteO old (os1.getD p ogD) = (os1.map (byteO old)).getD p 0
    rw [List.getD_eq_getElem?_getD, List.getD_eq_getElem?_getD, List.getElem?_map, List.getElem?_eq_getElem hp]
    rfl
def mrkG : Nat → List Nat → Nat
  | _, [] => 0
  | i, k :: ks => (i + 1) * k + mrkG (i + 1) ks
def mrk (ks : List Nat) : Nat := mrkG 0 ks % 65521
theorem mrk_lt (ks : List Nat) : mrk ks < 65521 := Nat.mod_lt _ (by decide)
/-! ### in the heap -/
def wdN (nw : Bool) : Str := if nw = true then "new" else "old"
def DiAt (H : Hp) : Di → V → Prop
  | .b n, v => v = .int (n : Int)
  | .c nw m p, v => ∃ t, v = .ref t ∧ H t = some (.tup [.str (wdN nw), .int (m : Int), .int (p : Int)])
def OgAt (H : Hp) : Og → V → Prop
  | .b n, v => v = .int (n : Int)
  | .o p, v => ∃ t, v = .ref t ∧ H t = some (.tup [.int (p : Int)])
theorem DiAt.keep {H H' : Hp} {i : Di} {v : V} (h : DiAt H i v) (k : ∀ b xs, H b = some (.tup xs) → H' b = some (.tup xs)) : DiAt H' i v := by
  cases i with
  | b n => exact h
  | c nw m p =>
    obtain ⟨t, e, ht⟩ := h
    exact ⟨t, e, k _ _ ht⟩
theorem OgAt.keep {H H' : Hp} {i : Og} {v : V} (h : OgAt H i v) (k : ∀ b xs, H b = some (.tup xs) → H' b = some (.tup xs)) : OgAt H' i v := by
  cases i with
  | b n => exact h
  | o p =>
    obtain ⟨t, e, ht⟩ := h
    exact ⟨t, e, k _ _ ht⟩
theorem DiAt.same {H H' : Hp} {i : Di} {v : V} (h : DiAt H i v) (s : Same H H') : DiAt H' i v := h.keep fun b xs e => s _ _ e
theorem OgAt.same {H H' : Hp} {i : Og} {v : V} (h : OgAt H i v) (s : Same H H') : OgAt H' i v := h.keep fun b xs e => s _ _ e
theorem tup_put {H : Hp} {D : Addr} {xs ys : List V} (hD : H D = some (.lst xs)) : ∀ b zs, H b = some (.tup zs) → (upd H D (.lst ys)) b = some (.tup zs) := fun b zs e => by
  rw [upd_ne (ne_of e hD (fun z => nomatch z))]
  exact e
theorem DiAt.put {H : Hp} {i : Di} {v : V} {D : Addr} {xs ys : List V} (h : DiAt H i v) (hD : H D = some (.lst xs)) : DiAt (upd H D (.lst ys)) i v := h.keep (tup_put hD)
theorem OgAt.put {H : Hp} {i : Og} {v : V} {D : Addr} {xs ys : List V} (h : OgAt H i v) (hD : H D = some (.lst xs)) : OgAt (upd H D (.lst ys)) i v := h.keep (tup_put hD)
/-- a list of items -/
def RwAt (H : Hp) (r : Addr) (row : List Di) : Prop := ∃ us, H r = some (.lst us) ∧ Paired (DiAt H) row us
theorem RwAt.same {H H' : Hp} {r : Addr} {row : List Di} (h : RwAt H r row) (s : Same H H') : RwAt H' r row := by
  obtain ⟨us, h1, h2⟩ := h
  exact ⟨us, s _ _ h1, h2.mono fun _ _ z => z.same s⟩
/-- a list of origins -/
def OsAt (H : Hp) (r : Addr) (os : List Og) : Prop := ∃ us, H r = some (.lst us) ∧ Paired (OgAt H) os us
theorem OsAt.same {H H' : Hp} {r : Addr} {row : List Og} (h : OsAt H r row) (s : Same H H') : OsAt H' r row := by
  obtain ⟨us, h1, h2⟩ := h
  exact ⟨us, s _ _ h1, h2.mono fun _ _ z => z.same s⟩
def MkAt (H : Hp) (a : Addr) (m : Nat × Nat) : Prop := H a = some (.tup [.int (m.1 : Int), .int (m.2 : Int)])
structure Dfv where
  old : Nat × Nat
  new : Nat × Nat
  row : List Di
structure DfA where
  a : Addr
  b : Addr
  r : Addr
def DfAt (H : Hp) (t : Addr) (x : DfA) (d : Dfv) : Prop := H t = some (.tup [.ref x.a, .ref x.b, .ref x.r]) ∧ MkAt H x.a d.old ∧ MkAt H x.b d.new ∧ RwAt H x.r d.row
theorem DfAt.same {H H' : Hp} {t : Addr} {x : DfA} {d : Dfv} (h : DfAt H t x d) (s : Same H H') : DfAt H' t x d := ⟨s _ _ h.1, s _ _ h.2.1, s _ _ h.2.2.1, h.2.2.2.same s⟩
/-- its marks can be marks -/
def Dfv.Low (d : Dfv) : Prop := d.old.1 ≤ 2000 ∧ d.old.2 < 65521 ∧ d.new.1 ≤ 2000 ∧ d.new.2 < 65521 ∧ d.row.length ≤ 2000
def Dfv.ok (d : Dfv) : Bool := decide (fitR d.old.1 0 d.row = some d.new.1)
end K0


namespace K0
open PySem PySem.Spec PyProof.Rows L2
theorem u8_inj : ∀ {a b : List Nat}, (∀ k ∈ a, k < 256) → (∀ k ∈ b, k < 256) → a.map Nat.toUInt8 = b.map Nat.toUInt8 → a = b
  | [], [], _, _, _ => rfl
  | [], _ :: _, _, _, h => by cases h
  | _ :: _, [], _, _, h => by cases h
  | x :: a, y :: b, ha, hb, h => by
    have h1 : x.toUInt8 :: a.map Nat.toUInt8 = y.toUInt8 :: b.map Nat.toUInt8 := h
    injection h1 with h1 h2
    have hx := ha x (List.mem_cons_self ..)
    have hy := hb y (List.mem_cons_self ..)
    have e1 := congrArg UInt8.toNat h1
    have e2 : x = y := by
      have ex : x.toUInt8.toNat = x % 256 := UInt8.toNat_ofNat'
      have ey : y.toUInt8.toNat = y % 256 := UInt8.toNat_ofNat'
      omega
    rw [e2, u8_inj (fun k m => ha k (List.mem_cons_of_mem _ m)) (fun k m => hb k (List.mem_cons_of_mem _ m)) h2]
theorem byB_inj {a b : List Nat} (ha : ∀ k ∈ a, k < 256) (hb : ∀ k ∈ b, k < 256) (h : byB a = byB b) : a = b := u8_inj ha hb (congrArg Array.toList h)
def sliceN (e : List Nat) (i m : Nat) : List Nat := (e.drop i).take m
theorem slice_len (e : List Nat) (i m : Nat) : (sliceN e i m).length = min m (e.length - i) := by
  unfold sliceN
  rw [List.length_take, List.length_drop]
theorem picked_slice (e : List Nat) (i m : Nat) (h : i ≤ e.length) : PySem.W.KBy.picked (byB e) (some (i : Int)) (some ((i + m : Nat) : Int)) = byB (sliceN e i m) := by
  rw [PySem.W.KBc.picked_eq]
  show (((byB e).toList.drop (clipAt (byB e).size (i : Int))).take (clipAt (byB e).size ((i + m : Nat) : Int) - clipAt (byB e).size (i : Int))).toArray = _
  rw [clipAt_nat, clipAt_nat, byB_size, Nat.min_eq_left h]
  unfold byB sliceN
  show (((e.map Nat.toUInt8).drop i).take (min (i + m) e.length - i)).toArray = (((e.drop i).take m).map Nat.toUInt8).toArray
  rw [← List.map_drop, ← List.map_take]
  congr 2
  by_cases q : i + m ≤ e.length
  · rw [Nat.min_eq_left q, Nat.add_sub_cancel_left]
  · rw [Nat.min_eq_right (by omega), List.take_of_length_le (by rw [List.length_drop]; exact Nat.le_refl _), List.take_of_length_le (by rw [List.length_drop]; omega)]
theorem slice_lt {e : List Nat} (hk : ∀ k ∈ e, k < 256) {i m : Nat} : ∀ k ∈ sliceN e i m, k < 256 := fun k h => hk k (List.mem_of_mem_drop (List.mem_of_mem_take h))
theorem byB_get {e : List Nat} (hk : ∀ k ∈ e, k < 256) (i : Nat) : ((e.map Nat.toUInt8).getD i 0).toNat = e.getD i 0 := by
  rw [List.getD_eq_getElem?_getD, List.getD_eq_getElem?_getD, List.getElem?_map]
  cases q : e[i]? with
  | none => rfl
  | some x =>
    have := hk x (List.mem_of_getElem? q)
    show (x.toUInt8).toNat = x
    have ex : x.toUInt8.toNat = x % 256 := UInt8.toNat_ofNat'
    omega
theorem byB_ext (e : List Nat) (i m : Nat) : (byB e).extract i (i + m) = byB (sliceN e i m) := by
  unfold byB sliceN
  apply Array.ext'
  rw [Array.toList_extract]
  show (e.map Nat.toUInt8).extract i (i + m) = ((e.drop i).take m).map Nat.toUInt8
  rw [List.extract_eq_take_drop, Nat.add_sub_cancel_left, List.map_take, List.map_drop]
theorem ext_is {e s : List Nat} (hk : ∀ k ∈ e, k < 256) (hs : ∀ k ∈ s, k < 256) (i : Nat) : ((byB e).extract i (i + (byB s).size) == byB s) = decide (sliceN e i s.length = s) := by
  rw [byB_size, byB_ext]
  by_cases q : sliceN e i s.length = s
  · rw [q, decide_eq_true rfl]
    exact beq_self_eq_true _
  · rw [decide_eq_false q]
    refine Bool.eq_false_iff.mpr fun z => q (byB_inj (slice_lt hk) hs ?_)
    exact eq_of_beq z
/-- what find tells -/
structure FndIs (e s : List Nat) (lo hi : Nat) (o : Option Nat) : Prop where
  no : o = none → ∀ i, lo ≤ i → i + s.length ≤ min e.length hi → sliceN e i s.length ≠ s
  yes : ∀ i, o = some i → lo ≤ i ∧ i + s.length ≤ min e.length hi ∧ sliceN e i s.length = s ∧ ∀ j, lo ≤ j → j < i → sliceN e j s.length ≠ s
structure RfndIs (e s : List Nat) (lo hi : Nat) (o : Option Nat) : Prop where
  no : o = none → ∀ i, lo ≤ i → i + s.length ≤ min e.length hi → sliceN e i s.length ≠ s
  yes : ∀ i, o = some i → lo ≤ i ∧ i + s.length ≤ min e.length hi ∧ sliceN e i s.length = s ∧ ∀ j, i < j → j + s.length ≤ min e.length hi → sliceN e j s.length ≠ s
theorem win_cases (n m lo hi : Nat) : (n.min hi < lo + m ∧ BFX.winN n m (lo : Int) (hi : Int) = none) ∨ (lo + m ≤ n.min hi ∧ BFX.winN n m (lo : Int) (hi : Int) = some (lo, n.min hi)) := by
  unfold BFX.winN
  have e1 : min (n : Int) (hi : Int) = ((n.min hi : Nat) : Int) := by
    show min (n : Int) (hi : Int) = ((min n hi : Nat) : Int)
    omega
  rw [e1]
  by_cases q : n.min hi < lo + m
  · exact .inl ⟨q, if_pos (by omega)⟩
  · refine .inr ⟨by omega, ?_⟩
    rw [if_neg (by omega)]
    rfl
theorem fnd_is {e s : List Nat} (hk : ∀ k ∈ e, k < 256) (hs : ∀ k ∈ s, k < 256) (lo hi : Nat) : FndIs e s lo hi (BFX.fnd (byB e) (byB s) (lo : Int) (hi : Int)) := by
  unfold BFX.fnd
  rw [byB_size, byB_size]
  rcases win_cases e.length s.length lo hi with ⟨h1, h2⟩ | ⟨h1, h2⟩
  · rw [h2]
    refine ⟨fun _ i a b => ?_, fun i z => by cases z⟩
    have b : i + s.length ≤ e.length.min hi := b
    omega
  · rw [h2]
    show FndIs e s lo hi ((((List.range (e.length.min hi + 1 - (lo + (byB s).size))).map (· + lo)).find? fun i => (byB e).extract i (i + (byB s).size) == byB s))
    have hp : (fun i => (byB e).extract i (i + (byB s).size) == byB s) = fun i => decide (sliceN e i s.length = s) := funext fun i => ext_is hk hs i
    rw [hp, byB_size]
    refine ⟨fun z i a b => ?_, fun i z => ?_⟩
    · have b : i + s.length ≤ e.length.min hi := b
      have := List.find?_eq_none.mp z i (List.mem_map.mpr ⟨i - lo, List.mem_range.mpr (by omega), by omega⟩)
      simpa using this
    · obtain ⟨h3, as, bs, h4, h5⟩ := List.find?_eq_some_iff_append.mp z
      have hm : i ∈ (List.range (e.length.min hi + 1 - (lo + s.length))).map (· + lo) := by rw [h4]; simp
      obtain ⟨t, ht, rfl⟩ := List.mem_map.mp hm
      have ht := List.mem_range.mp ht
      refine ⟨by omega, ?_, of_decide_eq_true h3, fun j a b => ?_⟩
      · show t + lo + s.length ≤ e.length.min hi
        omega
      · have hj : j ∈ as := by
          have hso : ((List.range (e.length.min hi + 1 - (lo + s.length))).map (· + lo)).Pairwise (· < ·) := List.pairwise_map.mpr (List.pairwise_lt_range.imp fun {a b} h => by omega)
          have hjm : j ∈ (List.range (e.length.min hi + 1 - (lo + s.length))).map (· + lo) := List.mem_map.mpr ⟨j - lo, List.mem_range.mpr (by omega), by omega⟩
          rw [h4] at hjm hso
          rcases List.mem_append.mp hjm with q | q
          · exact q
          · rcases List.mem_cons.mp q with q | q
            · omega
            · have := (List.pairwise_cons.mp (List.pairwise_append.mp hso).2.1).1 j q
              omega
        have := h5 j hj
        simpa using this
theorem rfnd_is {e s : List Nat} (hk : ∀ k ∈ e, k < 256) (hs : ∀ k ∈ s, k < 256) (lo hi : Nat) : RfndIs e s lo hi (BFX.rfnd (byB e) (byB s) (lo : Int) (hi : Int)) := by
  unfold BFX.rfnd
  rw [byB_size, byB_size]
  rcases win_cases e.length s.length lo hi with ⟨h1, h2⟩ | ⟨h1, h2⟩
  · rw [h2]
    refine ⟨fun _ i a b => ?_, fun i z => by cases z⟩
    have b : i + s.length ≤ e.length.min hi := b
    omega
  · rw [h2]
    show RfndIs e s lo hi ((((List.range (e.length.min hi + 1 - (lo + (byB s).size))).map (· + lo)).reverse.find? fun i => (byB e).extract i (i + (byB s).size) == byB s))
    have hp : (fun i => (byB e).extract i (i + (byB s).size) == byB s) = fun i => decide (sliceN e i s.length = s) := funext fun i => ext_is hk hs i
    rw [hp, byB_size]
    refine ⟨fun z i a b => ?_, fun i z => ?_⟩
    · have b : i + s.length ≤ e.length.min hi := b
      have := List.find?_eq_none.mp z i (List.mem_reverse.mpr (List.mem_map.mpr ⟨i - lo, List.mem_range.mpr (by omega), by omega⟩))
      simpa using this
    · obtain ⟨h3, as, bs, h4, h5⟩ := List.find?_eq_some_iff_append.mp z
      have hm : i ∈ ((List.range (e.length.min hi + 1 - (lo + s.length))).map (· + lo)).reverse := by rw [h4]; simp
      obtain ⟨t, ht, rfl⟩ := List.mem_map.mp (List.mem_reverse.mp hm)
      have ht := List.mem_range.mp ht
      refine ⟨by omega, ?_, of_decide_eq_true h3, fun j a b => ?_⟩
      · show t + lo + s.length ≤ e.length.min hi
        omega
      · have b : j + s.length ≤ e.length.min hi := b
        have hj : j ∈ as := by
          have hso : ((List.range (e.length.min hi + 1 - (lo + s.length))).map (· + lo)).reverse.Pairwise (fun a b => b < a) := List.pairwise_reverse.mpr (List.pairwise_map.mpr (List.pairwise_lt_range.imp fun {a b} h => by omega))
          have hjm : j ∈ ((List.range (e.length.min hi + 1 - (lo + s.length))).map (· + lo)).reverse := List.mem_reverse.mpr (List.mem_map.mpr ⟨j - lo, List.mem_range.mpr (by omega), by omega⟩)
          rw [h4] at hjm hso
          rcases List.mem_append.mp hjm with q | q
          · exact q
          · rcases List.mem_cons.mp q with q | q
            · omega
            · have := (List.pairwise_cons.mp (List.pairwise_append.mp hso).2.1).1 j q
              omega
        have := h5 j hj
        simpa using this
theorem told_lt {o : Option Nat} : PySem.W.KBf.told o < 0 ↔ o = none := by
  cases o with
  | none => exact ⟨fun _ => rfl, fun _ => (by decide : (-1 : Int) < 0)⟩
  | some i => exact ⟨fun z => absurd z (by show ¬ ((i : Int) < 0); omega), fun z => by cases z⟩
/-! what a letter of backs reaches, step by step -/
end K0

namespace ETX
open PySem PySem.Spec PyProof.Rows
open Sem (wp)
open AutoSeq1 (wpAny_loadPart')
/-! ### enumerate(tuple) -/
theorem meets_enumT (l : Addr) (items : Array Value) (n : Nat) (dct : Option Addr) (sl : Array (Option Value)) :
    Meets (Builtin.«enumerate.__new__» ⟨[.type "enumerate", .ref l], []⟩) (fun _ R s => s.heap.get? l = some { cls := .type "tuple", dict := dct, data := .seq items n, slots := sl } ∧
      R (.ok (.ret (.ref (s.heap.push { cls := .type "tuple_iterator", data := .fields #[.ref l, .int 0 0] }).objs.size)))
        { s with heap := (s.heap.push { cls := .type "tuple_iterator", data := .fields #[.ref l, .int 0 0] }).push { cls := .type "enumerate", data := .fields #[.none, .bool false, .ref s.heap.objs.size, rawInt 0, .none, .none] } }) :=
  .of_wp fun prog w A R s h => by
    obtain ⟨hp, g, d, tk, os⟩ := s; obtain ⟨hl, h⟩ := h
    have hsub := sub_enumerate
    have hL : Heap.IsTuple (Shared.heap ⟨hp, g, d, tk, os⟩) l items := ⟨_, hl, rfl, n, rfl⟩
    wp_walk using wpAny_loadPart' hl
    refine wpAny_stack_any fun st => wpAny_pure ?_
    split
    · rename_i c _ _ _ _ _
      cases (c == Value.type "enumerate")
      · wp_walk using wpAny_loadPart' hl, wpAny_pyIter_tuple hL
        exact ⟨_, rfl, h⟩
      · wp_walk using wpAny_loadPart' hl, wpAny_pyIter_tuple hL
        exact ⟨_, rfl, h⟩
    · wp_walk using wpAny_loadPart' hl, wpAny_pyIter_tuple hL
      exact ⟨_, rfl, h⟩
section
variable {prog : Program} {w : World} {A : Around} {E : Value → Shared → Prop} {s : Shared}
theorem call_enumT {l : Addr} {items : Array Value} {Q : Value → Shared → Prop} (hL : s.heap.IsTuple l items)
    (h : ∀ h', IsEnum h' (s.heap.objs.size + 1) s.heap.objs.size 0 .none → h'.IsTupleIter s.heap.objs.size l 0 → h'.objs.size = s.heap.objs.size + 2 →
      (∀ b o, s.heap.get? b = some o → h'.get? b = some o) → Q (.ref (s.heap.objs.size + 1)) { s with heap := h' }) :
    wpAny (model prog w) A (call (.type "enumerate") [.ref l]) Q E s := by
  obtain ⟨⟨c, dct, dt, sl⟩, hl, hc, n, hd⟩ := hL
  replace hc : c = .type "tuple" := hc
  replace hd : dt = .seq items n := hd
  subst hc hd
  refine callType_new F.called_enumerate (by decide) (F.typeCall_enumerate_1 _) (F.newCall_enumerate_1 _) (fun obj => F.args_object_init_2 obj _) F.entry_enumerate_new
    (meets_enumT l items n dct sl) ⟨hl, ?_⟩
  have hz : (s.heap.push { cls := .type "tuple_iterator", data := .fields #[.ref l, .int 0 0] }).objs.size = s.heap.objs.size + 1 := Heap.size_push ..
  show _ ∧ _
  rw [hz]
  have he : IsEnum ((s.heap.push { cls := .type "tuple_iterator", data := .fields #[.ref l, .int 0 0] }).push
      { cls := .type "enumerate", data := .fields #[.none, .bool false, .ref s.heap.objs.size, rawInt 0, .none, .none] }) (s.heap.objs.size + 1) s.heap.objs.size 0 .none := by
    have := Heap.get?_push_size (s.heap.push { cls := .type "tuple_iterator", data := .fields #[.ref l, .int 0 0] })
      (o := { cls := .type "enumerate", data := .fields #[.none, .bool false, .ref s.heap.objs.size, rawInt 0, .none, .none] }) rfl
    rw [hz] at this; exact this
  refine ⟨⟨_, he, rfl⟩, h _ he ⟨_, Heap.get?_push_of_some _ (Heap.get?_push_size _ rfl), rfl, rfl⟩ (by rw [Heap.size_push, hz]) fun b o x => Heap.get?_push_of_some _ (Heap.get?_push_of_some _ x)⟩
end
end ETX
namespace L2
open PySem PySem.Spec PyProof.Rows
/-- the tuple at a, each item in a new pair -/
def ItE (K : PySem.W.Frag) (a : Addr) : It :=
  ⟨fun i H => ∃ (xs : List V) (x : V), SqT K H a xs ∧ xs[i]? = some x, fun i H v H' => ∃ T x, v = .ref T ∧ H T = none ∧ H' = upd H T (.tup [.int (i : Nat), x]) ∧ ∀ xs, SqT K H a xs → xs[i]? = some x, fun i H => ∃ xs : List V, SqT K H a xs ∧ xs.length = i⟩
theorem turn_enumT {P : Program} {w : World} {K : PySem.W.Frag} {elts : List Expr} {kk : Nat} {tpos : Pos} (a e it : Addr) :
    Turn P w K (.Tuple elts kk tpos) (ItE K a) [e, it] e (fun i h => (∃ old, IsEnum h e it ((i : Nat) : Int) old) ∧ h.IsTupleIter it a i ∧ e ≠ it ∧ e ≠ a ∧ a ≠ it) where
  mem := by simp
  obj := fun i h st b hb => by
    obtain ⟨⟨old, he⟩, ⟨o, ho, hc, hd⟩, _⟩ := st
    have e' : b = e ∨ b = it := by simpa using hb
    rcases e' with z | z
    · rw [z]; exact ⟨_, he, fun v q => nomatch q⟩
    · rw [z]; exact ⟨o, ho, fun v q => by rw [hd] at q; cases q⟩
  keep := fun i h h' st k => let ⟨⟨old, he⟩, hi, hne⟩ := st; ⟨⟨old, k e (by simp) _ he⟩, hi.at fun o q => k it (by simp) o q, hne⟩
  item := by
    intro X hP hw hK hc i pins s σ H E I hf st hg
    subst hP hw hK
    obtain ⟨⟨old, he⟩, hit, hne, hea, hai⟩ := st
    obtain ⟨xs, x, hq, hx⟩ := hg
    obtain ⟨its, rv, p, hz⟩ := I.tuple hq
    have p : s.heap.IsTuple a its.toArray := p
    obtain ⟨u, hu, ru⟩ := rv.get hx
    have hel : e < s.heap.objs.size := Heap.lt_size he
    have hil : it < s.heap.objs.size := by obtain ⟨_, q, _⟩ := hit; exact Heap.lt_size q
    have hlt : i < its.toArray.size := by
      have := (List.getElem?_eq_some_iff.mp hu).1
      simpa using this
    refine wpAny_pyNext_enum_itemD (Draws.tuple (A := X.A.in1) (I.ok.hd hc) it a hai its.toArray) he ⟨hit, p⟩ hlt hne (by simp [hne, hea]) fun u' h' tk hP ho hst' hT hsz hk => ?_
    obtain rfl : u' = u := by
      have h1 : its[i]? = some u' := by simpa using hP
      exact Option.some.inj (h1.symm.trans hu)
    refine ⟨_, rfl, wpAny_letOwnedTupleGo_enum (s := { s with heap := h', toks := tk + 1 }) ho fun h'' he' sb => ?_⟩
    have hT2 : h''.get? s.heap.objs.size = some { cls := .type "tuple", data := .seq #[.int i tk, u'] } := (sb.2 _ (Nat.ne_of_gt hel)).trans hT
    have new : ObjOk X.prog X.w (upd H s.heap.objs.size (.tup [.int (i : Nat), x])) h'' s.heap.objs.size (.tup [.int (i : Nat), x]) :=
      ⟨by show 2 ≤ sizeLine; decide, [.int i tk, u'], .cons ⟨_, rfl⟩ (.cons ru .nil), ⟨_, hT2, rfl, _, rfl⟩⟩
    have I1 : Inv X pins σ (upd H s.heap.objs.size (.tup [.int (i : Nat), x])) { s with heap := h'', toks := tk + 1 } :=
      I.turnedNew (ch := [e, it]) (fun b ob hb q => (sb.2 b (fun z => hb (by simp [z]))).trans (hk b ob (fun z => hb (by simp [z])) (fun z => hb (by simp [z])) q)) hf (Nat.le_refl _) new
    refine ⟨.ref s.heap.objs.size, _, I1, rfl, ⟨_, x, rfl, I.hok.fresh (Nat.le_refl _), rfl, fun ys hy => by rw [I.tuple_inj hy hq]; exact hx⟩, ⟨⟨u', ?_⟩, hst'.1.at fun o q => (sb.2 it (Ne.symm hne)).trans q, hne, hea, hai⟩, fun b hb => ?_⟩
    · have e1 : ((i + 1 : Nat) : Int) = (i : Int) + 1 := by omega
      rw [e1]; exact he'
    · have hb' : b < s.heap.objs.size := by
        have e' : b = e ∨ b = it := by simpa using hb
        rcases e' with z | z
        · rw [z]; exact hel
        · rw [z]; exact hil
      rw [upd_ne (Nat.ne_of_lt hb')]
      exact (hf b hb).1
  done := by
    intro X hP hw hK hc i pins s σ H E I hf st hg
    subst hP hw hK
    obtain ⟨⟨old, he⟩, hit, hne, hea, hai⟩ := st
    obtain ⟨xs, hq, hx⟩ := hg
    obtain ⟨its, rv, p, hz⟩ := I.tuple hq
    have p : s.heap.IsTuple a its.toArray := p
    obtain ⟨f0, f1, f2, f3, f4, f5⟩ := hf it (by simp)
    have hl := rv.length
    have hn : its.toArray.size = i := by simp; omega
    refine wpAny_pyNext_enum_endD (Draws.tuple (A := X.A.in1) (I.ok.hd hc) it a hai its.toArray) he ⟨by rw [hn]; exact hit, p⟩ fun h' eb => ⟨rfl, I.turned (t' := s.toks) (fun b o hb q => eb b o hb q) f0 f1 f3 f4 f5⟩
  self := fun A i s Q E st h => let ⟨⟨_, he⟩, _⟩ := st; wpAny_pyIter_enum he h
def iEnumT (K : PySem.W.Frag) (ta : TA) : TI := fun σ H R => ta σ H fun vs H1 => ∃ a xs, vs = [.ref a] ∧ SqT K H1 a xs ∧ R (ItE K a) H1
theorem pi_enumT {X : Cx} {e : Expr} {ta : TA} {p pos tpos : Pos} {elts : List Expr} {kk : Nat} (hg : Gl X "enumerate") (hm : X.mg "enumerate" = none) (ha : PA X [e] ta) (hs : starEach [e] X.env = [(false, eval e X.env)] := by rfl) :
    PI X (.Tuple elts kk tpos) (.Call (.Name "enumerate" p) [e] [] pos) (iEnumT X.K ta) := by
  refine ⟨fun pins s σ H R I h => ?_⟩
  refine Call_ (ld_blt I hg hm boot_enumerate (PyProof.Rows.callWith_type1 (thn (ha.run pos pins s σ H _ I h) fun us s1 ⟨vs, H1, I1, r1, q1⟩ => ?_) hs rfl))
  obtain ⟨a, xs, ex, hq, q⟩ := q1
  subst ex
  cases r1 with
  | cons r rr =>
    cases rr
    cases r
    obtain ⟨its, rv, p', hz⟩ := I1.tuple hq
    have p' : s1.heap.IsTuple a its.toArray := p'
    have hal : a < s1.heap.objs.size := by obtain ⟨o, e, _⟩ := p'; exact Heap.lt_size e
    refine ETX.call_enumT p' fun h' he hit hsz hk => wpAny_pyIter_enum he ?_
    have I2 : Inv X pins σ H1 { s1 with heap := h' } := I1.kept (t' := s1.toks) hk
    refine ⟨s1.heap.objs.size + 1, [s1.heap.objs.size + 1, s1.heap.objs.size], _, _, H1, rfl, I2, turn_enumT a (s1.heap.objs.size + 1) s1.heap.objs.size, ⟨⟨.none, he⟩, hit, Nat.succ_ne_self _, Ne.symm (Nat.ne_of_lt (Nat.lt_succ_of_lt hal)), Nat.ne_of_lt hal⟩, fun b hb => ?_, q⟩
    have e' : b = s1.heap.objs.size + 1 ∨ b = s1.heap.objs.size := by simpa using hb
    have hle : s1.heap.objs.size ≤ b := by
      rcases e' with z | z
      · rw [z]; exact Nat.le_add_right _ _
      · rw [z]; exact Nat.le_refl _
    exact I1.fpOk hle (I1.hok.fresh hle)
theorem walk_enumT {K : PySem.W.Frag} {a : Addr} {xs : List V} : Walk (ItE K a) xs.length (fun H => SqT K H a xs) (YPair (fun i => some (.int (i : Nat))) (fun i => xs[i]?)) := by
  refine ⟨fun i _ hi q => ⟨xs, xs[i], q, by simp [hi]⟩, fun _ q => ⟨xs, q, rfl⟩, fun i H v H' _ q y => ?_⟩
  obtain ⟨T, x, h1, h2, h3, h4⟩ := y
  exact ⟨T, .int (i : Nat), x, h1, h2, h3, rfl, h4 xs q⟩
/-! ### max(tuple of ints) -/
def rMaxT (K : PySem.W.Frag) : List V → Hp → VK → Prop := fun vs H Q => ∃ (a : Addr) (ns : List Int), vs = [V.ref a] ∧ SqT K H a (ns.map V.int) ∧ 0 < ns.length ∧ ∀ m, m ∈ ns → (∀ y, y ∈ ns → y ≤ m) → Q (.int m) H
theorem reads_ints {h : Heap} : ∀ {its : List Value} {ns : List Int}, Vals (ns.map V.int) its → ∃ as, ReadsAll h its (ns.map PyData.int) as
  | _, [], .nil => ⟨_, .nil⟩
  | _, n :: ns, .cons r rs => by
    obtain ⟨as, h1⟩ := reads_ints (h := h) rs
    obtain ⟨t, rfl⟩ := r
    exact ⟨_, .cons (.int ..) h1⟩
theorem depth_ints : ∀ ns : List Int, PyData.depthAll (ns.map PyData.int) = 0
  | [] => rfl
  | n :: r => by
    have ih := depth_ints r
    show max (PyData.int n).depth (PyData.depthAll (r.map PyData.int)) = 0
    rw [ih]
    rfl
theorem fold_max : ∀ (ns : List Int) (n : Int), ns.foldl max n ∈ n :: ns ∧ ∀ y ∈ n :: ns, y ≤ ns.foldl max n
  | [], n => ⟨List.mem_singleton_self _, fun y m => by rw [List.mem_singleton.mp m]; exact Int.le_refl _⟩
  | k :: r, n => by
    obtain ⟨h1, h2⟩ := fold_max r (max n k)
    show r.foldl max (max n k) ∈ _ ∧ ∀ y ∈ n :: k :: r, y ≤ r.foldl max (max n k)
    constructor
    · rcases List.mem_cons.mp h1 with q | q
      · rw [q]
        by_cases z : n ≤ k
        · rw [show max n k = k by omega]
          simp
        · rw [show max n k = n by omega]
          simp
      · exact List.mem_cons_of_mem _ (List.mem_cons_of_mem _ q)
    · intro y m
      have h3 := h2 (max n k) (List.mem_cons_self ..)
      rcases List.mem_cons.mp m with q | q
      · omega
      · rcases List.mem_cons.mp q with q | q
        · omega
        · exact h2 y (List.mem_cons_of_mem _ q)
theorem cr_maxT {X : Cx} (hc : X.calm = true) {j : Nat} (hr : Room j X.A) : CallR X (.builtin "max") (rMaxT X.K) := by
  intro pins s σ H vs us Q I r h
  obtain ⟨a, ns, rfl, hs, hne, q⟩ := h
  obtain ⟨its, rv, hl, _⟩ := I.tuple hs
  rw [Vals.ref1 r]
  cases ns with
  | nil => exact absurd hne (Nat.lt_irrefl 0)
  | cons n ns =>
    obtain ⟨as, hra⟩ := reads_ints (h := s.heap) rv
    have hu := hr.un
    refine PySem.W.max_tuple_data (x := .int n) (xs := ns.map PyData.int) (I.ok.hd hc) (show s.heap.IsTuple a its.toArray from hl) (by simpa using hra) ⟨fun x hx y hy => ?_, fun x hx z => ?_⟩ ?_ fun i v h' tk bs hv hrd hk => ?_
    · have hx : x ∈ (n :: ns).map PyData.int := hx
      have hy : y ∈ (n :: ns).map PyData.int := hy
      obtain ⟨a1, _, rfl⟩ := List.mem_map.mp hx
      obtain ⟨a2, _, rfl⟩ := List.mem_map.mp hy
      rfl
    · have hx : x ∈ (n :: ns).map PyData.int := hx
      obtain ⟨a1, _, rfl⟩ := List.mem_map.mp hx
      cases z
    · show X.A.units + 1 + PyData.depthAll ((n :: ns).map PyData.int) < cLine
      rw [depth_ints]
      omega
    · rw [PySem.W.maxD_ints] at hrd
      cases hrd
      obtain ⟨h1, h2⟩ := fold_max ns n
      exact ⟨.int _, H, I.kept hk, ⟨_, rfl⟩, q _ h1 h2⟩
end L2

/-! ### iterators that end while an exception is handled -/
namespace HY
open PySem PySem.Spec PyProof.Rows HotX
section
variable {prog : Program} {w : World} {A : Around} {E : Value → Shared → Prop} {s : Shared} {x1 : Addr}
theorem hotUp {h h' : Heap} (x : HotAt A x1 h) (k : ∀ o, h.get? x1 = some o → h'.get? x1 = some o) : HotAt A x1 h' := by
  obtain ⟨hh, o, vs, e1, e2, e3⟩ := x
  exact ⟨hh, o, vs, k _ e1, e2, e3⟩
theorem hotLt {h : Heap} (x : HotAt A x1 h) : x1 < h.objs.size := by
  obtain ⟨_, o, _, e1, _⟩ := x
  exact Heap.lt_size e1
/-- a StopIteration is made and raised -/
theorem stop_hot {α : Type} {Q : α → Shared → Prop} (hot : HotAt A x1 s.heap)
    (hE : ∀ h' e, (∀ b o, s.heap.get? b = some o → h'.get? b = some o) → (∃ o, h'.get? e = some o ∧ o.cls = .type "StopIteration") → E (.ref e) { s with heap := h' }) :
    wpAny (model prog w) A (newExc (.type "StopIteration") [] >>= fun e => (raiseNew e : Sem α)) Q E s := by
  (refine wpAny_bind ?_); (simp only [newExc, newTuple]); (refine wpAny_bind (wpAny_newObj_type ?_ (by size_fits)))
  refine wpAny_bind (m := firstArgMember _ _) (wpAny_of_eq (a := Value.none) (by first | rfl | (simp only [firstArgMember]; rfl)) (wpAny_newObj_type ?_ (by size_fits)))
  refine raiseNew_hot (x1 := x1) (hotUp hot fun o e => Heap.get?_push_of_some _ (Heap.get?_push_of_some _ e)) (Nat.ne_of_lt (by rw [Heap.size_push]; exact Nat.lt_succ_of_lt (hotLt hot))) (Heap.get?_push_size _ rfl) rfl (by first | (simp; done) | (simp; omega)) (hE _ _ (fun b o e => ?_) ⟨_, Heap.get?_update_self _ (Heap.get?_push_size _ rfl) rfl, rfl⟩)
  rw [Heap.get?_update_other _ _ (Nat.ne_of_gt (Heap.lt_size (Heap.get?_push_of_some _ e)))]
  exact Heap.get?_push_of_some _ (Heap.get?_push_of_some _ e)
theorem tup_end_hot {it t : Addr} {i : Nat} {items : Array Value} {Q : Option Value → Shared → Prop} (hot : HotAt A x1 s.heap) (nx : x1 ≠ it) (hit : s.heap.IsTupleIter it t i) (ht : s.heap.IsTuple t items) (hx : items[i]? = none)
    (hQ : ∀ h', Heap.ExtBut it s.heap h' → Q none { s with heap := h' }) : wpAny (model prog w) A (pyNext (.ref it)) Q E s := by
  obtain ⟨o, ho, hc, hd⟩ := id hit
  obtain ⟨ot, hot', _, nt, hdt⟩ := ht
  unfold pyNext
  refine wpAny_bind (wpAny_attempt (wpAny_callSpecial?_slot (name := Str.ofString "__next__") hit.typeIs F.slot_tuple_iterator_next (wpAny_call_entry F.slot_tuple_iterator_next hit.typeIs F.entry_tuple_iterator_next ?_ (F.args_tuple_iterator_next_1 _))))
  show wpAny _ _ (field (.ref it) 0 >>= _) _ _ s; refine wpAny_bind (wpAny_field ho hd (x := .ref t) rfl ?_)
  show wpAny _ _ (if (Value.ref t == Value.none) = true then _ else _) _ _ s; rw [if_neg (show ¬ ((Value.ref t == Value.none) = true) from Bool.false_ne_true)]
  show wpAny _ _ (field (.ref it) 1 >>= _) _ _ s; refine wpAny_bind (wpAny_field ho hd (x := .int i 0) rfl ?_)
  show wpAny _ _ (seqItems? (.ref t) >>= _) _ _ s; refine wpAny_bind (wpAny_seqItems hot' hdt ?_)
  simp only [Int.toNat_natCast, hx]
  refine wpAny_bind (wpAny_rule (wpAny_bind (wpAny_setField ho hd (by simp) ?_)))
  refine stop_hot (x1 := x1) (A := A.in1) (hotUp hot fun u e => (Heap.get?_update_other _ _ (Ne.symm nx)).trans e) fun h' e k ⟨oe, he, hce⟩ => ?_
  refine wpAny_bind (wpAny_isInstance (T := "StopIteration") (b := true) ⟨oe, he, hce⟩ isSubtype_stop (wpAny_pure (hQ _ fun b u hb eb => k b u ((Heap.get?_update_other _ _ (Ne.symm hb)).trans eb))))
theorem list_end_hot {it l : Addr} {i : Nat} {items : Array Value} {Q : Value → Shared → Prop} (hot : HotAt A x1 s.heap) (nx : x1 ≠ it) (hit : s.heap.IsListIter it l i) (hl : s.heap.IsList l items) (hx : items[i]? = none)
    (hE : ∀ h' e, Heap.ExtBut it s.heap h' → (∃ o, h'.get? e = some o ∧ o.cls = .type "StopIteration") → E (.ref e) { s with heap := h' }) : wpAny (model prog w) A (Builtin.SmallTypes.nextOf (.ref it)) Q E s := by
  obtain ⟨o, ho, hc, hd⟩ := id hit
  obtain ⟨ot, hot', _, nt, hdt⟩ := hl
  unfold Builtin.SmallTypes.nextOf
  refine wpAny_bind (wpAny_callSpecial?_slot (name := Str.ofString "__next__") hit.typeIs slot_listiter_next (wpAny_call_entry slot_listiter_next hit.typeIs entry_listiter_next ?_ (args_listiter_next _)))
  show wpAny _ _ (field (.ref it) 0 >>= _) _ _ s; refine wpAny_bind (wpAny_field ho hd (x := .ref l) rfl ?_)
  show wpAny _ _ (if (Value.ref l == Value.none) = true then _ else _) _ _ s; rw [if_neg (show ¬ ((Value.ref l == Value.none) = true) from Bool.false_ne_true)]
  show wpAny _ _ (field (.ref it) 1 >>= _) _ _ s; refine wpAny_bind (wpAny_field ho hd (x := .int i 0) rfl ?_)
  show wpAny _ _ (seqItems? (.ref l) >>= _) _ _ s; refine wpAny_bind (wpAny_seqItems hot' hdt ?_)
  simp only [Int.toNat_natCast, hx]
  refine wpAny_bind (wpAny_rule (wpAny_bind (wpAny_setField ho hd (by simp) ?_)))
  exact stop_hot (x1 := x1) (A := A.in1) (hotUp hot fun u e => (Heap.get?_update_other _ _ (Ne.symm nx)).trans e) fun h' e k he => hE _ _ (fun b u hb eb => k b u ((Heap.get?_update_other _ _ (Ne.symm hb)).trans eb)) he
theorem enum_end_hot {e it l : Addr} {i : Nat} {items : Array Value} {old : Value} {Q : Option Value → Shared → Prop} (hot : HotAt A x1 s.heap) (nx : x1 ≠ it) (he : IsEnum s.heap e it i old) (hit : s.heap.IsListIter it l i) (hl : s.heap.IsList l items) (hx : items[i]? = none)
    (hQ : ∀ h', Heap.ExtBut it s.heap h' → Q none { s with heap := h' }) : wpAny (model prog w) A (pyNext (.ref e)) Q E s := by
  have hT : s.TypeIs (.ref e) "enumerate" := ⟨_, he, rfl⟩
  unfold pyNext
  refine wpAny_bind (wpAny_attempt (wpAny_callSpecial?_slot (name := Str.ofString "__next__") hT F.slot_enumerate_next (wpAny_call_entry F.slot_enumerate_next hT F.entry_enumerate_next ?_ (F.args_enumerate_next_1 _))))
  show wpAny _ _ (field (.ref e) 2 >>= _) _ _ _
  refine wpAny_bind (wpAny_field he rfl (x := .ref it) rfl (wpAny_bind (list_end_hot (x1 := x1) (A := A.in1) hot nx hit hl hx fun h' x eb ⟨o, ho, hc⟩ => ?_)))
  exact wpAny_bind (wpAny_isInstance (T := "StopIteration") (b := true) ⟨o, ho, hc⟩ isSubtype_stop (wpAny_pure (hQ _ eb)))
theorem items_hot {t : Addr} {items : Array Value} {Q : List Value → Shared → Prop} (hot : HotAt A x1 s.heap) (ht : IsTup s.heap t items)
    (hQ : ∀ h', Heap.ExtBut s.heap.objs.size s.heap h' → Q items.toList { s with heap := h' }) : wpAny (model prog w) A (unpackItems (.ref t) items.size none) Q E s := by
  have hlt : t ≠ s.heap.objs.size := by obtain ⟨o, ho, _⟩ := ht; exact Nat.ne_of_lt (Heap.lt_size ho)
  have hxl : x1 ≠ s.heap.objs.size := Nat.ne_of_lt (hotLt hot)
  unfold unpackItems
  refine wpAny_bind ?_
  unfold notIterableAtAll
  refine wpAny_bind (wpAny_specialOf ht.typeIs slot_tuple_iter.lookup (wpAny_pure ?_))
  simp only [Bool.false_eq_true, if_false]
  refine wpAny_bind (wpAny_holding (iter_tuple ht (wpAny_bind (wpAny_holding (draw_tuple hlt items.size 0 _ _ ⟨_, Heap.get?_push_size _ rfl, rfl, rfl⟩ (ht.push _) (by omega) fun h₁ hit₁ hs₁ => ?_)))))
  have hall : List.take items.size (List.drop 0 items.toList) = items.toList := by
    rw [List.drop_zero]; exact List.take_of_length_le (by simp)
  rw [hall, if_neg (by simp)]
  have ht₁ : IsTup h₁ t items := (ht.push _).extBut hs₁.extBut hlt
  have hot₁ : HotAt A x1 h₁ := hotUp hot fun o e => hs₁.extBut x1 o hxl (Heap.get?_push_of_some _ e)
  refine wpAny_bind (wpAny_holding (tup_end_hot (x1 := x1) (t := t) (i := 0 + items.size) hot₁ hxl hit₁ ht₁ (by simp) fun h₂ he₂ => ?_))
  simp only [Option.isSome_none, Bool.false_eq_true, if_false]
  exact wpAny_pure (hQ h₂ fun b o hb e => he₂ b o hb (hs₁.extBut b o hb (Heap.get?_push_of_some _ e)))
theorem tup_asg_hot {env : Env} {elts : List Expr} {k : Nat} {pos : Pos} {t : Addr} {items : Array Value} {Q : Unit → Shared → Prop} (hot : HotAt A x1 s.heap) (ht : IsTup s.heap t items)
    (hn : (assignEach elts env).length = items.size) (hstar : (assignEach elts env).findIdx? (·.1) = none)
    (h : ∀ h', Heap.ExtBut s.heap.objs.size s.heap h' → wpAny (model prog w) A (assignInOrder ((assignEach elts env).map (·.2)) items.toList) Q E { s with heap := h' }) : wpAny (model prog w) A (assign (.Tuple elts k pos) env (.ref t)) Q E s := by
  rw [assign_Tuple]
  refine wpAny_bind (wpAny_standAt ?_)
  unfold unpack
  rw [hn, hstar]
  exact wpAny_bind (wpAny_holding (items_hot (x1 := x1) hot ht h))
theorem walks_hot {I ax : Addr} {items : Array Value} (hne : ax ≠ I) (nx : x1 ≠ I) :
    Walks prog w A I [I, ax, x1] [I] items.size (fun i v => items[i]? = some v) (fun i h => h.IsTupleIter I ax i ∧ h.IsTuple ax items ∧ HotAt A x1 h) where
  sub := fun b hb => by
    rw [List.mem_singleton.mp hb]
    exact List.mem_cons_self ..
  frame := fun _ _ _ st hk => ⟨st.1.at fun o e => hk I (by simp) o e, st.2.1.at fun o e => hk ax (by simp) o e, hotUp st.2.2 fun o e => hk x1 (by simp) o e⟩
  item := fun i s Q E hi st hQ => by
    refine wpAny_pyNext_tuple_item st.1 st.2.1 (x := items[i]) (by simp [hi]) fun h' hi' hs' => hQ _ h' s.toks (by simp [hi]) ⟨hi', st.2.1.extBut hs'.extBut hne, hotUp st.2.2 fun o e => hs'.extBut x1 o nx e⟩ fun b o hb e => hs'.extBut b o (fun z => hb (by simp [z])) e
  done := fun s Q E st hQ => tup_end_hot (x1 := x1) st.2.2 nx st.1 st.2.1 (by simp) fun h' he' => hQ h' s.toks fun b o hb e => he' b o (fun z => hb (by simp [z])) e
  self := fun _ _ _ _ st hQ => wpAny_pyIter_tupleiter st.1 hQ
theorem min_hot {a b : Int} {t u : Tok} {Q : Value → Shared → Prop} (hot : HotAt A x1 s.heap)
    (h : ∀ h' tk, (∀ c o, s.heap.get? c = some o → h'.get? c = some o) → Q (if b < a then .int b u else .int a t) { s with heap := h', toks := tk }) : wpAny (model prog w) A (call (.builtin "min") [.int a t, .int b u]) Q E s := by
  have hT : (s.heap.push { cls := .type "tuple", data := .seq #[.int a t, .int b u] }).IsTuple s.heap.objs.size (intItems #[(a, t), (b, u)]) := ⟨_, Heap.get?_push_size _ rfl, rfl, 0, by simp [intItems]⟩
  have sz : (s.heap.push { cls := .type "tuple", data := .seq #[.int a t, .int b u] }).objs.size = s.heap.objs.size + 1 := Heap.size_push ..
  have hx := hotLt hot
  refine call_min_two (wpAny_pyIter_tuple hT ⟨_, [_, s.heap.objs.size, x1], [_], _, _, _, _, rfl, walks_hot (A := A.in1) (x1 := x1) (ax := s.heap.objs.size) (items := intItems #[(a, t), (b, u)]) (by rw [sz]; exact Nat.ne_of_lt (Nat.lt_succ_self _)) (by rw [sz]; exact Nat.ne_of_lt (Nat.lt_succ_of_lt hx)),
    ⟨⟨_, Heap.get?_push_size _ rfl, rfl, rfl⟩, hT.push _, hotUp hot fun o e => Heap.get?_push_of_some _ (Heap.get?_push_of_some _ e)⟩, fun c hc => ?_, by simp [intItems], CmpOf.ints_lt (numAt #[(a, t), (b, u)]) (fun _ _ => intItems_at), fun v h' tk hP hk => ?_⟩)
  · show c < ((s.heap.push _).push _).objs.size; rw [Heap.size_push, sz]
    rcases List.mem_cons.mp hc with z | hc
    · rw [z, sz]; exact Nat.lt_succ_self _
    rcases List.mem_cons.mp hc with z | hc
    · rw [z]; exact Nat.lt_succ_of_lt (Nat.lt_succ_self _)
    · rw [List.mem_singleton.mp hc]; exact Nat.lt_succ_of_lt (Nat.lt_succ_of_lt hx)
  · have old : ∀ c o, s.heap.get? c = some o → h'.get? c = some o := fun c o e => by
      refine hk c o (fun hm => ?_) (Heap.get?_push_of_some _ (Heap.get?_push_of_some _ e))
      have z := Heap.lt_size e
      rw [List.mem_singleton.mp hm, sz] at z
      exact Nat.lt_irrefl _ (Nat.lt_of_succ_lt z)
    have q := h h' tk old
    have hv : v = if b < a then Value.int b u else Value.int a t := by
      have hP' : (intItems #[(a, t), (b, u)])[argBest (fun i j => decide (numAt #[(a, t), (b, u)] i < numAt #[(a, t), (b, u)] j)) 1]? = some v := by
        rw [show 1 = (intItems #[(a, t), (b, u)]).size - 1 by simp [intItems]]; exact hP
      by_cases hba : b < a
      · rw [show argBest (fun i j => decide (numAt #[(a, t), (b, u)] i < numAt #[(a, t), (b, u)] j)) 1 = 1 by simp [argBest, numAt, hba]] at hP'
        simpa [intItems, hba] using hP'.symm
      · rw [show argBest (fun i j => decide (numAt #[(a, t), (b, u)] i < numAt #[(a, t), (b, u)] j)) 1 = 0 by simp [argBest, numAt, hba]] at hP'
        simpa [intItems, hba] using hP'.symm
    rw [hv]; exact q
end
end HY
namespace L2H
open PySem PySem.Spec PyProof.Rows L2 HotX HY
section
variable {X : Cx} {pos : Pos}
theorem pg_tupH {es : List Expr} {k : Nat} {t : TGs} {n : Nat} (hc : HotC X) (h : PGs X es t)
    (hn : (assignEach es X.env).length = n := by rfl) (hst : (assignEach es X.env).findIdx? (·.1) = none := by rfl) : PG X (.Tuple es k pos) (gTup X.K n t) := by
  refine ⟨fun pins s σ H v u Q I r hw => ?_⟩
  obtain ⟨a, xs, e1, hq, hl, hw⟩ := hw
  subst e1
  cases r
  obtain ⟨its, rv, ht, hz⟩ := I.tuple hq
  obtain ⟨x1, hot⟩ := hc.at I
  refine tup_asg_hot (x1 := x1) hot ht (by simp [hn, ← hl, rv.length]) hst fun h' hx => ?_
  exact h.run pins _ σ H xs _ Q (I.kept (t' := s.toks) fun b o e => hx b o (Nat.ne_of_lt (Heap.lt_size e)) e) (by simpa using rv) hw
theorem call_min2H (hc : HotC X) : CallR X (.builtin "min") (fun xs H Q => ∃ i j, xs = [.int i, .int j] ∧ Q (.int (if j < i then j else i)) H) := by
  intro pins s σ H xs us Q I r h
  obtain ⟨i, j, rfl, q⟩ := h
  obtain ⟨u, w', rfl, ⟨t, rfl⟩, ⟨t', rfl⟩⟩ := vals2 r
  obtain ⟨x1, hot⟩ := hc.at I
  refine min_hot (x1 := x1) hot fun h' tk k => ⟨_, H, I.kept k, ?_, q⟩
  by_cases hj : j < i
  · (rw [if_pos hj, if_pos hj]); exact ⟨_, rfl⟩
  · (rw [if_neg hj, if_neg hj]); exact ⟨_, rfl⟩
theorem turn_enumH {P : Program} {w : World} {K : PySem.W.Frag} {elts : List Expr} {kk : Nat} {tpos : Pos} (a e it : Addr) :
    TurnH P w K (.Tuple elts kk tpos) (Ite K a) [e, it] e (fun i h => (∃ old, IsEnum h e it ((i : Nat) : Int) old) ∧ h.IsListIter it a i ∧ e ≠ it) where
  mem := (turn_enum (P := P) (w := w) (K := K) (elts := elts) (kk := kk) (tpos := tpos) a e it).mem
  obj := (turn_enum (P := P) (w := w) (K := K) (elts := elts) (kk := kk) (tpos := tpos) a e it).obj
  keep := (turn_enum (P := P) (w := w) (K := K) (elts := elts) (kk := kk) (tpos := tpos) a e it).keep
  self := (turn_enum (P := P) (w := w) (K := K) (elts := elts) (kk := kk) (tpos := tpos) a e it).self
  item := by
    intro X hP hw hK hc i pins s σ H E I hf st hg
    subst hP hw hK
    obtain ⟨⟨old, he⟩, hit, hne⟩ := st
    obtain ⟨xs, x, hq, hx⟩ := hg
    obtain ⟨its, rv, p, hz⟩ := I.list hq
    obtain ⟨u, hu, ru⟩ := rv.get hx
    have hel : e < s.heap.objs.size := Heap.lt_size he
    have hil : it < s.heap.objs.size := by (obtain ⟨_, q, _⟩ := hit); (exact Heap.lt_size q)
    refine wpAny_pyNext_enum_item he hit p.isList (x := u) (by simpa using hu) hne fun h' ho hit' hT hsz hk => ⟨_, rfl, wpAny_letOwnedTupleGo_enum (s := { s with heap := h', toks := s.toks + 1 }) ho fun h2 he2 sb => ?_⟩
    have hT2 : h2.get? s.heap.objs.size = some { cls := .type "tuple", data := .seq #[.int i s.toks, u] } := (sb.2 _ (Nat.ne_of_gt hel)).trans hT
    have new : ObjOk X.prog X.w (upd H s.heap.objs.size (.tup [.int (i : Nat), x])) h2 s.heap.objs.size (.tup [.int (i : Nat), x]) := ⟨(show 2 ≤ sizeLine by decide), [.int i s.toks, u], .cons ⟨_, rfl⟩ (.cons ru .nil), ⟨_, hT2, rfl, _, rfl⟩⟩
    have I1 : Inv X pins σ (upd H s.heap.objs.size (.tup [.int (i : Nat), x])) { s with heap := h2, toks := s.toks + 1 } := I.turnedNew (ch := [e, it]) (fun b ob hb q => (sb.2 b (fun z => hb (by simp [z]))).trans (hk b ob (fun z => hb (by simp [z])) (fun z => hb (by simp [z])) q)) hf (Nat.le_refl _) new
    refine ⟨.ref s.heap.objs.size, _, I1, rfl, ⟨_, x, rfl, I.hok.fresh (Nat.le_refl _), rfl, fun ys hy => by rw [I.list_inj hy hq]; exact hx⟩, ⟨⟨u, (by rw [show ((i + 1 : Nat) : Int) = (i : Int) + 1 by omega]; exact he2)⟩, hit'.at fun o q => (sb.2 it (Ne.symm hne)).trans q, hne⟩, fun b hb => ?_⟩
    have hb' : b < s.heap.objs.size := by
      rcases (show b = e ∨ b = it by simpa using hb) with z | z
      · (rw [z]); (exact hel)
      · (rw [z]); (exact hil)
    exact (upd_ne (Nat.ne_of_lt hb')).trans (hf b hb).1
  done := by
    intro X hP hw hK hc i pins s σ H E I hf st hg
    subst hP hw hK
    obtain ⟨⟨old, he⟩, hit, hne⟩ := st
    obtain ⟨xs, hq, hx⟩ := hg
    obtain ⟨its, rv, p, hz⟩ := I.list hq
    obtain ⟨f0, f1, f2, f3, f4, f5⟩ := hf it (by simp)
    have hl := rv.length
    obtain ⟨q, ⟨hh, v1, e1, c1⟩, hp⟩ := id hc
    have hpin := I.pin q (List.mem_append_left _ hp)
    have nx : q.1 ≠ it := fun z => by
      obtain ⟨o, ho, hco, hdo⟩ := hit
      rw [z, ho] at hpin
      have e2 := Option.some.inj hpin.1
      rw [← e2, hdo] at e1
      have e3 : v1 = _ := (Data.fields.inj e1).symm
      rw [e3] at c1
      cases c1
    exact enum_end_hot (x1 := q.1) ⟨hh, q.2, v1, hpin.1, e1, c1⟩ nx he hit p.isList (by simp; omega) fun h' eb => ⟨rfl, I.turned (t' := s.toks) (fun b o hb q => eb b o hb q) f0 f1 f3 f4 f5⟩
theorem pi_enumH {e : Expr} {ta : TA} {p pos tpos : Pos} {elts : List Expr} {kk : Nat} (hg : Gl X "enumerate") (hm : X.mg "enumerate" = none) (ha : PA X [e] ta) (hs : starEach [e] X.env = [(false, eval e X.env)] := by rfl) :
    PIH X (.Tuple elts kk tpos) (.Call (.Name "enumerate" p) [e] [] pos) (iEnum X.K ta) := by
  refine ⟨fun pins s σ H R I h => ?_⟩
  refine Call_ (ld_blt I hg hm boot_enumerate (PyProof.Rows.callWith_type1 (thn (ha.run pos pins s σ H _ I h) fun us s1 ⟨vs, H1, I1, r1, a, xs, ex, hq, q⟩ => ?_) hs rfl))
  subst ex
  cases r1 with
  | cons r rr =>
    cases rr
    cases r
    obtain ⟨its, rv, p', hz⟩ := I1.list hq
    refine call_enumerate_list p'.isList fun h' he hit hsz hk => wpAny_pyIter_enum he ⟨s1.heap.objs.size + 1, [s1.heap.objs.size + 1, s1.heap.objs.size], _, _, H1, rfl, I1.kept (t' := s1.toks) hk, turn_enumH a (s1.heap.objs.size + 1) s1.heap.objs.size, ⟨⟨.none, he⟩, hit, Nat.succ_ne_self _⟩, fun b hb => ?_, q⟩
    have hle : s1.heap.objs.size ≤ b := by
      rcases (show b = s1.heap.objs.size + 1 ∨ b = s1.heap.objs.size by simpa using hb) with z | z
      · (rw [z]); (exact Nat.le_add_right _ _)
      · (rw [z]); (exact Nat.le_refl _)
    exact I1.fpOk hle (I1.hok.fresh hle)
end
end L2H

/-! ### enumerate(bytes), also while an exception is handled -/
namespace EBX
open PySem PySem.Spec PyProof.Rows PySem.W.KBw
section
variable {prog : Program} {w : World} {A : Around} {E : Value → Shared → Prop} {s : Shared} {b : Array UInt8} {t : Tok}
theorem nx_item {it : Addr} {i : Nat} {c : UInt8} {Q : Value → Shared → Prop} (hit : IsBytesIter s.heap it b t i) (hx : b[i]? = some c)
    (hQ : ∀ h', IsBytesIter h' it b t (i + 1) → Heap.SameBut it s.heap h' → Q (.int (c.toNat : Int) s.toks) { s with heap := h', toks := s.toks + 1 }) : wpAny (model prog w) A (Builtin.SmallTypes.nextOf (.ref it)) Q E s := by
  obtain ⟨o, ho, hc, hd⟩ := id hit
  unfold Builtin.SmallTypes.nextOf
  refine wpAny_bind (wpAny_callSpecial?_slot (name := PySem.Str.ofString "__next__") (iter_typeIs hit) slot_next
    (wpAny_call_entry slot_next (iter_typeIs hit) entry_next ?_ (args_next _)))
  show wpAny _ _ (field (.ref it) 0 >>= _) _ _ s
  refine wpAny_bind (wpAny_field ho hd (x := .bytes b t) rfl ?_)
  show wpAny _ _ (if (Value.bytes b t == Value.none) = true then _ else _) _ _ s
  rw [if_neg (show ¬ ((Value.bytes b t == Value.none) = true) from Bool.false_ne_true)]
  show wpAny _ _ (field (.ref it) 1 >>= _) _ _ s
  refine wpAny_bind (wpAny_field ho hd (x := .int i 0) rfl ?_)
  refine wpAny_bind (wpAny_of_eq (a := b) rfl ?_)
  simp only [Int.toNat_natCast, hx]
  refine wpAny_bind (wpAny_setField ho hd (by simp) (wpAny_bind (wpAny_mkInt (wpAny_pure ⟨_, rfl, wpAny_pure (hQ _ ?_ (Heap.SameBut.update ..))⟩))))
  exact ⟨_, Heap.get?_update_self _ ho (Obj.isFreed_of_fields (Obj.data_mapFields hd _)), (Obj.cls_mapFields ..).trans hc, by
    rw [Obj.data_mapFields hd]; simp [rawInt]⟩
theorem nx_end {it : Addr} {i : Nat} {Q : Value → Shared → Prop} (hh : A.handled = none) (hit : IsBytesIter s.heap it b t i) (hx : b[i]? = none)
    (hE : ∀ h' e, Heap.ExtBut it s.heap h' → (∃ o, h'.get? e = some o ∧ o.cls = .type "StopIteration") → E (.ref e) { s with heap := h' }) : wpAny (model prog w) A (Builtin.SmallTypes.nextOf (.ref it)) Q E s := by
  obtain ⟨o, ho, hc, hd⟩ := id hit
  unfold Builtin.SmallTypes.nextOf
  refine wpAny_bind (wpAny_callSpecial?_slot (name := PySem.Str.ofString "__next__") (iter_typeIs hit) slot_next
    (wpAny_call_entry slot_next (iter_typeIs hit) entry_next ?_ (args_next _)))
  show wpAny _ _ (field (.ref it) 0 >>= _) _ _ s
  refine wpAny_bind (wpAny_field ho hd (x := .bytes b t) rfl ?_)
  show wpAny _ _ (if (Value.bytes b t == Value.none) = true then _ else _) _ _ s
  rw [if_neg (show ¬ ((Value.bytes b t == Value.none) = true) from Bool.false_ne_true)]
  show wpAny _ _ (field (.ref it) 1 >>= _) _ _ s
  refine wpAny_bind (wpAny_field ho hd (x := .int i 0) rfl ?_)
  refine wpAny_bind (wpAny_of_eq (a := b) rfl ?_)
  simp only [Int.toNat_natCast, hx]
  refine wpAny_bind (wpAny_rule (wpAny_bind (wpAny_setField ho hd (by simp) ?_)))
  show wpAny _ _ (newExc (.type "StopIteration") [] >>= _) _ _ _
  refine wpAny_bind ?_
  simp only [newExc, newTuple]
  refine wpAny_bind (wpAny_newObj_type ?_ (by size_fits))
  refine wpAny_bind (m := firstArgMember _ _) (wpAny_of_eq (a := Value.none) (by first | rfl | (simp only [firstArgMember]; rfl)) ?_)
  refine wpAny_newObj_type ?_ (by size_fits)
  simp only [raiseNew]
  refine wpAny_bind (wpAny_handled ?_)
  first | rw [show A.in1.handled = none from hh] | rw [hh]
  refine wpAny_bind (wpAny_pure (wpAny_throw ?_))
  exact hE _ _ (((Heap.SameBut.update ..).extBut.push _).push _) ⟨_, Heap.get?_push_size _ rfl, rfl⟩
theorem nx_end_hot {x1 it : Addr} {i : Nat} {Q : Value → Shared → Prop} (hot : HotX.HotAt A x1 s.heap) (nx : x1 ≠ it) (hit : IsBytesIter s.heap it b t i) (hx : b[i]? = none)
    (hE : ∀ h' e, Heap.ExtBut it s.heap h' → (∃ o, h'.get? e = some o ∧ o.cls = .type "StopIteration") → E (.ref e) { s with heap := h' }) : wpAny (model prog w) A (Builtin.SmallTypes.nextOf (.ref it)) Q E s := by
  obtain ⟨o, ho, hc, hd⟩ := id hit
  unfold Builtin.SmallTypes.nextOf
  refine wpAny_bind (wpAny_callSpecial?_slot (name := PySem.Str.ofString "__next__") (iter_typeIs hit) slot_next
    (wpAny_call_entry slot_next (iter_typeIs hit) entry_next ?_ (args_next _)))
  show wpAny _ _ (field (.ref it) 0 >>= _) _ _ s
  refine wpAny_bind (wpAny_field ho hd (x := .bytes b t) rfl ?_)
  show wpAny _ _ (if (Value.bytes b t == Value.none) = true then _ else _) _ _ s
  rw [if_neg (show ¬ ((Value.bytes b t == Value.none) = true) from Bool.false_ne_true)]
  show wpAny _ _ (field (.ref it) 1 >>= _) _ _ s
  refine wpAny_bind (wpAny_field ho hd (x := .int i 0) rfl ?_)
  refine wpAny_bind (wpAny_of_eq (a := b) rfl ?_)
  simp only [Int.toNat_natCast, hx]
  refine wpAny_bind (wpAny_rule (wpAny_bind (wpAny_setField ho hd (by simp) ?_)))
  exact HY.stop_hot (x1 := x1) (A := A.in1) (HY.hotUp hot fun u e => (Heap.get?_update_other _ _ (Ne.symm nx)).trans e) fun h' e k he => hE _ _ (fun b u hb eb => k b u ((Heap.get?_update_other _ _ (Ne.symm hb)).trans eb)) he
theorem begins_byt (b : Array UInt8) (t : Tok) : Begins (.bytes b t) { cls := .type "bytes_iterator", data := .fields #[.bytes b t, .int 0 0] } fun _ => True where
  iter := fun prog w A E s Q _ h => pyIter_bytes h
  keeps := fun _ _ _ _ => trivial
  free := rfl
theorem draws_byt (hh : A.handled = none) (it : Addr) (b : Array UInt8) (t : Tok) : Draws prog w A it [it] b.size (fun i v => ∃ c u, b[i]? = some c ∧ v = .int (c.toNat : Int) u) (fun i h => IsBytesIter h it b t i) where
  live := fun _ _ st => let ⟨o, ho, _⟩ := st; ⟨o, ho⟩
  frame := fun _ _ _ st hk => let ⟨o, ho, r⟩ := st; ⟨o, hk it (by simp) o ho, r⟩
  item := fun i s Q E hi st hQ => nx_item st (c := b[i]) (by simp [hi]) fun h' hit' hs' => hQ _ h' (s.toks + 1) ⟨_, _, by simp [hi], rfl⟩ hit' hs'
  done := fun s Q E st hE => nx_end hh st (by simp) hE
theorem draws_bytH {x1 : Addr} (it : Addr) (nx : x1 ≠ it) (b : Array UInt8) (t : Tok) : Draws prog w A it [it, x1] b.size (fun i v => ∃ c u, b[i]? = some c ∧ v = .int (c.toNat : Int) u) (fun i h => IsBytesIter h it b t i ∧ HotX.HotAt A x1 h) where
  live := fun _ _ st => let ⟨o, ho, _⟩ := st.1; ⟨o, ho⟩
  frame := fun _ _ _ st hk => ⟨let ⟨o, ho, r⟩ := st.1; ⟨o, hk it (by simp) o ho, r⟩, HY.hotUp st.2 fun o e => hk x1 (by simp) o e⟩
  item := fun i s Q E hi st hQ => nx_item st.1 (c := b[i]) (by simp [hi]) fun h' hit' hs' => hQ _ h' (s.toks + 1) ⟨_, _, by simp [hi], rfl⟩ ⟨hit', HY.hotUp st.2 fun o e => (hs'.2 x1 nx).trans e⟩ hs'
  done := fun s Q E st hE => nx_end_hot (x1 := x1) st.2 nx st.1 (by simp) hE
theorem call_enumB {Q : Value → Shared → Prop}
    (h : ∀ h', IsEnum h' (s.heap.objs.size + 1) s.heap.objs.size 0 .none → IsBytesIter h' s.heap.objs.size b t 0 → h'.objs.size = s.heap.objs.size + 2 →
      (∀ b o, s.heap.get? b = some o → h'.get? b = some o) → Q (.ref (s.heap.objs.size + 1)) { s with heap := h' }) :
    wpAny (model prog w) A (call (.type "enumerate") [.bytes b t]) Q E s := by
  have M : Meets (Builtin.«enumerate.__new__» ⟨[.type "enumerate", .bytes b t], []⟩) (fun _ R s =>
      R (.ok (.ret (.ref (s.heap.push { cls := .type "bytes_iterator", data := .fields #[.bytes b t, .int 0 0] }).objs.size)))
        { s with heap := (s.heap.push { cls := .type "bytes_iterator", data := .fields #[.bytes b t, .int 0 0] }).push { cls := .type "enumerate", data := .fields #[.none, .bool false, .ref s.heap.objs.size, rawInt 0, .none, .none] } }) :=
    .of_wp fun prog w A R s h => by
      obtain ⟨hp, g, d, tk, os⟩ := s
      have hsub := sub_enumerate
      have q1 : ∀ {A' : Around} {E : Value → Shared → Prop} {Q : Value → Shared → Prop}, Q (.ref hp.objs.size) ⟨(hp.push { cls := .type "bytes_iterator", data := .fields #[.bytes b t, .int 0 0] }), g, d, tk, os⟩ → wpAny (model prog w) A' (pyIter (.bytes b t)) Q E ⟨hp, g, d, tk, os⟩ :=
        fun q => pyIter_bytes (s := ⟨hp, g, d, tk, os⟩) q
      wp_walk using q1
      refine wpAny_stack_any fun st => wpAny_pure ?_
      split
      · rename_i c _ _ _ _ _
        cases (c == Value.type "enumerate")
        · wp_walk using q1
          exact ⟨_, rfl, h⟩
        · wp_walk using q1
          exact ⟨_, rfl, h⟩
      · wp_walk using q1
        exact ⟨_, rfl, h⟩
  refine callType_new F.called_enumerate (by decide) (F.typeCall_enumerate_1 _) (F.newCall_enumerate_1 _) (fun obj => F.args_object_init_2 obj _) F.entry_enumerate_new M ?_
  have hz : (s.heap.push { cls := .type "bytes_iterator", data := .fields #[.bytes b t, .int 0 0] }).objs.size = s.heap.objs.size + 1 := Heap.size_push ..
  show _ ∧ _
  rw [hz]
  have he : IsEnum ((s.heap.push { cls := .type "bytes_iterator", data := .fields #[.bytes b t, .int 0 0] }).push
      { cls := .type "enumerate", data := .fields #[.none, .bool false, .ref s.heap.objs.size, rawInt 0, .none, .none] }) (s.heap.objs.size + 1) s.heap.objs.size 0 .none := by
    have := Heap.get?_push_size (s.heap.push { cls := .type "bytes_iterator", data := .fields #[.bytes b t, .int 0 0] })
      (o := { cls := .type "enumerate", data := .fields #[.none, .bool false, .ref s.heap.objs.size, rawInt 0, .none, .none] }) rfl
    rw [hz] at this; exact this
  refine ⟨⟨_, he, rfl⟩, h _ he ⟨_, Heap.get?_push_of_some _ (Heap.get?_push_size _ rfl), rfl, rfl⟩ (by rw [Heap.size_push, hz]) fun b o x => Heap.get?_push_of_some _ (Heap.get?_push_of_some _ x)⟩
end
end EBX
namespace L2
open PySem PySem.Spec PyProof.Rows
/-- bytes, each in a new pair -/
def ItEB (b : Array UInt8) : It :=
  ⟨fun i _ => i < b.size, fun i H v H' => ∃ T c, v = .ref T ∧ H T = none ∧ H' = upd H T (.tup [.int (i : Nat), .int ((c : UInt8).toNat : Int)]) ∧ b[i]? = some c, fun i _ => b.size ≤ i⟩
theorem enumB_obj {a e it : Addr} {i : Nat} {x : Array UInt8} {t : Tok} {h : Heap} (st : (∃ old, IsEnum h e it ((i : Nat) : Int) old) ∧ PySem.W.KBw.IsBytesIter h it x t i ∧ e ≠ it) : ∀ b ∈ [e, it], ∃ o, h.get? b = some o ∧ ∀ v, o.data ≠ .cell v := fun b hb => by
  obtain ⟨⟨old, he⟩, ⟨o, ho, hc, hd⟩, _⟩ := st
  have e' : b = e ∨ b = it := by simpa using hb
  rcases e' with z | z
  · rw [z]; exact ⟨_, he, fun v q => nomatch q⟩
  · rw [z]; exact ⟨o, ho, fun v q => by rw [hd] at q; cases q⟩
theorem enumB_keep {e it : Addr} {i : Nat} {x : Array UInt8} {t : Tok} {h h' : Heap} (st : (∃ old, IsEnum h e it ((i : Nat) : Int) old) ∧ PySem.W.KBw.IsBytesIter h it x t i ∧ e ≠ it) (k : ∀ b ∈ [e, it], ∀ o, h.get? b = some o → h'.get? b = some o) :
    (∃ old, IsEnum h' e it ((i : Nat) : Int) old) ∧ PySem.W.KBw.IsBytesIter h' it x t i ∧ e ≠ it := by
  obtain ⟨⟨old, he⟩, ⟨o, ho, r⟩, hne⟩ := st
  exact ⟨⟨old, k e (by simp) _ he⟩, ⟨o, k it (by simp) o ho, r⟩, hne⟩
theorem enumB_item {X : Cx} {elts : List Expr} {kk : Nat} {tpos : Pos} {fp' : List Addr} {e it : Addr} {i : Nat} {x : Array UInt8} {t : Tok} {St : Nat → Heap → Prop} {pins : List (Addr × Obj)} {s : Shared} {σ : L2.St} {H : Hp} {E : Value → Shared → Prop}
    (D : Draws X.prog X.w X.A.in1 it fp' x.size (fun i v => ∃ c u, x[i]? = some c ∧ v = .int (c.toNat : Int) u) St) (hSt : ∀ h, St (i + 1) h → PySem.W.KBw.IsBytesIter h it x t (i + 1)) (h0 : St i s.heap) (hef : e ∉ fp') (I : Inv X pins σ H s) (hf : ∀ b ∈ [e, it], FpOk X pins H b)
    (st : (∃ old, IsEnum s.heap e it ((i : Nat) : Int) old) ∧ PySem.W.KBw.IsBytesIter s.heap it x t i ∧ e ≠ it) (hg : i < x.size) :
    wpAny (model X.prog X.w) X.A (pyNext (.ref e)) (fun r s1 => ∃ u, r = some u ∧
      wpAny (model X.prog X.w) X.A (letOwnedTupleGo (.Tuple elts kk tpos) (.ref e) u) (fun _ s2 => ∃ y H', Inv X pins σ H' s2 ∧ RelV y u ∧ (ItEB x).yld i H y H' ∧ ((∃ old, IsEnum s2.heap e it ((i + 1 : Nat) : Int) old) ∧ PySem.W.KBw.IsBytesIter s2.heap it x t (i + 1) ∧ e ≠ it) ∧ ∀ b ∈ [e, it], H' b = none) E s1) E s := by
  obtain ⟨⟨old, he⟩, hit, hne⟩ := st
  have hel : e < s.heap.objs.size := Heap.lt_size he
  have hil : it < s.heap.objs.size := by obtain ⟨_, q, _⟩ := hit; exact Heap.lt_size q
  refine wpAny_pyNext_enum_itemD D he h0 hg hne hef fun u' h' tk hP ho hst' hT hsz hk => ?_
  obtain ⟨c, tu, hc, rfl⟩ := hP
  refine ⟨_, rfl, wpAny_letOwnedTupleGo_enum (s := { s with heap := h', toks := tk + 1 }) ho fun h'' he' sb => ?_⟩
  have hT2 : h''.get? s.heap.objs.size = some { cls := .type "tuple", data := .seq #[.int i tk, .int (c.toNat : Int) tu] } := (sb.2 _ (Nat.ne_of_gt hel)).trans hT
  have new : ObjOk X.prog X.w (upd H s.heap.objs.size (.tup [.int (i : Nat), .int (c.toNat : Int)])) h'' s.heap.objs.size (.tup [.int (i : Nat), .int (c.toNat : Int)]) :=
    ⟨by show 2 ≤ sizeLine; decide, [.int i tk, .int (c.toNat : Int) tu], .cons ⟨_, rfl⟩ (.cons ⟨_, rfl⟩ .nil), ⟨_, hT2, rfl, _, rfl⟩⟩
  have I1 : Inv X pins σ (upd H s.heap.objs.size (.tup [.int (i : Nat), .int (c.toNat : Int)])) { s with heap := h'', toks := tk + 1 } :=
    I.turnedNew (ch := [e, it]) (fun b ob hb q => (sb.2 b (fun z => hb (by simp [z]))).trans (hk b ob (fun z => hb (by simp [z])) (fun z => hb (by simp [z])) q)) hf (Nat.le_refl _) new
  have hb2 := hSt _ hst'
  refine ⟨.ref s.heap.objs.size, _, I1, rfl, ⟨_, c, rfl, I.hok.fresh (Nat.le_refl _), rfl, hc⟩, ⟨⟨.int (c.toNat : Int) tu, ?_⟩, ?_, hne⟩, fun b hb => ?_⟩
  · have e1 : ((i + 1 : Nat) : Int) = (i : Int) + 1 := by omega
    rw [e1]; exact he'
  · obtain ⟨o, h1, h2⟩ := hb2
    exact ⟨o, (sb.2 it (Ne.symm hne)).trans h1, h2⟩
  · have hb' : b < s.heap.objs.size := by
      have e' : b = e ∨ b = it := by simpa using hb
      rcases e' with z | z
      · rw [z]; exact hel
      · rw [z]; exact hil
    rw [upd_ne (Nat.ne_of_lt hb')]
    exact (hf b hb).1
theorem turn_enumB {P : Program} {w : World} {K : PySem.W.Frag} {elts : List Expr} {kk : Nat} {tpos : Pos} (x : Array UInt8) (t : Tok) (e it : Addr) :
    Turn P w K (.Tuple elts kk tpos) (ItEB x) [e, it] e (fun i h => (∃ old, IsEnum h e it ((i : Nat) : Int) old) ∧ PySem.W.KBw.IsBytesIter h it x t i ∧ e ≠ it) where
  mem := by simp
  obj := fun i h st b hb => enumB_obj (a := e) st b hb
  keep := fun i h h' st k => enumB_keep st k
  item := by
    intro X hP hw hK hc i pins s σ H E I hf st hg
    subst hP hw hK
    exact enumB_item (EBX.draws_byt (A := X.A.in1) (I.ok.hd hc) it x t) (fun _ z => z) st.2.1 (by simp [st.2.2]) I hf st hg
  done := by
    intro X hP hw hK hc i pins s σ H E I hf st hg
    subst hP hw hK
    obtain ⟨⟨old, he⟩, hit, hne⟩ := st
    obtain ⟨f0, f1, f2, f3, f4, f5⟩ := hf it (by simp)
    have hg' : x.size ≤ i := hg
    have hst : ∀ b : Array UInt8, b.size ≤ i → PySem.W.KBw.IsBytesIter s.heap it b t i → True := fun _ _ _ => trivial
    have hT : s.TypeIs (.ref e) "enumerate" := ⟨_, he, rfl⟩
    unfold pyNext
    refine wpAny_bind (wpAny_attempt (wpAny_callSpecial?_slot (name := Str.ofString "__next__") hT F.slot_enumerate_next (wpAny_call_entry F.slot_enumerate_next hT F.entry_enumerate_next ?_ (F.args_enumerate_next_1 _))))
    show wpAny _ _ (field (.ref e) 2 >>= _) _ _ _
    refine wpAny_bind (wpAny_field he rfl (x := .ref it) rfl (wpAny_bind (EBX.nx_end (A := X.A.in1) (I.ok.hd hc) hit (Array.getElem?_eq_none hg') fun h' z eb ⟨o, ho, hcl⟩ => ?_)))
    exact wpAny_bind (wpAny_isInstance (T := "StopIteration") (b := true) ⟨o, ho, hcl⟩ isSubtype_stop (wpAny_pure ⟨rfl, I.turned (t' := s.toks) (fun b o hb q => eb b o hb q) f0 f1 f3 f4 f5⟩))
  self := fun A i s Q E st h => let ⟨⟨_, he⟩, _⟩ := st; wpAny_pyIter_enum he h
def iEnumB (ta : TA) : TI := fun σ H R => ta σ H fun vs H1 => ∃ x, vs = [.byt x] ∧ R (ItEB x) H1
theorem pi_enumB {X : Cx} {e : Expr} {ta : TA} {p pos tpos : Pos} {elts : List Expr} {kk : Nat} (hg : Gl X "enumerate") (hm : X.mg "enumerate" = none) (ha : PA X [e] ta) (hs : starEach [e] X.env = [(false, eval e X.env)] := by rfl) :
    PI X (.Tuple elts kk tpos) (.Call (.Name "enumerate" p) [e] [] pos) (iEnumB ta) := by
  refine ⟨fun pins s σ H R I h => ?_⟩
  refine Call_ (ld_blt I hg hm boot_enumerate (PyProof.Rows.callWith_type1 (thn (ha.run pos pins s σ H _ I h) fun us s1 ⟨vs, H1, I1, r1, q1⟩ => ?_) hs rfl))
  obtain ⟨x, ex, q⟩ := q1
  subst ex
  cases r1 with
  | cons r rr =>
    cases rr
    obtain ⟨t, rfl⟩ := r
    refine EBX.call_enumB fun h' he hit hsz hk => wpAny_pyIter_enum he ?_
    have I2 : Inv X pins σ H1 { s1 with heap := h' } := I1.kept (t' := s1.toks) hk
    refine ⟨s1.heap.objs.size + 1, [s1.heap.objs.size + 1, s1.heap.objs.size], _, _, H1, rfl, I2, turn_enumB x t (s1.heap.objs.size + 1) s1.heap.objs.size, ⟨⟨.none, he⟩, hit, Nat.succ_ne_self _⟩, fun b hb => ?_, q⟩
    have e' : b = s1.heap.objs.size + 1 ∨ b = s1.heap.objs.size := by simpa using hb
    have hle : s1.heap.objs.size ≤ b := by
      rcases e' with z | z
      · rw [z]; exact Nat.le_add_right _ _
      · rw [z]; exact Nat.le_refl _
    exact I1.fpOk hle (I1.hok.fresh hle)
theorem walk_enumB {b : Array UInt8} : Walk (ItEB b) b.size (fun _ => True) (YPair (fun i => some (.int (i : Nat))) (fun i => b[i]?.map fun c => .int (c.toNat : Int))) := by
  refine ⟨fun i _ hi _ => hi, fun _ _ => Nat.le_refl _, fun i H v H' _ q y => ?_⟩
  obtain ⟨T, c, h1, h2, h3, h4⟩ := y
  exact ⟨T, .int (i : Nat), .int (c.toNat : Int), h1, h2, h3, rfl, by show (b[i]?).map _ = _; rw [h4]; rfl⟩
end L2
namespace L2H
open PySem PySem.Spec PyProof.Rows L2 HotX HY
theorem turn_enumBH {P : Program} {w : World} {K : PySem.W.Frag} {elts : List Expr} {kk : Nat} {tpos : Pos} (x : Array UInt8) (t : Tok) (e it : Addr) :
    TurnH P w K (.Tuple elts kk tpos) (ItEB x) [e, it] e (fun i h => (∃ old, IsEnum h e it ((i : Nat) : Int) old) ∧ PySem.W.KBw.IsBytesIter h it x t i ∧ e ≠ it) where
  mem := by simp
  obj := fun i h st b hb => enumB_obj (a := e) st b hb
  keep := fun i h h' st k => enumB_keep st k
  item := by
    intro X hP hw hK hc i pins s σ H E I hf st hg
    subst hP hw hK
    obtain ⟨q, ⟨hh, v1, e1, c1⟩, hp⟩ := id hc
    have hpin := I.pin q (List.mem_append_left _ hp)
    have nx : q.1 ≠ it := (hf it (by simp)).2.2.2.2.2 q (List.mem_append_left _ hp)
    have nx2 : e ≠ q.1 := Ne.symm ((hf e (by simp)).2.2.2.2.2 q (List.mem_append_left _ hp))
    exact enumB_item (EBX.draws_bytH (A := X.A.in1) (x1 := q.1) it nx x t) (fun _ z => z.1) ⟨st.2.1, ⟨hh, q.2, v1, hpin.1, e1, c1⟩⟩ (by simp [st.2.2, nx2]) I hf st hg
  done := by
    intro X hP hw hK hc i pins s σ H E I hf st hg
    subst hP hw hK
    obtain ⟨⟨old, he⟩, hit, hne⟩ := st
    obtain ⟨f0, f1, f2, f3, f4, f5⟩ := hf it (by simp)
    obtain ⟨q, ⟨hh, v1, e1, c1⟩, hp⟩ := id hc
    have hpin := I.pin q (List.mem_append_left _ hp)
    have nx : q.1 ≠ it := f5 q (List.mem_append_left _ hp)
    have hg' : x.size ≤ i := hg
    have hT : s.TypeIs (.ref e) "enumerate" := ⟨_, he, rfl⟩
    unfold pyNext
    refine wpAny_bind (wpAny_attempt (wpAny_callSpecial?_slot (name := Str.ofString "__next__") hT F.slot_enumerate_next (wpAny_call_entry F.slot_enumerate_next hT F.entry_enumerate_next ?_ (F.args_enumerate_next_1 _))))
    show wpAny _ _ (field (.ref e) 2 >>= _) _ _ _
    refine wpAny_bind (wpAny_field he rfl (x := .ref it) rfl (wpAny_bind (EBX.nx_end_hot (A := X.A.in1) (x1 := q.1) ⟨hh, q.2, v1, hpin.1, e1, c1⟩ nx hit (Array.getElem?_eq_none hg') fun h' z eb ⟨o, ho, hcl⟩ => ?_)))
    exact wpAny_bind (wpAny_isInstance (T := "StopIteration") (b := true) ⟨o, ho, hcl⟩ isSubtype_stop (wpAny_pure ⟨rfl, I.turned (t' := s.toks) (fun b o hb q => eb b o hb q) f0 f1 f3 f4 f5⟩))
  self := fun A i s Q E st h => let ⟨⟨_, he⟩, _⟩ := st; wpAny_pyIter_enum he h
theorem pi_enumBH {X : Cx} {e : Expr} {ta : TA} {p pos tpos : Pos} {elts : List Expr} {kk : Nat} (hg : Gl X "enumerate") (hm : X.mg "enumerate" = none) (ha : PA X [e] ta) (hs : starEach [e] X.env = [(false, eval e X.env)] := by rfl) :
    PIH X (.Tuple elts kk tpos) (.Call (.Name "enumerate" p) [e] [] pos) (iEnumB ta) := by
  refine ⟨fun pins s σ H R I h => ?_⟩
  refine Call_ (ld_blt I hg hm boot_enumerate (PyProof.Rows.callWith_type1 (thn (ha.run pos pins s σ H _ I h) fun us s1 ⟨vs, H1, I1, r1, q1⟩ => ?_) hs rfl))
  obtain ⟨x, ex, q⟩ := q1
  subst ex
  cases r1 with
  | cons r rr =>
    cases rr
    obtain ⟨t, rfl⟩ := r
    refine EBX.call_enumB fun h' he hit hsz hk => wpAny_pyIter_enum he ?_
    have I2 : Inv X pins σ H1 { s1 with heap := h' } := I1.kept (t' := s1.toks) hk
    refine ⟨s1.heap.objs.size + 1, [s1.heap.objs.size + 1, s1.heap.objs.size], _, _, H1, rfl, I2, turn_enumBH x t (s1.heap.objs.size + 1) s1.heap.objs.size, ⟨⟨.none, he⟩, hit, Nat.succ_ne_self _⟩, fun b hb => ?_, q⟩
    have e' : b = s1.heap.objs.size + 1 ∨ b = s1.heap.objs.size := by simpa using hb
    have hle : s1.heap.objs.size ≤ b := by
      rcases e' with z | z
      · rw [z]; exact Nat.le_add_right _ _
      · rw [z]; exact Nat.le_refl _
    exact I1.fpOk hle (I1.hok.fresh hle)
end L2H

namespace K0
open PySem PySem.Spec PyProof.Rows L2
/-! ### marks, what a difference is -/
abbrev NMk : List Str := ["data", "at", "byte"]
theorem scMk : FnScope NMk ["data"] (defScope sMarkOf) := ⟨rfl, rfl, rfl, by decide +kernel, rfl, by decide +kernel, by decide +kernel⟩
theorem scIsMk : FnScope ["told"] ["told"] (defScope sIsMark) := ⟨rfl, rfl, rfl, by decide +kernel, rfl, by decide +kernel, by decide +kernel⟩
abbrev NMo : List Str := ["item", "old_many", "there", "word", "many", "place"]
theorem scMo : FnScope NMo ["item", "old_many", "there"] (defScope sManyOf) := ⟨rfl, rfl, rfl, by decide +kernel, rfl, by decide +kernel, by decide +kernel⟩
abbrev NTm : List Str := ["row", "old_many", "new_many", "there", "item", "many"]
theorem scTm : FnScope NTm ["row", "old_many", "new_many"] (defScope sTellsM) := ⟨rfl, rfl, rfl, by decide +kernel, rfl, by decide +kernel, by decide +kernel⟩
abbrev NId : List Str := ["told", "old", "new", "row"]
theorem scId : FnScope NId ["told"] (defScope sIsDif) := ⟨rfl, rfl, rfl, by decide +kernel, rfl, by decide +kernel, by decide +kernel⟩
theorem byB_at {ks : List Nat} (hk : ∀ k ∈ ks, k < 256) {i : Nat} {c : UInt8} (h : (byB ks)[i]? = some c) : ks[i]? = some c.toNat := by
  unfold byB at h
  rw [List.getElem?_toArray, List.getElem?_map] at h
  cases e : ks[i]? with
  | none => rw [e] at h; cases h
  | some k =>
    rw [e] at h
    have hk' := hk k (List.mem_of_getElem? e)
    have : k.toUInt8 = c := Option.some.inj h
    rw [← this]
    congr 1
    exact (UInt8.toNat_ofNat_of_lt' hk').symm
theorem mrkG_sum : ∀ (ks : List Nat) (j : Nat), ((ks.zipIdx j).map fun p => (((p.2 + 1) * p.1 : Nat) : Int)).sum = ((mrkG j ks : Nat) : Int)
  | [], _ => rfl
  | k :: ks, j => by
    show (((j + 1) * k : Nat) : Int) + ((ks.zipIdx (j + 1)).map fun p => (((p.2 + 1) * p.1 : Nat) : Int)).sum = (((j + 1) * k + mrkG (j + 1) ks : Nat) : Int)
    rw [mrkG_sum ks (j + 1)]
    push_cast
    rfl
def mrkL (ks : List Nat) : List Int := (ks.zipIdx 0).map fun p => (((p.2 + 1) * p.1 : Nat) : Int)
theorem mrkL_len (ks : List Nat) : (mrkL ks).length = ks.length := by simp [mrkL]
theorem mrkL_at {ks : List Nat} {i k : Nat} (h : ks[i]? = some k) : (mrkL ks)[i]? = some (((i + 1) * k : Nat) : Int) := by
  unfold mrkL
  rw [List.getElem?_map, List.getElem?_zipIdx, h]
  simp
theorem mrkL_sum (ks : List Nat) : ((mrkL ks).sum).fmod 65521 = ((mrk ks : Nat) : Int) := by
  have := mrkG_sum ks 0
  unfold mrkL mrk
  rw [this, Int.fmod_eq_emod_of_nonneg _ (by omega)]
  rfl
theorem take_snocG {α : Type} {l : List α} {i : Nat} {a : α} (h : l[i]? = some a) : l.take (i + 1) = l.take i ++ [a] := by
  rw [List.take_add_one, h]
  rfl
section
variable {P : Program} {w : World} {K : PySem.W.Frag} {mg : Str → Option Value} {base : Heap}
def spMark : Sp := fun vs H Q _ => ∃ ks : List Nat, vs = [.byt (byB ks)] ∧ (∀ k ∈ ks, k < 256) ∧ ks.length ≤ 2000 ∧ ∀ H' t, Same H H' → H t = none → MkAt H' t (ks.length, mrk ks) → Q (.ref t) H'
theorem ok_mark {f : Addr} {fd : FuncData} {j : Nat} {t1 : Tok} (F : Fun K "mark_of" "mark_of" sMarkOf f fd) (m1 : mg "len" = none) (m2 : mg "sum" = none) (m3 : mg "enumerate" = none) (c1 : mg "MODULUS" = some (.int 65521 t1)) :
    FnOk P w K mg base CX0 (j + 1) f fd ["data"] spMark := by
  refine F.ok scMk (fun vs H Q E h => ?_) (fun cdv A outer s H vs Q E hr h => ?_)
  · obtain ⟨ks, rfl, _⟩ := h
    rfl
  · obtain ⟨ks, rfl, hk, hl, q⟩ := h
    have hz := PySem.sizeLine_eq
    refine ⟨_, pss_one (ps_ret (pe_tup (pa_cons (pe_callB call_len (by rfl) m1 PySem.boot_len (pa_cons (pv 0) pa_nil)) (pa_cons (pe_op op_modN (pe_callB (cr_sum rfl) (by rfl) m2 (by decide +kernel) (pa_cons
      (pe_lc (own := [("at", 1), ("byte", 2)]) (g := gTup K 2 (gCons (gName 1) (gCons (gName 2) gNil))) (tt := tYes) rfl scMk.nd (pi_enumB (by rfl) m3 (pa_cons (pv 0) pa_nil)) (blkOk_by (N := NMk) (sc := defScope sMarkOf) (by decide +kernel))
        (fun _ _ _ _ _ => pg_tup rfl (pgs_cons (pg_name (i := 1) scMk.nd rfl (.inl rfl)) (pgs_cons (pg_name (i := 2) scMk.nd rfl (.inl rfl)) pgs_nil))) (fun _ _ _ _ _ => pts_nil)
        (fun _ _ _ _ _ => pe_op op_mul (pe_op op_add (pv 1) pe_int) (pv 2))) pa_nil)) (pe_glob (v := .int 65521) rfl c1 ⟨_, rfl⟩)) pa_nil)))), ?_⟩
    refine ⟨_, rfl, _, (byB ks).size, rfl, ⟨by rw [byB_size]; omega, rfl⟩, ?_⟩
    refine ⟨_, rfl, _, rfl, fun D nD => ?_⟩
    refine lc_it (walk_enumB (b := byB ks)) (fun i H' => Same H H' ∧ H' D = some (.lst (((mrkL ks).take i).map V.int))) ⟨same_upd nD, by rw [upd_same]; rfl⟩ (fun _ _ _ _ => trivial) (fun i x H2 H3 hi z y => ?_) (fun H2 z => ?_)
    · obtain ⟨sm, hD⟩ := z
      rw [byB_size] at hi
      obtain ⟨T0, x0, y0, rfl, nT0, rfl, e0, e1⟩ := y
      obtain rfl := Option.some.inj e0
      cases hc : (byB ks)[i]? with
      | none =>
        have e1 : ((byB ks)[i]?.map fun c => V.int (c.toNat : Int)) = some y0 := e1
        rw [hc] at e1
        cases e1
      | some c =>
        have e1 : ((byB ks)[i]?.map fun c => V.int (c.toNat : Int)) = some y0 := e1
        rw [hc] at e1
        obtain rfl := Option.some.inj e1
        have hc' := byB_at hk hc
        have sm2 : Same H2 (upd H2 T0 (.tup [.int (i : Nat), .int (c.toNat : Int)])) := same_upd nT0
        have hD2 := sm2 _ _ hD
        have hc2 : c.toNat < 256 := c.toNat_lt
        refine ⟨T0, _, rfl, .inl (.inl upd_same), rfl, _, _, rfl, _, _, rfl, rfl, rfl, yes ?_⟩
        refine ⟨_, rfl, _, _, rfl, rfl, _, rfl, _, _, rfl, rfl, .inl ⟨by omega, by omega⟩, _, hD2, ?_, same_put (sm.trans sm2) nD, ?_⟩
        · rw [List.length_map, List.length_take, mrkL_len, hz]
          omega
        · rw [upd_same, take_snocG (mrkL_at hc'), List.map_append]
          push_cast
          rfl
    · obtain ⟨sm, hD⟩ := z
      rw [byB_size, ← mrkL_len, List.take_length] at hD
      refine ⟨D, mrkL ks, rfl, .inl (.inl hD), _, _, rfl, rfl, (by show (65521 : Int) ≠ 0; decide), ?_⟩
      dsimp only
      rw [mrkL_sum]
      refine ⟨(by show 2 ≤ sizeLine; omega), fun t nt => ?_⟩
      rw [byB_size]
      exact q _ t (sm.trans (same_upd nt)) (none_back sm nt) upd_same
def spIsMk : Sp := fun vs H Q _ => ∃ (a : Addr) (m : Nat × Nat), vs = [.ref a] ∧ MkAt H a m ∧ m.1 ≤ 2000 ∧ m.2 < 65521 ∧ Q (.bl true) H
theorem ok_isMk {f fN : Addr} {fd fdN : FuncData} {j k1 : Nat} {t1 t2 : Tok} (F : Fun K "is_mark" "is_mark" sIsMark f fd) (GN : FnOk P w K mg base CX0 k1 fN fdN ["told", "least", "most"] spIsNum) (bN : Binds K fdN ["told", "least", "most"] []) (kN : PySem.W.keepIn K (.ref fN) = true) (gN : mg "is_number" = some (.ref fN)) (l1 : k1 ≤ j)
    (m1 : mg "isinstance" = none) (m2 : mg "tuple" = none) (m3 : mg "len" = none) (c1 : mg "MOST_BYTES" = some (.int 2000 t1)) (c2 : mg "MODULUS" = some (.int 65521 t2)) :
    FnOk P w K mg base CX0 (j + 1) f fd ["told"] spIsMk := by
  refine F.ok scIsMk (fun vs H Q E h => ?_) (fun cdv A outer s H vs Q E hr h => ?_)
  · obtain ⟨a, m, rfl, _⟩ := h
    rfl
  · obtain ⟨a, m, rfl, ha, h1, h2, q⟩ := h
    refine ⟨_, pss_cons (ps_if (PW.pt (pw_or (pt_not (pt_val (pe_callB call_isi (by rfl) m1 (by decide +kernel) (pa_cons (pv 0) (pa_cons (pe_bltn (v := .ty "tuple") (by rfl) m2 (by decide +kernel) rfl) pa_nil))))) (pw_or1 (pt_cmpR op_ne (pe_callB call_len_seq (by rfl) m3 PySem.boot_len (pa_cons (pv 0) pa_nil)) pe_int (nomark _))))) (pss_one (ps_ret pe_bl)) pss_nil)
      (pss_one (ps_ret (pe_and (pe_call GN (hr.mono l1) (by rfl) gN kN bN .nil pass0 (pa_cons (pe_ix ix_tup (pv 0) pe_int (fun _ _ => rfl)) (pa_cons pe_int (pa_cons (pe_glob (v := .int 2000) rfl c1 ⟨_, rfl⟩) pa_nil))))
        (pe_one (pe_call GN (hr.mono l1) (by rfl) gN kN bN .nil pass0 (pa_cons (pe_ix ix_tup (pv 0) pe_int (fun _ _ => rfl)) (pa_cons pe_int (pa_cons (pe_op op_sub (pe_glob (v := .int 65521) rfl c2 ⟨_, rfl⟩) pe_int) pa_nil)))))))), ?_⟩
    refine ⟨_, rfl, _, _, .type "tuple", _, _, rfl, .ty "tuple", .base (.tup ha), kit_ty (a := "tuple") (r := true) (by decide +kernel), _, rfl, iteF ?_⟩
    refine ⟨_, rfl, a, _, rfl, .inr (.inl (.inl ha)), rfl, _, rfl, iteF ?_⟩
    refine ⟨_, rfl, a, _, 0, _, rfl, rfl, .inl (.inl ha), rfl, _, 0, 2000, rfl, .inl ⟨_, rfl, _, rfl, iteC (decide_eq_true ⟨by omega, by omega⟩) ?_⟩⟩
    refine ⟨_, rfl, a, _, 1, _, rfl, rfl, .inl (.inl ha), rfl, _, _, rfl, rfl, _, 0, _, rfl, .inl ⟨_, rfl, ?_⟩⟩
    rw [decide_eq_true (by omega)]
    exact q
def spMo : Sp := fun vs H Q _ => ∃ (v : V) (i : Di) (old there : Nat), vs = [v, .int (old : Int), .int (there : Int)] ∧ DiAt H i v ∧ Q (.int (((if fitI old there i = true then wideI i else 0) : Nat) : Int)) H
theorem ok_mo {f fN : Addr} {fd fdN : FuncData} {j k1 : Nat} {t1 t2 t3 t4 t5 t6 : Tok} (F : Fun K "many_of" "many_of" sManyOf f fd) (GN : FnOk P w K mg base CX0 k1 fN fdN ["told", "least", "most"] spIsNum) (bN : Binds K fdN ["told", "least", "most"] []) (kN : PySem.W.keepIn K (.ref fN) = true) (gN : mg "is_number" = some (.ref fN)) (l1 : k1 ≤ j)
    (m1 : mg "isinstance" = none) (m2 : mg "tuple" = none) (m3 : mg "len" = none) (m4 : mg "min" = none) (c1 : mg "MOST_BYTES" = some (.int 2000 t1)) (c2 : mg "NEW" = some (.str "new" t2)) (c3 : mg "OLD" = some (.str "old" t3)) (c4 : mg "FEWEST_NEW" = some (.int 3 t4)) (c5 : mg "FEWEST_OLD" = some (.int 1 t5)) (c6 : mg "MOST_AT_ONCE" = some (.int 255 t6)) :
    FnOk P w K mg base CX0 (j + 1) f fd ["item", "old_many", "there"] spMo := by
  refine F.ok scMo (fun vs H Q E h => ?_) (fun cdv A outer s H vs Q E hr h => ?_)
  · obtain ⟨v, i, old, there, rfl, _⟩ := h
    rfl
  · obtain ⟨v, i, old, there, rfl, hi, q⟩ := h
    refine ⟨_, pss_cons (ps_if (pt_not (pt_val (pe_callB call_isi (by rfl) m1 (by decide +kernel) (pa_cons (pv 0) (pa_cons (pe_bltn (v := .ty "tuple") (by rfl) m2 (by decide +kernel) rfl) pa_nil)))))
        (pss_one (ps_ret (pe_ifExp (pt_val (pe_call GN (hr.mono l1) (by rfl) gN kN bN .nil pass0 (pa_cons (pv 0) (pa_cons pe_int (pa_cons pe_int pa_nil))))) pe_int pe_int))) pss_nil)
      (pss_cons (ps_if (pt_cmpR op_ne (pe_callB call_len_seq (by rfl) m3 PySem.boot_len (pa_cons (pv 0) pa_nil)) pe_int (nomark _)) (pss_one (ps_ret pe_int)) pss_nil)
      (pss_cons (ps_asg (pv 0) (pg_tup (by rfl) (pgs_cons (pg_name (i := 3) scMo.nd rfl (.inl rfl)) (pgs_cons (pg_name (i := 4) scMo.nd rfl (.inl rfl)) (pgs_cons (pg_name (i := 5) scMo.nd rfl (.inl rfl)) pgs_nil)))))
      (pss_cons (ps_if (PW.pt (pw_and (pt_cmpR op_eq (pv 3) (pe_glob (v := .str "new") rfl c2 ⟨_, rfl⟩) (nomark _))
          (pw_and (pt_val (pe_call GN (hr.mono l1) (by rfl) gN kN bN .nil pass0 (pa_cons (pv 4) (pa_cons (pe_glob (v := .int 3) rfl c4 ⟨_, rfl⟩) (pa_cons (pe_glob (v := .int 255) rfl c6 ⟨_, rfl⟩) pa_nil)))))
          (pw_and1 (pt_val (pe_call GN (hr.mono l1) (by rfl) gN kN bN .nil pass0 (pa_cons (pv 5) (pa_cons pe_int (pa_cons (pe_callB (call_min2 rfl) (by rfl) m4 (by decide +kernel) (pa_cons (pe_glob (v := .int 2000) rfl c1 ⟨_, rfl⟩) (pa_cons (pv 2) pa_nil))) pa_nil))))))))) (pss_one (ps_ret (pv 4))) pss_nil)
      (pss_cons (ps_if (PW.pt (pw_and (pt_cmpR op_eq (pv 3) (pe_glob (v := .str "old") rfl c3 ⟨_, rfl⟩) (nomark _))
          (pw_and (pt_val (pe_call GN (hr.mono l1) (by rfl) gN kN bN .nil pass0 (pa_cons (pv 4) (pa_cons (pe_glob (v := .int 1) rfl c5 ⟨_, rfl⟩) (pa_cons (pe_glob (v := .int 255) rfl c6 ⟨_, rfl⟩) pa_nil)))))
          (pw_and1 (pt_val (pe_call GN (hr.mono l1) (by rfl) gN kN bN .nil pass0 (pa_cons (pv 5) (pa_cons pe_int (pa_cons (pe_op op_sub (pv 1) (pv 4)) pa_nil))))))))) (pss_one (ps_ret (pv 4))) pss_nil)
      (pss_one (ps_ret pe_int)))))), ?_⟩
    cases i with
    | b n =>
      obtain rfl : v = .int (n : Int) := hi
      refine ⟨_, rfl, _, _, _, _, _, rfl, .ty "tuple", .base (.int _), kit_ty (a := "int") (r := false) (by decide +kernel), _, rfl, iteT ?_⟩
      refine ⟨_, rfl, _, 0, 255, rfl, .inl ⟨_, rfl, _, rfl, ?_⟩⟩
      have q : Q (.int (((if decide (n < 256) = true then 1 else 0) : Nat) : Int)) H := q
      refine ite2 (fun e => ?_) (fun e => ?_)
      · rw [if_pos (decide_eq_true (by have := of_decide_eq_true e; omega))] at q
        exact q
      · rw [if_neg (fun z => e (decide_eq_true (by have := of_decide_eq_true z; omega)))] at q
        exact q
    | c nw m p =>
      obtain ⟨t, rfl, ht⟩ := hi
      refine ⟨_, rfl, _, _, .type "tuple", _, _, rfl, .ty "tuple", .base (.tup ht), kit_ty (a := "tuple") (r := true) (by decide +kernel), _, rfl, iteF ?_⟩
      refine ⟨_, rfl, t, _, rfl, .inr (.inl (.inl ht)), rfl, _, rfl, iteF ?_⟩
      refine ⟨_, rfl, t, _, rfl, .inl (.inl ht), rfl, _, _, rfl, _, _, rfl, _, _, rfl, rfl, ?_⟩
      cases nw with
      | true =>
        have q : Q (.int (((if decide (3 ≤ m ∧ m ≤ 255 ∧ 1 ≤ p ∧ p ≤ min 2000 there) = true then m else 0) : Nat) : Int)) H := q
        have hno : ¬ (3 ≤ m ∧ m ≤ 255 ∧ 1 ≤ p ∧ p ≤ min 2000 there) → Q (.int 0) H := fun z => by
          rw [if_neg (fun y => z (of_decide_eq_true y))] at q
          exact q
        refine ⟨_, rfl, rfl, _, rfl, iteT ?_⟩
        have rest : Q (.int 0) H → ∀ R : Prop, (R = True) → True := fun _ _ _ => trivial
        refine ⟨_, rfl, _, 3, 255, rfl, .inl ⟨_, rfl, _, rfl, ite2 (fun e => ?_) (fun e => ?_)⟩⟩
        · have e := of_decide_eq_true e
          refine ⟨_, rfl, _, rfl, _, _, rfl, _, 1, _, rfl, .inl ⟨_, rfl, _, rfl, ite2 (fun e2 => ?_) (fun e2 => ?_)⟩⟩
          · have e2 := of_decide_eq_true e2
            rw [if_pos (decide_eq_true ⟨by omega, by omega, by omega, by have := e2.2; split at this <;> omega⟩)] at q
            exact ⟨_, rfl, q⟩
          · refine ⟨_, rfl, rfl, _, rfl, iteF (hno fun z => e2 (decide_eq_true ⟨by omega, by split <;> omega⟩))⟩
        · exact ⟨_, rfl, rfl, _, rfl, iteF (hno fun z => e (decide_eq_true ⟨by omega, by omega⟩))⟩
      | false =>
        have q : Q (.int (((if decide (1 ≤ m ∧ m ≤ 255 ∧ p + m ≤ old) = true then m else 0) : Nat) : Int)) H := q
        have hno : ¬ (1 ≤ m ∧ m ≤ 255 ∧ p + m ≤ old) → Q (.int 0) H := fun z => by
          rw [if_neg (fun y => z (of_decide_eq_true y))] at q
          exact q
        refine ⟨_, rfl, rfl, _, rfl, iteF ?_⟩
        refine ⟨_, rfl, rfl, _, rfl, iteT ?_⟩
        refine ⟨_, rfl, _, 1, 255, rfl, .inl ⟨_, rfl, _, rfl, ite2 (fun e => ?_) (fun e => ?_)⟩⟩
        · have e := of_decide_eq_true e
          refine ⟨_, rfl, _, rfl, _, rfl, _, _, rfl, rfl, _, 0, _, rfl, .inl ⟨_, rfl, _, rfl, ite2 (fun e2 => ?_) (fun e2 => ?_)⟩⟩
          · have e2 := of_decide_eq_true e2
            rw [if_pos (decide_eq_true ⟨by omega, by omega, by omega⟩)] at q
            exact ⟨_, rfl, q⟩
          · exact hno fun z => e2 (decide_eq_true ⟨by omega, by omega⟩)
        · exact hno fun z => e (decide_eq_true ⟨by omega, by omega⟩)
end
end K0

namespace K0
open PySem PySem.Spec PyProof.Rows L2
/-! ### tells_as_many, is_difference, refusals -/
theorem scRefD : FnScope ["told"] ["told"] (defScope sRefD) := ⟨rfl, rfl, rfl, by decide +kernel, rfl, by decide +kernel, by decide +kernel⟩
theorem scRefB : FnScope ["told"] ["told"] (defScope sRefB) := ⟨rfl, rfl, rfl, by decide +kernel, rfl, by decide +kernel, by decide +kernel⟩
/-- BadDifference as a class -/
structure BdTxt (K : PySem.W.Frag) (mg : Str → Option Value) (C : Addr) : Prop where
  gC : mg "BadDifference" = some (.ref C)
  x : PySem.W.excIn K C [.type "ValueError", .type "Exception", .type "BaseException", .type "object"] "ValueError.__new__" = true
  k : PySem.W.keepIn K (.ref C) = true
  b : PySem.W.subIn K (.ref C) (.type "BaseException") = some true
  t : PySem.W.typeIn K (.ref C) = some (.type "type")
section
variable {P : Program} {w : World} {K : PySem.W.Frag} {mg : Str → Option Value} {base : Heap}
def spTm : Sp := fun vs H Q _ => ∃ (r : Addr) (row : List Di) (old new : Nat), vs = [.ref r, .int (old : Int), .int (new : Int)] ∧ RwAt H r row ∧ row.length ≤ 2000 ∧ Q (.bl (decide (fitR old 0 row = some new))) H
theorem ok_tm {f fN : Addr} {fd fdN : FuncData} {j k1 : Nat} (F : Fun K "tells_as_many" "tells_as_many" sTellsM f fd) (GN : FnOk P w K mg base CX0 k1 fN fdN ["item", "old_many", "there"] spMo) (bN : Binds K fdN ["item", "old_many", "there"] []) (kN : PySem.W.keepIn K (.ref fN) = true) (gN : mg "many_of" = some (.ref fN)) (l1 : k1 ≤ j) :
    FnOk P w K mg base CX0 (j + 1) f fd ["row", "old_many", "new_many"] spTm := by
  refine F.ok scTm (fun vs H Q E h => ?_) (fun cdv A outer s H vs Q E hr h => ?_)
  · obtain ⟨r, row, old, new, rfl, _⟩ := h
    rfl
  · obtain ⟨r, row, old, new, rfl, ⟨us, hr0, hus⟩, hl, q⟩ := h
    have hz := PySem.sizeLine_eq
    refine ⟨_, pss_cons (ps_set (i := 3) scTm.nd rfl (.inl rfl) pe_int)
      (pss_cons (ps_for PassesOwn.never rfl (pi_list (pv 0)) (pg_name (i := 4) scTm.nd rfl (.inl rfl))
        (pss_cons (ps_set (i := 5) scTm.nd rfl (.inl rfl) (pe_call GN (hr.mono l1) (by rfl) gN kN bN .nil pass0 (pa_cons (pv 4) (pa_cons (pv 1) (pa_cons (pv 3) pa_nil)))))
        (pss_cons (ps_if (pt_cmpR op_eq (pv 5) pe_int (nomark _)) (pss_one (ps_ret pe_bl)) pss_nil)
        (pss_one (ps_aug (i := 3) scTm.nd rfl (.inl rfl) (pv 5) ip_add)))))
      (pss_one (ps_ret (pe_cmpR op_eq (pv 3) (pv 2) (nomark _))))), ?_⟩
    dsimp only [gName]
    have hlen := hus.length
    refine ⟨_, rfl, r, rfl, ⟨_, .inl (.inl hr0)⟩, ?_⟩
    refine for_list (K := K) (a := r) (xs := us) (fun i σ H' => H' = H ∧ ∃ (y4 y5 : Option V) (th : Nat), σ = [some (.ref r), some (.int (old : Int)), some (.int (new : Int)), some (.int (th : Int)), y4, y5] ∧ fitR old 0 row = fitR old th (row.drop i))
      ⟨rfl, _, _, 0, rfl, rfl⟩ (fun i σ H' _ h => ?_) (fun i x σ H' hx h => ?_) (fun σ H' h => ?_)
    · rw [h.1]
      exact .inl (.inl hr0)
    · obtain ⟨rfl, y4, y5, th, rfl, ef⟩ := h
      have hi : i < row.length := by have := (List.getElem?_eq_some_iff.mp hx).1; omega
      obtain ⟨x', e1, hd⟩ := paired_get hus (List.getElem?_eq_getElem hi)
      obtain rfl := Option.some.inj (e1.symm.trans hx)
      rw [List.drop_eq_getElem_cons hi] at ef
      generalize row[i] = it at *
      have ef : fitR old 0 row = if fitI old th it = true then fitR old (th + wideI it) (row.drop (i + 1)) else none := ef
      refine ⟨_, rfl, _, rfl, _, rfl, _, it, old, th, rfl, hd, ?_⟩
      dsimp only [gName]
      refine ⟨_, rfl, rfl, _, rfl, ?_⟩
      by_cases hf : fitI old th it = true
      · rw [if_pos hf] at ef ⊢
        have := (fit_wide hf).1
        refine ite2 (fun z => ?_) (fun _ => ?_)
        · have z : V.int (wideI it : Int) = V.int 0 := of_decide_eq_true z
          have := V.int.inj z
          omega
        · have ea : (th : Int) + (wideI it : Int) = ((th + wideI it : Nat) : Int) := by push_cast; rfl
          refine ⟨_, rfl, _, rfl, _, _, rfl, rfl, ?_⟩
          dsimp only
          rw [ea]
          exact ⟨rfl, _, _, th + wideI it, rfl, ef⟩
      · rw [if_neg hf] at ef ⊢
        refine iteC (decide_eq_true rfl) ?_
        rw [ef, decide_eq_false (fun z => by cases z)] at q
        exact q
    · obtain ⟨rfl, y4, y5, th, rfl, ef⟩ := h
      rw [← hlen, List.drop_length] at ef
      refine ⟨_, rfl, _, rfl, rfl, ?_⟩
      have e : decide (V.int (th : Int) = V.int (new : Int)) = decide (fitR old 0 row = some new) := by
        rw [ef]
        show _ = decide (some th = some new)
        by_cases z : th = new
        · rw [z, decide_eq_true rfl, decide_eq_true rfl]
        · rw [decide_eq_false (fun y => z (by have := V.int.inj y; omega)), decide_eq_false (fun y => z (Option.some.inj y))]
      rw [e]
      exact q
def spId : Sp := fun vs H Q _ => ∃ (t : Addr) (x : DfA) (d : Dfv), vs = [.ref t] ∧ DfAt H t x d ∧ d.Low ∧ Q (.bl d.ok) H
theorem ok_id {f fM fT : Addr} {fd fdM fdT : FuncData} {j k1 k2 : Nat} (F : Fun K "is_difference" "is_difference" sIsDif f fd) (GM : FnOk P w K mg base CX0 k1 fM fdM ["told"] spIsMk) (bM : Binds K fdM ["told"] []) (kM : PySem.W.keepIn K (.ref fM) = true) (gM : mg "is_mark" = some (.ref fM)) (l1 : k1 ≤ j)
    (GT : FnOk P w K mg base CX0 k2 fT fdT ["row", "old_many", "new_many"] spTm) (bT : Binds K fdT ["row", "old_many", "new_many"] []) (kT : PySem.W.keepIn K (.ref fT) = true) (gT : mg "tells_as_many" = some (.ref fT)) (l2 : k2 ≤ j)
    (m1 : mg "isinstance" = none) (m2 : mg "tuple" = none) (m3 : mg "len" = none) (m4 : mg "list" = none) :
    FnOk P w K mg base CX0 (j + 1) f fd ["told"] spId := by
  refine F.ok scId (fun vs H Q E h => ?_) (fun cdv A outer s H vs Q E hr h => ?_)
  · obtain ⟨t, x, d, rfl, _⟩ := h
    rfl
  · obtain ⟨t, x, d, rfl, ⟨ht, ha, hb, hrw⟩, ⟨l01, l02, l03, l04, l05⟩, q⟩ := h
    refine ⟨_, pss_cons (ps_if (PW.pt (pw_or (pt_not (pt_val (pe_callB call_isi (by rfl) m1 (by decide +kernel) (pa_cons (pv 0) (pa_cons (pe_bltn (v := .ty "tuple") (by rfl) m2 (by decide +kernel) rfl) pa_nil))))) (pw_or1 (pt_cmpR op_ne (pe_callB call_len_seq (by rfl) m3 PySem.boot_len (pa_cons (pv 0) pa_nil)) pe_int (nomark _))))) (pss_one (ps_ret pe_bl)) pss_nil)
      (pss_cons (ps_asg (pv 0) (pg_tup (by rfl) (pgs_cons (pg_name (i := 1) scId.nd rfl (.inl rfl)) (pgs_cons (pg_name (i := 2) scId.nd rfl (.inl rfl)) (pgs_cons (pg_name (i := 3) scId.nd rfl (.inl rfl)) pgs_nil)))))
      (pss_one (ps_ret (pe_and (pe_call GM (hr.mono l1) (by rfl) gM kM bM .nil pass0 (pa_cons (pv 1) pa_nil)) (pe_and (pe_call GM (hr.mono l1) (by rfl) gM kM bM .nil pass0 (pa_cons (pv 2) pa_nil))
        (pe_and (pe_callB call_isi (by rfl) m1 (by decide +kernel) (pa_cons (pv 3) (pa_cons (pe_bltn (v := .ty "list") (by rfl) m4 (by decide +kernel) rfl) pa_nil)))
        (pe_one (pe_call GT (hr.mono l2) (by rfl) gT kT bT .nil pass0 (pa_cons (pv 3) (pa_cons (pe_ix ix_tup (pv 1) pe_int (fun _ _ => rfl)) (pa_cons (pe_ix ix_tup (pv 2) pe_int (fun _ _ => rfl)) pa_nil))))))))))), ?_⟩
    refine ⟨_, rfl, _, _, .type "tuple", _, _, rfl, .ty "tuple", .base (.tup ht), kit_ty (a := "tuple") (r := true) (by decide +kernel), _, rfl, iteF ?_⟩
    refine ⟨_, rfl, t, _, rfl, .inr (.inl (.inl ht)), rfl, _, rfl, iteF ?_⟩
    refine ⟨_, rfl, t, _, rfl, .inl (.inl ht), rfl, _, _, rfl, _, _, rfl, _, _, rfl, rfl, ?_⟩
    refine ⟨_, rfl, _, d.old, rfl, ha, l01, l02, _, rfl, iteT ?_⟩
    refine ⟨_, rfl, _, d.new, rfl, hb, l03, l04, _, rfl, iteT ?_⟩
    obtain ⟨us, hu1, hu2⟩ := id hrw
    refine ⟨_, rfl, _, _, .type "list", _, _, rfl, .ty "list", .base (.lst hu1), kit_ty (a := "list") (r := true) (by decide +kernel), _, rfl, iteT ?_⟩
    exact ⟨_, rfl, _, rfl, _, _, 0, _, rfl, rfl, .inl (.inl ha), rfl, _, rfl, _, _, 0, _, rfl, rfl, .inl (.inl hb), rfl, _, d.row, d.old.1, d.new.1, rfl, hrw, l05, q⟩
def spRefD : Sp := fun vs H Q _ => ∃ (t : Addr) (x : DfA) (d : Dfv), vs = [.ref t] ∧ DfAt H t x d ∧ d.Low ∧ d.ok = true ∧ Q .non H
theorem ok_refD {f fI : Addr} {fd fdI : FuncData} {j k1 : Nat} (F : Fun K "refuse_difference" "refuse_difference" sRefD f fd) (GI : FnOk P w K mg base CX0 k1 fI fdI ["told"] spId) (bI : Binds K fdI ["told"] []) (kI : PySem.W.keepIn K (.ref fI) = true) (gI : mg "is_difference" = some (.ref fI)) (l1 : k1 ≤ j) :
    FnOk P w K mg base CX0 (j + 1) f fd ["told"] spRefD := by
  refine F.ok scRefD (fun vs H Q E h => ?_) (fun cdv A outer s H vs Q E hr h => ?_)
  · obtain ⟨t, x, d, rfl, _⟩ := h
    rfl
  · obtain ⟨t, x, d, rfl, hD, hL, ho, q⟩ := h
    refine ⟨_, pss_one (ps_if (pt_not (pt_val (pe_call GI (hr.mono l1) (by rfl) gI kI bI .nil pass0 (pa_cons (pv 0) pa_nil)))) (pss_one ps_never) pss_nil), ?_⟩
    refine ⟨_, rfl, t, x, d, rfl, hD, hL, _, rfl, ?_⟩
    rw [ho]
    exact iteF q
def spRefDN (C : Addr) : Sp := fun vs H Q E => ∃ (t : Addr) (x : DfA) (d : Dfv), vs = [.ref t] ∧ DfAt H t x d ∧ d.Low ∧ (d.ok = true → Q .non H) ∧ (d.ok = false → E (.ref C) none H)
theorem ok_refDN {C : Addr} (T : BdTxt K mg C) {f fI : Addr} {fd fdI : FuncData} {j k1 : Nat} (F : Fun K "refuse_difference" "refuse_difference" sRefD f fd) (GI : FnOk P w K mg base CX0 k1 fI fdI ["told"] spId) (bI : Binds K fdI ["told"] []) (kI : PySem.W.keepIn K (.ref fI) = true) (gI : mg "is_difference" = some (.ref fI)) (l1 : k1 ≤ j) :
    FnOk P w K mg base (L2N.CX P w) (j + 1) f fd ["told"] (spRefDN C) := by
  refine okN F scRefD (fun vs H Q E h => ?_) (fun cdv A outer s H vs Q E hr h => ?_)
  · obtain ⟨t, x, d, rfl, _⟩ := h
    rfl
  · obtain ⟨t, x, d, rfl, hD, hL, q, e⟩ := h
    refine ⟨_, pss_one (ps_if (pt_not (pt_val (pe_call GI (hr.mono l1) (by rfl) gI kI bI .nil pass0 (pa_cons (pv 0) pa_nil)))) (pss_one (L2N.ps_raise rfl (L2N.takes_of rfl rfl rfl rfl) (L2N.pmk_own PySem.F.excBase_ValueError T.x T.gC T.k (raises_own T.b T.t) rfl))) pss_nil), ?_⟩
    refine ⟨_, rfl, t, x, d, rfl, hD, hL, _, rfl, ?_⟩
    cases ho : d.ok with
    | true => exact iteF (q ho)
    | false => exact iteT (e ho)
def spRefB : Sp := fun vs H Q _ => ∃ ks : List Nat, vs = [.byt (byB ks)] ∧ ks.length ≤ 2000 ∧ Q .non H
theorem ok_refB {f fI : Addr} {fd fdI : FuncData} {j k1 : Nat} {t1 : Tok} (F : Fun K "refuse_bytes" "refuse_bytes" sRefB f fd) (GI : FnOk P w K mg base CX0 k1 fI fdI ["told", "most"] spAreBytes) (bI : Binds K fdI ["told", "most"] []) (kI : PySem.W.keepIn K (.ref fI) = true) (gI : mg "are_bytes" = some (.ref fI)) (l1 : k1 ≤ j) (c1 : mg "MOST_BYTES" = some (.int 2000 t1)) :
    FnOk P w K mg base CX0 (j + 1) f fd ["told"] spRefB := by
  refine F.ok scRefB (fun vs H Q E h => ?_) (fun cdv A outer s H vs Q E hr h => ?_)
  · obtain ⟨ks, rfl, _⟩ := h
    rfl
  · obtain ⟨ks, rfl, hl, q⟩ := h
    refine ⟨_, pss_one (ps_if (pt_not (pt_val (pe_call GI (hr.mono l1) (by rfl) gI kI bI .nil pass0 (pa_cons (pv 0) (pa_cons (pe_glob (v := .int 2000) rfl c1 ⟨_, rfl⟩) pa_nil))))) (pss_one ps_never) pss_nil), ?_⟩
    refine ⟨_, rfl, byB ks, 2000, rfl, (by rw [byB_size]; omega), _, rfl, ?_⟩
    rw [byB_size, decide_eq_true hl]
    exact iteF q
end
end K0

namespace K0
open PySem PySem.Spec PyProof.Rows L2
/-! ### origins_of, goes_on, row_from, put_together -/
abbrev NOr : List Str := ["row", "origins", "item", "word", "many", "place", "count"]
theorem scOr : FnScope NOr ["row"] (defScope sOrig) := ⟨rfl, rfl, rfl, by decide +kernel, rfl, by decide +kernel, by decide +kernel⟩
abbrev NRf : List Str := ["origins", "row", "origin", "_", "many", "place"]
theorem scRf : FnScope NRf ["origins"] (defScope sRowFr) := ⟨rfl, rfl, rfl, by decide +kernel, rfl, by decide +kernel, by decide +kernel⟩
theorem scGo : FnScope ["item", "place"] ["item", "place"] (defScope sGoesOn) := ⟨rfl, rfl, rfl, by decide +kernel, rfl, by decide +kernel, by decide +kernel⟩
abbrev NPt : List Str := ["origins", "old", "origin"]
theorem scPt : FnScope NPt ["origins", "old"] (defScope sPutTo) := ⟨rfl, rfl, rfl, by decide +kernel, rfl, by decide +kernel, by decide +kernel⟩
theorem atI_back {us : List V} {b : Nat} (h1 : 1 ≤ b) (h2 : b ≤ us.length) : atI us (-(b : Int)) = us[us.length - b]? := by
  unfold atI ixN
  rw [if_neg (by omega), if_pos (by omega)]
  show us[(-(b : Int) + (us.length : Int)).toNat]? = _
  have e : (-(b : Int) + (us.length : Int)).toNat = us.length - b := by omega
  rw [e]
theorem origS_len (acc : List Og) : ∀ i, (origS acc i).length = acc.length + wideI i
  | .b n => List.length_append
  | .c true m p => copyO_len p m acc
  | .c false m p => by
    show (acc ++ _).length = _
    rw [List.length_append, List.length_map, List.length_range]
    rfl
theorem paired_getD {H : Hp} {os : List Og} {us : List V} (h : Paired (OgAt H) os us) {i : Nat} (hi : i < os.length) : ∃ v, us[i]? = some v ∧ OgAt H (os.getD i ogD) v := by
  obtain ⟨v, e, r⟩ := paired_get h (List.getElem?_eq_getElem hi)
  refine ⟨v, e, ?_⟩
  rw [List.getD_eq_getElem?_getD, List.getElem?_eq_getElem hi]
  exact r
theorem fitR_cons {old t n : Nat} {i : Di} {r : List Di} (h : fitR old t (i :: r) = some n) : fitI old t i = true ∧ fitR old (t + wideI i) r = some n := by
  have h : (if fitI old t i = true then fitR old (t + wideI i) r else none) = some n := h
  split at h
  · exact ⟨by assumption, h⟩
  · cases h
theorem fit_top {old : Nat} : ∀ {r : List Di} {t n : Nat}, fitR old t r = some n → t ≤ n
  | [], t, n, h => by have := Option.some.inj h; omega
  | i :: r, t, n, h => by
    have := fit_top (fitR_cons h).2
    omega
section
variable {P : Program} {w : World} {K : PySem.W.Frag} {mg : Str → Option Value} {base : Heap}
def spOr : Sp := fun vs H Q _ => ∃ (r : Addr) (row : List Di) (old n : Nat), vs = [.ref r] ∧ RwAt H r row ∧ fitR old 0 row = some n ∧ n ≤ 2000 ∧ ∀ H' q, Same H H' → H q = none → OsAt H' q (orig row) → Q (.ref q) H'
theorem ok_or {f : Addr} {fd : FuncData} {j : Nat} {t1 : Tok} (F : Fun K "origins_of" "origins_of" sOrig f fd) (m1 : mg "isinstance" = none) (m2 : mg "tuple" = none) (m3 : mg "range" = none) (c1 : mg "NEW" = some (.str "new" t1)) :
    FnOk P w K mg base CX0 (j + 1) f fd ["row"] spOr := by
  refine F.ok scOr (fun vs H Q E h => ?_) (fun cdv A outer s H vs Q E hr h => ?_)
  · obtain ⟨r, row, old, n, rfl, _⟩ := h
    rfl
  · obtain ⟨r, row, old, n, rfl, ⟨us, hr0, hus⟩, hfit, hn, q⟩ := h
    have hz := PySem.sizeLine_eq
    refine ⟨_, pss_cons (ps_set (i := 1) scOr.nd rfl (.inl rfl) (pe_lst pa_nil))
      (pss_cons (ps_for PassesOwn.never rfl (pi_list (pv 0)) (pg_name (i := 2) scOr.nd rfl (.inl rfl))
        (pss_cons (ps_if (pt_not (pt_val (pe_callB call_isi (by rfl) m1 (by decide +kernel) (pa_cons (pv 2) (pa_cons (pe_bltn (v := .ty "tuple") (by rfl) m2 (by decide +kernel) rfl) pa_nil)))))
          (pss_cons (ps_expr (pe_bm PySem.F.plainAttrs_list PySem.F.slot_list_append PySem.F.type_list_append mt_append (pv 1) (pa_cons (pv 2) pa_nil))) (pss_one ps_continue)) pss_nil)
        (pss_cons (ps_asg (pv 2) (pg_tup (by rfl) (pgs_cons (pg_name (i := 3) scOr.nd rfl (.inl rfl)) (pgs_cons (pg_name (i := 4) scOr.nd rfl (.inl rfl)) (pgs_cons (pg_name (i := 5) scOr.nd rfl (.inl rfl)) pgs_nil)))))
        (pss_one (ps_for PassesOwn.never rfl (pi_range1 (by rfl) m3 (pa_cons (pv 4) pa_nil)) (pg_name (i := 6) scOr.nd rfl (.inl rfl))
          (pss_one (ps_expr (pe_bm PySem.F.plainAttrs_list PySem.F.slot_list_append PySem.F.type_list_append mt_append (pv 1) (pa_cons (pe_ifExp (pt_cmpR op_eq (pv 3) (pe_glob (v := .str "new") rfl c1 ⟨_, rfl⟩) (nomark _)) (pe_ix ix_list (pv 1) (pe_un un_neg (pv 5)) (fun _ _ => rfl)) (pe_tup (pa_cons (pe_op op_add (pv 5) (pv 6)) pa_nil))) pa_nil)))))))))
      (pss_one (ps_ret (pv 1)))), ?_⟩
    refine ⟨Nat.zero_le _, fun D nD => ?_⟩
    have hlen := hus.length
    have hrl : row.length ≤ 2000 := by have := fitR_le hfit; omega
    dsimp only [gName]
    refine ⟨_, rfl, r, rfl, ⟨_, .inl (.inl (same_upd nD _ _ hr0))⟩, ?_⟩
    refine for_list (K := K) (a := r) (xs := us) (fun i σ H' => ∃ (y2 y3 y4 y5 y6 : Option V) (os : List Og) (vs : List V), σ = [some (.ref r), some (.ref D), y2, y3, y4, y5, y6] ∧ Same H H' ∧ H' D = some (.lst vs) ∧ Paired (OgAt H') os vs ∧ os = (row.take i).foldl origS [] ∧ fitR old os.length (row.drop i) = some n)
      ⟨_, _, _, _, _, [], [], rfl, same_upd nD, upd_same, .nil, rfl, hfit⟩ (fun i σ H' _ h => ?_) (fun i x σ H' hx h => ?_) (fun σ H' h => ?_)
    · obtain ⟨_, _, _, _, _, _, _, _, sm, _⟩ := h
      exact .inl (.inl (sm _ _ hr0))
    · obtain ⟨y2, y3, y4, y5, y6, os, vs, rfl, sm, hD, hP, eos, ef⟩ := h
      have hi : i < row.length := by have := (List.getElem?_eq_some_iff.mp hx).1; omega
      obtain ⟨x', e1, hd0⟩ := paired_get hus (List.getElem?_eq_getElem hi)
      obtain rfl := Option.some.inj (e1.symm.trans hx)
      have hd := hd0.same sm
      rw [List.drop_eq_getElem_cons hi] at ef
      have et : (row.take (i + 1)).foldl origS [] = origS os row[i] := by
        rw [List.take_add_one, List.getElem?_eq_getElem hi, List.foldl_append, ← eos]
        rfl
      rw [et]
      clear eos et hd0
      generalize row[i] = it at *
      obtain ⟨hf, ef⟩ := fitR_cons ef
      have hvl := hP.length
      have htop := fit_top ef
      rw [← origS_len] at ef
      dsimp only [gName]
      cases it with
      | b k =>
        obtain rfl : x' = .int (k : Int) := hd
        refine ⟨_, rfl, _, _, _, _, _, rfl, .ty "tuple", .base (.int _), kit_ty (a := "int") (r := false) (by decide +kernel), _, rfl, iteT ?_⟩
        refine ⟨_, rfl, .inl ⟨rfl, _, .inl (.inl hD)⟩, _, rfl, D, _, _, rfl, rfl, hD, by omega, ?_⟩
        refine ⟨_, _, _, _, _, _, vs ++ [.int (k : Int)], rfl, same_put sm nD, upd_same, ?_, rfl, ef⟩
        exact (hP.mono fun _ _ h => h.put hD).snoc rfl
      | c nw m p =>
        obtain ⟨t, rfl, ht⟩ := hd
        refine ⟨_, rfl, _, _, .type "tuple", _, _, rfl, .ty "tuple", .base (.tup ht), kit_ty (a := "tuple") (r := true) (by decide +kernel), _, rfl, iteF ?_⟩
        refine ⟨_, rfl, t, _, rfl, .inl (.inl ht), rfl, _, _, rfl, _, _, rfl, _, _, rfl, rfl, ?_⟩
        have hm : m ≤ 255 := (fit_wide hf).2
        have htop : os.length + m ≤ n := htop
        refine ⟨_, rfl, m, rfl, by omega, by omega, ?_⟩
        cases nw with
        | true =>
          have hf := of_decide_eq_true (show decide (3 ≤ m ∧ m ≤ 255 ∧ 1 ≤ p ∧ p ≤ min 2000 os.length) = true from hf)
          refine for_range (lo := 0) (n := (m : Int).toNat) (fun k σ H3 => ∃ (y6 : Option V) (vs3 : List V), σ = [some (.ref r), some (.ref D), some (.ref t), some (.str (wdN true)), some (.int (m : Int)), some (.int (p : Int)), y6] ∧ Same H H3 ∧ H3 D = some (.lst vs3) ∧ Paired (OgAt H3) (copyO p k os) vs3) ⟨_, vs, rfl, sm, hD, hP⟩ (fun k σ H3 hk h => ?_) (fun σ H3 h => ?_)
          · obtain ⟨y6, vs3, rfl, sm3, hD3, hP3⟩ := h
            have hl3 := hP3.length
            rw [copyO_len] at hl3
            obtain ⟨v, e1, hv⟩ := paired_getD hP3 (i := (copyO p k os).length - p) (by rw [copyO_len]; omega)
            refine ⟨_, rfl, .inl ⟨rfl, _, .inl (.inl hD3)⟩, ?_⟩
            refine ⟨_, rfl, rfl, _, rfl, iteT ?_⟩
            refine ⟨_, rfl, _, rfl, _, rfl, D, _, _, v, rfl, rfl, .inl (.inl hD3), ?_, D, _, _, rfl, rfl, hD3, by omega, ?_⟩
            · rw [atI_back (by omega) (by omega), ← hl3, ← copyO_len p k os]
              exact e1
            · refine ⟨_, vs3 ++ [v], rfl, same_put sm3 nD, upd_same, ?_⟩
              rw [copyO_succ]
              exact (hP3.mono fun _ _ h => h.put hD3).snoc (hv.put hD3)
          · obtain ⟨y6, vs3, rfl, sm3, hD3, hP3⟩ := h
            rw [Int.toNat_natCast] at hP3
            exact ⟨_, _, _, _, _, _, vs3, rfl, sm3, hD3, hP3, rfl, ef⟩
        | false =>
          refine for_range (lo := 0) (n := (m : Int).toNat) (fun k σ H3 => ∃ (y6 : Option V) (vs3 : List V), σ = [some (.ref r), some (.ref D), some (.ref t), some (.str (wdN false)), some (.int (m : Int)), some (.int (p : Int)), y6] ∧ Same H H3 ∧ H3 D = some (.lst vs3) ∧ Paired (OgAt H3) (os ++ (List.range k).map fun t => Og.o (p + t)) vs3) ⟨_, vs, rfl, sm, hD, by rw [List.range_zero]; simpa using hP⟩ (fun k σ H3 hk h => ?_) (fun σ H3 h => ?_)
          · obtain ⟨y6, vs3, rfl, sm3, hD3, hP3⟩ := h
            have hl3 := hP3.length
            rw [List.length_append, List.length_map, List.length_range] at hl3
            refine ⟨_, rfl, .inl ⟨rfl, _, .inl (.inl hD3)⟩, ?_⟩
            refine ⟨_, rfl, rfl, _, rfl, iteF ?_⟩
            refine ⟨_, rfl, _, rfl, _, _, rfl, rfl, (by show 1 ≤ sizeLine; omega), fun tt ntt => ?_⟩
            have st := same_upd (o := .tup [.int ((p : Int) + (0 + (k : Int)))]) ntt
            refine ⟨D, _, _, rfl, rfl, st _ _ hD3, by omega, ?_⟩
            refine ⟨_, vs3 ++ [.ref tt], rfl, same_put (sm3.trans st) nD, upd_same, ?_⟩
            rw [List.range_succ, List.map_append, ← List.append_assoc]
            refine (hP3.mono fun _ _ h => (h.same st).put (st _ _ hD3)).snoc (OgAt.put (i := .o (p + k)) ⟨tt, rfl, ?_⟩ (st _ _ hD3))
            rw [upd_same]
            show some (HO.tup [V.int ((p : Int) + (0 + (k : Int)))]) = _
            rw [show (p : Int) + (0 + (k : Int)) = ((p + k : Nat) : Int) by push_cast; omega]
          · obtain ⟨y6, vs3, rfl, sm3, hD3, hP3⟩ := h
            rw [Int.toNat_natCast] at hP3
            exact ⟨_, _, _, _, _, _, vs3, rfl, sm3, hD3, hP3, rfl, ef⟩
    · obtain ⟨y2, y3, y4, y5, y6, os, vs, rfl, sm, hD, hP, eos, ef⟩ := h
      rw [← hlen, List.take_length] at eos
      refine ⟨_, rfl, q H' D sm nD ⟨vs, hD, ?_⟩⟩
      rw [show orig row = os from eos.symm]
      exact hP
def goesB : Di → Nat → Bool
  | .c _ m p, q => decide (m < 255 ∧ p + m = q)
  | .b _, _ => false
def spGo : Sp := fun vs H Q _ => ∃ (v : V) (i : Di) (q : Nat), vs = [v, .int (q : Int)] ∧ DiAt H i v ∧ Q (.bl (goesB i q)) H
theorem ok_go {f : Addr} {fd : FuncData} {j : Nat} {t1 : Tok} (F : Fun K "goes_on" "goes_on" sGoesOn f fd) (m1 : mg "isinstance" = none) (m2 : mg "tuple" = none) (c1 : mg "MOST_AT_ONCE" = some (.int 255 t1)) :
    FnOk P w K mg base CX0 (j + 1) f fd ["item", "place"] spGo := by
  refine F.ok scGo (fun vs H Q E h => ?_) (fun cdv A outer s H vs Q E hr h => ?_)
  · obtain ⟨v, i, q, rfl, _⟩ := h
    rfl
  · obtain ⟨v, i, q0, rfl, hi, q⟩ := h
    refine ⟨_, pss_one (ps_ret (pe_and (pe_callB call_isi (by rfl) m1 (by decide +kernel) (pa_cons (pv 0) (pa_cons (pe_bltn (v := .ty "tuple") (by rfl) m2 (by decide +kernel) rfl) pa_nil)))
      (pe_and (pe_cmpR op_lt (pe_ix ix_tup (pv 0) pe_int (fun _ _ => rfl)) (pe_glob (v := .int 255) rfl c1 ⟨_, rfl⟩) (nomark _))
        (pe_one (pe_cmpR op_eq (pe_op op_add (pe_ix ix_tup (pv 0) pe_int (fun _ _ => rfl)) (pe_ix ix_tup (pv 0) pe_int (fun _ _ => rfl))) (pv 1) (nomark _)))))), ?_⟩
    cases i with
    | b n =>
      obtain rfl : v = .int (n : Int) := hi
      exact ⟨_, rfl, _, _, _, _, _, rfl, .ty "tuple", .base (.int _), kit_ty (a := "int") (r := false) (by decide +kernel), _, rfl, iteF q⟩
    | c nw m p =>
      obtain ⟨t, rfl, ht⟩ := hi
      have q : Q (.bl (decide (m < 255 ∧ p + m = q0))) H := q
      refine ⟨_, rfl, _, _, .type "tuple", _, _, rfl, .ty "tuple", .base (.tup ht), kit_ty (a := "tuple") (r := true) (by decide +kernel), _, rfl, iteT ?_⟩
      refine ⟨_, rfl, t, _, 1, _, rfl, rfl, .inl (.inl ht), rfl, _, _, rfl, rfl, _, rfl, ite2 (fun e => ?_) (fun e => ?_)⟩
      · have e := of_decide_eq_true e
        refine ⟨_, rfl, t, _, 2, _, rfl, rfl, .inl (.inl ht), rfl, _, rfl, t, _, 1, _, rfl, rfl, .inl (.inl ht), rfl, _, _, rfl, rfl, _, rfl, rfl, ?_⟩
        have e2 : decide (V.int ((p : Int) + (m : Int)) = V.int (q0 : Int)) = decide (m < 255 ∧ p + m = q0) := by
          by_cases z : p + m = q0
          · rw [decide_eq_true (show m < 255 ∧ p + m = q0 from ⟨by omega, z⟩), decide_eq_true (by rw [← z]; push_cast; rfl)]
          · rw [decide_eq_false (fun y => z (by have := V.int.inj y; omega)), decide_eq_false (fun y => z y.2)]
        rw [← e2] at q
        exact q
      · rw [decide_eq_false (fun y => e (decide_eq_true (by omega)))] at q
        exact q
end
end K0

namespace K0
open PySem PySem.Spec PyProof.Rows L2
theorem atI_lastV {us : List V} {v : V} : atI (us ++ [v]) (-1) = some v := by
  have := atI_back (us := us ++ [v]) (b := 1) (Nat.le_refl _) (by rw [List.length_append]; exact Nat.le_add_left _ _)
  rw [List.length_append] at this
  have h : atI (us ++ [v]) (-((1 : Nat) : Int)) = (us ++ [v])[us.length + 1 - 1]? := this
  rw [Nat.add_sub_cancel, List.getElem?_append_right (Nat.le_refl _), Nat.sub_self] at h
  exact h
theorem ixN_last {us : List V} {v : V} : ixN (us ++ [v]).length (-1) = some us.length := by
  have e9 : (us ++ [v]).length = us.length + 1 := by simp
  unfold ixN
  rw [e9, if_neg (by decide), if_pos (by omega)]
  congr 1
  omega
theorem flatS_b (acc : List Di) (n : Nat) : flatS acc (.b n) = acc ++ [.b n] := rfl
theorem flatS_new {acc : List Di} {q : Nat} (h : ∀ i, acc.getLast? = some i → goesB i q = false) : flatS acc (.o q) = acc ++ [.c false 1 q] := by
  show flatO acc q acc.getLast? = _
  cases e : acc.getLast? with
  | none => rfl
  | some i =>
    have := h i e
    cases i with
    | b n => rfl
    | c nw m p =>
      have h2 : decide (m < 255 ∧ p + m = q) = false := this
      exact if_neg (of_decide_eq_false h2)
theorem flatS_on {acc : List Di} {q m p : Nat} {nw : Bool} (h : goesB (.c nw m p) q = true) : flatS (acc ++ [.c nw m p]) (.o q) = acc ++ [.c false (m + 1) p] := by
  show flatO _ q (acc ++ [Di.c nw m p]).getLast? = _
  rw [List.getLast?_append]
  have h2 := of_decide_eq_true (show decide (m < 255 ∧ p + m = q) = true from h)
  show (if m < 255 ∧ p + m = q then (acc ++ [Di.c nw m p]).dropLast ++ [Di.c false (m + 1) p] else (acc ++ [Di.c nw m p]) ++ [Di.c false 1 q]) = _
  rw [if_pos h2, List.dropLast_concat]
theorem paired_snoc_inv {α β : Type} {R : α → β → Prop} {xs : List α} {x : α} {ys : List β} (h : Paired R (xs ++ [x]) ys) : ∃ zs z, ys = zs ++ [z] ∧ Paired R xs zs ∧ R x z := by
  induction xs generalizing ys with
  | nil =>
    cases h with
    | cons r rs =>
      cases rs
      exact ⟨[], _, rfl, .nil, r⟩
  | cons a xs ih =>
    cases h with
    | cons r rs =>
      obtain ⟨zs, z, rfl, h2, h3⟩ := ih rs
      exact ⟨_ :: zs, z, rfl, .cons r h2, h3⟩
theorem flatS_len (acc : List Di) (o : Og) : (flatS acc o).length ≤ acc.length + 1 := by
  cases o with
  | b n => rw [flatS_b, List.length_append]; exact Nat.le_refl _
  | o q =>
    rcases List.eq_nil_or_concat acc with rfl | ⟨a, x, rfl⟩
    · exact Nat.le_refl _
    · rw [List.concat_eq_append]
      cases hg : goesB x q with
      | true =>
        cases x with
        | b n => cases hg
        | c nw m p =>
          rw [flatS_on hg, List.length_append, List.length_append]
          exact Nat.le_succ _
      | false =>
        rw [flatS_new fun i hi => by
          rw [List.getLast?_append] at hi
          obtain rfl := Option.some.inj hi
          exact hg, List.length_append]
        exact Nat.le_refl _
theorem flat_len : ∀ (os : List Og) (acc : List Di), (os.foldl flatS acc).length ≤ acc.length + os.length
  | [], _ => Nat.le_refl _
  | o :: os, acc => by
    have h1 := flat_len os (flatS acc o)
    have h2 := flatS_len acc o
    show (os.foldl flatS (flatS acc o)).length ≤ acc.length + (os.length + 1)
    omega
section
variable {P : Program} {w : World} {K : PySem.W.Frag} {mg : Str → Option Value} {base : Heap}
def spRf : Sp := fun vs H Q _ => ∃ (r : Addr) (os : List Og), vs = [.ref r] ∧ OsAt H r os ∧ os.length ≤ 2000 ∧ ∀ H' q, Same H H' → H q = none → RwAt H' q (flatF os) → Q (.ref q) H'
theorem ok_rf {f fG : Addr} {fd fdG : FuncData} {j k1 : Nat} {t1 : Tok} (F : Fun K "row_from" "row_from" sRowFr f fd) (GG : FnOk P w K mg base CX0 k1 fG fdG ["item", "place"] spGo) (bG : Binds K fdG ["item", "place"] []) (kG : PySem.W.keepIn K (.ref fG) = true) (gG : mg "goes_on" = some (.ref fG)) (l1 : k1 ≤ j)
    (m1 : mg "isinstance" = none) (m2 : mg "tuple" = none) (c1 : mg "OLD" = some (.str "old" t1)) :
    FnOk P w K mg base CX0 (j + 1) f fd ["origins"] spRf := by
  refine F.ok scRf (fun vs H Q E h => ?_) (fun cdv A outer s H vs Q E hr h => ?_)
  · obtain ⟨r, os, rfl, _⟩ := h
    rfl
  · obtain ⟨r, os, rfl, ⟨us, hr0, hus⟩, hl, q⟩ := h
    have hz := PySem.sizeLine_eq
    refine ⟨_, pss_cons (ps_set (i := 1) scRf.nd rfl (.inl rfl) (pe_lst pa_nil))
      (pss_cons (ps_for PassesOwn.never rfl (pi_list (pv 0)) (pg_name (i := 2) scRf.nd rfl (.inl rfl))
        (pss_one (ps_if (pt_not (pt_val (pe_callB call_isi (by rfl) m1 (by decide +kernel) (pa_cons (pv 2) (pa_cons (pe_bltn (v := .ty "tuple") (by rfl) m2 (by decide +kernel) rfl) pa_nil)))))
          (pss_one (ps_expr (pe_bm PySem.F.plainAttrs_list PySem.F.slot_list_append PySem.F.type_list_append mt_append (pv 1) (pa_cons (pv 2) pa_nil))))
          (pss_one (ps_if (PW.pt (pw_and (pt_truth (pv 1) (by intro _; rfl)) (pw_and1 (pt_val (pe_call GG (hr.mono l1) (by rfl) gG kG bG .nil pass0 (pa_cons (pe_ix ix_list (pv 1) (pe_un un_neg pe_int) (fun _ _ => rfl)) (pa_cons (pe_ix ix_tup (pv 2) pe_int (fun _ _ => rfl)) pa_nil)))))))
            (pss_cons (ps_asg (pe_ix ix_list (pv 1) (pe_un un_neg pe_int) (fun _ _ => rfl)) (pg_tup (by rfl) (pgs_cons (pg_name (i := 3) scRf.nd rfl (.inl rfl)) (pgs_cons (pg_name (i := 4) scRf.nd rfl (.inl rfl)) (pgs_cons (pg_name (i := 5) scRf.nd rfl (.inl rfl)) pgs_nil)))))
              (pss_one (ps_asg (pe_tup (pa_cons (pe_glob (v := .str "old") rfl c1 ⟨_, rfl⟩) (pa_cons (pe_op op_add (pv 4) pe_int) (pa_cons (pv 5) pa_nil)))) (pg_sub (pv 1) (pe_un un_neg pe_int) set_list))))
            (pss_one (ps_expr (pe_bm PySem.F.plainAttrs_list PySem.F.slot_list_append PySem.F.type_list_append mt_append (pv 1) (pa_cons (pe_tup (pa_cons (pe_glob (v := .str "old") rfl c1 ⟨_, rfl⟩) (pa_cons pe_int (pa_cons (pe_ix ix_tup (pv 2) pe_int (fun _ _ => rfl)) pa_nil)))) pa_nil)))))))))
      (pss_one (ps_ret (pv 1)))), ?_⟩
    refine ⟨Nat.zero_le _, fun D nD => ?_⟩
    have hlen := hus.length
    dsimp only [gName]
    refine ⟨_, rfl, r, rfl, ⟨_, .inl (.inl (same_upd nD _ _ hr0))⟩, ?_⟩
    refine for_list (K := K) (a := r) (xs := us) (fun i σ H' => ∃ (y2 y3 y4 y5 : Option V) (row : List Di) (vs : List V), σ = [some (.ref r), some (.ref D), y2, y3, y4, y5] ∧ Same H H' ∧ H' D = some (.lst vs) ∧ Paired (DiAt H') row vs ∧ row = (os.take i).foldl flatS [] ∧ row.length ≤ i)
      ⟨_, _, _, _, [], [], rfl, same_upd nD, upd_same, .nil, rfl, Nat.le_refl _⟩ (fun i σ H' _ h => ?_) (fun i x σ H' hx h => ?_) (fun σ H' h => ?_)
    · obtain ⟨_, _, _, _, _, _, _, sm, _⟩ := h
      exact .inl (.inl (sm _ _ hr0))
    · obtain ⟨y2, y3, y4, y5, row, vs, rfl, sm, hD, hP, er, hrl⟩ := h
      have hi : i < os.length := by have := (List.getElem?_eq_some_iff.mp hx).1; omega
      obtain ⟨x', e1, hd0⟩ := paired_get hus (List.getElem?_eq_getElem hi)
      obtain rfl := Option.some.inj (e1.symm.trans hx)
      have hd := hd0.same sm
      have et : (os.take (i + 1)).foldl flatS [] = flatS row os[i] := by
        rw [List.take_add_one, List.getElem?_eq_getElem hi, List.foldl_append, ← er]
        rfl
      have hl2 := flatS_len row os[i]
      rw [et]
      clear er et hd0
      generalize os[i] = o at *
      have hvl := hP.length
      dsimp only [gName]
      have fin : ∀ H3 vs3 (y2 y3 y4 y5 : Option V), Same H H3 → H3 D = some (.lst vs3) → Paired (DiAt H3) (flatS row o) vs3 → ∃ (z2 z3 z4 z5 : Option V) (row3 : List Di) (vs' : List V), [some (V.ref r), some (V.ref D), y2, y3, y4, y5] = [some (V.ref r), some (V.ref D), z2, z3, z4, z5] ∧ Same H H3 ∧ H3 D = some (.lst vs') ∧ Paired (DiAt H3) row3 vs' ∧ row3 = flatS row o ∧ row3.length ≤ i + 1 := fun H3 vs3 y2 y3 y4 y5 h1 h2 h3 => ⟨_, _, _, _, _, vs3, rfl, h1, h2, h3, rfl, by omega⟩
      cases o with
      | b k =>
        obtain rfl : x' = .int (k : Int) := hd
        refine ⟨_, rfl, _, _, _, _, _, rfl, .ty "tuple", .base (.int _), kit_ty (a := "int") (r := false) (by decide +kernel), _, rfl, iteT ?_⟩
        refine ⟨_, rfl, .inl ⟨rfl, _, .inl (.inl hD)⟩, _, rfl, D, _, _, rfl, rfl, hD, by omega, ?_⟩
        exact fin _ (vs ++ [.int (k : Int)]) _ _ _ _ (same_put sm nD) upd_same ((hP.mono fun _ _ h => h.put hD).snoc (show DiAt _ (.b k) (.int (k : Int)) from rfl))
      | o p =>
        obtain ⟨t, rfl, ht⟩ := hd
        refine ⟨_, rfl, _, _, .type "tuple", _, _, rfl, .ty "tuple", .base (.tup ht), kit_ty (a := "tuple") (r := true) (by decide +kernel), _, rfl, iteF ?_⟩
        have fresh : ∀ row', row' = row → (∀ i, row.getLast? = some i → goesB i p = false) → _ := fun _ _ hno => by
          exact (show ∀ tt, H' tt = none → ∃ (z2 z3 z4 z5 : Option V) (row3 : List Di) (vs' : List V), [some (V.ref r), some (V.ref D), some (V.ref t), y3, y4, y5] = [some (V.ref r), some (V.ref D), z2, z3, z4, z5] ∧ Same H (upd (upd H' tt (.tup [.str "old", .int 1, .int (p : Int)])) D (.lst (vs ++ [.ref tt]))) ∧ (upd (upd H' tt (.tup [.str "old", .int 1, .int (p : Int)])) D (.lst (vs ++ [.ref tt]))) D = some (.lst vs') ∧ Paired (DiAt (upd (upd H' tt (.tup [.str "old", .int 1, .int (p : Int)])) D (.lst (vs ++ [.ref tt])))) row3 vs' ∧ row3 = flatS row (.o p) ∧ row3.length ≤ i + 1 from fun tt ntt => by
            have st := same_upd (o := .tup [.str "old", .int 1, .int (p : Int)]) ntt
            refine fin _ (vs ++ [.ref tt]) _ _ _ _ (same_put (sm.trans st) nD) upd_same ?_
            rw [flatS_new hno]
            exact (hP.mono fun _ _ h => (h.same st).put (st _ _ hD)).snoc (DiAt.put (i := .c false 1 p) ⟨tt, rfl, upd_same⟩ (st _ _ hD)))
        rcases List.eq_nil_or_concat row with rfl | ⟨r0, x, rfl⟩
        · have hu0 : vs = [] := List.eq_nil_of_length_eq_zero (by simpa using hvl.symm)
          refine ⟨_, rfl, false, .inl ⟨_, .inl (.inl hD), by rw [hu0]; rfl⟩, iteF (iteF ?_)⟩
          refine ⟨_, rfl, .inl ⟨rfl, _, .inl (.inl hD)⟩, _, rfl, t, _, 0, _, rfl, rfl, .inl (.inl ht), rfl, (by show 3 ≤ sizeLine; omega), fun tt ntt => ?_⟩
          have st := same_upd (o := .tup [.str "old", .int 1, .int (p : Int)]) ntt
          exact ⟨D, _, _, rfl, rfl, st _ _ hD, by omega, fresh _ rfl (fun i hi => by cases hi) tt ntt⟩
        · rw [List.concat_eq_append] at *
          obtain ⟨vs0, v0, rfl, hP0, hx0⟩ := paired_snoc_inv hP
          refine ⟨_, rfl, true, .inl ⟨_, .inl (.inl hD), by simp⟩, iteT ?_⟩
          refine ⟨_, rfl, 1, rfl, D, _, -1, v0, rfl, rfl, .inl (.inl hD), atI_lastV, _, rfl, t, _, 0, _, rfl, rfl, .inl (.inl ht), rfl, _, x, p, rfl, hx0, ?_⟩
          dsimp only [gName]
          cases hg : goesB x p with
          | true =>
            cases x with
            | b n => cases hg
            | c nw m pl =>
              obtain ⟨tx, rfl, htx⟩ := hx0
              have hm : m < 255 := (of_decide_eq_true (show decide (m < 255 ∧ pl + m = p) = true from hg)).1
              refine ⟨_, rfl, iteT ?_⟩
              refine ⟨_, rfl, 1, rfl, D, _, -1, .ref tx, rfl, rfl, .inl (.inl hD), atI_lastV, tx, _, rfl, .inl (.inl htx), rfl, _, _, rfl, _, _, rfl, _, _, rfl, rfl, ?_⟩
              refine ⟨_, rfl, _, _, rfl, rfl, _, rfl, (by show 3 ≤ sizeLine; omega), fun tt ntt => ?_⟩
              have st := same_upd (o := .tup [.str "old", .int ((m : Int) + 1), .int (pl : Int)]) ntt
              refine ⟨_, rfl, 1, rfl, D, _, -1, vs0.length, rfl, rfl, st _ _ hD, ixN_last, ?_⟩
              refine fin _ (vs0 ++ [.ref tt]) _ _ _ _ (same_put (sm.trans st) nD) ?_ ?_
              · rw [upd_same, List.set_append_right _ _ (Nat.le_refl _), Nat.sub_self]
                rfl
              · rw [flatS_on hg]
                refine (hP0.mono fun _ _ h => (h.same st).put (st _ _ hD)).snoc (DiAt.put (i := .c false (m + 1) pl) ⟨tt, rfl, ?_⟩ (st _ _ hD))
                rw [upd_same]
                push_cast
                rfl
          | false =>
            refine ⟨_, rfl, iteF ?_⟩
            refine ⟨_, rfl, .inl ⟨rfl, _, .inl (.inl hD)⟩, _, rfl, t, _, 0, _, rfl, rfl, .inl (.inl ht), rfl, (by show 3 ≤ sizeLine; omega), fun tt ntt => ?_⟩
            have st := same_upd (o := .tup [.str "old", .int 1, .int (p : Int)]) ntt
            refine ⟨D, _, _, rfl, rfl, st _ _ hD, by omega, fresh _ rfl (fun i hi => ?_) tt ntt⟩
            rw [List.getLast?_append] at hi
            obtain rfl := Option.some.inj hi
            exact hg
    · obtain ⟨y2, y3, y4, y5, row, vs, rfl, sm, hD, hP, er, hrl⟩ := h
      rw [← hlen, List.take_length] at er
      refine ⟨_, rfl, q H' D sm nD ⟨vs, hD, ?_⟩⟩
      rw [show flatF os = row from er.symm]
      exact hP
end
end K0

namespace K0
open PySem PySem.Spec PyProof.Rows L2
theorem ixT {X : Cx} (K : PySem.W.Frag) (h : X.K = K := by rfl) : IxR X (rIxT K) := by subst h; exact ix_tup
theorem isiK {X : Cx} (K : PySem.W.Frag) (h : X.K = K := by rfl) : CallR X (.builtin "isinstance") (rIsi K) := by subst h; exact call_isi
theorem makeB_at {os : List Og} {old : List Nat} : (os.map (byteO old)) = makeB os old := rfl
section
variable {P : Program} {w : World} {K : PySem.W.Frag} {mg : Str → Option Value} {base : Heap}
def spPt : Sp := fun vs H Q _ => ∃ (r : Addr) (os : List Og) (old : List Nat), vs = [.ref r, .byt (byB old)] ∧ OsAt H r os ∧ os.length ≤ 2000 ∧ (∀ o ∈ os, OgOk old.length o) ∧ (∀ k ∈ old, k < 256) ∧ old.length ≤ 2000 ∧ ∀ H', Same H H' → Q (.byt (byB (makeB os old))) H'
theorem ok_pt {f : Addr} {fd : FuncData} {j : Nat} (F : Fun K "put_together" "put_together" sPutTo f fd) (m1 : mg "isinstance" = none) (m2 : mg "tuple" = none) (m3 : mg "bytes" = none) :
    FnOk P w K mg base CX0 (j + 1) f fd ["origins", "old"] spPt := by
  refine F.ok scPt (fun vs H Q E h => ?_) (fun cdv A outer s H vs Q E hr h => ?_)
  · obtain ⟨r, os, old, rfl, _⟩ := h
    rfl
  · obtain ⟨r, os, old, rfl, ⟨us, hr0, hus⟩, hl, ho, hk, hol, q⟩ := h
    have hz := PySem.sizeLine_eq
    refine ⟨_, pss_one (ps_ret (pe_callTy (call_bytes_list rfl) (by rfl) m3 (by decide +kernel) (pa_cons
      (pe_lc (own := [("origin", 2)]) (g := gName 2) (tt := tYes) rfl scPt.nd (pi_list (pv 0)) (blkOk_by (N := NPt) (sc := defScope sPutTo) (by decide +kernel)) (fun _ _ _ _ _ => pg_name (i := 2) scPt.nd rfl (.inl rfl)) (fun _ _ _ _ _ => pts_nil)
        (fun _ _ _ _ _ => pe_ifExp (pt_val (pe_callB (isiK K) (by rfl) m1 (by decide +kernel) (pa_cons (pv 2) (pa_cons (pe_bltn (v := .ty "tuple") (by rfl) m2 (by decide +kernel) rfl) pa_nil)))) (pe_item_byt (pv 1) (pe_ix (ixT K) (pv 2) pe_int (fun _ _ => rfl)) (fun _ _ => rfl)) (pv 2))) pa_nil))), ?_⟩
    have hlen := hus.length
    refine ⟨_, rfl, r, rfl, ⟨_, .inl (.inl hr0)⟩, fun D nD => ?_⟩
    refine lc_list (K := K) (a := r) (xs := us) (fun i H' => Same H H' ∧ H' D = some (.lst (bys ((makeB os old).take i)))) ⟨same_upd nD, by rw [upd_same]; rfl⟩ (fun i H' _ h => .inl (.inl (h.1 _ _ hr0))) (fun i x H' hx h => ?_) (fun H' h => ?_)
    · obtain ⟨sm, hD⟩ := h
      have hi : i < os.length := by have := (List.getElem?_eq_some_iff.mp hx).1; omega
      obtain ⟨x', e1, hd0⟩ := paired_get hus (List.getElem?_eq_getElem hi)
      obtain rfl := Option.some.inj (e1.symm.trans hx)
      have hd := hd0.same sm
      have hok := ho os[i] (List.getElem_mem hi)
      have em : (makeB os old)[i]? = some (byteO old os[i]) := by
        unfold makeB
        rw [List.getElem?_map, List.getElem?_eq_getElem hi]
        rfl
      rw [take_snocG em]
      have done : H' D = some (.lst (bys ((makeB os old).take i))) → ∀ k : Nat, k = byteO old os[i] → ∃ acc, H' D = some (.lst acc) ∧ acc.length < sizeLine ∧ (Same H (upd H' D (.lst (acc ++ [.int (k : Int)]))) ∧ (upd H' D (.lst (acc ++ [.int (k : Int)]))) D = some (.lst (bys ((makeB os old).take i ++ [byteO old os[i]])))) := fun hD k ek => ⟨_, hD, by rw [bys_len, List.length_take, makeB_len]; omega, same_put sm nD, by rw [upd_same, ← bys_app, ek]; rfl⟩
      clear hd0
      generalize os[i] = o at *
      refine ⟨rfl, yes ?_⟩
      cases o with
      | b k =>
        obtain rfl : x' = .int (k : Int) := hd
        refine ⟨_, rfl, _, _, _, _, _, rfl, .ty "tuple", .base (.int _), kit_ty (a := "int") (r := false) (by decide +kernel), _, rfl, iteF ?_⟩
        exact ⟨_, rfl, done hD k rfl⟩
      | o p =>
        obtain ⟨t, rfl, ht⟩ := hd
        have hp : p < old.length := hok
        refine ⟨_, rfl, _, _, .type "tuple", _, _, rfl, .ty "tuple", .base (.tup ht), kit_ty (a := "tuple") (r := true) (by decide +kernel), _, rfl, iteT ?_⟩
        refine ⟨_, rfl, _, rfl, t, _, 0, _, rfl, rfl, .inl (.inl ht), rfl, old.map Nat.toUInt8, (p : Int), rfl, rfl, by rw [List.length_map]; omega, by omega, by rw [List.length_map]; omega, ?_⟩
        rw [Int.toNat_natCast, byB_get hk]
        exact done hD _ rfl
    · obtain ⟨sm, hD⟩ := h
      rw [← hlen, ← makeB_len os old, List.take_length] at hD
      refine ⟨D, (makeB os old).map fun (k : Nat) => (k : Int), rfl, .inl (.inl ?_), ?_, ?_⟩
      · exact hD
      · intro n hn
        obtain ⟨k, hk2, rfl⟩ := List.mem_map.mp hn
        have := makeB_lt hk ho k hk2
        exact ⟨by omega, by omega⟩
      · rw [byB_of]
        exact q H' sm
end
end K0

namespace BFX
open PySem PySem.Spec PySem.Calls PyProof.Rows PySem.W PySem.Builtin
theorem win_eq (n m : Nat) : KBf.win n m = winN n m 0 (n : Int) := by
  unfold KBf.win winN
  rw [Int.min_self]
theorem gives_find1 {b c : Array UInt8} {t u : Tok} : Gives («bytes.find» ⟨[.bytes b t, .bytes c u], []⟩) (.int (KBf.told (fnd b c 0 b.size))) := by
  refine .of_wp fun M A E s Q hq => ?_
  show wpAny M A (Bytes.searchArgs .bytes "find" ⟨[.bytes b t, .bytes c u], []⟩ >>= fun r => _) _ E s
  refine wpAny_bind (KBf.wp_args ?_)
  rw [win_eq]
  show wpAny M A (match fnd b c 0 b.size with | some i => retInt (i : Int) | none => rule _ >>= fun _ => retInt (-1)) _ E s
  cases e : fnd b c 0 b.size with
  | none =>
    rw [e] at hq
    exact wpAny_bind (wpAny_rule (wpAny_bind (wpAny_mkInt (wpAny_pure ⟨_, rfl, hq⟩))))
  | some i =>
    rw [e] at hq
    exact wpAny_bind (wpAny_mkInt (wpAny_pure ⟨_, rfl, hq⟩))
end BFX
namespace L2
open PySem PySem.Spec PySem.Calls PyProof.Rows
theorem mt_bfind1 {X : Cx} : MtR X "bytes.find" (fun x xs H Q => ∃ (a b : Array UInt8), x = .byt a ∧ xs = [.byt b] ∧ Q (.int (PySem.W.KBf.told (BFX.fnd a b 0 a.size))) H) := by
  intro pins s σ H x xs v us Q I rx rs h
  obtain ⟨a, b, rfl, rfl, h⟩ := h
  obtain ⟨t, rfl⟩ := rx
  cases rs with
  | cons r1 rs =>
    cases rs
    obtain ⟨u, rfl⟩ := r1
    exact call_gives PySem.W.KBf.slot_find (PySem.W.typeIs_bytes _ _ _) PySem.W.KBf.entry_find (PySem.W.KBf.args_find _ _) BFX.gives_find1 ⟨V.int _, H, I.tok (s.toks + 1), ⟨_, rfl⟩, h⟩
end L2
namespace K0
open PySem PySem.Spec PyProof.Rows L2
/-! ### how far copies reach -/
theorem scMa : FnScope ["new", "at"] ["new", "at"] (defScope sMostAt) := ⟨rfl, rfl, rfl, by decide +kernel, rfl, by decide +kernel, by decide +kernel⟩
abbrev NLn : List Str := ["new", "found", "many", "at"]
theorem scLn : FnScope NLn ["new"] (defScope sLongN) := ⟨rfl, rfl, rfl, by decide +kernel, rfl, by decide +kernel, by decide +kernel⟩
abbrev NLo : List Str := ["old", "new", "found", "many", "at"]
theorem scLo : FnScope NLo ["old", "new"] (defScope sLongO) := ⟨rfl, rfl, rfl, by decide +kernel, rfl, by decide +kernel, by decide +kernel⟩
def mostN (e : List Nat) (i : Nat) : Nat := min 255 (e.length - i)
def CpN (e : List Nat) (i m : Nat) : Prop := m = 0 ∨ ∃ s, s < i ∧ sliceN e s m = sliceN e i m
def CpO (old e : List Nat) (i m : Nat) : Prop := ∃ s, s + m ≤ old.length ∧ sliceN old s m = sliceN e i m
def LongN (e : List Nat) (i m : Nat) : Prop := m ≤ mostN e i ∧ CpN e i m ∧ (m < mostN e i → ¬ CpN e i (m + 1))
def LongO (old e : List Nat) (i m : Nat) : Prop := m ≤ mostN e i ∧ CpO old e i m ∧ (m < mostN e i → ¬ CpO old e i (m + 1))
theorem slice_tail (e : List Nat) (i m : Nat) : sliceN e (i + 1) m = (sliceN e i (m + 1)).drop 1 := by
  unfold sliceN
  rw [List.drop_take, List.drop_drop]
  rfl
theorem CpN.next {e : List Nat} {i m : Nat} (h : CpN e i m) : CpN e (i + 1) (m - 1) := by
  rcases h with rfl | ⟨s, h1, h2⟩
  · exact .inl rfl
  · cases m with
    | zero => exact .inl rfl
    | succ m =>
      refine .inr ⟨s + 1, by omega, ?_⟩
      show sliceN e (s + 1) m = sliceN e (i + 1) m
      rw [slice_tail, slice_tail, h2]
theorem CpO.next {old e : List Nat} {i m : Nat} (h : CpO old e i m) : CpO old e (i + 1) (m - 1) := by
  obtain ⟨s, h1, h2⟩ := h
  cases m with
  | zero => exact ⟨0, Nat.zero_le _, by show (old.drop 0).take 0 = (e.drop (i + 1)).take 0; rw [List.take_zero, List.take_zero]⟩
  | succ m =>
    refine ⟨s + 1, by show s + 1 + m ≤ _; omega, ?_⟩
    show sliceN old (s + 1) m = sliceN e (i + 1) m
    rw [slice_tail, slice_tail, h2]
theorem cpO_zero (old e : List Nat) (i : Nat) : CpO old e i 0 := ⟨0, Nat.zero_le _, by show (old.drop 0).take 0 = (e.drop i).take 0; rw [List.take_zero, List.take_zero]⟩
theorem fndN_step {e : List Nat} {i m : Nat} {o : Option Nat} (hm : i + (m + 1) ≤ e.length) (F : FndIs e (sliceN e i (m + 1)) 0 (i + m) o) : (o = none → ¬ CpN e i (m + 1)) ∧ (∀ s, o = some s → CpN e i (m + 1)) := by
  have hl : (sliceN e i (m + 1)).length = m + 1 := by rw [slice_len]; omega
  have no := F.no
  have yes := F.yes
  rw [hl] at no yes
  refine ⟨fun z h => ?_, fun s z => ?_⟩
  · rcases h with h | ⟨s, h1, h2⟩
    · omega
    · exact no z s (Nat.zero_le _) (by omega) h2
  · obtain ⟨_, h2, h3, _⟩ := yes s z
    exact .inr ⟨s, by omega, h3⟩
theorem fndO_step {old e : List Nat} {i m : Nat} {o : Option Nat} (hm : i + (m + 1) ≤ e.length) (F : FndIs old (sliceN e i (m + 1)) 0 old.length o) : (o = none → ¬ CpO old e i (m + 1)) ∧ (∀ s, o = some s → CpO old e i (m + 1)) := by
  have hl : (sliceN e i (m + 1)).length = m + 1 := by rw [slice_len]; omega
  have no := F.no
  have yes := F.yes
  rw [hl] at no yes
  refine ⟨fun z ⟨s, h1, h2⟩ => no z s (Nat.zero_le _) (by omega) h2, fun s z => ?_⟩
  obtain ⟨_, h2, h3, _⟩ := yes s z
  exact ⟨s, by omega, h3⟩
section
variable {P : Program} {w : World} {K : PySem.W.Frag} {mg : Str → Option Value} {base : Heap}
def spMa : Sp := fun vs H Q _ => ∃ (e : List Nat) (i : Nat), vs = [.byt (byB e), .int (i : Int)] ∧ e.length ≤ 2000 ∧ i ≤ e.length ∧ Q (.int ((mostN e i : Nat) : Int)) H
theorem ok_ma {f : Addr} {fd : FuncData} {j : Nat} {t1 : Tok} (F : Fun K "most_at" "most_at" sMostAt f fd) (m1 : mg "min" = none) (m2 : mg "len" = none) (c1 : mg "MOST_AT_ONCE" = some (.int 255 t1)) :
    FnOk P w K mg base CX0 (j + 1) f fd ["new", "at"] spMa := by
  refine F.ok scMa (fun vs H Q E h => ?_) (fun cdv A outer s H vs Q E hr h => ?_)
  · obtain ⟨e, i, rfl, _⟩ := h
    rfl
  · obtain ⟨e, i, rfl, hl, hi, q⟩ := h
    have hz := PySem.sizeLine_eq
    refine ⟨_, pss_one (ps_ret (pe_callB (call_min2 rfl) (by rfl) m1 (by decide +kernel) (pa_cons (pe_glob (v := .int 255) rfl c1 ⟨_, rfl⟩) (pa_cons (pe_op op_sub (pe_callB call_len (by rfl) m2 PySem.boot_len (pa_cons (pv 0) pa_nil)) (pv 1)) pa_nil)))), ?_⟩
    refine ⟨_, rfl, _, (byB e).size, rfl, ⟨by rw [byB_size]; omega, rfl⟩, _, rfl, _, _, rfl, rfl, _, _, rfl, ?_⟩
    have e4 : (if ((byB e).size : Int) - (i : Int) < 255 then ((byB e).size : Int) - (i : Int) else 255) = ((mostN e i : Nat) : Int) := by
      unfold mostN
      rw [byB_size]
      split <;> omega
    rw [e4]
    exact q
def spLn : Sp := fun vs H Q _ => ∃ e : List Nat, vs = [.byt (byB e)] ∧ (∀ k ∈ e, k < 256) ∧ e.length ≤ 2000 ∧
  ∀ H' q ms, Same H H' → H q = none → H' q = some (.lst (bys ms)) → ms.length = e.length → (∀ i, i < e.length → LongN e i (ms.getD i 0)) → Q (.ref q) H'
theorem getD_snoc {ms : List Nat} {m i : Nat} {P : Nat → Nat → Prop} (h : ∀ t, t < ms.length → P t (ms.getD t 0)) (hm : P ms.length m) : ∀ t, t < (ms ++ [m]).length → P t ((ms ++ [m]).getD t 0) := fun t ht => by
  rw [List.length_append] at ht
  have ht : t < ms.length + 1 := ht
  by_cases q : t < ms.length
  · rw [List.getD_eq_getElem?_getD, List.getElem?_append_left q, ← List.getD_eq_getElem?_getD]
    exact h t q
  · have : t = ms.length := by omega
    subst this
    rw [List.getD_eq_getElem?_getD, List.getElem?_append_right (Nat.le_refl _), Nat.sub_self]
    exact hm
theorem ok_ln {f fM : Addr} {fd fdM : FuncData} {j k1 : Nat} (F : Fun K "longest_new" "longest_new" sLongN f fd) (GM : FnOk P w K mg base CX0 k1 fM fdM ["new", "at"] spMa) (bM : Binds K fdM ["new", "at"] []) (kM : PySem.W.keepIn K (.ref fM) = true) (gM : mg "most_at" = some (.ref fM)) (l1 : k1 ≤ j)
    (m1 : mg "range" = none) (m2 : mg "len" = none) (m3 : mg "max" = none) : FnOk P w K mg base CX0 (j + 1) f fd ["new"] spLn := by
  refine F.ok scLn (fun vs H Q E h => ?_) (fun cdv A outer s H vs Q E hr h => ?_)
  · obtain ⟨e, rfl, _⟩ := h
    rfl
  · obtain ⟨e, rfl, hk, hl, q⟩ := h
    have hz := PySem.sizeLine_eq
    refine ⟨_, pss_cons (ps_set (i := 1) scLn.nd rfl (.inl rfl) (pe_lst pa_nil))
      (pss_cons (ps_set (i := 2) scLn.nd rfl (.inl rfl) pe_int)
      (pss_cons (ps_for PassesOwn.never rfl (pi_range1 (by rfl) m1 (pa_cons (pe_callB call_len (by rfl) m2 PySem.boot_len (pa_cons (pv 0) pa_nil)) pa_nil)) (pg_name (i := 3) scLn.nd rfl (.inl rfl))
        (pss_cons (ps_set (i := 2) scLn.nd rfl (.inl rfl) (pe_callB (call_max2 rfl) (by rfl) m3 (by decide +kernel) (pa_cons pe_int (pa_cons (pe_op op_sub (pv 2) pe_int) pa_nil))))
        (pss_cons (ps_while PassesOwn.never (PW.pt (pw_and (pt_cmpR op_lt (pv 2) (pe_call GM (hr.mono l1) (by rfl) gM kM bM .nil pass0 (pa_cons (pv 0) (pa_cons (pv 3) pa_nil))) (nomark _))
            (pw_and1 (pt_cmpR op_ge (pe_bmB PySem.W.KBf.slot_find PySem.W.KBf.type_find mt_bfind4 (pv 0) (pa_cons (pe_slice sl_byt (pv 0) (po_some (pv 3)) (po_some (pe_op op_add (pe_op op_add (pv 3) (pv 2)) pe_int))) (pa_cons pe_int (pa_cons (pe_op op_add (pv 3) (pv 2)) pa_nil)))) pe_int (nomark _)))))
          (pss_one (ps_aug (i := 2) scLn.nd rfl (.inl rfl) pe_int ip_add)))
        (pss_one (ps_expr (pe_bm PySem.F.plainAttrs_list PySem.F.slot_list_append PySem.F.type_list_append mt_append (pv 1) (pa_cons (pv 2) pa_nil)))))))
      (pss_one (ps_ret (pv 1))))), ?_⟩
    refine ⟨Nat.zero_le _, fun D nD => ?_⟩
    dsimp only [gName]
    refine ⟨_, rfl, _, (byB e).size, rfl, ⟨by rw [byB_size]; omega, rfl⟩, ((byB e).size : Int), rfl, by rw [byB_size]; omega, by rw [byB_size]; omega, ?_⟩
    refine for_range (lo := 0) (n := (((byB e).size : Nat) : Int).toNat) (fun i σ H' => ∃ (y3 : Option V) (m : Nat) (ms : List Nat), σ = [some (.byt (byB e)), some (.ref D), some (.int (m : Int)), y3] ∧ Same H H' ∧ H' D = some (.lst (bys ms)) ∧ ms.length = i ∧ (∀ t, t < ms.length → LongN e t (ms.getD t 0)) ∧ CpN e i (m - 1) ∧ m ≤ mostN e i + 1)
      ⟨_, 0, [], rfl, same_upd nD, upd_same, rfl, fun t z => absurd z (Nat.not_lt_zero _), .inl rfl, Nat.zero_le _⟩ (fun i σ H' hi h => ?_) (fun σ H' h => ?_)
    · obtain ⟨y3, m, ms, rfl, sm, hD, hml, hms, hcp, hmb⟩ := h
      rw [Int.toNat_natCast, byB_size] at hi
      have e0 : (0 : Int) + (i : Int) = (i : Int) := by omega
      rw [e0]
      refine ⟨_, rfl, _, _, rfl, rfl, _, _, rfl, ?_⟩
      have e1 : (if (m : Int) - 1 > 0 then (m : Int) - 1 else 0) = ((m - 1 : Nat) : Int) := by split <;> omega
      dsimp only [gName]
      rw [e1]
      refine ⟨fun n σ H3 => ∃ m : Nat, σ = [some (.byt (byB e)), some (.ref D), some (.int (m : Int)), some (.int (i : Int))] ∧ H3 = H' ∧ m ≤ mostN e i ∧ n = mostN e i - m ∧ CpN e i m, ⟨_, m - 1, rfl, rfl, by omega, rfl, hcp⟩, fun n σ H3 hW => ?_⟩
      obtain ⟨m, rfl, rfl, hm, rfl, hc⟩ := hW
      have hmost : mostN e i ≤ 255 ∧ mostN e i ≤ e.length - i := ⟨Nat.min_le_left _ _, Nat.min_le_right _ _⟩
      have fin : LongN e i m → ∃ (z3 : Option V) (m_1 : Nat) (ms_1 : List Nat), [some (V.byt (byB e)), some (.ref D), some (.int (m : Int)), some (.int (i : Int))] = [some (.byt (byB e)), some (.ref D), some (.int (m_1 : Int)), z3] ∧ Same H (upd H3 D (.lst (bys ms ++ [.int (m : Int)]))) ∧ (upd H3 D (.lst (bys ms ++ [.int (m : Int)]))) D = some (.lst (bys ms_1)) ∧ ms_1.length = i + 1 ∧ (∀ t, t < ms_1.length → LongN e t (ms_1.getD t 0)) ∧ CpN e (i + 1) (m_1 - 1) ∧ m_1 ≤ mostN e (i + 1) + 1 := fun hL =>
        ⟨_, m, ms ++ [m], rfl, same_put sm nD, by rw [upd_same, ← bys_app]; rfl, by rw [List.length_append, hml]; rfl, getD_snoc (i := 0) (P := fun t x => LongN e t x) hms (by rw [hml]; exact hL), hc.next, by unfold mostN at *; omega⟩
      refine ⟨_, rfl, _, rfl, _, rfl, e, i, rfl, hl, by omega, _, _, rfl, rfl, _, rfl, ite2 (fun t1 => ?_) (fun t1 => ?_)⟩
      · have t1 : m < mostN e i := by have := of_decide_eq_true t1; omega
        refine ⟨_, rfl, ⟨_, rfl⟩, _, rfl, _, rfl, _, rfl, _, rfl, _, rfl, _, _, rfl, rfl, _, _, rfl, rfl, _, rfl, _, rfl, (by rw [byB_size]; omega), ?_⟩
        have e3 : PySem.W.KBy.picked (byB e) (some (i : Int)) (some ((i : Int) + (m : Int) + 1)) = byB (sliceN e i (m + 1)) := by
          rw [show (i : Int) + (m : Int) + 1 = ((i + (m + 1) : Nat) : Int) by push_cast; omega]
          exact picked_slice e i (m + 1) (by omega)
        dsimp only
        rw [e3]
        refine ⟨_, rfl, _, rfl, _, _, rfl, rfl, _, _, _, _, rfl, rfl, Int.le_refl 0, by omega, ?_⟩
        have FI := fnd_is hk (slice_lt hk (i := i) (m := m + 1)) 0 (i + m)
        have e4 : ((0 : Nat) : Int) = 0 := rfl
        have e5 : (i : Int) + (m : Int) = ((i + m : Nat) : Int) := by push_cast; rfl
        rw [e5]
        rw [e4] at FI
        obtain ⟨s1, s2⟩ := fndN_step (by omega) FI
        generalize BFX.fnd (byB e) (byB (sliceN e i (m + 1))) 0 ((i + m : Nat) : Int) = o at *
        refine ⟨_, _, rfl, rfl, _, rfl, ?_⟩
        cases o with
        | none =>
          refine iteF ?_
          refine ⟨_, rfl, .inl ⟨rfl, _, .inl (.inl hD)⟩, _, rfl, D, _, _, rfl, rfl, hD, by rw [bys_len]; omega, fin ⟨hm, hc, fun _ => s1 rfl⟩⟩
        | some x =>
          have hx : (0 : Int) ≤ (x : Int) := by omega
          refine iteC (decide_eq_true hx) ?_
          refine ⟨_, fun _ _ h => h, ?_⟩
          refine ⟨_, rfl, _, _, rfl, rfl, mostN e i - (m + 1), by omega, m + 1, by push_cast; rfl, rfl, by omega, rfl, s2 x rfl⟩
      · have t1 : ¬ m < mostN e i := fun z => t1 (decide_eq_true (by omega))
        refine iteF ?_
        refine ⟨_, rfl, .inl ⟨rfl, _, .inl (.inl hD)⟩, _, rfl, D, _, _, rfl, rfl, hD, by rw [bys_len]; omega, fin ⟨hm, hc, fun z => absurd z t1⟩⟩
    · obtain ⟨y3, m, ms, rfl, sm, hD, hml, hms, hcp, hmb⟩ := h
      rw [Int.toNat_natCast, byB_size] at hml
      exact ⟨_, rfl, q H' D ms sm nD hD hml (by rw [← hml]; exact hms)⟩
end
end K0

namespace K0
open PySem PySem.Spec PyProof.Rows L2
section
variable {P : Program} {w : World} {K : PySem.W.Frag} {mg : Str → Option Value} {base : Heap}
def spLo : Sp := fun vs H Q _ => ∃ old e : List Nat, vs = [.byt (byB old), .byt (byB e)] ∧ (∀ k ∈ old, k < 256) ∧ old.length ≤ 2000 ∧ (∀ k ∈ e, k < 256) ∧ e.length ≤ 2000 ∧
  ∀ H' q ms, Same H H' → H q = none → H' q = some (.lst (bys ms)) → ms.length = e.length → (∀ i, i < e.length → LongO old e i (ms.getD i 0)) → Q (.ref q) H'
theorem ok_lo {f fM : Addr} {fd fdM : FuncData} {j k1 : Nat} (F : Fun K "longest_old" "longest_old" sLongO f fd) (GM : FnOk P w K mg base CX0 k1 fM fdM ["new", "at"] spMa) (bM : Binds K fdM ["new", "at"] []) (kM : PySem.W.keepIn K (.ref fM) = true) (gM : mg "most_at" = some (.ref fM)) (l1 : k1 ≤ j)
    (m1 : mg "range" = none) (m2 : mg "len" = none) (m3 : mg "max" = none) : FnOk P w K mg base CX0 (j + 1) f fd ["old", "new"] spLo := by
  refine F.ok scLo (fun vs H Q E h => ?_) (fun cdv A outer s H vs Q E hr h => ?_)
  · obtain ⟨old, e, rfl, _⟩ := h
    rfl
  · obtain ⟨old, e, rfl, hko, hol, hk, hl, q⟩ := h
    have hz := PySem.sizeLine_eq
    refine ⟨_, pss_cons (ps_set (i := 2) scLo.nd rfl (.inl rfl) (pe_lst pa_nil))
      (pss_cons (ps_set (i := 3) scLo.nd rfl (.inl rfl) pe_int)
      (pss_cons (ps_for PassesOwn.never rfl (pi_range1 (by rfl) m1 (pa_cons (pe_callB call_len (by rfl) m2 PySem.boot_len (pa_cons (pv 1) pa_nil)) pa_nil)) (pg_name (i := 4) scLo.nd rfl (.inl rfl))
        (pss_cons (ps_set (i := 3) scLo.nd rfl (.inl rfl) (pe_callB (call_max2 rfl) (by rfl) m3 (by decide +kernel) (pa_cons pe_int (pa_cons (pe_op op_sub (pv 3) pe_int) pa_nil))))
        (pss_cons (ps_while PassesOwn.never (PW.pt (pw_and (pt_cmpR op_lt (pv 3) (pe_call GM (hr.mono l1) (by rfl) gM kM bM .nil pass0 (pa_cons (pv 1) (pa_cons (pv 4) pa_nil))) (nomark _))
            (pw_and1 (pt_cmpR op_ge (pe_bmB PySem.W.KBf.slot_find PySem.W.KBf.type_find mt_bfind1 (pv 0) (pa_cons (pe_slice sl_byt (pv 1) (po_some (pv 4)) (po_some (pe_op op_add (pe_op op_add (pv 4) (pv 3)) pe_int))) pa_nil)) pe_int (nomark _)))))
          (pss_one (ps_aug (i := 3) scLo.nd rfl (.inl rfl) pe_int ip_add)))
        (pss_one (ps_expr (pe_bm PySem.F.plainAttrs_list PySem.F.slot_list_append PySem.F.type_list_append mt_append (pv 2) (pa_cons (pv 3) pa_nil)))))))
      (pss_one (ps_ret (pv 2))))), ?_⟩
    refine ⟨Nat.zero_le _, fun D nD => ?_⟩
    dsimp only [gName]
    refine ⟨_, rfl, _, (byB e).size, rfl, ⟨by rw [byB_size]; omega, rfl⟩, ((byB e).size : Int), rfl, by rw [byB_size]; omega, by rw [byB_size]; omega, ?_⟩
    refine for_range (lo := 0) (n := (((byB e).size : Nat) : Int).toNat) (fun i σ H' => ∃ (y3 : Option V) (m : Nat) (ms : List Nat), σ = [some (.byt (byB old)), some (.byt (byB e)), some (.ref D), some (.int (m : Int)), y3] ∧ Same H H' ∧ H' D = some (.lst (bys ms)) ∧ ms.length = i ∧ (∀ t, t < ms.length → LongO old e t (ms.getD t 0)) ∧ CpO old e i (m - 1) ∧ m ≤ mostN e i + 1)
      ⟨_, 0, [], rfl, same_upd nD, upd_same, rfl, fun t z => absurd z (Nat.not_lt_zero _), cpO_zero _ _ _, Nat.zero_le _⟩ (fun i σ H' hi h => ?_) (fun σ H' h => ?_)
    · obtain ⟨y3, m, ms, rfl, sm, hD, hml, hms, hcp, hmb⟩ := h
      rw [Int.toNat_natCast, byB_size] at hi
      have e0 : (0 : Int) + (i : Int) = (i : Int) := by omega
      rw [e0]
      refine ⟨_, rfl, _, _, rfl, rfl, _, _, rfl, ?_⟩
      have e1 : (if (m : Int) - 1 > 0 then (m : Int) - 1 else 0) = ((m - 1 : Nat) : Int) := by split <;> omega
      dsimp only [gName]
      rw [e1]
      refine ⟨fun n σ H3 => ∃ m : Nat, σ = [some (.byt (byB old)), some (.byt (byB e)), some (.ref D), some (.int (m : Int)), some (.int (i : Int))] ∧ H3 = H' ∧ m ≤ mostN e i ∧ n = mostN e i - m ∧ CpO old e i m, ⟨_, m - 1, rfl, rfl, by omega, rfl, hcp⟩, fun n σ H3 hW => ?_⟩
      obtain ⟨m, rfl, rfl, hm, rfl, hc⟩ := hW
      have hmost : mostN e i ≤ 255 ∧ mostN e i ≤ e.length - i := ⟨Nat.min_le_left _ _, Nat.min_le_right _ _⟩
      have fin : LongO old e i m → ∃ (z3 : Option V) (m_1 : Nat) (ms_1 : List Nat), [some (V.byt (byB old)), some (V.byt (byB e)), some (.ref D), some (.int (m : Int)), some (.int (i : Int))] = [some (.byt (byB old)), some (.byt (byB e)), some (.ref D), some (.int (m_1 : Int)), z3] ∧ Same H (upd H3 D (.lst (bys ms ++ [.int (m : Int)]))) ∧ (upd H3 D (.lst (bys ms ++ [.int (m : Int)]))) D = some (.lst (bys ms_1)) ∧ ms_1.length = i + 1 ∧ (∀ t, t < ms_1.length → LongO old e t (ms_1.getD t 0)) ∧ CpO old e (i + 1) (m_1 - 1) ∧ m_1 ≤ mostN e (i + 1) + 1 := fun hL =>
        ⟨_, m, ms ++ [m], rfl, same_put sm nD, by rw [upd_same, ← bys_app]; rfl, by rw [List.length_append, hml]; rfl, getD_snoc (i := 0) (P := fun t x => LongO old e t x) hms (by rw [hml]; exact hL), hc.next, by unfold mostN at *; omega⟩
      refine ⟨_, rfl, _, rfl, _, rfl, e, i, rfl, hl, by omega, _, _, rfl, rfl, _, rfl, ite2 (fun t1 => ?_) (fun t1 => ?_)⟩
      · have t1 : m < mostN e i := by have := of_decide_eq_true t1; omega
        refine ⟨_, rfl, ⟨_, rfl⟩, _, rfl, _, rfl, _, rfl, _, rfl, _, rfl, _, _, rfl, rfl, _, _, rfl, rfl, _, rfl, _, rfl, (by rw [byB_size]; omega), ?_⟩
        have e3 : PySem.W.KBy.picked (byB e) (some (i : Int)) (some ((i : Int) + (m : Int) + 1)) = byB (sliceN e i (m + 1)) := by
          rw [show (i : Int) + (m : Int) + 1 = ((i + (m + 1) : Nat) : Int) by push_cast; omega]
          exact picked_slice e i (m + 1) (by omega)
        dsimp only
        rw [e3]
        refine ⟨_, _, rfl, rfl, ?_⟩
        have FI := fnd_is hko (slice_lt hk (i := i) (m := m + 1)) 0 old.length
        have e4 : ((0 : Nat) : Int) = 0 := rfl
        rw [byB_size]
        rw [e4] at FI
        obtain ⟨s1, s2⟩ := fndO_step (by omega) FI
        generalize BFX.fnd (byB old) (byB (sliceN e i (m + 1))) 0 (old.length : Int) = o at *
        refine ⟨_, _, rfl, rfl, _, rfl, ?_⟩
        cases o with
        | none =>
          refine iteF ?_
          refine ⟨_, rfl, .inl ⟨rfl, _, .inl (.inl hD)⟩, _, rfl, D, _, _, rfl, rfl, hD, by rw [bys_len]; omega, fin ⟨hm, hc, fun _ => s1 rfl⟩⟩
        | some x =>
          have hx : (0 : Int) ≤ (x : Int) := by omega
          refine iteC (decide_eq_true hx) ?_
          refine ⟨_, fun _ _ h => h, ?_⟩
          refine ⟨_, rfl, _, _, rfl, rfl, mostN e i - (m + 1), by omega, m + 1, by push_cast; rfl, rfl, by omega, rfl, s2 x rfl⟩
      · have t1 : ¬ m < mostN e i := fun z => t1 (decide_eq_true (by omega))
        refine iteF ?_
        refine ⟨_, rfl, .inl ⟨rfl, _, .inl (.inl hD)⟩, _, rfl, D, _, _, rfl, rfl, hD, by rw [bys_len]; omega, fin ⟨hm, hc, fun z => absurd z t1⟩⟩
    · obtain ⟨y3, m, ms, rfl, sm, hD, hml, hms, hcp, hmb⟩ := h
      rw [Int.toNat_natCast, byB_size] at hml
      exact ⟨_, rfl, q H' D ms sm nD hD hml (by rw [← hml]; exact hms)⟩
end
end K0

namespace PySem.W
open PySem PySem.Spec PyProof.Rows
section
variable {prog : Program} {w : World} {A : Around} {E : Value → Shared → Prop} {s : Shared}
theorem max_list_dataI {l : Addr} {vs : Array Value} {x : PyData} {xs : List PyData} {as : List Addr} {Q : Value → Shared → Prop} (hh : A.handled = none) (hl : s.heap.IsList l vs) (hr : ReadsAll s.heap vs.toList (x :: xs) as) (ha : AlikeAll (x :: xs)) (hu : A.units + 1 + PyData.depthAll (x :: xs) < cLine)
    (h : ∀ (i : Nat) v h' tk, vs[i]? = some v → (x :: xs).getD i .none = maxD x xs → (∀ b o, s.heap.get? b = some o → h'.get? b = some o) → Q v { s with heap := h', toks := tk }) :
    wpAny (model prog w) A (call (.builtin "max") [.ref l]) Q E s := by
  have hn : vs.size = xs.length + 1 := readsAll_len hr
  refine call_max_walkH (iter_listW (A := A.in1) hh hl fun s₂ e W st hfp hw hk => ?_)
  refine ⟨_, _, _, _, _, _, _, s.heap, _, rfl, W, st, hfp, by omega, hw, hk, cmpIn_gt (A := A.in1) hr ha (by show A.units + 1 + _ < _; exact hu), fun v s' hP m => ?_⟩
  obtain ⟨h', tk, rfl, hk'⟩ := moved_old e rfl m
  obtain ⟨bs, r, _, _, _⟩ := readsAll_atA hr _ v hP
  have e1 : vs.size - 1 = xs.length := by omega
  have e2 := (argBest_fold (fun a b => dataLt b a) PyData.none x xs xs.length (Nat.le_refl _)).2
  rw [List.take_length] at e2
  have hP' := hP
  rw [e1] at hP'
  exact h _ v h' tk hP' (by unfold maxD; rw [← e2]) hk'
end
end PySem.W
namespace L2
open PySem PySem.Spec PyProof.Rows
/-! ### max of a list of pairs (an int, a bool) -/
def pD (p : Int × Bool) : PyData := .tuple [.int p.1, .bool p.2]
def PrAt (H : Hp) (p : Int × Bool) (v : V) : Prop := ∃ t, v = .ref t ∧ H t = some (.tup [.int p.1, .bl p.2])
def rMaxP (K : PySem.W.Frag) : List V → Hp → VK → Prop := fun vs H Q => ∃ (a : Addr) (xs : List V) (p : Int × Bool) (ps : List (Int × Bool)), vs = [V.ref a] ∧ SqL K H a xs ∧ Paired (PrAt H) (p :: ps) xs ∧
  ∀ (i : Nat) (q : Int × Bool) (v : V), (p :: ps)[i]? = some q → xs[i]? = some v → pD q = PySem.W.maxD (pD p) (ps.map pD) → Q v H
theorem reads_pairs {X : Cx} {pins : List (Addr × Obj)} {σ : St} {H : Hp} {s : Shared} (I : Inv X pins σ H s) : ∀ {ps : List (Int × Bool)} {xs : List V} {its : List Value}, Paired (PrAt H) ps xs → Vals xs its → ∃ as, ReadsAll s.heap its (ps.map pD) as
  | [], _, _, .nil, .nil => ⟨_, .nil⟩
  | p :: ps, _, _, .cons h hs, .cons r rs => by
    obtain ⟨as, h1⟩ := reads_pairs I hs rs
    obtain ⟨t, rfl, ht⟩ := h
    obtain ⟨bs, h2⟩ := Dp.reads I (pD p) (.ref t) _ (.tup (.inl (.inl ht)) (.cons (.int _) (.cons (.bl _) .nil))) r
    exact ⟨_, .cons h2 h1⟩
theorem depth_pairs : ∀ ps : List (Int × Bool), PyData.depthAll (ps.map pD) ≤ 1
  | [] => Nat.zero_le _
  | p :: r => by
    have ih := depth_pairs r
    show max (pD p).depth (PyData.depthAll (r.map pD)) ≤ 1
    have : (pD p).depth = 1 := by simp [pD, PyData.depth, PyData.depthAll]
    omega
theorem cr_maxP {X : Cx} (hc : X.calm = true) {j : Nat} (hr : Room j X.A) : CallR X (.builtin "max") (rMaxP X.K) := by
  intro pins s σ H vs us Q I r h
  obtain ⟨a, xs, p, ps, rfl, hs, hP, q⟩ := h
  obtain ⟨its, rv, hl, _⟩ := I.list hs
  rw [Vals.ref1 r]
  obtain ⟨as, hra⟩ := reads_pairs I hP rv
  have hu := hr.un
  refine PySem.W.max_list_dataI (x := pD p) (xs := ps.map pD) (I.ok.hd hc) (show s.heap.IsList a its.toArray from hl.isList) (by simpa using hra) ⟨fun x hx y hy => ?_, fun x hx z => ?_⟩ ?_ fun i v h' tk hv he hk => ?_
  · have hx : x ∈ (p :: ps).map pD := hx
    have hy : y ∈ (p :: ps).map pD := hy
    obtain ⟨a1, _, rfl⟩ := List.mem_map.mp hx
    obtain ⟨a2, _, rfl⟩ := List.mem_map.mp hy
    rfl
  · have hx : x ∈ (p :: ps).map pD := hx
    obtain ⟨a1, _, rfl⟩ := List.mem_map.mp hx
    cases z
  · show X.A.units + 1 + PyData.depthAll ((p :: ps).map pD) < cLine
    have := depth_pairs (p :: ps)
    omega
  · have hv : its[i]? = some v := by simpa using hv
    have hlen := hP.length
    have hil : i < xs.length := by rw [rv.length]; exact (List.getElem?_eq_some_iff.mp hv).1
    obtain ⟨u, hu2, ru⟩ := rv.get (List.getElem?_eq_getElem hil)
    obtain rfl := Option.some.inj (hv.symm.trans hu2)
    have hip : i < (p :: ps).length := by omega
    refine ⟨_, H, I.kept hk, ru, q i _ _ (List.getElem?_eq_getElem hip) (List.getElem?_eq_getElem hil) ?_⟩
    rw [← he]
    show pD (p :: ps)[i] = ((p :: ps).map pD).getD i PyData.none
    rw [List.getD_eq_getElem?_getD, List.getElem?_map, List.getElem?_eq_getElem hip]
    rfl
end L2

namespace K0
open PySem PySem.Spec PyProof.Rows L2
/-! ### Reaches -/
def reF (y z : Array UInt8) (p q : Addr) : List (Str × V) := [(("old" : Str), V.byt y), (("new" : Str), V.byt z), (("many_new" : Str), V.ref p), (("many_old" : Str), V.ref q)]
theorem seq_mid {ts tr : TS} {D : Ends} {σ : L2.St} {H : Hp} (Mid : L2.St → Hp → Prop) (ht : ∀ N : L2.St → Hp → Prop, (∀ σ' H', Mid σ' H' → N σ' H') → ts { D with nx := N } σ H) (hr : ∀ σ' H', Mid σ' H' → tr D σ' H') : tSeq ts tr D σ H := ht _ hr
theorem ixN_natK {n j : Nat} (hj : j < n) : ixN n (j : Int) = some j := by
  unfold ixN
  rw [if_pos (by omega), if_pos (by omega)]
  simp
theorem at_of' {ks : List Nat} {i : Int} {k : Nat} (e : i = (k : Int)) (h : k < ks.length) : atI (bys ks) i = some (.int ((ks.getD k 0 : Nat) : Int)) := by
  subst e
  rw [bys_eq]
  refine atI_nat ?_
  rw [List.getElem?_map, List.getElem?_eq_getElem h, List.getD_eq_getElem?_getD, List.getElem?_eq_getElem h]
  rfl
theorem reF_o (y z : Array UInt8) (p q : Addr) : (reF y z p q).lookup ("old" : Str) = some (.byt y) := lkH
theorem reF_n (y z : Array UInt8) (p q : Addr) : (reF y z p q).lookup ("new" : Str) = some (.byt z) := (lkP (by decide +kernel)).trans lkH
theorem reF_p (y z : Array UInt8) (p q : Addr) : (reF y z p q).lookup ("many_new" : Str) = some (.ref p) := (lkP (by decide +kernel)).trans ((lkP (by decide +kernel)).trans lkH)
theorem reF_q (y z : Array UInt8) (p q : Addr) : (reF y z p q).lookup ("many_old" : Str) = some (.ref q) := (lkP (by decide +kernel)).trans ((lkP (by decide +kernel)).trans ((lkP (by decide +kernel)).trans lkH))
theorem reF_no {x : Str} (y z : Array UInt8) (p q : Addr) (h1 : (x == ("old" : Str)) = false) (h2 : (x == ("new" : Str)) = false) (h3 : (x == ("many_new" : Str)) = false) (h4 : (x == ("many_old" : Str)) = false) : (reF y z p q).lookup x = none := (lkP h1).trans ((lkP h2).trans ((lkP h3).trans ((lkP h4).trans rfl)))
theorem reF_put (y z : Array UInt8) (p q : Addr) : putF "many_old" (.ref q) (putF "many_new" (.ref p) (putF "new" (.byt z) (putF "old" (.byt y) []))) = reF y z p q := by
  unfold reF
  rfl
structure ReTxt (K : PySem.W.Frag) (mg : Str → Option Value) (C fI fA fO : Addr) : Prop where
  cl : Cls K C
  gC : mg "Reaches" = some (.ref C)
  made : Mk K C fI
  nO : NoAttr K C "old"
  nN : NoAttr K C "new"
  nM : NoAttr K C "many_new"
  nL : NoAttr K C "many_old"
  mA : Meth K C "copies_at" fA
  mO : Meth K C "copy_at" fO
/-- old and new bytes that are such -/
structure OnOk (old new : List Nat) : Prop where
  ko : ∀ k ∈ old, k < 256
  lo : old.length ≤ 2000
  kn : ∀ k ∈ new, k < 256
  ln : new.length ≤ 2000
structure ReOk (old new ms ls : List Nat) : Prop where
  lm : ms.length = new.length
  ll : ls.length = new.length
  hm : ∀ i, i < new.length → LongN new i (ms.getD i 0)
  hl : ∀ i, i < new.length → LongO old new i (ls.getD i 0)
def ReAt (C : Addr) (H : Hp) (x : Addr) (old new ms ls : List Nat) : Prop := ∃ dx p q, H x = some (.ins C dx (reF (byB old) (byB new) p q)) ∧ H p = some (.lst (bys ms)) ∧ H q = some (.lst (bys ls)) ∧ ReOk old new ms ls
theorem ReAt.same {C x : Addr} {H H' : Hp} {old new ms ls : List Nat} (h : ReAt C H x old new ms ls) (s : Same H H') : ReAt C H' x old new ms ls := by
  obtain ⟨dx, p, q, h1, h2, h3, h4⟩ := h
  exact ⟨dx, p, q, s _ _ h1, s _ _ h2, s _ _ h3, h4⟩
theorem scReI : FnScope ["self", "old", "new"] ["self", "old", "new"] (defScope sReInit) := ⟨rfl, rfl, rfl, by decide +kernel, rfl, by decide +kernel, by decide +kernel⟩
theorem scReA : FnScope ["self", "at", "copies"] ["self", "at"] (defScope sReAt) := ⟨rfl, rfl, rfl, by decide +kernel, rfl, by decide +kernel, by decide +kernel⟩
theorem scReO : FnScope ["self", "at", "many", "is_new", "wanted"] ["self", "at", "many", "is_new"] (defScope sReOne) := ⟨rfl, rfl, rfl, by decide +kernel, rfl, by decide +kernel, by decide +kernel⟩
section
variable {P : Program} {w : World} {K : PySem.W.Frag} {mg : Str → Option Value} {base : Heap} {C fI fA fO : Addr}
def spReI (C : Addr) : Sp := fun vs H Q _ => ∃ (x dx : Addr) (old new : List Nat), vs = [.ref x, .byt (byB old), .byt (byB new)] ∧ H x = some (.ins C dx []) ∧ OnOk old new ∧
  ∀ H' ms ls, (∀ b o, b ≠ x → H b = some o → H' b = some o) → ReAt C H' x old new ms ls → Q .non H'
theorem ok_reInit (T : ReTxt K mg C fI fA fO) {f1 f2 : Addr} {fd fd1 fd2 : FuncData} {j k1 k2 : Nat} (F : Fun K "__init__" "Reaches.__init__" sReInit fI fd)
    (G1 : FnOk P w K mg base CX0 k1 f1 fd1 ["new"] spLn) (b1 : Binds K fd1 ["new"] []) (kk1 : PySem.W.keepIn K (.ref f1) = true) (g1 : mg "longest_new" = some (.ref f1)) (l1 : k1 ≤ j)
    (G2 : FnOk P w K mg base CX0 k2 f2 fd2 ["old", "new"] spLo) (b2 : Binds K fd2 ["old", "new"] []) (kk2 : PySem.W.keepIn K (.ref f2) = true) (g2 : mg "longest_old" = some (.ref f2)) (l2 : k2 ≤ j) :
    FnOk P w K mg base CX0 (j + 1) fI fd ["self", "old", "new"] (spReI C) := by
  refine F.ok scReI (fun vs H Q E h => ?_) (fun cdv A outer s H vs Q E hr h => ?_)
  · obtain ⟨x, dx, old, new, rfl, _⟩ := h
    rfl
  · obtain ⟨x, dx, old, new, rfl, hx, ⟨ko, lo, kn, ln⟩, fin⟩ := h
    refine ⟨_, pss_cons (ps_fld (pv 0) (pv 1) rfl) (pss_cons (ps_fld (pv 0) (pv 2) rfl)
      (pss_cons (ps_fld (pv 0) (pe_call G1 (hr.mono l1) (by rfl) g1 kk1 b1 .nil pass0 (pa_cons (pv 2) pa_nil)) rfl)
      (pss_one (ps_fld (pv 0) (pe_call G2 (hr.mono l2) (by rfl) g2 kk2 b2 .nil pass0 (pa_cons (pv 1) (pa_cons (pv 2) pa_nil))) rfl)))), ?_⟩
    refine ⟨_, rfl, _, rfl, x, C, dx, _, rfl, hx, T.cl, T.nO, (by show 0 < 1000; decide), ?_⟩
    have k1 : ∀ b o, b ≠ x → H b = some o → (upd H x (.ins C dx (putF "old" (.byt (byB old)) []))) b = some o := fun b o n e => by rw [upd_ne n]; exact e
    have h1 : (upd H x (.ins C dx (putF "old" (.byt (byB old)) []))) x = some (.ins C dx (putF "old" (.byt (byB old)) [])) := upd_same
    generalize upd H x (.ins C dx (putF "old" (.byt (byB old)) [])) = H1 at *
    refine ⟨_, rfl, _, rfl, x, C, dx, _, rfl, h1, T.cl, T.nN, (by show 1 < 1000; decide), ?_⟩
    have k2 : ∀ b o, b ≠ x → H b = some o → (upd H1 x (.ins C dx (putF "new" (.byt (byB new)) (putF "old" (.byt (byB old)) [])))) b = some o := fun b o n e => by rw [upd_ne n]; exact k1 b o n e
    have h2 : (upd H1 x (.ins C dx (putF "new" (.byt (byB new)) (putF "old" (.byt (byB old)) [])))) x = some (.ins C dx (putF "new" (.byt (byB new)) (putF "old" (.byt (byB old)) []))) := upd_same
    generalize upd H1 x (.ins C dx (putF "new" (.byt (byB new)) (putF "old" (.byt (byB old)) []))) = H2 at *
    refine ⟨_, rfl, new, rfl, kn, ln, fun H3 p ms s3 np hp hml hms => ?_⟩
    have h3 := s3 _ _ h2
    have nxp : x ≠ p := ne_of_none h2 np
    refine ⟨_, rfl, x, C, dx, _, rfl, h3, T.cl, T.nM, (by show 2 < 1000; decide), ?_⟩
    have k4 : ∀ b o, b ≠ x → H b = some o → (upd H3 x (.ins C dx (putF "many_new" (.ref p) (putF "new" (.byt (byB new)) (putF "old" (.byt (byB old)) []))))) b = some o := fun b o n e => by rw [upd_ne n]; exact s3 _ _ (k2 b o n e)
    have h4 : (upd H3 x (.ins C dx (putF "many_new" (.ref p) (putF "new" (.byt (byB new)) (putF "old" (.byt (byB old)) []))))) x = some (.ins C dx (putF "many_new" (.ref p) (putF "new" (.byt (byB new)) (putF "old" (.byt (byB old)) [])))) := upd_same
    have hp4 : (upd H3 x (.ins C dx (putF "many_new" (.ref p) (putF "new" (.byt (byB new)) (putF "old" (.byt (byB old)) []))))) p = some (.lst (bys ms)) := by rw [upd_ne (Ne.symm nxp)]; exact hp
    generalize upd H3 x (.ins C dx (putF "many_new" (.ref p) (putF "new" (.byt (byB new)) (putF "old" (.byt (byB old)) [])))) = H4 at *
    refine ⟨_, rfl, _, rfl, old, new, rfl, ko, lo, kn, ln, fun H5 q ls s5 nq hq hll hls => ?_⟩
    have h5 := s5 _ _ h4
    have hp5 := s5 _ _ hp4
    have nxq : x ≠ q := ne_of_none h4 nq
    refine ⟨_, rfl, x, C, dx, _, rfl, h5, T.cl, T.nL, (by show 3 < 1000; decide), ?_⟩
    rw [reF_put]
    refine fin _ ms ls (fun b o n e => by rw [upd_ne n]; exact s5 _ _ (k4 b o n e)) ⟨dx, p, q, upd_same, ?_, ?_, ⟨hml, hll, hms, hls⟩⟩
    · rw [upd_ne (Ne.symm nxp)]
      exact hp5
    · rw [upd_ne (Ne.symm nxq)]
      exact hq
/-- the longest copies at a place -/
def copsL (m l : Nat) : List (Nat × Bool × Nat) := (if 3 ≤ m then [(m, true, 20)] else []) ++ (if 1 ≤ l then [(l, false, 24)] else [])
def C3At (H : Hp) (c : Nat × Bool × Nat) (v : V) : Prop := ∃ t, v = .ref t ∧ H t = some (.tup [.int (c.1 : Int), .bl c.2.1, .int (c.2.2 : Int)])
theorem C3At.keep {H H' : Hp} {c : Nat × Bool × Nat} {v : V} (h : C3At H c v) (k : ∀ b xs, H b = some (.tup xs) → H' b = some (.tup xs)) : C3At H' c v := by
  obtain ⟨t, e, ht⟩ := h
  exact ⟨t, e, k _ _ ht⟩
theorem C3At.same {H H' : Hp} {c : Nat × Bool × Nat} {v : V} (h : C3At H c v) (s : Same H H') : C3At H' c v := h.keep fun _ _ e => s _ _ e
def spReA (C : Addr) : Sp := fun vs H Q _ => ∃ (x : Addr) (old new ms ls : List Nat) (i : Nat), vs = [.ref x, .int (i : Int)] ∧ ReAt C H x old new ms ls ∧ i < new.length ∧
  ∀ H' q us, Same H H' → H q = none → H' q = some (.lst us) → Paired (C3At H') (copsL (ms.getD i 0) (ls.getD i 0)) us → Q (.ref q) H'
theorem ok_reA (T : ReTxt K mg C fI fA fO) {fd : FuncData} {j : Nat} {t1 t2 t3 t4 : Tok} (F : Fun K "copies_at" "Reaches.copies_at" sReAt fA fd) (c1 : mg "FEWEST_NEW" = some (.int 3 t1)) (c2 : mg "FEWEST_OLD" = some (.int 1 t2)) (c3 : mg "NEW_BITS" = some (.int 20 t3)) (c4 : mg "OLD_BITS" = some (.int 24 t4)) :
    FnOk P w K mg base CX0 (j + 1) fA fd ["self", "at"] (spReA C) := by
  refine F.ok scReA (fun vs H Q E h => ?_) (fun cdv A outer s H vs Q E hr h => ?_)
  · obtain ⟨x, old, new, ms, ls, i, rfl, _⟩ := h
    rfl
  · obtain ⟨x, old, new, ms, ls, i, rfl, ⟨dx, p, q0, hx, hp, hq, RO⟩, hi, fin⟩ := h
    have hz := PySem.sizeLine_eq
    refine ⟨_, pss_cons (ps_set (i := 2) scReA.nd rfl (.inl rfl) (pe_lst pa_nil))
      (pss_cons (ps_if (pt_cmpR op_ge (pe_ix ix_list (pe_fld (pv 0) rfl) (pv 1) (fun _ _ => rfl)) (pe_glob (v := .int 3) rfl c1 ⟨_, rfl⟩) (nomark _))
        (pss_one (ps_expr (pe_bm PySem.F.plainAttrs_list PySem.F.slot_list_append PySem.F.type_list_append mt_append (pv 2) (pa_cons (pe_tup (pa_cons (pe_ix ix_list (pe_fld (pv 0) rfl) (pv 1) (fun _ _ => rfl)) (pa_cons pe_bl (pa_cons (pe_glob (v := .int 20) rfl c3 ⟨_, rfl⟩) pa_nil)))) pa_nil)))) pss_nil)
      (pss_cons (ps_if (pt_cmpR op_ge (pe_ix ix_list (pe_fld (pv 0) rfl) (pv 1) (fun _ _ => rfl)) (pe_glob (v := .int 1) rfl c2 ⟨_, rfl⟩) (nomark _))
        (pss_one (ps_expr (pe_bm PySem.F.plainAttrs_list PySem.F.slot_list_append PySem.F.type_list_append mt_append (pv 2) (pa_cons (pe_tup (pa_cons (pe_ix ix_list (pe_fld (pv 0) rfl) (pv 1) (fun _ _ => rfl)) (pa_cons pe_bl (pa_cons (pe_glob (v := .int 24) rfl c4 ⟨_, rfl⟩) pa_nil)))) pa_nil)))) pss_nil)
      (pss_one (ps_ret (pv 2))))), ?_⟩
    refine ⟨Nat.zero_le _, fun D nD => ?_⟩
    have s1 := same_upd (o := .lst []) nD
    have hD1 : (upd H D (.lst [])) D = some (.lst []) := upd_same
    generalize upd H D (.lst []) = H1 at *
    dsimp only [gName]
    have hm1 : atI (bys ms) ((i : Nat) : Int) = some (.int ((ms.getD i 0 : Nat) : Int)) := at_of' rfl (by rw [RO.lm]; exact hi)
    have hl1 : atI (bys ls) ((i : Nat) : Int) = some (.int ((ls.getD i 0 : Nat) : Int)) := at_of' rfl (by rw [RO.ll]; exact hi)
    generalize ms.getD i 0 = m at *
    generalize ls.getD i 0 = l at *
    obtain ⟨M, hM⟩ : ∃ M : L2.St → Hp → Prop, M = (fun σ' H' => ∃ us, σ' = [some (.ref x), some (.int (i : Int)), some (.ref D)] ∧ Same H H' ∧ H' D = some (.lst us) ∧ Paired (C3At H') (if 3 ≤ m then [(m, true, 20)] else []) us) := ⟨_, rfl⟩
    with_reducible refine seq_mid M (fun N hN => ?_) (fun σ2 H2 h => ?_)
    · refine ⟨_, rfl, x, C, dx, _, _, rfl, s1 _ _ hx, T.cl, T.nM, reF_p _ _ _ _, _, rfl, p, _, _, _, rfl, rfl, .inl (.inl (s1 _ _ hp)), hm1, _, _, rfl, rfl, _, rfl, ite2 (fun e => ?_) (fun e => ?_)⟩
      · have e := of_decide_eq_true e
        refine ⟨_, rfl, .inl ⟨rfl, _, .inl (.inl hD1)⟩, _, rfl, x, C, dx, _, _, rfl, s1 _ _ hx, T.cl, T.nM, reF_p _ _ _ _, _, rfl, p, _, _, _, rfl, rfl, .inl (.inl (s1 _ _ hp)), hm1, (by show 3 ≤ sizeLine; omega), fun t nt => ?_⟩
        have st := same_upd (o := .tup [.int (m : Int), .bl true, .int 20]) nt
        refine ⟨D, _, _, rfl, rfl, st _ _ hD1, by rw [hz]; decide, hN _ _ ?_⟩
        rw [hM, if_pos (by omega)]
        exact ⟨[.ref t], rfl, same_put (s1.trans st) nD, upd_same, .cons ⟨t, rfl, by rw [upd_ne (ne_of (upd_same (H := H1)) (st _ _ hD1) (fun z => nomatch z))]; exact upd_same⟩ .nil⟩
      · have e : ¬ (3 : Int) ≤ (m : Int) := fun z => e (decide_eq_true z)
        refine hN _ _ ?_
        rw [hM, if_neg (by omega)]
        exact ⟨[], rfl, s1, hD1, .nil⟩
    · rw [hM] at h
      obtain ⟨us, rfl, s2, hD2, hP⟩ := h
      have hul : us.length ≤ 1 := by
        rw [← hP.length]
        split
        · exact Nat.le_refl 1
        · exact Nat.zero_le _
      refine ⟨_, rfl, x, C, dx, _, _, rfl, s2 _ _ hx, T.cl, T.nL, reF_q _ _ _ _, _, rfl, q0, _, _, _, rfl, rfl, .inl (.inl (s2 _ _ hq)), hl1, _, _, rfl, rfl, _, rfl, ite2 (fun e => ?_) (fun e => ?_)⟩
      · have e := of_decide_eq_true e
        refine ⟨_, rfl, .inl ⟨rfl, _, .inl (.inl hD2)⟩, _, rfl, x, C, dx, _, _, rfl, s2 _ _ hx, T.cl, T.nL, reF_q _ _ _ _, _, rfl, q0, _, _, _, rfl, rfl, .inl (.inl (s2 _ _ hq)), hl1, (by show 3 ≤ sizeLine; omega), fun t nt => ?_⟩
        have st := same_upd (o := .tup [.int (l : Int), .bl false, .int 24]) nt
        refine ⟨D, _, _, rfl, rfl, st _ _ hD2, by omega, ?_⟩
        refine ⟨_, rfl, fin _ D (us ++ [.ref t]) (same_put (s2.trans st) nD) nD upd_same ?_⟩
        unfold copsL
        rw [if_pos (show 1 ≤ l by omega)]
        refine (hP.mono fun _ _ h => (h.same st).keep (tup_put (st _ _ hD2))).snoc ⟨t, rfl, ?_⟩
        rw [upd_ne (ne_of (upd_same (H := H2)) (st _ _ hD2) (fun z => nomatch z))]
        exact upd_same
      · have e : ¬ (1 : Int) ≤ (l : Int) := fun z => e (decide_eq_true z)
        refine ⟨_, rfl, fin _ D us s2 nD hD2 ?_⟩
        unfold copsL
        rw [if_neg (show ¬ 1 ≤ l by omega), List.append_nil]
        exact hP
/-- the item that copies so many bytes from the least back or place -/
def CopyIs (old new : List Nat) (i m : Nat) (b : Bool) (it : Di) : Prop := ∃ p, it = .c b m p ∧
  (b = true → 1 ≤ p ∧ p ≤ i ∧ sliceN new (i - p) m = sliceN new i m ∧ ∀ p', 1 ≤ p' → p' < p → sliceN new (i - p') m ≠ sliceN new i m) ∧
  (b = false → p + m ≤ old.length ∧ sliceN old p m = sliceN new i m ∧ ∀ p', p' < p → sliceN old p' m ≠ sliceN new i m)
def spReO (C : Addr) : Sp := fun vs H Q _ => ∃ (x : Addr) (old new ms ls : List Nat) (i m : Nat) (b : Bool), vs = [.ref x, .int (i : Int), .int (m : Int), .bl b] ∧ ReAt C H x old new ms ls ∧ OnOk old new ∧ 1 ≤ m ∧ i + m ≤ new.length ∧ (b = true → CpN new i m) ∧ (b = false → CpO old new i m) ∧
  ∀ H' v it, Same H H' → CopyIs old new i m b it → DiAt H' it v → Q v H'
theorem ok_reO (T : ReTxt K mg C fI fA fO) {fd : FuncData} {j : Nat} {t1 t2 : Tok} (F : Fun K "copy_at" "Reaches.copy_at" sReOne fO fd) (c1 : mg "NEW" = some (.str "new" t1)) (c2 : mg "OLD" = some (.str "old" t2)) :
    FnOk P w K mg base CX0 (j + 1) fO fd ["self", "at", "many", "is_new"] (spReO C) := by
  refine F.ok scReO (fun vs H Q E h => ?_) (fun cdv A outer s H vs Q E hr h => ?_)
  · obtain ⟨x, old, new, ms, ls, i, m, b, rfl, _⟩ := h
    rfl
  · obtain ⟨x, old, new, ms, ls, i, m, b, rfl, ⟨dx, p, q0, hx, hp, hq, RO⟩, ⟨ko, lo, kn, ln⟩, hm1, him, hcn, hco, fin⟩ := h
    have hz := PySem.sizeLine_eq
    refine ⟨_, pss_cons (ps_set (i := 4) scReO.nd rfl (.inl rfl) (pe_slice sl_byt (pe_fld (pv 0) rfl) (po_some (pv 1)) (po_some (pe_op op_add (pv 1) (pv 2)))))
      (pss_cons (ps_if (pt_val (pv 3)) (pss_one (ps_ret (pe_tup (pa_cons (pe_glob (v := .str "new") rfl c1 ⟨_, rfl⟩) (pa_cons (pv 2) (pa_cons (pe_op op_sub (pv 1) (pe_bmB PySem.W.KBf.slot_rfind PySem.W.KBf.type_rfind mt_brfind4 (pe_fld (pv 0) rfl) (pa_cons (pv 4) (pa_cons pe_int (pa_cons (pe_op op_sub (pe_op op_add (pv 1) (pv 2)) pe_int) pa_nil))))) pa_nil)))))) pss_nil)
      (pss_one (ps_ret (pe_tup (pa_cons (pe_glob (v := .str "old") rfl c2 ⟨_, rfl⟩) (pa_cons (pv 2) (pa_cons (pe_bmB PySem.W.KBf.slot_find PySem.W.KBf.type_find mt_bfind1 (pe_fld (pv 0) rfl) (pa_cons (pv 4) pa_nil)) pa_nil))))))), ?_⟩
    refine ⟨_, rfl, x, C, dx, _, _, rfl, hx, T.cl, T.nN, reF_n _ _ _ _, _, rfl, _, rfl, _, rfl, _, rfl, _, _, rfl, rfl, _, rfl, _, rfl, (by rw [byB_size]; omega), ?_⟩
    have e3 : PySem.W.KBy.picked (byB new) (some (i : Int)) (some ((i : Int) + (m : Int))) = byB (sliceN new i m) := by
      rw [show (i : Int) + (m : Int) = ((i + m : Nat) : Int) by push_cast; rfl]
      exact picked_slice new i m (by omega)
    have hsl : (sliceN new i m).length = m := by rw [slice_len]; omega
    dsimp only [gName]
    rw [e3]
    cases b with
    | true =>
      refine ⟨_, rfl, _, rfl, iteT ?_⟩
      refine ⟨_, rfl, _, rfl, _, rfl, x, C, dx, _, _, rfl, hx, T.cl, T.nN, reF_n _ _ _ _, ⟨_, rfl⟩, _, rfl, _, rfl, _, rfl, _, _, rfl, rfl, _, _, rfl, rfl, _, _, _, _, rfl, rfl, Int.le_refl 0, by omega, ?_⟩
      have FI := rfnd_is kn (slice_lt kn (i := i) (m := m)) 0 (i + m - 1)
      have e4 : ((0 : Nat) : Int) = 0 := rfl
      rw [e4] at FI
      have e5 : (i : Int) + (m : Int) - 1 = ((i + m - 1 : Nat) : Int) := by omega
      rw [e5]
      have no := FI.no
      have yes := FI.yes
      rw [hsl] at no yes
      generalize BFX.rfnd (byB new) (byB (sliceN new i m)) 0 ((i + m - 1 : Nat) : Int) = o at *
      cases o with
      | none =>
        exfalso
        rcases hcn rfl with z | ⟨s, z1, z2⟩
        · omega
        · exact no rfl s (Nat.zero_le _) (by omega) z2
      | some s =>
        obtain ⟨_, h2, h3, h4⟩ := yes s rfl
        refine ⟨_, _, rfl, rfl, (by show 3 ≤ sizeLine; omega), fun t nt => ?_⟩
        refine fin _ _ (.c true m (i - s)) (same_upd nt) ⟨_, rfl, fun _ => ⟨by omega, by omega, ?_, fun p' g1 g2 => ?_⟩, fun z => by cases z⟩ ⟨t, rfl, ?_⟩
        · rw [show i - (i - s) = s by omega]
          exact h3
        · exact h4 (i - p') (by omega) (by omega)
        · rw [upd_same]
          show some (HO.tup [V.str "new", V.int (m : Int), V.int ((i : Int) - (s : Int))]) = _
          rw [show (i : Int) - (s : Int) = ((i - s : Nat) : Int) by omega]
          rfl
    | false =>
      refine ⟨_, rfl, _, rfl, iteF ?_⟩
      refine ⟨_, rfl, _, rfl, x, C, dx, _, _, rfl, hx, T.cl, T.nO, reF_o _ _ _ _, ⟨_, rfl⟩, _, rfl, _, _, rfl, rfl, ?_⟩
      have FI := fnd_is ko (slice_lt kn (i := i) (m := m)) 0 old.length
      have e4 : ((0 : Nat) : Int) = 0 := rfl
      rw [e4] at FI
      rw [byB_size]
      have no := FI.no
      have yes := FI.yes
      rw [hsl] at no yes
      generalize BFX.fnd (byB old) (byB (sliceN new i m)) 0 (old.length : Int) = o at *
      cases o with
      | none =>
        exfalso
        obtain ⟨s, z1, z2⟩ := hco rfl
        exact no rfl s (Nat.zero_le _) (by omega) z2
      | some s =>
        obtain ⟨_, h2, h3, h4⟩ := yes s rfl
        refine ⟨(by show 3 ≤ sizeLine; omega), fun t nt => ?_⟩
        refine fin _ _ (.c false m s) (same_upd nt) ⟨_, rfl, fun z => (by cases z), fun _ => ⟨by omega, h3, fun p' g => h4 p' (Nat.zero_le _) g⟩⟩ ⟨t, rfl, ?_⟩
        rw [upd_same]
        rfl
end
end K0

namespace K0
open PySem PySem.Spec PyProof.Rows L2
/-! ### costs_of -/
abbrev NCo : List Str := ["reaches", "costs", "at", "found", "many", "_", "bits"]
theorem scCo : FnScope NCo ["reaches"] (defScope sCostsR) := ⟨rfl, rfl, rfl, by decide +kernel, rfl, by decide +kernel, by decide +kernel⟩
def coL (cs ms ls : List Nat) (i : Nat) : List Nat := (9 + cs.getD (i + 1) 0) :: (copsL (ms.getD i 0) (ls.getD i 0)).map fun c => c.2.2 + cs.getD (i + c.1) 0
def CoAt (cs ms ls : List Nat) (i : Nat) : Prop := cs.getD i 0 ∈ coL cs ms ls i ∧ ∀ y ∈ coL cs ms ls i, cs.getD i 0 ≤ y
structure CostOk (ms ls : List Nat) (n : Nat) (cs : List Nat) : Prop where
  len : cs.length = n + 1
  last : cs.getD n 0 = 0
  step : ∀ i, i < n → CoAt cs ms ls i
theorem cops_mem {m l : Nat} {c : Nat × Bool × Nat} (h : c ∈ copsL m l) : (c = (m, true, 20) ∧ 3 ≤ m) ∨ (c = (l, false, 24) ∧ 1 ≤ l) := by
  unfold copsL at h
  rcases List.mem_append.mp h with h | h
  · split at h
    · exact .inl ⟨List.mem_singleton.mp h, by assumption⟩
    · cases h
  · split at h
    · exact .inr ⟨List.mem_singleton.mp h, by assumption⟩
    · cases h
theorem cops_in {old new ms ls : List Nat} (R : ReOk old new ms ls) {i : Nat} (hi : i < new.length) {c : Nat × Bool × Nat} (h : c ∈ copsL (ms.getD i 0) (ls.getD i 0)) : 1 ≤ c.1 ∧ i + c.1 ≤ new.length ∧ c.1 ≤ 255 ∧ (c.2.1 = true → 3 ≤ c.1 ∧ CpN new i c.1) ∧ (c.2.1 = false → CpO old new i c.1) := by
  have h1 := R.hm i hi
  have h2 := R.hl i hi
  have b1 : ms.getD i 0 ≤ 255 ∧ ms.getD i 0 ≤ new.length - i := ⟨Nat.le_trans h1.1 (Nat.min_le_left _ _), Nat.le_trans h1.1 (Nat.min_le_right _ _)⟩
  have b2 : ls.getD i 0 ≤ 255 ∧ ls.getD i 0 ≤ new.length - i := ⟨Nat.le_trans h2.1 (Nat.min_le_left _ _), Nat.le_trans h2.1 (Nat.min_le_right _ _)⟩
  rcases cops_mem h with ⟨rfl, g⟩ | ⟨rfl, g⟩
  · exact ⟨by show 1 ≤ ms.getD i 0; omega, by show i + ms.getD i 0 ≤ _; omega, b1.1, fun _ => ⟨g, h1.2.1⟩, fun z => (by cases z)⟩
  · exact ⟨g, by show i + ls.getD i 0 ≤ _; omega, b2.1, fun z => (by cases z), fun _ => h2.2.1⟩
theorem getD_set_ne {cs : List Nat} {i q v : Nat} (h : q ≠ i) : (cs.set i v).getD q 0 = cs.getD q 0 := by
  rw [List.getD_eq_getElem?_getD, List.getElem?_set_ne (Ne.symm h), ← List.getD_eq_getElem?_getD]
theorem getD_set_eq {cs : List Nat} {i v : Nat} (h : i < cs.length) : (cs.set i v).getD i 0 = v := by
  rw [List.getD_eq_getElem?_getD, List.getElem?_set_self h]
  rfl
theorem coL_set {old new ms ls cs : List Nat} (R : ReOk old new ms ls) {i j v : Nat} (hi : i < new.length) (hj : j ≤ i) : coL (cs.set j v) ms ls i = coL cs ms ls i := by
  unfold coL
  rw [getD_set_ne (by omega)]
  congr 1
  refine List.map_congr_left fun c hc => ?_
  have := (cops_in R hi hc).1
  rw [getD_set_ne (by omega)]
theorem nats_min {l : List Nat} {m : Int} (hm : m ∈ l.map fun (k : Nat) => (k : Int)) (hl : ∀ y ∈ l.map (fun (k : Nat) => (k : Int)), m ≤ y) : ∃ k : Nat, m = (k : Int) ∧ k ∈ l ∧ ∀ y ∈ l, k ≤ y := by
  obtain ⟨k, hk, rfl⟩ := List.mem_map.mp hm
  exact ⟨k, rfl, hk, fun y hy => by have := hl _ (List.mem_map.mpr ⟨y, hy, rfl⟩); omega⟩
section
variable {P : Program} {w : World} {K : PySem.W.Frag} {mg : Str → Option Value} {base : Heap} {C fI fA fO : Addr}
def spCo (C : Addr) : Sp := fun vs H Q _ => ∃ (x : Addr) (old new ms ls : List Nat), vs = [.ref x] ∧ ReAt C H x old new ms ls ∧ OnOk old new ∧
  ∀ H' q cs, Same H H' → H q = none → H' q = some (.lst (bys cs)) → CostOk ms ls new.length cs → Q (.ref q) H'
theorem ok_co (T : ReTxt K mg C fI fA fO) {f : Addr} {fd fdA : FuncData} {j k1 : Nat} {t1 : Tok} (F : Fun K "costs_of" "costs_of" sCostsR f fd)
    (GA : FnOk P w K mg base CX0 k1 fA fdA ["self", "at"] (spReA C)) (bA : Binds K fdA ["self", "at"] []) (l1 : k1 ≤ j)
    (m1 : mg "len" = none) (m2 : mg "reversed" = none) (m3 : mg "range" = none) (m4 : mg "min" = none) (c1 : mg "BYTE_BITS" = some (.int 9 t1)) :
    FnOk P w K mg base CX0 (j + 1) f fd ["reaches"] (spCo C) := by
  refine F.ok scCo (fun vs H Q E h => ?_) (fun cdv A outer s H vs Q E hr h => ?_)
  · obtain ⟨x, old, new, ms, ls, rfl, _⟩ := h
    rfl
  · obtain ⟨x, old, new, ms, ls, rfl, hRe, ON, fin⟩ := h
    obtain ⟨dx, p, q0, hx, hp, hq, RO⟩ := id hRe
    have hz := PySem.sizeLine_eq
    have hn := ON.ln
    refine ⟨_, pss_cons (ps_set (i := 1) scCo.nd rfl (.inr rfl) (pe_op op_rep (pe_lst (pa_cons pe_int pa_nil)) (pe_op op_add (pe_callB call_len (by rfl) m1 PySem.boot_len (pa_cons (pe_fld (pv 0) rfl) pa_nil)) pe_int)))
      (pss_cons (ps_for PassesOwn.never rfl (pi_revR (by rfl) m2 (prg_1 (by rfl) m3 (pe_callB call_len (by rfl) m1 PySem.boot_len (pa_cons (pe_fld (pv 0) rfl) pa_nil)))) (pg_name (i := 2) scCo.nd rfl (.inr rfl))
        (pss_cons (ps_setLc (i := 3) (own := [("many", 4), ("_", 5), ("bits", 6)]) (g := gTup K 3 (gCons (gName 4) (gCons (gName 5) (gCons (gName 6) gNil)))) (tt := tYes) rfl scCo.nd rfl rfl (sw_true rfl rfl rfl (by decide +kernel))
            (pi_list (pe_meth (pv 0) T.cl T.mA GA (hr.mono l1) bA .nil pass0 (pa_cons (pv 2) pa_nil))) (blkOk_by (N := NCo) (sc := defScope sCostsR) (by decide +kernel))
            (fun _ _ _ _ _ => pg_tup rfl (pgs_cons (pg_name (i := 4) scCo.nd rfl (.inl rfl)) (pgs_cons (pg_name (i := 5) scCo.nd rfl (.inl rfl)) (pgs_cons (pg_name (i := 6) scCo.nd rfl (.inl rfl)) pgs_nil)))) (fun _ _ _ _ _ => pts_nil)
            (fun _ _ _ _ _ => pe_op op_add (pv 6) (pe_ix (ixL K) (pv 1) (pe_op op_add (pv 2) (pv 4)) (fun _ _ => rfl))))
        (pss_one (ps_asg (pe_callB (cr_min rfl) (by rfl) m4 (by decide +kernel) (pa_cons (pe_op op_cat (pe_lst (pa_cons (pe_op op_add (pe_glob (v := .int 9) rfl c1 ⟨_, rfl⟩) (pe_ix ix_list (pv 1) (pe_op op_add (pv 2) pe_int) (fun _ _ => rfl))) pa_nil)) (pv 3)) pa_nil)) (pg_sub (pv 1) (pv 2) set_list)))))
      (pss_one (ps_ret (pv 1)))), ?_⟩
    refine ⟨(by show 1 ≤ sizeLine; omega), fun z nz => ?_⟩
    have s1 := same_upd (o := .lst [.int 0]) nz
    have hz1 : (upd H z (.lst [.int 0])) z = some (.lst [.int 0]) := upd_same
    generalize upd H z (.lst [.int 0]) = H1 at *
    refine ⟨_, rfl, x, C, dx, _, _, rfl, s1 _ _ hx, T.cl, T.nN, reF_n _ _ _ _, _, (byB new).size, rfl, ⟨by rw [byB_size]; omega, rfl⟩, _, _, rfl, rfl, z, _, _, rfl, rfl, hz1, by rw [byB_size]; omega, by rw [byB_size]; omega, (by show 1 * _ ≤ _; rw [byB_size]; omega), fun D nD => ?_⟩
    have nD0 := none_back s1 nD
    have e0 : (List.replicate (((byB new).size : Int) + 1).toNat [V.int 0]).flatten = bys (List.replicate (new.length + 1) 0) := by
      rw [byB_size, show ((new.length : Int) + 1).toNat = new.length + 1 by omega]
      unfold bys
      rw [List.map_replicate, List.map_replicate]
      generalize new.length + 1 = n
      induction n with
      | zero => rfl
      | succ n ih => rw [List.replicate_succ, List.replicate_succ, List.flatten_cons, ih]; rfl
    rw [e0]
    have s2 := s1.trans (same_upd (o := .lst (bys (List.replicate (new.length + 1) 0))) nD)
    have hD2 : (upd H1 D (.lst (bys (List.replicate (new.length + 1) 0)))) D = some (.lst (bys (List.replicate (new.length + 1) 0))) := upd_same
    generalize upd H1 D (.lst (bys (List.replicate (new.length + 1) 0))) = H2 at *
    dsimp only [gName]
    refine ⟨_, rfl, x, C, dx, _, _, rfl, s2 _ _ hx, T.cl, T.nN, reF_n _ _ _ _, _, (byB new).size, rfl, ⟨by rw [byB_size]; omega, rfl⟩, _, rfl, by omega, by omega, by rw [byB_size]; omega, by rw [byB_size]; omega, ?_⟩
    have en : (((byB new).size : Int) - 0).toNat = new.length := by rw [byB_size]; omega
    rw [en]
    refine for_rangeC (lo := 0 + ((new.length : Nat) : Int) - 1) (c := -1) (n := new.length) (fun i σ H' => ∃ (y2 y3 y4 y5 y6 : Option V) (cs : List Nat), σ = [some (.ref x), some (.ref D), y2, y3, y4, y5, y6] ∧ Same H H' ∧ H' D = some (.lst (bys cs)) ∧ cs.length = new.length + 1 ∧ cs.getD new.length 0 = 0 ∧ ∀ t, new.length - i ≤ t → t < new.length → CoAt cs ms ls t)
      ⟨_, _, _, _, _, List.replicate (new.length + 1) 0, rfl, s2, hD2, List.length_replicate, ?_, fun t g1 g2 => by omega⟩ (fun i σ H' hi h => ?_) (fun σ H' h => ?_)
    · rw [List.getD_eq_getElem?_getD, List.getElem?_replicate]
      split <;> rfl
    · obtain ⟨y2, y3, y4, y5, y6, cs, rfl, sm, hD, hcl, hcn, hst⟩ := h
      obtain ⟨a, ha⟩ : ∃ a : Nat, a = new.length - (i + 1) := ⟨_, rfl⟩
      have ea : 0 + ((new.length : Nat) : Int) - 1 + (i : Nat) * -1 = (a : Int) := by omega
      rw [ea]
      have han : a < new.length := by omega
      dsimp only [gName]
      refine ⟨_, rfl, x, dx, _, rfl, sm _ _ hx, reF_no _ _ _ _ (by decide +kernel) (by decide +kernel) (by decide +kernel) (by decide +kernel), _, rfl, x, old, new, ms, ls, a, rfl, hRe.same sm, han, fun H3 q us s3 nq hqu hus => ?_⟩
      have hin := fun c => cops_in RO han (c := c)
      have hulen : us.length ≤ 2 := by
        rw [← hus.length]
        unfold copsL
        rw [List.length_append]
        split <;> split <;> simp
      have hD3 := s3 _ _ hD
      obtain ⟨cp, hcp⟩ : ∃ cp, cp = copsL (ms.getD a 0) (ls.getD a 0) := ⟨_, rfl⟩
      rw [← hcp] at hus hin
      have sm3 := sm.trans s3
      refine ⟨q, rfl, ⟨_, .inl (.inl hqu)⟩, fun B nB => ?_⟩
      have nB0 := none_back sm3 nB
      have neDB : D ≠ B := ne_of_none hD3 nB
      have s4 := same_upd (o := .lst []) nB
      refine lc_list (K := K) (a := q) (xs := us) (fun i H' => Same H3 H' ∧ H' B = some (.lst (bys ((cp.take i).map fun c => c.2.2 + cs.getD (a + c.1) 0)))) ⟨s4, upd_same⟩ (fun i H' _ h => .inl (.inl (h.1 _ _ hqu))) (fun i x' H' hx' h => ?_) (fun H' h => ?_)
      · obtain ⟨s5, hB⟩ := h
        have hi' : i < cp.length := by have := (List.getElem?_eq_some_iff.mp hx').1; have := hus.length; omega
        obtain ⟨v', e1, hc⟩ := paired_get hus (List.getElem?_eq_getElem hi')
        obtain rfl := Option.some.inj (e1.symm.trans hx')
        obtain ⟨t, rfl, ht⟩ := hc.same s5
        have hci := hin cp[i] (List.getElem_mem hi')
        rw [take_snocG (List.getElem?_eq_getElem hi'), List.map_append]
        generalize cp[i] = c at *
        refine ⟨t, _, rfl, .inl (.inl ht), rfl, _, _, rfl, _, _, rfl, _, _, rfl, rfl, rfl, yes ?_⟩
        refine ⟨_, rfl, _, rfl, _, rfl, _, rfl, _, _, rfl, rfl, D, _, _, _, rfl, rfl, .inl (.inl (s5 _ _ hD3)), at_of' (k := a + c.1) (by push_cast; rfl) (by omega), _, _, rfl, rfl, _, hB, ?_, same_put s5 nB, ?_⟩
        · have := hus.length
          rw [bys_len, List.length_map, List.length_take]
          omega
        · rw [upd_same, ← bys_app]
          have e9 : ((c.2.2 : Nat) : Int) + ((cs.getD (a + c.1) 0 : Nat) : Int) = ((c.2.2 + cs.getD (a + c.1) 0 : Nat) : Int) := by push_cast; rfl
          show some (HO.lst (_ ++ [V.int (((c.2.2 : Nat) : Int) + ((cs.getD (a + c.1) 0 : Nat) : Int))])) = _
          rw [e9]
          rfl
      · obtain ⟨s5, hB⟩ := h
        rw [← hus.length, List.take_length] at hB
        have hD5 := s5 _ _ hD3
        have sm5 := sm3.trans s5
        dsimp only [gName]
        refine ⟨_, rfl, _, rfl, _, _, rfl, rfl, D, _, _, _, rfl, rfl, .inl (.inl hD5), at_of' (k := a + 1) (by push_cast; rfl) (by omega), _, _, rfl, rfl, (by show 1 ≤ sizeLine; omega), fun L nL => ?_⟩
        have s6 := same_upd (o := .lst [.int (9 + ((cs.getD (a + 1) 0 : Nat) : Int))]) nL
        have hL6 : (upd H' L (.lst [.int (9 + ((cs.getD (a + 1) 0 : Nat) : Int))])) L = some (.lst (bys [9 + cs.getD (a + 1) 0])) := by
          rw [upd_same]
          have e9 : (9 : Int) + ((cs.getD (a + 1) 0 : Nat) : Int) = ((9 + cs.getD (a + 1) 0 : Nat) : Int) := by push_cast; rfl
          rw [e9]
          rfl
        have hB6 := s6 _ _ hB
        have hD6 := s6 _ _ hD5
        have sm6 := sm5.trans s6
        generalize upd H' L (.lst [.int (9 + ((cs.getD (a + 1) 0 : Nat) : Int))]) = H6 at *
        refine ⟨_, rfl, L, B, _, _, rfl, rfl, hL6, hB6, (by rw [bys_len, bys_len, List.length_map]; have := hus.length; show 1 + _ ≤ _; omega), fun R nR => ?_⟩
        have s7 := same_upd (o := .lst (bys [9 + cs.getD (a + 1) 0] ++ bys (cp.map fun c => c.2.2 + cs.getD (a + c.1) 0))) nR
        have hR7 : (upd H6 R (.lst (bys [9 + cs.getD (a + 1) 0] ++ bys (cp.map fun c => c.2.2 + cs.getD (a + c.1) 0)))) R = some (.lst (bys (coL cs ms ls a))) := by
          rw [upd_same, bys_app]
          unfold coL
          rw [← hcp]
          rfl
        have hD7 := s7 _ _ hD6
        have sm7 := sm6.trans s7
        generalize upd H6 R (.lst (bys [9 + cs.getD (a + 1) 0] ++ bys (cp.map fun c => c.2.2 + cs.getD (a + c.1) 0))) = H7 at *
        refine ⟨R, (coL cs ms ls a).map (fun (k : Nat) => (k : Int)), rfl, .inl (.inl hR7), (by rw [List.length_map]; exact Nat.succ_pos _), fun m hm hmin => ?_⟩
        obtain ⟨k, rfl, hk1, hk2⟩ := nats_min hm hmin
        refine ⟨_, rfl, _, rfl, D, _, _, a, rfl, rfl, hD7, ixN_natK (by rw [bys_len]; omega), ?_⟩
        refine ⟨_, _, _, _, _, cs.set a k, rfl, same_put sm7 nD0, by rw [upd_same]; unfold bys; rw [List.map_set, List.map_set], by rw [List.length_set]; exact hcl, by rw [getD_set_ne (by omega)]; exact hcn, fun t g1 g2 => ?_⟩
        unfold CoAt
        rw [coL_set RO g2 (by omega)]
        by_cases et : t = a
        · subst et
          rw [getD_set_eq (by omega)]
          exact ⟨hk1, hk2⟩
        · rw [getD_set_ne et]
          exact hst t (by omega) g2
    · obtain ⟨y2, y3, y4, y5, y6, cs, rfl, sm, hD, hcl, hcn, hst⟩ := h
      exact ⟨_, rfl, fin H' D cs sm nD0 hD ⟨hcl, hcn, fun t g => hst t (by omega) g⟩⟩
end
end K0

namespace K0
open PySem PySem.Spec PyProof.Rows L2
/-! ### least_row -/
abbrev NLr : List Str := ["reaches", "costs", "row", "at", "many", "is_new", "bits"]
theorem scLr : FnScope NLr ["reaches", "costs"] (defScope sLeastR) := ⟨rfl, rfl, rfl, by decide +kernel, rfl, by decide +kernel, by decide +kernel⟩
def candC (cs ms ls : List Nat) (a : Nat) : List (Nat × Bool × Nat) := (copsL (ms.getD a 0) (ls.getD a 0)).filter fun c => decide (c.2.2 + cs.getD (a + c.1) 0 = cs.getD a 0)
def nb (c : Nat × Bool × Nat) : Int × Bool := ((c.1 : Int), c.2.1)
/-- the item that is taken at a place -/
def TakeIs (old new cs ms ls : List Nat) (a : Nat) (it : Di) : Prop :=
  (9 + cs.getD (a + 1) 0 = cs.getD a 0 ∧ it = .b (new.getD a 0)) ∨
  (9 + cs.getD (a + 1) 0 ≠ cs.getD a 0 ∧ ∃ c c0 r, c ∈ candC cs ms ls a ∧ (candC cs ms ls a).map nb = c0 :: r ∧ pD (nb c) = PySem.W.maxD (pD c0) (r.map pD) ∧ CopyIs old new a c.1 c.2.1 it)
def RowIs (old new cs ms ls : List Nat) : Nat → List Di → Nat → Prop
  | s, [], e => s = e
  | s, it :: r, e => s < new.length ∧ TakeIs old new cs ms ls s it ∧ RowIs old new cs ms ls (s + wideI it) r e
theorem RowIs.snoc {old new cs ms ls : List Nat} {it : Di} : ∀ {r : List Di} {s e : Nat}, RowIs old new cs ms ls s r e → e < new.length → TakeIs old new cs ms ls e it → RowIs old new cs ms ls s (r ++ [it]) (e + wideI it)
  | [], s, e, h, he, ht => by
    have h : s = e := h
    subst h
    exact ⟨he, ht, rfl⟩
  | x :: r, s, e, ⟨h1, h2, h3⟩, he, ht => ⟨h1, h2, RowIs.snoc h3 he ht⟩
theorem cand_in {cs ms ls : List Nat} {a : Nat} {c : Nat × Bool × Nat} (h : c ∈ candC cs ms ls a) : c ∈ copsL (ms.getD a 0) (ls.getD a 0) := (List.mem_filter.mp h).1
theorem take_wide {old new cs ms ls : List Nat} (R : ReOk old new ms ls) {a : Nat} (ha : a < new.length) {it : Di} (h : TakeIs old new cs ms ls a it) : 1 ≤ wideI it ∧ a + wideI it ≤ new.length := by
  rcases h with ⟨_, rfl⟩ | ⟨_, c, c0, r, hc, _, _, p, rfl, _⟩
  · exact ⟨Nat.le_refl 1, ha⟩
  · have := cops_in R ha (cand_in hc)
    exact ⟨this.1, this.2.1⟩
theorem take_fit {old new cs ms ls : List Nat} (ON : OnOk old new) (R : ReOk old new ms ls) {a : Nat} (ha : a < new.length) {it : Di} (h : TakeIs old new cs ms ls a it) : fitI old.length a it = true := by
  rcases h with ⟨_, rfl⟩ | ⟨_, c, c0, r, hc, _, _, p, rfl, h1, h2⟩
  · exact decide_eq_true (ON.kn _ (getD_mem' ha))
  · obtain ⟨g1, g2, g3, g4, g5⟩ := cops_in R ha (cand_in hc)
    have hl := ON.ln
    generalize c.2.1 = b at *
    cases b with
    | true =>
      have a1 := h1 rfl
      have a2 := (g4 rfl).1
      exact decide_eq_true ⟨a2, g3, a1.1, by have := a1.2.1; omega⟩
    | false =>
      have a1 := h2 rfl
      exact decide_eq_true ⟨g1, g3, a1.1⟩
theorem row_fit {old new cs ms ls : List Nat} (ON : OnOk old new) (R : ReOk old new ms ls) : ∀ {r : List Di} {s e : Nat}, RowIs old new cs ms ls s r e → fitR old.length s r = some e
  | [], s, e, h => by
    have h : s = e := h
    rw [h]
    rfl
  | x :: r, s, e, ⟨h1, h2, h3⟩ => by
    show (if fitI old.length s x = true then fitR old.length (s + wideI x) r else none) = some e
    rw [if_pos (take_fit ON R h1 h2)]
    exact row_fit ON R h3
theorem cost_some {ms ls : List Nat} {n : Nat} {cs : List Nat} (CK : CostOk ms ls n cs) {a : Nat} (ha : a < n) (h : 9 + cs.getD (a + 1) 0 ≠ cs.getD a 0) : ∃ c0 r, candC cs ms ls a = c0 :: r := by
  have := (CK.step a ha).1
  rcases List.mem_cons.mp this with q | q
  · exact absurd q.symm h
  · obtain ⟨c, hc, he⟩ := List.mem_map.mp q
    have : c ∈ candC cs ms ls a := List.mem_filter.mpr ⟨hc, decide_eq_true he⟩
    cases e : candC cs ms ls a with
    | nil => rw [e] at this; cases this
    | cons c0 r => exact ⟨c0, r, rfl⟩
section
variable {P : Program} {w : World} {K : PySem.W.Frag} {mg : Str → Option Value} {base : Heap} {C fI fA fO : Addr}
def spLr (C : Addr) : Sp := fun vs H Q _ => ∃ (x pc : Addr) (old new ms ls cs : List Nat), vs = [.ref x, .ref pc] ∧ ReAt C H x old new ms ls ∧ OnOk old new ∧ H pc = some (.lst (bys cs)) ∧ CostOk ms ls new.length cs ∧
  ∀ H' q row, Same H H' → H q = none → RwAt H' q row → row.length ≤ new.length → RowIs old new cs ms ls 0 row new.length → Q (.ref q) H'
theorem ok_lr (T : ReTxt K mg C fI fA fO) {f : Addr} {fd fdA fdO : FuncData} {j k1 k2 : Nat} {t1 : Tok} (F : Fun K "least_row" "least_row" sLeastR f fd)
    (GA : FnOk P w K mg base CX0 k1 fA fdA ["self", "at"] (spReA C)) (bA : Binds K fdA ["self", "at"] []) (l1 : k1 ≤ j)
    (GO : FnOk P w K mg base CX0 k2 fO fdO ["self", "at", "many", "is_new"] (spReO C)) (bO : Binds K fdO ["self", "at", "many", "is_new"] []) (l2 : k2 ≤ j)
    (m1 : mg "len" = none) (m2 : mg "max" = none) (c1 : mg "BYTE_BITS" = some (.int 9 t1)) :
    FnOk P w K mg base CX0 (j + 1) f fd ["reaches", "costs"] (spLr C) := by
  refine F.ok scLr (fun vs H Q E h => ?_) (fun cdv A outer s H vs Q E hr h => ?_)
  · obtain ⟨x, pc, old, new, ms, ls, cs, rfl, _⟩ := h
    rfl
  · obtain ⟨x, pc, old, new, ms, ls, cs, rfl, hRe, ON, hpc, CK, fin⟩ := h
    obtain ⟨dx, p, q0, hx, hp, hq, RO⟩ := id hRe
    have hz := PySem.sizeLine_eq
    have hn := ON.ln
    have hcl := CK.len
    refine ⟨_, pss_cons (ps_set (i := 2) scLr.nd rfl (.inl rfl) (pe_lst pa_nil))
      (pss_cons (ps_set (i := 3) scLr.nd rfl (.inr rfl) pe_int)
      (pss_cons (ps_while PassesOwn.never (pt_cmpR op_lt (pv 3) (pe_callB call_len (by rfl) m1 PySem.boot_len (pa_cons (pe_fld (pv 0) rfl) pa_nil)) (nomark _))
        (pss_cons (ps_if (pt_cmpR op_eq (pe_op op_add (pe_glob (v := .int 9) rfl c1 ⟨_, rfl⟩) (pe_ix ix_list (pv 1) (pe_op op_add (pv 3) pe_int) (fun _ _ => rfl))) (pe_ix ix_list (pv 1) (pv 3) (fun _ _ => rfl)) (nomark _))
          (pss_cons (ps_expr (pe_bm PySem.F.plainAttrs_list PySem.F.slot_list_append PySem.F.type_list_append mt_append (pv 2) (pa_cons (pe_item_byt (pe_fld (pv 0) rfl) (pv 3) (fun _ _ => rfl)) pa_nil)))
          (pss_cons (ps_aug (i := 3) scLr.nd rfl (.inr rfl) pe_int ip_add) (pss_one ps_continue))) pss_nil)
        (pss_cons (ps_asg (pe_callB (cr_maxP rfl hr) (by rfl) m2 (by decide +kernel) (pa_cons
            (pe_lc (own := [("many", 4), ("is_new", 5), ("bits", 6)]) (g := gTup K 3 (gCons (gName 4) (gCons (gName 5) (gCons (gName 6) gNil))))
              rfl scLr.nd
              (pi_list (pe_meth (pv 0) T.cl T.mA GA (hr.mono l1) bA .nil pass0 (pa_cons (pv 3) pa_nil))) (blkOk_by (N := NLr) (sc := defScope sLeastR) (by decide +kernel))
              (fun _ _ _ _ _ => pg_tup rfl (pgs_cons (pg_name (i := 4) scLr.nd rfl (.inl rfl)) (pgs_cons (pg_name (i := 5) scLr.nd rfl (.inl rfl)) (pgs_cons (pg_name (i := 6) scLr.nd rfl (.inl rfl)) pgs_nil))))
              (fun _ _ _ _ _ => pts_one (pt_cmpR op_eq (pe_op op_add (pv 6) (pe_ix (ixL K) (pv 1) (pe_op op_add (pv 3) (pv 4)) (fun _ _ => rfl))) (pe_ix (ixL K) (pv 1) (pv 3) (fun _ _ => rfl)) (nomark _)))
              (fun _ _ _ _ _ => pe_tup (pa_cons (pv 4) (pa_cons (pv 5) pa_nil)))) pa_nil)) (pg_tup (by rfl) (pgs_cons (pg_name (i := 4) scLr.nd rfl (.inl rfl)) (pgs_cons (pg_name (i := 5) scLr.nd rfl (.inl rfl)) pgs_nil))))
        (pss_cons (ps_expr (pe_bm PySem.F.plainAttrs_list PySem.F.slot_list_append PySem.F.type_list_append mt_append (pv 2) (pa_cons (pe_meth (pv 0) T.cl T.mO GO (hr.mono l2) bO .nil pass0 (pa_cons (pv 3) (pa_cons (pv 4) (pa_cons (pv 5) pa_nil)))) pa_nil)))
        (pss_one (ps_aug (i := 3) scLr.nd rfl (.inr rfl) (pv 4) ip_add))))))
      (pss_one (ps_ret (pv 2))))), ?_⟩
    refine ⟨Nat.zero_le _, fun D nD => ?_⟩
    have s1 := same_upd (o := .lst []) nD
    have hD1 : (upd H D (.lst [])) D = some (.lst []) := upd_same
    dsimp only [gName]
    refine ⟨fun n σ H' => ∃ (y4 y5 y6 : Option V) (a : Nat) (row : List Di) (us : List V), σ = [some (.ref x), some (.ref pc), some (.ref D), some (.int (a : Int)), y4, y5, y6] ∧ Same H H' ∧ H' D = some (.lst us) ∧ Paired (DiAt H') row us ∧ RowIs old new cs ms ls 0 row a ∧ row.length ≤ a ∧ a ≤ new.length ∧ n = new.length - a,
      ⟨_, _, _, _, 0, [], [], rfl, s1, hD1, .nil, rfl, Nat.le_refl _, Nat.zero_le _, rfl⟩, fun n σ H' hW => ?_⟩
    obtain ⟨y4, y5, y6, a, row, us, rfl, sm, hD, hus, hrow, hrl, han, rfl⟩ := hW
    have hul := hus.length
    refine ⟨_, rfl, _, rfl, x, C, dx, _, _, rfl, sm _ _ hx, T.cl, T.nN, reF_n _ _ _ _, _, (byB new).size, rfl, ⟨by rw [byB_size]; omega, rfl⟩, _, _, rfl, rfl, _, rfl, ?_⟩
    by_cases hlt : a < new.length
    · refine iteC (decide_eq_true (by rw [byB_size]; omega)) ?_
      refine ⟨_, fun _ _ h => h, ?_⟩
      have hg1 : atI (bys cs) ((a : Int) + 1) = some (.int ((cs.getD (a + 1) 0 : Nat) : Int)) := at_of' (by push_cast; rfl) (by omega)
      have hg0 : atI (bys cs) (a : Int) = some (.int ((cs.getD a 0 : Nat) : Int)) := at_of' rfl (by omega)
      have hpc1 := sm _ _ hpc
      refine ⟨_, rfl, _, rfl, _, _, rfl, rfl, pc, _, _, _, rfl, rfl, .inl (.inl hpc1), hg1, _, _, rfl, rfl, _, rfl, _, rfl, pc, _, _, _, rfl, rfl, .inl (.inl hpc1), hg0, rfl, _, rfl, ite2 (fun e => ?_) (fun e => ?_)⟩
      · have e : V.int (9 + ((cs.getD (a + 1) 0 : Nat) : Int)) = V.int ((cs.getD a 0 : Nat) : Int) := of_decide_eq_true e
        have e := V.int.inj e
        refine ⟨_, rfl, .inl ⟨rfl, _, .inl (.inl hD)⟩, _, rfl, x, C, dx, _, _, rfl, sm _ _ hx, T.cl, T.nN, reF_n _ _ _ _, _, rfl, new.map Nat.toUInt8, (a : Int), rfl, rfl, by rw [List.length_map]; omega, by omega, by rw [List.length_map]; omega, ?_⟩
        rw [Int.toNat_natCast, byB_get ON.kn]
        refine ⟨D, _, _, rfl, rfl, hD, by omega, ?_⟩
        refine ⟨_, rfl, _, _, rfl, rfl, new.length - (a + 1), by omega, _, _, _, a + 1, row ++ [.b (new.getD a 0)], us ++ [.int ((new.getD a 0 : Nat) : Int)], by push_cast; rfl, same_put sm nD, upd_same, ?_, ?_, by rw [List.length_append]; show row.length + 1 ≤ _; omega, hlt, rfl⟩
        · exact (hus.mono fun _ _ h => h.put hD).snoc (show DiAt _ (.b (new.getD a 0)) (.int ((new.getD a 0 : Nat) : Int)) from rfl)
        · exact RowIs.snoc hrow hlt (.inl ⟨by omega, rfl⟩)
      · have e : 9 + cs.getD (a + 1) 0 ≠ cs.getD a 0 := fun z => e (decide_eq_true (by rw [← z]; push_cast; rfl))
        refine ⟨_, rfl, x, dx, _, rfl, sm _ _ hx, reF_no _ _ _ _ (by decide +kernel) (by decide +kernel) (by decide +kernel) (by decide +kernel), _, rfl, x, old, new, ms, ls, a, rfl, hRe.same sm, hlt, fun H3 q vs s3 nq hqv hvs => ?_⟩
        have sm3 := sm.trans s3
        have hD3 := s3 _ _ hD
        have hpc3 := s3 _ _ hpc1
        refine ⟨q, rfl, ⟨_, .inl (.inl hqv)⟩, fun B nB => ?_⟩
        have nB0 := none_back sm3 nB
        obtain ⟨cp, hcp⟩ : ∃ cp, cp = copsL (ms.getD a 0) (ls.getD a 0) := ⟨_, rfl⟩
        rw [← hcp] at hvs
        have hin := fun c (hc : c ∈ cp) => cops_in RO hlt (c := c) (by rw [← hcp]; exact hc)
        refine lc_list (K := K) (a := q) (xs := vs) (fun i H' => Same H3 H' ∧ ∃ zs, H' B = some (.lst zs) ∧ Paired (L2.PrAt H') (((cp.take i).filter fun c => decide (c.2.2 + cs.getD (a + c.1) 0 = cs.getD a 0)).map nb) zs) ⟨same_upd nB, [], upd_same, .nil⟩ (fun i H' _ h => .inl (.inl (h.1 _ _ hqv))) (fun i x' H' hx' h => ?_) (fun H' h => ?_)
        · obtain ⟨s5, zs, hB, hzs⟩ := h
          have hvl := hvs.length
          have hi' : i < cp.length := by have := (List.getElem?_eq_some_iff.mp hx').1; omega
          obtain ⟨v', e1, hc⟩ := paired_get hvs (List.getElem?_eq_getElem hi')
          obtain rfl := Option.some.inj (e1.symm.trans hx')
          obtain ⟨t, rfl, ht⟩ := hc.same s5
          have hci := hin cp[i] (List.getElem_mem hi')
          have hcl2 : cp.length ≤ 2 := by
            rw [hcp]
            unfold copsL
            rw [List.length_append]
            split <;> split <;> simp
          have hzl : zs.length ≤ 2 := by
            rw [← hzs.length, List.length_map]
            refine Nat.le_trans (List.length_filter_le _ _) ?_
            rw [List.length_take]
            omega
          rw [take_snocG (List.getElem?_eq_getElem hi'), List.filter_append, List.map_append]
          generalize cp[i] = c at *
          refine ⟨t, _, rfl, .inl (.inl ht), rfl, _, _, rfl, _, _, rfl, _, _, rfl, rfl, rfl, ?_⟩
          refine ⟨_, rfl, _, rfl, _, rfl, _, rfl, _, _, rfl, rfl, pc, _, _, _, rfl, rfl, .inl (.inl (s5 _ _ hpc3)), at_of' (k := a + c.1) (by push_cast; rfl) (by omega), _, _, rfl, rfl, _, rfl, _, rfl, pc, _, _, _, rfl, rfl, .inl (.inl (s5 _ _ hpc3)), hg0, rfl, _, rfl, ite2 (fun t2 => ?_) (fun t2 => ?_)⟩
          · have t2 : V.int (((c.2.2 : Nat) : Int) + ((cs.getD (a + c.1) 0 : Nat) : Int)) = V.int ((cs.getD a 0 : Nat) : Int) := of_decide_eq_true t2
            have t2 := V.int.inj t2
            refine ⟨_, rfl, _, rfl, (by show 2 ≤ sizeLine; omega), fun tt ntt => ?_⟩
            have st' := same_upd (o := .tup [.int (c.1 : Int), .bl c.2.1]) ntt
            refine ⟨_, st' _ _ hB, by omega, same_put (s5.trans st') nB, zs ++ [.ref tt], upd_same, ?_⟩
            rw [List.filter_cons_of_pos (p := fun c : Nat × Bool × Nat => decide (c.2.2 + cs.getD (a + c.1) 0 = cs.getD a 0)) (decide_eq_true (by omega))]
            have keep : ∀ {p : Int × Bool} {v : V}, L2.PrAt H' p v → L2.PrAt (upd (upd H' tt (.tup [.int (c.1 : Int), .bl c.2.1])) B (.lst (zs ++ [.ref tt]))) p v := fun ⟨t, e, ht⟩ => ⟨t, e, tup_put (st' _ _ hB) _ _ (st' _ _ ht)⟩
            exact (hzs.mono fun _ _ h => keep h).snoc ⟨tt, rfl, tup_put (st' _ _ hB) _ _ upd_same⟩
          · refine ⟨s5, zs, hB, ?_⟩
            rw [List.filter_cons_of_neg (p := fun c : Nat × Bool × Nat => decide (c.2.2 + cs.getD (a + c.1) 0 = cs.getD a 0)) (fun z => t2 (decide_eq_true (by have := of_decide_eq_true z; rw [← this]; push_cast; rfl)))]
            show Paired _ (_ ++ []) _
            rw [List.append_nil]
            exact hzs
        · obtain ⟨s5, zs, hB, hzs⟩ := h
          rw [← hvs.length, List.take_length] at hzs
          have hcand : (cp.filter fun c => decide (c.2.2 + cs.getD (a + c.1) 0 = cs.getD a 0)) = candC cs ms ls a := by rw [hcp]; rfl
          rw [hcand] at hzs
          obtain ⟨c0, r, hcr⟩ := cost_some CK hlt e
          rw [hcr] at hzs
          refine ⟨B, zs, nb c0, r.map nb, rfl, .inl (.inl hB), hzs, fun i' qv v' g1 g2 g3 => ?_⟩
          have g1 : ((c0 :: r).map nb)[i']? = some qv := g1
          rw [List.getElem?_map] at g1
          cases hci : (c0 :: r)[i']? with
          | none => rw [hci] at g1; cases g1
          | some c =>
            rw [hci] at g1
            have eqv : nb c = qv := Option.some.inj g1
            subst eqv
            have hcm : c ∈ candC cs ms ls a := by rw [hcr]; exact List.mem_of_getElem? hci
            have g1' : ((nb c0 :: r.map nb))[i']? = some (nb c) := by
              show ((c0 :: r).map nb)[i']? = _
              rw [List.getElem?_map, hci]
              rfl
            obtain ⟨v'', e2, hv⟩ := paired_get hzs g1'
            obtain rfl := Option.some.inj (e2.symm.trans g2)
            obtain ⟨t, rfl, ht⟩ := hv
            have hci := hin c (by rw [hcp]; exact cand_in hcm)
            have sm5 := sm3.trans s5
            have hD5 := s5 _ _ hD3
            have hus5 : Paired (DiAt H') row us := hus.mono fun _ _ h => (h.same s3).same s5
            refine ⟨t, _, rfl, .inl (.inl ht), rfl, _, _, rfl, _, _, rfl, rfl, ?_⟩
            dsimp only [gName]
            refine ⟨_, rfl, .inl ⟨rfl, _, .inl (.inl hD5)⟩, _, rfl, x, dx, _, rfl, sm5 _ _ hx, reF_no _ _ _ _ (by decide +kernel) (by decide +kernel) (by decide +kernel) (by decide +kernel), _, rfl, _, rfl, _, rfl, x, old, new, ms, ls, a, c.1, c.2.1, rfl, hRe.same sm5, ON, hci.1, hci.2.1, fun z => (hci.2.2.2.1 z).2, hci.2.2.2.2, fun H6 v it s6 hci2 hit => ?_⟩
            have hw : wideI it = c.1 := by
              obtain ⟨p, rfl, _⟩ := hci2
              rfl
            refine ⟨D, _, _, rfl, rfl, s6 _ _ hD5, by omega, ?_⟩
            have ea : (a : Int) + (c.1 : Int) = ((a + c.1 : Nat) : Int) := by push_cast; rfl
            refine ⟨_, rfl, _, rfl, _, _, rfl, rfl, new.length - (a + c.1), by have := hci.1; have := hci.2.1; omega, ?_⟩
            dsimp only
            have ea2 : V.int ((fun i j => i + j) (a : Int) (c.1 : Int)) = V.int ((a + c.1 : Nat) : Int) := congrArg V.int ea
            refine ⟨_, _, _, a + c.1, row ++ [it], us ++ [v], by rw [← ea]; rfl, same_put (sm5.trans s6) nD, upd_same, ?_, ?_, ?_, hci.2.1, rfl⟩
            · exact (hus5.mono fun _ _ h => (h.same s6).put (s6 _ _ hD5)).snoc (hit.put (s6 _ _ hD5))
            · rw [← hw]
              exact RowIs.snoc hrow hlt (.inr ⟨e, c, nb c0, r.map nb, hcm, by rw [hcr]; rfl, g3, hci2⟩)
            · rw [List.length_append]
              show row.length + 1 ≤ _
              have := hci.1
              omega
    · refine ite2 (fun z => absurd (show a < new.length by have := of_decide_eq_true z; rw [byB_size] at this; omega) hlt) (fun _ => ?_)
      have ea : a = new.length := by omega
      subst ea
      exact ⟨_, rfl, fin H' D row sm nD ⟨us, hD, hus⟩ hrl hrow⟩
end
end K0

namespace K0
open PySem PySem.Spec PyProof.Rows L2
/-! ### difference, put_on, flat, joined -/
theorem scDi : FnScope ["old", "new", "reaches", "costs"] ["old", "new"] (defScope sDiff) := ⟨rfl, rfl, rfl, by decide +kernel, rfl, by decide +kernel, by decide +kernel⟩
theorem scPo : FnScope ["old", "difference", "new"] ["old", "difference"] (defScope sPutOn) := ⟨rfl, rfl, rfl, by decide +kernel, rfl, by decide +kernel, by decide +kernel⟩
theorem scFl : FnScope ["difference", "old_mark", "new_mark", "row"] ["difference"] (defScope sFlat) := ⟨rfl, rfl, rfl, by decide +kernel, rfl, by decide +kernel, by decide +kernel⟩
abbrev NJo : List Str := ["first", "second", "between", "origins", "one"]
theorem scJo : FnScope NJo ["first", "second"] (defScope sJoined) := ⟨rfl, rfl, rfl, by decide +kernel, rfl, by decide +kernel, by decide +kernel⟩
theorem make_same {H H3 : Hp} {x dx C : Addr} (nx : H x = none) (nd : H dx = none) (k3 : ∀ b o, b ≠ x → (upd (upd H dx (.own x)) x (.ins C dx [])) b = some o → H3 b = some o) : Same H H3 := fun b o e => k3 b o (ne_of_none e nx) (by
  rw [upd_ne (ne_of_none e nx), upd_ne (ne_of_none e nd)]
  exact e)
def mkD (m : Nat × Nat) : PyData := .tuple [.int (m.1 : Int), .int (m.2 : Int)]
theorem dp_mk {K : PySem.W.Frag} {H : Hp} {a : Addr} {m : Nat × Nat} (h : MkAt H a m) : Dp K H (.ref a) (mkD m) := .tup (.inl (.inl h)) (.cons (.int _) (.cons (.int _) .nil))
theorem sh_mk (m : Nat × Nat) : SeqAt.shaped (mkD m) = true := rfl
theorem eqv_mk (m n : Nat × Nat) : PyData.eqv (mkD m) (mkD n) = decide (m = n) := by
  obtain ⟨a, b⟩ := m
  obtain ⟨c, d⟩ := n
  simp only [mkD, PyData.eqv, PyData.eqvAll]
  by_cases h1 : a = c <;> by_cases h2 : b = d <;> simp [h1, h2] <;> omega
section
variable {P : Program} {w : World} {K : PySem.W.Frag} {mg : Str → Option Value} {base : Heap} {C fI fA fO : Addr}
def spDi : Sp := fun vs H Q _ => ∃ (old new : List Nat), vs = [.byt (byB old), .byt (byB new)] ∧ OnOk old new ∧
  ∀ H' t d pc x row ms ls cs, Same H H' → H t = none → H' t = some (.tup [.ref d, .ref pc]) → DfAt H' d x ⟨(old.length, mrk old), (new.length, mrk new), row⟩ → H' pc = some (.lst (bys cs)) → ReOk old new ms ls → CostOk ms ls new.length cs → row.length ≤ new.length → RowIs old new cs ms ls 0 row new.length → Q (.ref t) H'
theorem ok_di (T : ReTxt K mg C fI fA fO) {f fB fC fM fL : Addr} {fd fdB fdC fdM fdL fdI : FuncData} {j k1 k2 k3 k4 k5 : Nat} (F : Fun K "difference" "difference" sDiff f fd)
    (GB : FnOk P w K mg base CX0 k1 fB fdB ["told"] spRefB) (bB : Binds K fdB ["told"] []) (kB : PySem.W.keepIn K (.ref fB) = true) (gB : mg "refuse_bytes" = some (.ref fB)) (l1 : k1 ≤ j)
    (GI : FnOk P w K mg base CX0 k2 fI fdI ["self", "old", "new"] (spReI C)) (bI : Binds K fdI ["self", "old", "new"] []) (l2 : k2 + 1 ≤ j)
    (GC : FnOk P w K mg base CX0 k3 fC fdC ["reaches"] (spCo C)) (bC : Binds K fdC ["reaches"] []) (kC : PySem.W.keepIn K (.ref fC) = true) (gC : mg "costs_of" = some (.ref fC)) (l3 : k3 ≤ j)
    (GM : FnOk P w K mg base CX0 k4 fM fdM ["data"] spMark) (bM : Binds K fdM ["data"] []) (kM : PySem.W.keepIn K (.ref fM) = true) (gM : mg "mark_of" = some (.ref fM)) (l4 : k4 ≤ j)
    (GL : FnOk P w K mg base CX0 k5 fL fdL ["reaches", "costs"] (spLr C)) (bL : Binds K fdL ["reaches", "costs"] []) (kL : PySem.W.keepIn K (.ref fL) = true) (gL : mg "least_row" = some (.ref fL)) (l5 : k5 ≤ j) :
    FnOk P w K mg base CX0 (j + 1) f fd ["old", "new"] spDi := by
  refine F.ok scDi (fun vs H Q E h => ?_) (fun cdv A outer s H vs Q E hr h => ?_)
  · obtain ⟨old, new, rfl, _⟩ := h
    rfl
  · obtain ⟨old, new, rfl, ON, fin⟩ := h
    have hz := PySem.sizeLine_eq
    refine ⟨_, pss_cons (ps_expr (pe_call GB (hr.mono l1) (by rfl) gB kB bB .nil pass0 (pa_cons (pv 0) pa_nil))) (pss_cons (ps_expr (pe_call GB (hr.mono l1) (by rfl) gB kB bB .nil pass0 (pa_cons (pv 1) pa_nil)))
      (pss_cons (ps_set (i := 2) scDi.nd rfl (.inl rfl) (pe_make T.made GI (hr.mono l2) (by rfl) T.gC bI .nil pass0 (pa_cons (pv 0) (pa_cons (pv 1) pa_nil))))
      (pss_cons (ps_set (i := 3) scDi.nd rfl (.inl rfl) (pe_call GC (hr.mono l3) (by rfl) gC kC bC .nil pass0 (pa_cons (pv 2) pa_nil)))
      (pss_one (ps_ret (pe_tup (pa_cons (pe_tup (pa_cons (pe_call GM (hr.mono l4) (by rfl) gM kM bM .nil pass0 (pa_cons (pv 0) pa_nil)) (pa_cons (pe_call GM (hr.mono l4) (by rfl) gM kM bM .nil pass0 (pa_cons (pv 1) pa_nil)) (pa_cons (pe_call GL (hr.mono l5) (by rfl) gL kL bL .nil pass0 (pa_cons (pv 2) (pa_cons (pv 3) pa_nil))) pa_nil)))) (pa_cons (pv 3) pa_nil)))))))), ?_⟩
    refine ⟨_, rfl, old, rfl, ON.lo, _, rfl, new, rfl, ON.ln, _, rfl, _, rfl, ?_⟩
    intro x dx nx nd ne
    refine ⟨x, dx, old, new, rfl, upd_same, ON, fun H1 ms ls k1' hRe => ⟨rfl, ?_⟩⟩
    have s1 := make_same nx nd k1'
    obtain ⟨_, _, _, _, _, _, RO⟩ := id hRe
    dsimp only [gName]
    refine ⟨_, rfl, x, old, new, ms, ls, rfl, hRe, ON, fun H2 pc cs s2 npc hpc hCK => ?_⟩
    have s12 := s1.trans s2
    dsimp only [gName]
    refine ⟨_, rfl, old, rfl, ON.ko, ON.lo, fun H3 a s3 na hma => ?_⟩
    refine ⟨_, rfl, new, rfl, ON.kn, ON.ln, fun H4 b s4 nb hmb => ?_⟩
    have hma := s4 _ _ hma
    have s24 := s3.trans s4
    refine ⟨_, rfl, _, rfl, x, pc, old, new, ms, ls, cs, rfl, (hRe.same s2).same s24, ON, s24 _ _ hpc, hCK, fun H5 r row s5 nr hrw hrl hrow => ?_⟩
    have hma := s5 _ _ hma
    have hmb := s5 _ _ hmb
    have s15 := (s12.trans s24).trans s5
    refine ⟨(by show 3 ≤ sizeLine; omega), fun d nd => ?_⟩
    have s6 := same_upd (o := .tup [.ref a, .ref b, .ref r]) nd
    have hd6 : (upd H5 d (.tup [.ref a, .ref b, .ref r])) d = some (.tup [.ref a, .ref b, .ref r]) := upd_same
    have s16 := s15.trans s6
    have hpc5 := s5 _ _ (s24 _ _ hpc)
    have hma := s6 _ _ hma
    have hmb := s6 _ _ hmb
    have hrw := hrw.same s6
    have hpc6 := s6 _ _ hpc5
    generalize upd H5 d (.tup [.ref a, .ref b, .ref r]) = H6 at *
    refine ⟨_, rfl, (by show 2 ≤ sizeLine; omega), fun t nt => ?_⟩
    have s7 := same_upd (o := .tup [.ref d, .ref pc]) nt
    exact fin _ t d pc ⟨a, b, r⟩ row ms ls cs (s16.trans s7) (none_back s16 nt) upd_same ⟨s7 _ _ hd6, s7 _ _ hma, s7 _ _ hmb, hrw.same s7⟩ (s7 _ _ hpc6) RO hCK hrl hrow
def spPo : Sp := fun vs H Q _ => ∃ (t : Addr) (x : DfA) (d : Dfv) (old : List Nat), vs = [.byt (byB old), .ref t] ∧ DfAt H t x d ∧ d.Low ∧ d.ok = true ∧ (∀ k ∈ old, k < 256) ∧ old.length ≤ 2000 ∧ d.old = (old.length, mrk old) ∧ d.new = ((makeB (orig d.row) old).length, mrk (makeB (orig d.row) old)) ∧
  ∀ H', Same H H' → Q (.byt (byB (makeB (orig d.row) old))) H'
theorem ok_po {f fB fR fM fP fG : Addr} {fd fdB fdR fdM fdP fdG : FuncData} {j k1 k2 k3 k4 k5 : Nat} (F : Fun K "put_on" "put_on" sPutOn f fd)
    (GB : FnOk P w K mg base CX0 k1 fB fdB ["told"] spRefB) (bB : Binds K fdB ["told"] []) (kB : PySem.W.keepIn K (.ref fB) = true) (gB : mg "refuse_bytes" = some (.ref fB)) (l1 : k1 ≤ j)
    (GR : FnOk P w K mg base CX0 k2 fR fdR ["told"] spRefD) (bR : Binds K fdR ["told"] []) (kR : PySem.W.keepIn K (.ref fR) = true) (gR : mg "refuse_difference" = some (.ref fR)) (l2 : k2 ≤ j)
    (GM : FnOk P w K mg base CX0 k3 fM fdM ["data"] spMark) (bM : Binds K fdM ["data"] []) (kM : PySem.W.keepIn K (.ref fM) = true) (gM : mg "mark_of" = some (.ref fM)) (l3 : k3 ≤ j)
    (GP : FnOk P w K mg base CX0 k4 fP fdP ["origins", "old"] spPt) (bP : Binds K fdP ["origins", "old"] []) (kP : PySem.W.keepIn K (.ref fP) = true) (gP : mg "put_together" = some (.ref fP)) (l4 : k4 ≤ j)
    (GG : FnOk P w K mg base CX0 k5 fG fdG ["row"] spOr) (bG : Binds K fdG ["row"] []) (kG : PySem.W.keepIn K (.ref fG) = true) (gG : mg "origins_of" = some (.ref fG)) (l5 : k5 ≤ j) :
    FnOk P w K mg base CX0 (j + 1) f fd ["old", "difference"] spPo := by
  refine F.ok scPo (fun vs H Q E h => ?_) (fun cdv A outer s H vs Q E hr h => ?_)
  · obtain ⟨t, x, d, old, rfl, _⟩ := h
    rfl
  · obtain ⟨t, x, d, old, rfl, hD, hL, hok, ko, lo, eo, en, fin⟩ := h
    have hfit := of_decide_eq_true (show decide (fitR d.old.1 0 d.row = some d.new.1) = true from hok)
    obtain ⟨hol, hoo⟩ := orig_ok (acc := []) (fun o z => by cases z) hfit
    have hol : (orig d.row).length = d.new.1 := hol
    rw [eo] at hoo
    have hoo : ∀ o ∈ orig d.row, OgOk old.length o := hoo
    have hn2 := hL.2.2.1
    refine ⟨_, pss_cons (ps_expr (pe_call GB (hr.mono l1) (by rfl) gB kB bB .nil pass0 (pa_cons (pv 0) pa_nil))) (pss_cons (ps_expr (pe_call GR (hr.mono l2) (by rfl) gR kR bR .nil pass0 (pa_cons (pv 1) pa_nil)))
      (pss_cons (ps_if (pt_cmpR (op_neD hr.units) (pe_call GM (hr.mono l3) (by rfl) gM kM bM .nil pass0 (pa_cons (pv 0) pa_nil)) (pe_ix ix_tup (pv 1) pe_int (fun _ _ => rfl)) (nomark _)) (pss_one ps_never) pss_nil)
      (pss_cons (ps_set (i := 2) scPo.nd rfl (.inl rfl) (pe_call GP (hr.mono l4) (by rfl) gP kP bP .nil pass0 (pa_cons (pe_call GG (hr.mono l5) (by rfl) gG kG bG .nil pass0 (pa_cons (pe_ix ix_tup (pv 1) pe_int (fun _ _ => rfl)) pa_nil)) (pa_cons (pv 0) pa_nil))))
      (pss_cons (ps_if (pt_cmpR (op_neD hr.units) (pe_call GM (hr.mono l3) (by rfl) gM kM bM .nil pass0 (pa_cons (pv 2) pa_nil)) (pe_ix ix_tup (pv 1) pe_int (fun _ _ => rfl)) (nomark _)) (pss_one ps_never) pss_nil)
      (pss_one (ps_ret (pv 2))))))), ?_⟩
    refine ⟨_, rfl, old, rfl, lo, _, rfl, t, x, d, rfl, hD, hL, hok, ?_⟩
    refine ⟨_, rfl, old, rfl, ko, lo, fun H1 a s1 na hma => ?_⟩
    have hD1 := hD.same s1
    refine ⟨_, rfl, t, _, 0, _, rfl, rfl, .inl (.inl hD1.1), rfl, _, _, dp_mk hma, dp_mk hD1.2.1, sh_mk _, sh_mk _, ?_⟩
    rw [eqv_mk, eo, decide_eq_true rfl]
    refine ⟨_, rfl, iteF ?_⟩
    refine ⟨_, rfl, t, _, 2, _, rfl, rfl, .inl (.inl hD1.1), rfl, x.r, d.row, d.old.1, d.new.1, rfl, hD1.2.2.2, hfit, hn2, fun H2 q s2 nq hOs => ?_⟩
    refine ⟨_, rfl, q, orig d.row, old, rfl, hOs, by rw [hol]; exact hn2, hoo, ko, lo, fun H3 s3 => ?_⟩
    have s13 := (s1.trans s2).trans s3
    dsimp only [gName]
    refine ⟨_, rfl, makeB (orig d.row) old, rfl, makeB_lt ko hoo, by rw [makeB_len, hol]; exact hn2, fun H4 b s4 nb hmb => ?_⟩
    have hD4 := (hD1.same (s2.trans s3)).same s4
    refine ⟨_, rfl, t, _, 1, _, rfl, rfl, .inl (.inl hD4.1), rfl, _, _, dp_mk hmb, dp_mk hD4.2.2.1, sh_mk _, sh_mk _, ?_⟩
    rw [eqv_mk, en, decide_eq_true rfl]
    exact ⟨_, rfl, iteF ⟨_, rfl, fin _ (s13.trans s4)⟩⟩
def spFl : Sp := fun vs H Q _ => ∃ (t : Addr) (x : DfA) (d : Dfv), vs = [.ref t] ∧ DfAt H t x d ∧ d.Low ∧ d.ok = true ∧
  ∀ H' t' x', Same H H' → H t' = none → DfAt H' t' x' ⟨d.old, d.new, flatF (orig d.row)⟩ → Q (.ref t') H'
theorem ok_fl {f fR fF fG : Addr} {fd fdR fdF fdG : FuncData} {j k1 k2 k3 : Nat} (F : Fun K "flat" "flat" sFlat f fd)
    (GR : FnOk P w K mg base CX0 k1 fR fdR ["told"] spRefD) (bR : Binds K fdR ["told"] []) (kR : PySem.W.keepIn K (.ref fR) = true) (gR : mg "refuse_difference" = some (.ref fR)) (l1 : k1 ≤ j)
    (GF : FnOk P w K mg base CX0 k2 fF fdF ["origins"] spRf) (bF : Binds K fdF ["origins"] []) (kF : PySem.W.keepIn K (.ref fF) = true) (gF : mg "row_from" = some (.ref fF)) (l2 : k2 ≤ j)
    (GG : FnOk P w K mg base CX0 k3 fG fdG ["row"] spOr) (bG : Binds K fdG ["row"] []) (kG : PySem.W.keepIn K (.ref fG) = true) (gG : mg "origins_of" = some (.ref fG)) (l3 : k3 ≤ j) :
    FnOk P w K mg base CX0 (j + 1) f fd ["difference"] spFl := by
  refine F.ok scFl (fun vs H Q E h => ?_) (fun cdv A outer s H vs Q E hr h => ?_)
  · obtain ⟨t, x, d, rfl, _⟩ := h
    rfl
  · obtain ⟨t, x, d, rfl, hD, hL, hok, fin⟩ := h
    have hz := PySem.sizeLine_eq
    have hfit := of_decide_eq_true (show decide (fitR d.old.1 0 d.row = some d.new.1) = true from hok)
    obtain ⟨hol, hoo⟩ := orig_ok (acc := []) (fun o z => by cases z) hfit
    have hol : (orig d.row).length = d.new.1 := hol
    have hn2 := hL.2.2.1
    refine ⟨_, pss_cons (ps_expr (pe_call GR (hr.mono l1) (by rfl) gR kR bR .nil pass0 (pa_cons (pv 0) pa_nil)))
      (pss_cons (ps_asg (pv 0) (pg_tup (by rfl) (pgs_cons (pg_name (i := 1) scFl.nd rfl (.inl rfl)) (pgs_cons (pg_name (i := 2) scFl.nd rfl (.inl rfl)) (pgs_cons (pg_name (i := 3) scFl.nd rfl (.inl rfl)) pgs_nil)))))
      (pss_one (ps_ret (pe_tup (pa_cons (pv 1) (pa_cons (pv 2) (pa_cons (pe_call GF (hr.mono l2) (by rfl) gF kF bF .nil pass0 (pa_cons (pe_call GG (hr.mono l3) (by rfl) gG kG bG .nil pass0 (pa_cons (pv 3) pa_nil)) pa_nil)) pa_nil))))))), ?_⟩
    refine ⟨_, rfl, t, x, d, rfl, hD, hL, hok, ?_⟩
    refine ⟨_, rfl, t, _, rfl, .inl (.inl hD.1), rfl, _, _, rfl, _, _, rfl, _, _, rfl, rfl, ?_⟩
    refine ⟨_, rfl, _, rfl, _, rfl, x.r, d.row, d.old.1, d.new.1, rfl, hD.2.2.2, hfit, hn2, fun H2 q s2 nq hOs => ?_⟩
    refine ⟨q, orig d.row, rfl, hOs, by rw [hol]; exact hn2, fun H3 r s3 nr hRw => ?_⟩
    have s23 := s2.trans s3
    refine ⟨(by show 3 ≤ sizeLine; omega), fun t' nt => ?_⟩
    have s4 := same_upd (o := .tup [.ref x.a, .ref x.b, .ref r]) nt
    have s24 := s23.trans s4
    exact fin _ t' ⟨x.a, x.b, r⟩ s24 (none_back s23 nt) ⟨upd_same, s24 _ _ hD.2.1, s24 _ _ hD.2.2.1, hRw.same s4⟩
def spJo : Sp := fun vs H Q _ => ∃ (t1 t2 : Addr) (x1 x2 : DfA) (d1 d2 : Dfv), vs = [.ref t1, .ref t2] ∧ DfAt H t1 x1 d1 ∧ DfAt H t2 x2 d2 ∧ d1.Low ∧ d2.Low ∧ d1.ok = true ∧ d2.ok = true ∧ d1.new = d2.old ∧
  ∀ H' t' x', Same H H' → H t' = none → DfAt H' t' x' ⟨d1.old, d2.new, flatF ((orig d2.row).map (joinO (orig d1.row)))⟩ → Q (.ref t') H'
theorem ok_jo {f fR fF fG : Addr} {fd fdR fdF fdG : FuncData} {j k1 k2 k3 : Nat} (F : Fun K "joined" "joined" sJoined f fd)
    (GR : FnOk P w K mg base CX0 k1 fR fdR ["told"] spRefD) (bR : Binds K fdR ["told"] []) (kR : PySem.W.keepIn K (.ref fR) = true) (gR : mg "refuse_difference" = some (.ref fR)) (l1 : k1 ≤ j)
    (GF : FnOk P w K mg base CX0 k2 fF fdF ["origins"] spRf) (bF : Binds K fdF ["origins"] []) (kF : PySem.W.keepIn K (.ref fF) = true) (gF : mg "row_from" = some (.ref fF)) (l2 : k2 ≤ j)
    (GG : FnOk P w K mg base CX0 k3 fG fdG ["row"] spOr) (bG : Binds K fdG ["row"] []) (kG : PySem.W.keepIn K (.ref fG) = true) (gG : mg "origins_of" = some (.ref fG)) (l3 : k3 ≤ j)
    (m1 : mg "isinstance" = none) (m2 : mg "tuple" = none) :
    FnOk P w K mg base CX0 (j + 1) f fd ["first", "second"] spJo := by
  refine F.ok scJo (fun vs H Q E h => ?_) (fun cdv A outer s H vs Q E hr h => ?_)
  · obtain ⟨t1, t2, x1, x2, d1, d2, rfl, _⟩ := h
    rfl
  · obtain ⟨t1, t2, x1, x2, d1, d2, rfl, hD1, hD2, hL1, hL2, hok1, hok2, emk, fin⟩ := h
    have hz := PySem.sizeLine_eq
    have hfit1 := of_decide_eq_true (show decide (fitR d1.old.1 0 d1.row = some d1.new.1) = true from hok1)
    have hfit2 := of_decide_eq_true (show decide (fitR d2.old.1 0 d2.row = some d2.new.1) = true from hok2)
    obtain ⟨hol1, hoo1⟩ := orig_ok (acc := []) (fun o z => by cases z) hfit1
    obtain ⟨hol2, hoo2⟩ := orig_ok (acc := []) (fun o z => by cases z) hfit2
    have hol1 : (orig d1.row).length = d1.new.1 := hol1
    have hol2 : (orig d2.row).length = d2.new.1 := hol2
    have hoo2 : ∀ o ∈ orig d2.row, OgOk d2.old.1 o := hoo2
    have hn1 := hL1.2.2.1
    have hn2 := hL2.2.2.1
    refine ⟨_, pss_cons (ps_expr (pe_call GR (hr.mono l1) (by rfl) gR kR bR .nil pass0 (pa_cons (pv 0) pa_nil))) (pss_cons (ps_expr (pe_call GR (hr.mono l1) (by rfl) gR kR bR .nil pass0 (pa_cons (pv 1) pa_nil)))
      (pss_cons (ps_if (pt_cmpR (op_neD hr.units) (pe_ix ix_tup (pv 0) pe_int (fun _ _ => rfl)) (pe_ix ix_tup (pv 1) pe_int (fun _ _ => rfl)) (nomark _)) (pss_one ps_never) pss_nil)
      (pss_cons (ps_set (i := 2) scJo.nd rfl (.inr rfl) (pe_call GG (hr.mono l3) (by rfl) gG kG bG .nil pass0 (pa_cons (pe_ix ix_tup (pv 0) pe_int (fun _ _ => rfl)) pa_nil)))
      (pss_cons (ps_setLc (i := 3) (own := [("one", 4)]) (g := gName 4) (tt := tYes) rfl scJo.nd rfl rfl (sw_true rfl rfl rfl (by decide +kernel))
          (pi_list (pe_call GG (hr.mono l3) (by rfl) gG kG bG .nil pass0 (pa_cons (pe_ix ix_tup (pv 1) pe_int (fun _ _ => rfl)) pa_nil))) (blkOk_by (N := NJo) (sc := defScope sJoined) (by decide +kernel)) (fun _ _ _ _ _ => pg_name (i := 4) scJo.nd rfl (.inl rfl)) (fun _ _ _ _ _ => pts_nil)
          (fun _ _ _ _ _ => pe_ifExp (pt_val (pe_callB (isiK K) (by rfl) m1 (by decide +kernel) (pa_cons (pv 4) (pa_cons (pe_bltn (v := .ty "tuple") (by rfl) m2 (by decide +kernel) rfl) pa_nil)))) (pe_ix (ixL K) (pv 2) (pe_ix (ixT K) (pv 4) pe_int (fun _ _ => rfl)) (fun _ _ => rfl)) (pv 4)))
      (pss_one (ps_ret (pe_tup (pa_cons (pe_ix ix_tup (pv 0) pe_int (fun _ _ => rfl)) (pa_cons (pe_ix ix_tup (pv 1) pe_int (fun _ _ => rfl)) (pa_cons (pe_call GF (hr.mono l2) (by rfl) gF kF bF .nil pass0 (pa_cons (pv 3) pa_nil)) pa_nil)))))))))), ?_⟩
    refine ⟨_, rfl, t1, x1, d1, rfl, hD1, hL1, hok1, _, rfl, t2, x2, d2, rfl, hD2, hL2, hok2, ?_⟩
    refine ⟨_, rfl, t1, _, 1, _, rfl, rfl, .inl (.inl hD1.1), rfl, _, rfl, t2, _, 0, _, rfl, rfl, .inl (.inl hD2.1), rfl, _, _, dp_mk hD1.2.2.1, dp_mk hD2.2.1, sh_mk _, sh_mk _, ?_⟩
    rw [eqv_mk, decide_eq_true emk]
    refine ⟨_, rfl, iteF ?_⟩
    refine ⟨_, rfl, t1, _, 2, _, rfl, rfl, .inl (.inl hD1.1), rfl, x1.r, d1.row, d1.old.1, d1.new.1, rfl, hD1.2.2.2, hfit1, hn1, fun H1 p s1 np hOs1 => ?_⟩
    have hD2' := hD2.same s1
    dsimp only [gName]
    refine ⟨_, rfl, t2, _, 2, _, rfl, rfl, .inl (.inl hD2'.1), rfl, x2.r, d2.row, d2.old.1, d2.new.1, rfl, hD2'.2.2.2, hfit2, hn2, fun H2 q s2 nq hOs2 => ?_⟩
    have s12 := s1.trans s2
    obtain ⟨us2, hq, hus2⟩ := hOs2
    obtain ⟨us1, hp, hus1⟩ := hOs1.same s2
    have hul2 := hus2.length
    have hul1 := hus1.length
    refine ⟨q, rfl, ⟨_, .inl (.inl hq)⟩, fun B nB => ?_⟩
    have nB0 := none_back s12 nB
    refine lc_list (K := K) (a := q) (xs := us2) (fun i H' => Same H2 H' ∧ ∃ zs, H' B = some (.lst zs) ∧ Paired (OgAt H') (((orig d2.row).take i).map (joinO (orig d1.row))) zs) ⟨same_upd nB, [], upd_same, .nil⟩ (fun i H' _ h => .inl (.inl (h.1 _ _ hq))) (fun i x' H' hx' h => ?_) (fun H' h => ?_)
    · obtain ⟨s5, zs, hB, hzs⟩ := h
      have hi' : i < (orig d2.row).length := by have := (List.getElem?_eq_some_iff.mp hx').1; omega
      obtain ⟨v', e1, hc⟩ := paired_get hus2 (List.getElem?_eq_getElem hi')
      obtain rfl := Option.some.inj (e1.symm.trans hx')
      have hc := hc.same s5
      have hoi := hoo2 _ (List.getElem_mem hi')
      have hzl := hzs.length
      rw [List.length_map, List.length_take] at hzl
      rw [take_snocG (List.getElem?_eq_getElem hi'), List.map_append]
      generalize (orig d2.row)[i] = o at *
      refine ⟨rfl, yes ?_⟩
      cases o with
      | b k =>
        obtain rfl : v' = .int (k : Int) := hc
        refine ⟨_, rfl, _, _, _, _, _, rfl, .ty "tuple", .base (.int _), kit_ty (a := "int") (r := false) (by decide +kernel), _, rfl, iteF ?_⟩
        exact ⟨_, rfl, _, hB, by omega, same_put s5 nB, zs ++ [.int (k : Int)], upd_same, (hzs.mono fun _ _ h => h.put hB).snoc (show OgAt _ (.b k) (.int (k : Int)) from rfl)⟩
      | o pl =>
        obtain ⟨t, rfl, ht⟩ := hc
        have hpl : pl < (orig d1.row).length := by rw [hol1, emk]; exact hoi
        obtain ⟨v, e2, hv⟩ := paired_getD hus1 hpl
        have hv := hv.same s5
        refine ⟨_, rfl, _, _, .type "tuple", _, _, rfl, .ty "tuple", .base (.tup ht), kit_ty (a := "tuple") (r := true) (by decide +kernel), _, rfl, iteT ?_⟩
        refine ⟨_, rfl, _, rfl, t, _, 0, _, rfl, rfl, .inl (.inl ht), rfl, p, _, _, v, rfl, rfl, .inl (.inl (s5 _ _ hp)), atI_nat e2, ?_⟩
        exact ⟨_, hB, by omega, same_put s5 nB, zs ++ [v], upd_same, (hzs.mono fun _ _ h => h.put hB).snoc (hv.put hB)⟩
    · obtain ⟨s5, zs, hB, hzs⟩ := h
      rw [← hul2, List.take_length] at hzs
      have s15 := s12.trans s5
      have hD1'' := hD1.same s15
      have hD2'' := hD2.same s15
      dsimp only [gName]
      refine ⟨_, rfl, t1, _, 0, _, rfl, rfl, .inl (.inl hD1''.1), rfl, _, rfl, t2, _, 1, _, rfl, rfl, .inl (.inl hD2''.1), rfl, _, rfl, B, _, rfl, ⟨zs, hB, hzs⟩, by rw [List.length_map, hol2]; exact hn2, fun H6 r s6 nr hRw => ?_⟩
      have s16 := s15.trans s6
      refine ⟨(by show 3 ≤ sizeLine; omega), fun t' nt => ?_⟩
      have s7 := same_upd (o := .tup [.ref x1.a, .ref x2.b, .ref r]) nt
      have s17 := s16.trans s7
      exact fin _ t' ⟨x1.a, x2.b, r⟩ s17 (none_back s16 nt) ⟨upd_same, s17 _ _ hD1.2.1, s17 _ _ hD2.2.2.1, hRw.same s7⟩
def spJoN (C : Addr) : Sp := fun vs H Q E => ∃ (t1 t2 : Addr) (x1 x2 : DfA) (d1 d2 : Dfv), vs = [.ref t1, .ref t2] ∧ DfAt H t1 x1 d1 ∧ DfAt H t2 x2 d2 ∧ d1.Low ∧ d2.Low ∧ d1.ok = true ∧ d1.new ≠ d2.old ∧ E (.ref C) none H
theorem ok_joN {CD : Addr} (TB : BdTxt K mg CD) {f fR : Addr} {fd fdR : FuncData} {j k1 : Nat} (F : Fun K "joined" "joined" sJoined f fd)
    (GR : FnOk P w K mg base (L2N.CX P w) k1 fR fdR ["told"] (spRefDN CD)) (bR : Binds K fdR ["told"] []) (kR : PySem.W.keepIn K (.ref fR) = true) (gR : mg "refuse_difference" = some (.ref fR)) (l1 : k1 ≤ j) :
    FnOk P w K mg base (L2N.CX P w) (j + 1) f fd ["first", "second"] (spJoN CD) := by
  refine okN F scJo (fun vs H Q E h => ?_) (fun cdv A outer s H vs Q E hr h => ?_)
  · obtain ⟨t1, t2, x1, x2, d1, d2, rfl, _⟩ := h
    rfl
  · obtain ⟨t1, t2, x1, x2, d1, d2, rfl, hD1, hD2, hL1, hL2, hok1, emk, e⟩ := h
    refine ⟨_, pss_cons (ps_expr (pe_call GR (hr.mono l1) (by rfl) gR kR bR .nil (L2N.passes_call (L2N.takes_of rfl rfl rfl rfl) (fun _ _ _ _ h => h)) (pa_cons (pv 0) pa_nil))) (pss_cons (ps_expr (pe_call GR (hr.mono l1) (by rfl) gR kR bR .nil (L2N.passes_call (L2N.takes_of rfl rfl rfl rfl) (fun _ _ _ _ h => h)) (pa_cons (pv 1) pa_nil)))
      (pss_cons (ps_if (pt_cmpR (op_neD hr.units) (pe_ix ix_tup (pv 0) pe_int (fun _ _ => rfl)) (pe_ix ix_tup (pv 1) pe_int (fun _ _ => rfl)) (nomark _)) (pss_one (L2N.ps_raise rfl (L2N.takes_of rfl rfl rfl rfl) (L2N.pmk_own PySem.F.excBase_ValueError TB.x TB.gC TB.k (raises_own TB.b TB.t) rfl))) pss_nil)
      (pss_cons ps_never (pss_cons ps_never (pss_one ps_never))))), ?_⟩
    refine ⟨_, rfl, t1, x1, d1, rfl, hD1, hL1, fun _ => ?_, fun z => by rw [hok1] at z; cases z⟩
    refine ⟨_, rfl, t2, x2, d2, rfl, hD2, hL2, fun hok2 => ?_, fun _ => e⟩
    refine ⟨_, rfl, t1, _, 1, _, rfl, rfl, .inl (.inl hD1.1), rfl, _, rfl, t2, _, 0, _, rfl, rfl, .inl (.inl hD2.1), rfl, _, _, dp_mk hD1.2.2.1, dp_mk hD2.2.1, sh_mk _, sh_mk _, ?_⟩
    rw [eqv_mk, decide_eq_false emk]
    exact ⟨_, rfl, iteT e⟩
end
end K0

namespace K0
open PySem PySem.Spec PyProof.Rows L2
/-! ### the law: marks, origins, flat rows -/
abbrev NLm : List Str := ["_law_numbers_here", "_law_at", "_law_one"]
theorem scLm : FnScope NLm ["_law_numbers_here"] (defScope sLMark) := ⟨rfl, rfl, rfl, by decide +kernel, rfl, by decide +kernel, by decide +kernel⟩
theorem scLw : FnScope ["_law_item"] ["_law_item"] (defScope sLWide) := ⟨rfl, rfl, rfl, by decide +kernel, rfl, by decide +kernel, by decide +kernel⟩
abbrev NLg : List Str := ["_law_row", "_law_size", "_law_found", "_law_item", "_law_turn"]
theorem scLg : FnScope NLg ["_law_row", "_law_size"] (defScope sLOrig) := ⟨rfl, rfl, rfl, by decide +kernel, rfl, by decide +kernel, by decide +kernel⟩
abbrev NLf : List Str := ["_law_sources", "_law_found", "_law_one", "_law_last"]
theorem scLf : FnScope NLf ["_law_sources"] (defScope sLFlat) := ⟨rfl, rfl, rfl, by decide +kernel, rfl, by decide +kernel, by decide +kernel⟩
def ogI : Og → Int
  | .b n => (n : Int)
  | .o p => -1 - (p : Int)
def ogV (os : List Og) : List V := os.map fun o => V.int (ogI o)
theorem ogV_len (os : List Og) : (ogV os).length = os.length := List.length_map _
theorem ogV_app (a b : List Og) : ogV (a ++ b) = ogV a ++ ogV b := List.map_append
theorem ogV_at {os : List Og} {i : Nat} (h : i < os.length) : (ogV os)[i]? = some (.int (ogI (os.getD i ogD))) := by
  unfold ogV
  rw [List.getElem?_map, List.getElem?_eq_getElem h, List.getD_eq_getElem?_getD, List.getElem?_eq_getElem h]
  rfl
section
variable {P : Program} {w : World} {K : PySem.W.Frag} {mg : Str → Option Value} {base : Heap}
def spLm : Sp := fun vs H Q _ => ∃ (p : Addr) (ks : List Nat), vs = [.ref p] ∧ H p = some (.lst (bys ks)) ∧ (∀ k ∈ ks, k < 256) ∧ ks.length ≤ 2000 ∧ ∀ H' t, Same H H' → H t = none → MkAt H' t (ks.length, mrk ks) → Q (.ref t) H'
theorem ok_lm {f : Addr} {fd : FuncData} {j : Nat} (F : Fun K "_law_mark" "_law_mark" sLMark f fd) (m1 : mg "len" = none) (m2 : mg "sum" = none) (m3 : mg "enumerate" = none) :
    FnOk P w K mg base CX0 (j + 1) f fd ["_law_numbers_here"] spLm := by
  refine F.ok scLm (fun vs H Q E h => ?_) (fun cdv A outer s H vs Q E hr h => ?_)
  · obtain ⟨p, ks, rfl, _⟩ := h
    rfl
  · obtain ⟨p, ks, rfl, hp, hk, hl, q⟩ := h
    have hz := PySem.sizeLine_eq
    refine ⟨_, pss_one (ps_ret (pe_tup (pa_cons (pe_callB call_len_seq (by rfl) m1 PySem.boot_len (pa_cons (pv 0) pa_nil)) (pa_cons (pe_op op_modN (pe_callB (cr_sum rfl) (by rfl) m2 (by decide +kernel) (pa_cons
      (pe_lc (own := [("_law_at", 1), ("_law_one", 2)]) (g := gTup K 2 (gCons (gName 1) (gCons (gName 2) gNil))) (tt := tYes) rfl scLm.nd (pi_enum (by rfl) m3 (pa_cons (pv 0) pa_nil)) (blkOk_by (N := NLm) (sc := defScope sLMark) (by decide +kernel))
        (fun _ _ _ _ _ => pg_tup rfl (pgs_cons (pg_name (i := 1) scLm.nd rfl (.inl rfl)) (pgs_cons (pg_name (i := 2) scLm.nd rfl (.inl rfl)) pgs_nil))) (fun _ _ _ _ _ => pts_nil)
        (fun _ _ _ _ _ => pe_op op_mul (pe_op op_add (pv 1) pe_int) (pv 2))) pa_nil)) pe_int) pa_nil)))), ?_⟩
    refine ⟨_, rfl, p, _, rfl, .inl (.inl (.inl hp)), ?_⟩
    refine ⟨_, rfl, p, _, rfl, .inl (.inl hp), fun D nD => ?_⟩
    refine lc_it (walk_enum (K := K) (a := p) (xs := bys ks)) (fun i H' => Same H H' ∧ H' D = some (.lst (((mrkL ks).take i).map V.int))) ⟨same_upd nD, by rw [upd_same]; rfl⟩ (fun i H' _ h => .inl (.inl (h.1 _ _ hp))) (fun i x H2 H3 hi z y => ?_) (fun H2 z => ?_)
    · obtain ⟨sm, hD⟩ := z
      rw [bys_len] at hi
      obtain ⟨T0, x0, y0, rfl, nT0, rfl, e0, e1⟩ := y
      obtain rfl := Option.some.inj e0
      have hki : ks[i]? = some ks[i] := List.getElem?_eq_getElem hi
      have hy : y0 = .int ((ks[i] : Nat) : Int) := by
        have e1 : (bys ks)[i]? = some y0 := e1
        rw [bys_eq, List.getElem?_map, hki] at e1
        exact (Option.some.inj e1).symm
      subst hy
      have hk2 := hk _ (List.getElem_mem hi)
      have hm1 := mrkL_at hki
      generalize ks[i] = c at *
      have sm2 : Same H2 (upd H2 T0 (.tup [.int (i : Nat), .int (c : Int)])) := same_upd nT0
      have hD2 := sm2 _ _ hD
      refine ⟨T0, _, rfl, .inl (.inl upd_same), rfl, _, _, rfl, _, _, rfl, rfl, rfl, yes ?_⟩
      refine ⟨_, rfl, _, _, rfl, rfl, _, rfl, _, _, rfl, rfl, .inl ⟨by omega, by omega⟩, _, hD2, ?_, same_put (sm.trans sm2) nD, ?_⟩
      · rw [List.length_map, List.length_take, mrkL_len, hz]
        omega
      · rw [upd_same, take_snocG hm1, List.map_append]
        push_cast
        rfl
    · obtain ⟨sm, hD⟩ := z
      rw [bys_len, ← mrkL_len, List.take_length] at hD
      refine ⟨D, mrkL ks, rfl, .inl (.inl hD), _, _, rfl, rfl, (by show (65521 : Int) ≠ 0; decide), ?_⟩
      dsimp only
      rw [mrkL_sum]
      refine ⟨(by show 2 ≤ sizeLine; omega), fun t nt => ?_⟩
      rw [bys_len]
      exact q _ t (sm.trans (same_upd nt)) (none_back sm nt) upd_same
def spLw : Sp := fun vs H Q _ => ∃ (v : V) (i : Di), vs = [v] ∧ DiAt H i v ∧ Q (.int ((wideI i : Nat) : Int)) H
theorem ok_lw {f : Addr} {fd : FuncData} {j : Nat} (F : Fun K "_law_wide" "_law_wide" sLWide f fd) (m1 : mg "isinstance" = none) (m2 : mg "int" = none) :
    FnOk P w K mg base CX0 (j + 1) f fd ["_law_item"] spLw := by
  refine F.ok scLw (fun vs H Q E h => ?_) (fun cdv A outer s H vs Q E hr h => ?_)
  · obtain ⟨v, i, rfl, _⟩ := h
    rfl
  · obtain ⟨v, i, rfl, hi, q⟩ := h
    refine ⟨_, pss_one (ps_ret (pe_ifExp (pt_val (pe_callB call_isi (by rfl) m1 (by decide +kernel) (pa_cons (pv 0) (pa_cons (pe_bltn (v := .ty "int") (by rfl) m2 (by decide +kernel) rfl) pa_nil)))) pe_int (pe_ix ix_tup (pv 0) pe_int (fun _ _ => rfl)))), ?_⟩
    cases i with
    | b n =>
      obtain rfl : v = .int (n : Int) := hi
      exact ⟨_, rfl, _, _, _, _, _, rfl, .ty "int", .base (.int _), kit_ty (a := "int") (r := true) (by decide +kernel), _, rfl, iteT q⟩
    | c nw m p =>
      obtain ⟨t, rfl, ht⟩ := hi
      exact ⟨_, rfl, _, _, .type "tuple", _, _, rfl, .ty "int", .base (.tup ht), kit_ty (a := "tuple") (r := false) (by decide +kernel), _, rfl, iteF ⟨_, rfl, t, _, 1, _, rfl, rfl, .inl (.inl ht), rfl, q⟩⟩
def spLg : Sp := fun vs H Q _ => ∃ (r : Addr) (row : List Di) (old n : Nat), vs = [.ref r, .int (old : Int)] ∧ RwAt H r row ∧ fitR old 0 row = some n ∧ n ≤ 2000 ∧ ∀ H' q, Same H H' → H q = none → H' q = some (.lst (ogV (orig row))) → Q (.ref q) H'
theorem ok_lg {f : Addr} {fd : FuncData} {j : Nat} (F : Fun K "_law_origins" "_law_origins" sLOrig f fd) (m1 : mg "isinstance" = none) (m2 : mg "int" = none) (m3 : mg "range" = none) (m4 : mg "len" = none) :
    FnOk P w K mg base CX0 (j + 1) f fd ["_law_row", "_law_size"] spLg := by
  refine F.ok scLg (fun vs H Q E h => ?_) (fun cdv A outer s H vs Q E hr h => ?_)
  · obtain ⟨r, row, old, n, rfl, _⟩ := h
    rfl
  · obtain ⟨r, row, old, n, rfl, ⟨us, hr0, hus⟩, hfit, hn, q⟩ := h
    have hz := PySem.sizeLine_eq
    refine ⟨_, pss_cons (ps_set (i := 2) scLg.nd rfl (.inl rfl) (pe_lst pa_nil))
      (pss_cons (ps_for PassesOwn.never rfl (pi_list (pv 0)) (pg_name (i := 3) scLg.nd rfl (.inr rfl))
        (pss_one (ps_if (pt_val (pe_callB call_isi (by rfl) m1 (by decide +kernel) (pa_cons (pv 3) (pa_cons (pe_bltn (v := .ty "int") (by rfl) m2 (by decide +kernel) rfl) pa_nil))))
          (pss_one (ps_expr (pe_bm PySem.F.plainAttrs_list PySem.F.slot_list_append PySem.F.type_list_append mt_append (pv 2) (pa_cons (pv 3) pa_nil))))
          (pss_one (ps_if (pt_cmpR op_eq (pe_ix ix_tup (pv 3) pe_int (fun _ _ => rfl)) pe_str (nomark _))
            (pss_cons (ps_if (pt_cmpR op_gt (pe_op op_add (pe_ix ix_tup (pv 3) pe_int (fun _ _ => rfl)) (pe_ix ix_tup (pv 3) pe_int (fun _ _ => rfl))) (pv 1) (nomark _)) (pss_one (ps_ret pe_non)) pss_nil)
              (pss_one (ps_set (i := 2) scLg.nd rfl (.inl rfl) (pe_op op_cat (pv 2) (pe_lc (own := [("_law_turn", 4)]) (g := gName 4) (tt := tYes) rfl scLg.nd (pi_range1 (by rfl) m3 (pa_cons (pe_ix ix_tup (pv 3) pe_int (fun _ _ => rfl)) pa_nil)) (blkOk_by (N := NLg) (sc := defScope sLOrig) (by decide +kernel))
                (fun _ _ _ _ _ => pg_name (i := 4) scLg.nd rfl (.inl rfl)) (fun _ _ _ _ _ => pts_nil) (fun _ _ _ _ _ => pe_op op_sub (pe_op op_sub (pe_un un_neg pe_int) (pe_ix (ixT K) (pv 3) pe_int (fun _ _ => rfl))) (pv 4)))))))
            (pss_one (ps_if (pt_cmpR op_gt (pe_ix ix_tup (pv 3) pe_int (fun _ _ => rfl)) (pe_callB call_len_seq (by rfl) m4 PySem.boot_len (pa_cons (pv 2) pa_nil)) (nomark _)) (pss_one (ps_ret pe_non))
              (pss_one (ps_for PassesOwn.never rfl (pi_range1 (by rfl) m3 (pa_cons (pe_ix ix_tup (pv 3) pe_int (fun _ _ => rfl)) pa_nil)) (pg_name (i := 4) scLg.nd rfl (.inl rfl))
                (pss_one (ps_expr (pe_bm PySem.F.plainAttrs_list PySem.F.slot_list_append PySem.F.type_list_append mt_append (pv 2) (pa_cons (pe_ix ix_list (pv 2) (pe_un un_neg (pe_ix ix_tup (pv 3) pe_int (fun _ _ => rfl))) (fun _ _ => rfl)) pa_nil)))))))))))))
      (pss_one (ps_ret (pv 2)))), ?_⟩
    refine ⟨Nat.zero_le _, fun D0 nD0 => ?_⟩
    have hlen := hus.length
    have hrl : row.length ≤ 2000 := by have := fitR_le hfit; omega
    dsimp only [gName]
    refine ⟨_, rfl, r, rfl, ⟨_, .inl (.inl (same_upd nD0 _ _ hr0))⟩, ?_⟩
    refine for_list (K := K) (a := r) (xs := us) (fun i σ H' => ∃ (y3 y4 : Option V) (D : Addr) (os : List Og), σ = [some (.ref r), some (.int (old : Int)), some (.ref D), y3, y4] ∧ Same H H' ∧ H D = none ∧ H' D = some (.lst (ogV os)) ∧ os = (row.take i).foldl origS [] ∧ fitR old os.length (row.drop i) = some n)
      ⟨_, _, D0, [], rfl, same_upd nD0, nD0, upd_same, rfl, hfit⟩ (fun i σ H' _ h => ?_) (fun i x σ H' hx h => ?_) (fun σ H' h => ?_)
    · obtain ⟨_, _, _, _, _, sm, _⟩ := h
      exact .inl (.inl (sm _ _ hr0))
    · obtain ⟨y3, y4, D, os, rfl, sm, nD, hD, eos, ef⟩ := h
      have hi : i < row.length := by have := (List.getElem?_eq_some_iff.mp hx).1; omega
      obtain ⟨x', e1, hd0⟩ := paired_get hus (List.getElem?_eq_getElem hi)
      obtain rfl := Option.some.inj (e1.symm.trans hx)
      have hd := hd0.same sm
      rw [List.drop_eq_getElem_cons hi] at ef
      have et : (row.take (i + 1)).foldl origS [] = origS os row[i] := by
        rw [List.take_add_one, List.getElem?_eq_getElem hi, List.foldl_append, ← eos]
        rfl
      rw [et]
      clear eos et hd0
      generalize row[i] = it at *
      obtain ⟨hf, ef⟩ := fitR_cons ef
      have htop := fit_top ef
      rw [← origS_len] at ef
      dsimp only [gName]
      cases it with
      | b k =>
        obtain rfl : x' = .int (k : Int) := hd
        refine ⟨_, rfl, _, _, _, _, _, rfl, .ty "int", .base (.int _), kit_ty (a := "int") (r := true) (by decide +kernel), _, rfl, iteT ?_⟩
        refine ⟨_, rfl, .inl ⟨rfl, _, .inl (.inl hD)⟩, _, rfl, D, _, _, rfl, rfl, hD, by rw [ogV_len]; omega, ?_⟩
        exact ⟨_, _, D, os ++ [.b k], rfl, same_put sm nD, nD, by rw [upd_same, ogV_app]; rfl, rfl, ef⟩
      | c nw m p =>
        obtain ⟨t, rfl, ht⟩ := hd
        have hm : m ≤ 255 := (fit_wide hf).2
        have htop : os.length + m ≤ n := htop
        refine ⟨_, rfl, _, _, .type "tuple", _, _, rfl, .ty "int", .base (.tup ht), kit_ty (a := "tuple") (r := false) (by decide +kernel), _, rfl, iteF ?_⟩
        cases nw with
        | false =>
          have hf := of_decide_eq_true (show decide (1 ≤ m ∧ m ≤ 255 ∧ p + m ≤ old) = true from hf)
          refine ⟨_, rfl, t, _, 0, _, rfl, rfl, .inl (.inl ht), rfl, rfl, _, rfl, iteT ?_⟩
          refine ⟨_, rfl, t, _, 2, _, rfl, rfl, .inl (.inl ht), rfl, _, rfl, t, _, 1, _, rfl, rfl, .inl (.inl ht), rfl, _, _, rfl, rfl, _, rfl, _, _, rfl, rfl, _, rfl, ?_⟩
          refine ite2 (fun z => absurd (of_decide_eq_true z) (by omega)) (fun _ => ?_)
          refine ⟨_, rfl, _, rfl, t, _, 1, _, rfl, rfl, .inl (.inl ht), rfl, m, rfl, by omega, by omega, fun B nB => ?_⟩
          have nB0 := none_back sm nB
          refine lc_range (lo := 0) (n := (m : Int).toNat) (fun k H3 => Same H' H3 ∧ H3 B = some (.lst (ogV ((List.range k).map fun t => Og.o (p + t))))) ⟨same_upd nB, upd_same⟩ (fun k H3 hk h => ?_) (fun H3 h => ?_)
          · obtain ⟨s3, hB⟩ := h
            refine ⟨rfl, yes ?_⟩
            refine ⟨1, rfl, _, rfl, t, _, 2, _, rfl, rfl, .inl (.inl (s3 _ _ ht)), rfl, _, _, rfl, rfl, _, rfl, _, _, rfl, rfl, _, hB, by rw [ogV_len, List.length_map, List.length_range]; omega, same_put s3 nB, ?_⟩
            rw [upd_same, List.range_succ, List.map_append, ogV_app]
            show some (HO.lst (_ ++ [V.int (-1 - (p : Int) - (0 + (k : Int)))])) = some (HO.lst (_ ++ [V.int (-1 - ((p + k : Nat) : Int))]))
            rw [show -1 - (p : Int) - (0 + (k : Int)) = -1 - ((p + k : Nat) : Int) by push_cast; omega]
          · obtain ⟨s3, hB⟩ := h
            rw [Int.toNat_natCast] at hB
            refine ⟨D, B, _, _, rfl, rfl, s3 _ _ hD, hB, by rw [ogV_len, ogV_len, List.length_map, List.length_range]; omega, fun D2 nD2 => ?_⟩
            have sm3 := sm.trans s3
            exact ⟨_, _, D2, os ++ (List.range m).map fun t => Og.o (p + t), rfl, sm3.trans (same_upd nD2), none_back sm3 nD2, by rw [upd_same, ogV_app], rfl, ef⟩
        | true =>
          have hf := of_decide_eq_true (show decide (3 ≤ m ∧ m ≤ 255 ∧ 1 ≤ p ∧ p ≤ min 2000 os.length) = true from hf)
          refine ⟨_, rfl, t, _, 0, _, rfl, rfl, .inl (.inl ht), rfl, rfl, _, rfl, iteF ?_⟩
          refine ⟨_, rfl, t, _, 2, _, rfl, rfl, .inl (.inl ht), rfl, _, rfl, D, _, rfl, .inl (.inl (.inl hD)), _, _, rfl, rfl, _, rfl, ?_⟩
          refine ite2 (fun z => absurd (of_decide_eq_true z) (by rw [ogV_len]; omega)) (fun _ => ?_)
          refine ⟨_, rfl, t, _, 1, _, rfl, rfl, .inl (.inl ht), rfl, m, rfl, by omega, by omega, ?_⟩
          refine for_range (lo := 0) (n := (m : Int).toNat) (fun k σ H3 => ∃ (y4 : Option V), σ = [some (.ref r), some (.int (old : Int)), some (.ref D), some (.ref t), y4] ∧ Same H H3 ∧ H3 D = some (.lst (ogV (copyO p k os))) ∧ H3 t = some (.tup [.str (wdN true), .int (m : Int), .int (p : Int)])) ⟨_, rfl, sm, hD, ht⟩ (fun k σ H3 hk h => ?_) (fun σ H3 h => ?_)
          · obtain ⟨y4, rfl, s3, hD3, ht3⟩ := h
            have hcl := copyO_len p k os
            have hg : (ogV (copyO p k os))[(ogV (copyO p k os)).length - p]? = some (.int (ogI ((copyO p k os).getD ((copyO p k os).length - p) ogD))) := by
              rw [ogV_len]
              exact ogV_at (by omega)
            refine ⟨_, rfl, .inl ⟨rfl, _, .inl (.inl hD3)⟩, ?_⟩
            refine ⟨_, rfl, _, rfl, t, _, 2, _, rfl, rfl, .inl (.inl ht3), rfl, p, rfl, D, _, _, .int (ogI ((copyO p k os).getD ((copyO p k os).length - p) ogD)), rfl, rfl, .inl (.inl hD3), ?_, D, _, _, rfl, rfl, hD3, by rw [ogV_len]; omega, ?_⟩
            · rw [atI_back (by omega) (by rw [ogV_len]; omega)]
              exact hg
            · refine ⟨_, rfl, same_put s3 nD, ?_, tup_put hD3 _ _ ht3⟩
              rw [upd_same, copyO_succ, ogV_app]
              rfl
          · obtain ⟨y4, rfl, s3, hD3, ht3⟩ := h
            rw [Int.toNat_natCast] at hD3
            exact ⟨_, _, D, copyO p m os, rfl, s3, nD, hD3, rfl, ef⟩
    · obtain ⟨y3, y4, D, os, rfl, sm, nD, hD, eos, ef⟩ := h
      rw [← hlen, List.take_length] at eos
      refine ⟨_, rfl, q H' D sm nD ?_⟩
      rw [show orig row = os from eos.symm]
      exact hD
end
end K0

namespace K0
open PySem PySem.Spec PyProof.Rows L2
/-! ### rows as data -/
def diD : Di → PyData
  | .b n => .int (n : Int)
  | .c nw m p => .tuple [.str (wdN nw), .int (m : Int), .int (p : Int)]
theorem dp_di {K : PySem.W.Frag} {H : Hp} {i : Di} {v : V} (h : DiAt H i v) : Dp K H v (diD i) := by
  cases i with
  | b n =>
    obtain rfl : v = .int (n : Int) := h
    exact .int _
  | c nw m p =>
    obtain ⟨t, rfl, ht⟩ := h
    exact .tup (.inl (.inl ht)) (.cons (.str _) (.cons (.int _) (.cons (.int _) .nil)))
theorem dp_dis {K : PySem.W.Frag} {H : Hp} : ∀ {row : List Di} {us : List V}, Paired (DiAt H) row us → DpAll K H us (row.map diD)
  | _, _, .nil => .nil
  | _, _, .cons h hs => .cons (dp_di h) (dp_dis hs)
def rowD (row : List Di) : PyData := .list (row.map diD)
theorem dp_row {K : PySem.W.Frag} {H : Hp} {r : Addr} {row : List Di} (h : RwAt H r row) : Dp K H (.ref r) (rowD row) := by
  obtain ⟨us, h1, h2⟩ := h
  exact .lst (.inl (.inl h1)) (dp_dis h2)
theorem can_di : ∀ i : Di, (diD i).canLay0 = true
  | .b _ => rfl
  | .c true _ _ => by simp [diD, wdN, PyData.canLay0, PyData.canLayAll0]; decide +kernel
  | .c false _ _ => by simp [diD, wdN, PyData.canLay0, PyData.canLayAll0]; decide +kernel
theorem can_dis : ∀ row : List Di, PyData.canLayAll0 (row.map diD) = true
  | [] => by simp [PyData.canLayAll0]
  | i :: r => by
    show ((diD i).canLay0 && PyData.canLayAll0 (r.map diD)) = true
    rw [can_di i, can_dis r]
    rfl
theorem dep_di : ∀ i : Di, (diD i).depth ≤ 1
  | .b _ => Nat.zero_le _
  | .c _ _ _ => by simp [diD, PyData.depth, PyData.depthAll]
theorem dep_dis : ∀ row : List Di, PyData.depthAll (row.map diD) ≤ 1
  | [] => Nat.zero_le _
  | i :: r => by
    have h1 := dep_di i
    have h2 := dep_dis r
    show max (diD i).depth (PyData.depthAll (r.map diD)) ≤ 1
    omega
theorem sh_row (row : List Di) : SeqAt.shaped (rowD row) = true := by
  unfold SeqAt.shaped
  rw [Bool.and_eq_true]
  refine ⟨can_dis row, decide_eq_true ?_⟩
  have := dep_dis row
  show PyData.depth (.list (row.map diD)) ≤ 64
  simp only [PyData.depth]
  omega
theorem eqv_di (i k : Di) : PyData.eqv (diD i) (diD k) = decide (i = k) := by
  cases i with
  | b n =>
    cases k with
    | b m =>
      simp only [diD, PyData.eqv]
      by_cases h : n = m <;> simp [h] <;> omega
    | c nw m p => simp [diD, PyData.eqv]
  | c nw m p =>
    cases k with
    | b n => simp [diD, PyData.eqv]
    | c nw2 m2 p2 =>
      simp only [diD, PyData.eqv, PyData.eqvAll]
      have hw : (wdN nw == wdN nw2) = decide (nw = nw2) := by cases nw <;> cases nw2 <;> decide +kernel
      by_cases h1 : nw = nw2 <;> by_cases h2 : m = m2 <;> by_cases h3 : p = p2 <;> simp [hw, h1, h2, h3] <;> first | omega | skip
theorem eqvA_dis : ∀ a b : List Di, PyData.eqvAll (a.map diD) (b.map diD) = decide (a = b)
  | [], [] => by simp [PyData.eqvAll]
  | [], _ :: _ => by simp [PyData.eqvAll]
  | _ :: _, [] => by simp [PyData.eqvAll]
  | x :: xs, y :: ys => by
    simp only [List.map_cons, PyData.eqvAll, eqv_di, eqvA_dis xs ys]
    by_cases h : x = y <;> simp [h]
theorem eqv_row (a b : List Di) : PyData.eqv (rowD a) (rowD b) = decide (a = b) := by
  show PyData.eqv (.list (a.map diD)) (.list (b.map diD)) = _
  rw [PyData.eqv, eqvA_dis]
def dfD (d : Dfv) : PyData := .tuple [mkD d.old, mkD d.new, rowD d.row]
theorem dp_df {K : PySem.W.Frag} {H : Hp} {t : Addr} {x : DfA} {d : Dfv} (h : DfAt H t x d) : Dp K H (.ref t) (dfD d) := .tup (.inl (.inl h.1)) (.cons (dp_mk h.2.1) (.cons (dp_mk h.2.2.1) (.cons (dp_row h.2.2.2) .nil)))
theorem eqv_df (a b : Dfv) : PyData.eqv (dfD a) (dfD b) = decide (a.old = b.old ∧ a.new = b.new ∧ a.row = b.row) := by
  simp only [dfD, PyData.eqv, PyData.eqvAll, eqv_mk, eqv_row]
  by_cases h1 : a.old = b.old <;> by_cases h2 : a.new = b.new <;> by_cases h3 : a.row = b.row <;> simp [h1, h2, h3]
theorem dep_mk (m : Nat × Nat) : (mkD m).depth = 1 := by simp [mkD, PyData.depth, PyData.depthAll]
theorem sh_df (d : Dfv) : SeqAt.shaped (dfD d) = true := by
  unfold SeqAt.shaped
  rw [Bool.and_eq_true]
  refine ⟨?_, decide_eq_true ?_⟩
  · show (true && ((rowD d.row).canLay0 && true)) = true
    rw [Bool.and_true, Bool.true_and]
    exact can_dis d.row
  · have h1 := dep_mk d.old
    have h2 := dep_mk d.new
    have h3 := dep_dis d.row
    show PyData.depth (.tuple [mkD d.old, mkD d.new, .list (d.row.map diD)]) ≤ 64
    simp only [PyData.depth, PyData.depthAll, h1, h2]
    omega
section
variable {P : Program} {w : World} {K : PySem.W.Frag} {mg : Str → Option Value} {base : Heap}
def spLf : Sp := fun vs H Q _ => ∃ (r : Addr) (os : List Og), vs = [.ref r] ∧ H r = some (.lst (ogV os)) ∧ os.length ≤ 2000 ∧ ∀ H' q, Same H H' → H q = none → RwAt H' q (flatF os) → Q (.ref q) H'
theorem ok_lf {f : Addr} {fd : FuncData} {j : Nat} (F : Fun K "_law_flat_row" "_law_flat_row" sLFlat f fd) (m1 : mg "isinstance" = none) (m2 : mg "tuple" = none) :
    FnOk P w K mg base CX0 (j + 1) f fd ["_law_sources"] spLf := by
  refine F.ok scLf (fun vs H Q E h => ?_) (fun cdv A outer s H vs Q E hr h => ?_)
  · obtain ⟨r, os, rfl, _⟩ := h
    rfl
  · obtain ⟨r, os, rfl, hr0, hl, q⟩ := h
    have hz := PySem.sizeLine_eq
    refine ⟨_, pss_cons (ps_set (i := 1) scLf.nd rfl (.inl rfl) (pe_lst pa_nil))
      (pss_cons (ps_for PassesOwn.never rfl (pi_list (pv 0)) (pg_name (i := 2) scLf.nd rfl (.inl rfl))
        (pss_cons (ps_set (i := 3) scLf.nd rfl (.inl rfl) (pe_ifExp (pt_cmpR (op_neD hr.units) (pv 1) (pe_lst pa_nil) (nomark _)) (pe_ix ix_list (pv 1) (pe_un un_neg pe_int) (fun _ _ => rfl)) pe_int))
        (pss_one (ps_if (pt_cmpR op_ge (pv 2) pe_int (nomark _))
          (pss_one (ps_expr (pe_bm PySem.F.plainAttrs_list PySem.F.slot_list_append PySem.F.type_list_append mt_append (pv 1) (pa_cons (pv 2) pa_nil))))
          (pss_one (ps_if (PW.pt (pw_and (pt_val (pe_callB call_isi (by rfl) m1 (by decide +kernel) (pa_cons (pv 3) (pa_cons (pe_bltn (v := .ty "tuple") (by rfl) m2 (by decide +kernel) rfl) pa_nil))))
              (pw_and (pt_cmpR op_lt (pe_ix ix_tup (pv 3) pe_int (fun _ _ => rfl)) pe_int (nomark _))
              (pw_and1 (pt_cmpR op_eq (pe_op op_add (pe_ix ix_tup (pv 3) pe_int (fun _ _ => rfl)) (pe_ix ix_tup (pv 3) pe_int (fun _ _ => rfl))) (pe_op op_sub (pe_un un_neg pe_int) (pv 2)) (nomark _))))))
            (pss_one (ps_asg (pe_tup (pa_cons pe_str (pa_cons (pe_op op_add (pe_ix ix_tup (pv 3) pe_int (fun _ _ => rfl)) pe_int) (pa_cons (pe_ix ix_tup (pv 3) pe_int (fun _ _ => rfl)) pa_nil)))) (pg_sub (pv 1) (pe_un un_neg pe_int) set_list)))
            (pss_one (ps_expr (pe_bm PySem.F.plainAttrs_list PySem.F.slot_list_append PySem.F.type_list_append mt_append (pv 1) (pa_cons (pe_tup (pa_cons pe_str (pa_cons pe_int (pa_cons (pe_op op_sub (pe_un un_neg pe_int) (pv 2)) pa_nil)))) pa_nil))))))))))
      (pss_one (ps_ret (pv 1)))), ?_⟩
    refine ⟨Nat.zero_le _, fun D nD => ?_⟩
    dsimp only [gName]
    refine ⟨_, rfl, r, rfl, ⟨_, .inl (.inl (same_upd nD _ _ hr0))⟩, ?_⟩
    refine for_list (K := K) (a := r) (xs := ogV os) (fun i σ H' => ∃ (y2 y3 : Option V) (row : List Di) (vs : List V), σ = [some (.ref r), some (.ref D), y2, y3] ∧ Same H H' ∧ H' D = some (.lst vs) ∧ Paired (DiAt H') row vs ∧ row = (os.take i).foldl flatS [] ∧ row.length ≤ i)
      ⟨_, _, [], [], rfl, same_upd nD, upd_same, .nil, rfl, Nat.le_refl _⟩ (fun i σ H' _ h => ?_) (fun i x σ H' hx h => ?_) (fun σ H' h => ?_)
    · obtain ⟨_, _, _, _, _, sm, _⟩ := h
      exact .inl (.inl (sm _ _ hr0))
    · obtain ⟨y2, y3, row, vs, rfl, sm, hD, hP, er, hrl⟩ := h
      have hi : i < os.length := by have := (List.getElem?_eq_some_iff.mp hx).1; rw [ogV_len] at this; exact this
      have hxe : x = .int (ogI os[i]) := by
        unfold ogV at hx
        rw [List.getElem?_map, List.getElem?_eq_getElem hi] at hx
        exact (Option.some.inj hx).symm
      subst hxe
      have et : (os.take (i + 1)).foldl flatS [] = flatS row os[i] := by
        rw [List.take_add_one, List.getElem?_eq_getElem hi, List.foldl_append, ← er]
        rfl
      have hl2 := flatS_len row os[i]
      rw [et]
      clear er et hx
      generalize os[i] = o at *
      have hvl := hP.length
      dsimp only [gName]
      -- the end of a turn
      have fin : ∀ H3 vs3 (y2 y3 : Option V), Same H H3 → H3 D = some (.lst vs3) → Paired (DiAt H3) (flatS row o) vs3 → ∃ (z2 z3 : Option V) (row3 : List Di) (vs' : List V), [some (V.ref r), some (V.ref D), y2, y3] = [some (V.ref r), some (V.ref D), z2, z3] ∧ Same H H3 ∧ H3 D = some (.lst vs') ∧ Paired (DiAt H3) row3 vs' ∧ row3 = flatS row o ∧ row3.length ≤ i + 1 := fun H3 vs3 y2 y3 h1 h2 h3 => ⟨_, _, _, vs3, rfl, h1, h2, h3, rfl, by omega⟩
      refine ⟨_, rfl, Nat.zero_le _, fun z nz => ?_⟩
      have sz := same_upd (o := .lst []) nz
      have hz0 : (upd H' z (.lst [])) z = some (.lst []) := upd_same
      have smz := sm.trans sz
      have hDz := sz _ _ hD
      have hPz : Paired (DiAt (upd H' z (.lst []))) row vs := hP.mono fun _ _ h => h.same sz
      clear hP hD sm
      generalize upd H' z (.lst []) = H2 at *
      refine ⟨_, _, dp_row ⟨vs, hDz, hPz⟩, .lst (ds := []) (.inl (.inl hz0)) .nil, sh_row _, sh_row [], ?_⟩
      have ee : PyData.eqv (rowD row) (.list []) = decide (row = []) := eqv_row row []
      rw [ee]
      -- a new item of one byte
      have fresh : ∀ p, o = .o p → ∀ (y3 : Option V), (∀ i, row.getLast? = some i → goesB i p = false) → ∀ tt, H2 tt = none → ∃ (z2 z3 : Option V) (row3 : List Di) (vs' : List V), [some (V.ref r), some (V.ref D), some (V.int (ogI o)), y3] = [some (V.ref r), some (V.ref D), z2, z3] ∧ Same H (upd (upd H2 tt (.tup [.str "old", .int 1, .int (-1 - ogI o)])) D (.lst (vs ++ [.ref tt]))) ∧ (upd (upd H2 tt (.tup [.str "old", .int 1, .int (-1 - ogI o)])) D (.lst (vs ++ [.ref tt]))) D = some (.lst vs') ∧ Paired (DiAt (upd (upd H2 tt (.tup [.str "old", .int 1, .int (-1 - ogI o)])) D (.lst (vs ++ [.ref tt])))) row3 vs' ∧ row3 = flatS row o ∧ row3.length ≤ i + 1 := fun p ep y3 hno tt ntt => by
        have st := same_upd (o := .tup [.str "old", .int 1, .int (-1 - ogI o)]) ntt
        refine fin _ (vs ++ [.ref tt]) _ _ (same_put (smz.trans st) nD) upd_same ?_
        subst ep
        rw [flatS_new hno]
        refine (hPz.mono fun _ _ h => (h.same st).put (st _ _ hDz)).snoc (DiAt.put (i := .c false 1 p) ⟨tt, rfl, ?_⟩ (st _ _ hDz))
        rw [upd_same]
        show some (HO.tup [V.str "old", V.int 1, V.int (-1 - (-1 - (p : Int)))]) = _
        rw [show -1 - (-1 - (p : Int)) = (p : Int) by omega]
        rfl
      rcases List.eq_nil_or_concat row with rfl | ⟨r0, x0, rfl⟩
      · rw [decide_eq_true rfl]
        refine ⟨_, rfl, iteF ?_⟩
        cases o with
        | b k =>
          refine ⟨_, rfl, _, _, rfl, rfl, _, rfl, iteC (decide_eq_true (show (0 : Int) ≤ (k : Int) by omega)) ?_⟩
          refine ⟨_, rfl, .inl ⟨rfl, _, .inl (.inl hDz)⟩, _, rfl, D, _, _, rfl, rfl, hDz, by omega, ?_⟩
          exact fin _ (vs ++ [.int (k : Int)]) _ _ (same_put smz nD) upd_same ((hPz.mono fun _ _ h => h.put hDz).snoc (show DiAt _ (.b k) (.int (k : Int)) from rfl))
        | o p =>
          refine ⟨_, rfl, _, _, rfl, rfl, _, rfl, ite2 (fun e => absurd (of_decide_eq_true e) (by show ¬ (0 : Int) ≤ -1 - (p : Int); omega)) (fun _ => ?_)⟩
          refine ⟨_, rfl, _, _, _, _, _, rfl, .ty "tuple", .base (.int _), kit_ty (a := "int") (r := false) (by decide +kernel), _, rfl, iteF ?_⟩
          refine ⟨_, rfl, .inl ⟨rfl, _, .inl (.inl hDz)⟩, 1, rfl, _, rfl, _, _, rfl, rfl, (by show 3 ≤ sizeLine; omega), fun tt ntt => ?_⟩
          have st := same_upd (o := .tup [.str "old", .int 1, .int (-1 - ogI (.o p))]) ntt
          exact ⟨D, _, _, rfl, rfl, st _ _ hDz, by omega, fresh p rfl _ (fun i hi => by cases hi) tt ntt⟩
      · rw [List.concat_eq_append] at *
        obtain ⟨vs0, v0, rfl, hP0, hx0⟩ := paired_snoc_inv hPz
        rw [decide_eq_false (fun z => by cases (List.append_eq_nil_iff.mp z).2)]
        refine ⟨_, rfl, iteT ?_⟩
        refine ⟨_, rfl, 1, rfl, D, _, -1, v0, rfl, rfl, .inl (.inl hDz), atI_lastV, ?_⟩
        dsimp only [gName]
        cases o with
        | b k =>
          refine ⟨_, rfl, _, _, rfl, rfl, _, rfl, iteC (decide_eq_true (show (0 : Int) ≤ (k : Int) by omega)) ?_⟩
          refine ⟨_, rfl, .inl ⟨rfl, _, .inl (.inl hDz)⟩, _, rfl, D, _, _, rfl, rfl, hDz, by omega, ?_⟩
          exact fin _ (vs0 ++ [v0] ++ [.int (k : Int)]) _ _ (same_put smz nD) upd_same ((hPz.mono fun _ _ h => h.put hDz).snoc (show DiAt _ (.b k) (.int (k : Int)) from rfl))
        | o p =>
          refine ⟨_, rfl, _, _, rfl, rfl, _, rfl, ite2 (fun e => absurd (of_decide_eq_true e) (by show ¬ (0 : Int) ≤ -1 - (p : Int); omega)) (fun _ => ?_)⟩
          have new : goesB x0 p = false → ∀ tt, H2 tt = none → _ := fun hg tt ntt => fresh p rfl (some v0) (fun i hi => by
            rw [List.getLast?_append] at hi
            obtain rfl := Option.some.inj hi
            exact hg) tt ntt
          cases x0 with
          | b n =>
            obtain rfl : v0 = .int (n : Int) := hx0
            refine ⟨_, rfl, _, _, _, _, _, rfl, .ty "tuple", .base (.int _), kit_ty (a := "int") (r := false) (by decide +kernel), _, rfl, iteF ?_⟩
            refine ⟨_, rfl, .inl ⟨rfl, _, .inl (.inl hDz)⟩, 1, rfl, _, rfl, _, _, rfl, rfl, (by show 3 ≤ sizeLine; omega), fun tt ntt => ?_⟩
            have st := same_upd (o := .tup [.str "old", .int 1, .int (-1 - ogI (.o p))]) ntt
            exact ⟨D, _, _, rfl, rfl, st _ _ hDz, by omega, new rfl tt ntt⟩
          | c nw m pl =>
            obtain ⟨tx, rfl, htx⟩ := hx0
            refine ⟨_, rfl, _, _, .type "tuple", _, _, rfl, .ty "tuple", .base (.tup htx), kit_ty (a := "tuple") (r := true) (by decide +kernel), _, rfl, iteT ?_⟩
            refine ⟨_, rfl, tx, _, 1, _, rfl, rfl, .inl (.inl htx), rfl, _, _, rfl, rfl, _, rfl, ite2 (fun e => ?_) (fun e => ?_)⟩
            · have e : (m : Int) < 255 := of_decide_eq_true e
              refine ⟨_, rfl, tx, _, 2, _, rfl, rfl, .inl (.inl htx), rfl, _, rfl, tx, _, 1, _, rfl, rfl, .inl (.inl htx), rfl, _, _, rfl, rfl, 1, rfl, _, rfl, _, _, rfl, rfl, rfl, _, rfl, ite2 (fun e2 => ?_) (fun e2 => ?_)⟩
              · have e2 : V.int ((pl : Int) + (m : Int)) = V.int (-1 - (-1 - (p : Int))) := of_decide_eq_true e2
                have e2 := V.int.inj e2
                have hg : goesB (.c nw m pl) p = true := decide_eq_true ⟨by omega, by omega⟩
                refine ⟨_, rfl, tx, _, 1, _, rfl, rfl, .inl (.inl htx), rfl, _, _, rfl, rfl, _, rfl, tx, _, 2, _, rfl, rfl, .inl (.inl htx), rfl, (by show 3 ≤ sizeLine; omega), fun tt ntt => ?_⟩
                have st := same_upd (o := .tup [.str "old", .int ((m : Int) + 1), .int (pl : Int)]) ntt
                refine ⟨_, rfl, 1, rfl, D, _, -1, vs0.length, rfl, rfl, st _ _ hDz, ixN_last, ?_⟩
                refine fin _ (vs0 ++ [.ref tt]) _ _ (same_put (smz.trans st) nD) ?_ ?_
                · rw [upd_same, List.set_append_right _ _ (Nat.le_refl _), Nat.sub_self]
                  rfl
                · rw [flatS_on hg]
                  refine (hP0.mono fun _ _ h => (h.same st).put (st _ _ hDz)).snoc (DiAt.put (i := .c false (m + 1) pl) ⟨tt, rfl, ?_⟩ (st _ _ hDz))
                  rw [upd_same]
                  push_cast
                  rfl
              · have hg : goesB (.c nw m pl) p = false := decide_eq_false fun z => e2 (decide_eq_true (congrArg V.int (show (pl : Int) + (m : Int) = -1 - (-1 - (p : Int)) by omega)))
                refine ⟨_, rfl, .inl ⟨rfl, _, .inl (.inl hDz)⟩, 1, rfl, _, rfl, _, _, rfl, rfl, (by show 3 ≤ sizeLine; omega), fun tt ntt => ?_⟩
                have st := same_upd (o := .tup [.str "old", .int 1, .int (-1 - ogI (.o p))]) ntt
                exact ⟨D, _, _, rfl, rfl, st _ _ hDz, by omega, new hg tt ntt⟩
            · have e : ¬ (m : Int) < 255 := fun z => e (decide_eq_true z)
              have hg : goesB (.c nw m pl) p = false := decide_eq_false fun z => e (by omega)
              refine ⟨_, rfl, .inl ⟨rfl, _, .inl (.inl hDz)⟩, 1, rfl, _, rfl, _, _, rfl, rfl, (by show 3 ≤ sizeLine; omega), fun tt ntt => ?_⟩
              have st := same_upd (o := .tup [.str "old", .int 1, .int (-1 - ogI (.o p))]) ntt
              exact ⟨D, _, _, rfl, rfl, st _ _ hDz, by omega, new hg tt ntt⟩
    · obtain ⟨y2, y3, row, vs, rfl, sm, hD, hP, er, hrl⟩ := h
      rw [ogV_len, List.take_length] at er
      refine ⟨_, rfl, q H' D sm nD ⟨vs, hD, ?_⟩⟩
      rw [show flatF os = row from er.symm]
      exact hP
end
end K0

namespace K0
open PySem PySem.Spec PyProof.Rows L2
/-! ### _law_pair, _law_any -/
abbrev NPa : List Str := ["_law_script", "_law_at", "_law_old", "_law_new", "_law_k", "_law_digits"]
theorem scPa : FnScope NPa ["_law_script", "_law_at"] (defScope sLPair) := ⟨rfl, rfl, rfl, by decide +kernel, rfl, by decide +kernel, by decide +kernel⟩
abbrev NAn : List Str := ["_law_script", "_law_at", "_law_size", "_law_found", "_law_many", "_law_k", "_law_digits", "_law_place"]
theorem scAn : FnScope NAn ["_law_script", "_law_at", "_law_size"] (defScope sLAny) := ⟨rfl, rfl, rfl, by decide +kernel, rfl, by decide +kernel, by decide +kernel⟩
theorem cut_some (ks : List Nat) (lo hi : Option Int) : ∃ ks2, cutV (bys ks) lo hi = bys ks2 ∧ ∀ k ∈ ks2, k ∈ ks := by
  refine ⟨(ks.drop (HT.sIx (bys ks).length 0 lo)).take (HT.sIx (bys ks).length (bys ks).length hi - HT.sIx (bys ks).length 0 lo), ?_, fun k hk => List.mem_of_mem_drop (List.mem_of_mem_take hk)⟩
  unfold cutV
  generalize HT.sIx (bys ks).length 0 lo = a
  generalize HT.sIx (bys ks).length (bys ks).length hi = b
  rw [bys_eq, bys_eq, ← List.map_drop, ← List.map_take]
section
variable {P : Program} {w : World} {K : PySem.W.Frag} {mg : Str → Option Value} {base : Heap}
def spPa (K : PySem.W.Frag) : Sp := fun vs H Q _ => ∃ (p : Addr) (xs : List Int) (a : Nat), vs = [.ref p, .int (a : Int)] ∧ SqL K H p (xs.map V.int) ∧ a ≤ 40000 ∧
  ∀ H' t po pn old new, Same H H' → H t = none → H' t = some (.tup [.ref po, .ref pn]) → H' po = some (.lst (bys old)) → H' pn = some (.lst (bys new)) → H po = none → H pn = none → (∀ k ∈ old, k < 256) → (∀ k ∈ new, k < 256) → old.length ≤ 50 → new.length ≤ 90 → Q (.ref t) H'
theorem ok_pa {f fC fN fD : Addr} {fd fdC fdN fdD : FuncData} {j k1 k2 k3 : Nat} (F : Fun K "_law_pair" "_law_pair" sLPair f fd)
    (GC : FnOk P w K mg base CX0 k1 fC fdC ["_law_script", "_law_k"] (K0.spCell K)) (bC : Binds K fdC ["_law_script", "_law_k"] []) (kC : PySem.W.keepIn K (.ref fC) = true) (gC : mg "_law_cell_at" = some (.ref fC)) (l1 : k1 ≤ j)
    (GN : FnOk P w K mg base CX0 k2 fN fdN ["_law_cell", "_law_limits"] spNums) (bN : Binds K fdN ["_law_cell", "_law_limits"] []) (kN : PySem.W.keepIn K (.ref fN) = true) (gN : mg "_law_numbers" = some (.ref fN)) (l2 : k2 ≤ j)
    (GD : FnOk P w K mg base CX0 k3 fD fdD ["_law_script", "_law_at", "_law_most"] (spData K)) (bD : Binds K fdD ["_law_script", "_law_at", "_law_most"] []) (kD : PySem.W.keepIn K (.ref fD) = true) (gD : mg "_law_data" = some (.ref fD)) (l3 : k3 ≤ j)
    (m1 : mg "len" = none) (m2 : mg "int" = none) (m3 : mg "range" = none) : FnOk P w K mg base CX0 (j + 1) f fd ["_law_script", "_law_at"] (spPa K) := by
  refine F.ok scPa (fun vs H Q E h => ?_) (fun cdv A outer s H vs Q E hr h => ?_)
  · obtain ⟨p, xs, a, rfl, _⟩ := h
    rfl
  · obtain ⟨p, xs, a, rfl, hp, ha, q⟩ := h
    have hz := PySem.sizeLine_eq
    refine ⟨_, pss_cons (ps_par (i := 2) (j := 3) rfl scPa.nd rfl rfl (by decide) rfl rfl (pa_cons (pe_call GD (hr.mono l3) (by rfl) gD kD bD .nil pass0 (pa_cons (pv 0) (pa_cons (pv 1) (pa_cons pe_int pa_nil)))) (pa_cons (pe_lst pa_nil) pa_nil)) (by rfl))
      (pss_cons (ps_for PassesOwn.never rfl (pi_range1 (by rfl) m3 (pa_cons (pe_op op_modN (pe_call GC (hr.mono l1) (by rfl) gC kC bC .nil pass0 (pa_cons (pv 0) (pa_cons (pe_op op_add (pv 1) pe_int) pa_nil))) pe_int) pa_nil)) (pg_name (i := 4) scPa.nd rfl (.inl rfl))
        (pss_cons (ps_set (i := 5) scPa.nd rfl (.inl rfl) (pe_call GN (hr.mono l2) (by rfl) gN kN bN .nil pass0 (pa_cons (pe_call GC (hr.mono l1) (by rfl) gC kC bC .nil pass0 (pa_cons (pv 0) (pa_cons (pe_op op_add (pe_op op_add (pv 1) pe_int) (pv 4)) pa_nil))) (pa_cons (pe_lst (pa_cons pe_int (pa_cons pe_int (pa_cons pe_int (pa_cons pe_int pa_nil))))) pa_nil))))
        (pss_one (ps_if (PW.pt (pw_and (pt_cmpR op_lt (pe_ix ix_list (pv 5) pe_int (fun _ _ => rfl)) pe_int (nomark _)) (pw_and1 (pt_cmpR (op_neD hr.units) (pv 2) (pe_lst pa_nil) (nomark _)))))
          (pss_one (ps_set (i := 3) scPa.nd rfl (.inl rfl) (pe_op op_cat (pv 3) (pe_slice sl_list (pe_slice sl_list (pv 2) (po_some (pe_op op_modN (pe_callTy call_int1 (by rfl) m2 (by decide +kernel) (pa_cons (pe_ix ix_list (pv 5) pe_int (fun _ _ => rfl)) pa_nil)) (pe_callB call_len_seq (by rfl) m1 PySem.boot_len (pa_cons (pv 2) pa_nil)))) po_none) po_none (po_some (pe_ix ix_list (pv 5) pe_int (fun _ _ => rfl)))))))
          (pss_one (ps_if (PW.pt (pw_and (pt_cmpR op_eq (pe_ix ix_list (pv 5) pe_int (fun _ _ => rfl)) pe_int (nomark _)) (pw_and1 (pt_cmpR (op_neD hr.units) (pv 3) (pe_lst pa_nil) (nomark _)))))
            (pss_one (ps_set (i := 3) scPa.nd rfl (.inl rfl) (pe_op op_cat (pv 3) (pe_slice sl_list (pe_slice sl_list (pv 3) (po_some (pe_op op_modN (pe_callTy call_int1 (by rfl) m2 (by decide +kernel) (pa_cons (pe_ix ix_list (pv 5) pe_int (fun _ _ => rfl)) pa_nil)) (pe_callB call_len_seq (by rfl) m1 PySem.boot_len (pa_cons (pv 3) pa_nil)))) po_none) po_none (po_some (pe_ix ix_list (pv 5) pe_int (fun _ _ => rfl)))))))
            (pss_one (ps_set (i := 3) scPa.nd rfl (.inl rfl) (pe_op op_cat (pv 3) (pe_slice sl_list (pe_lst (pa_cons (pe_ix ix_list (pv 5) pe_int (fun _ _ => rfl)) (pa_cons pe_int (pa_cons pe_int pa_nil)))) po_none (po_some (pe_op op_add pe_int (pe_op op_modN (pe_callTy call_int1 (by rfl) m2 (by decide +kernel) (pa_cons (pe_ix ix_list (pv 5) pe_int (fun _ _ => rfl)) pa_nil)) pe_int)))))))))))))
      (pss_one (ps_ret (pe_tup (pa_cons (pv 2) (pa_cons (pe_slice sl_list (pv 3) po_none (po_some pe_int)) pa_nil)))))), ?_⟩
    refine ⟨_, rfl, _, rfl, p, xs, a, 50, rfl, hp, by omega, by decide, fun H1 po old s1 npo hpo hko hlo => ?_⟩
    refine ⟨Nat.zero_le _, fun D0 nD0 => ?_⟩
    have nD00 := none_back s1 nD0
    have s2 := s1.trans (same_upd (o := .lst []) nD0)
    have hpo2 := same_upd (o := .lst []) nD0 _ _ hpo
    have hD2 : (upd H1 D0 (.lst [])) D0 = some (.lst (bys [])) := upd_same
    generalize upd H1 D0 (.lst []) = H2 at *
    refine ⟨_, _, rfl, ?_⟩
    refine ⟨_, rfl, _, rfl, _, _, rfl, rfl, p, xs, a + 30, by push_cast; rfl, s2.seq hp, by omega, fun H3 s3 => ?_⟩
    have hc := fmod_in (a := cellAt xs (a + 30)) (l := 6) (by decide)
    have s13 := s2.trans s3
    refine ⟨_, _, rfl, rfl, (by show (6 : Int) ≠ 0; decide), (cellAt xs (a + 30)).fmod 6, rfl, by omega, by omega, ?_⟩
    refine for_range (lo := 0) (n := ((cellAt xs (a + 30)).fmod 6).toNat) (fun i σ H' => ∃ (y4 y5 : Option V) (D : Addr) (ks : List Nat), σ = [some (.ref p), some (.int (a : Int)), some (.ref po), some (.ref D), y4, y5] ∧ Same H H' ∧ H' po = some (.lst (bys old)) ∧ H D = none ∧ H' D = some (.lst (bys ks)) ∧ (∀ k ∈ ks, k < 256) ∧ ks.length ≤ 30 * i)
      ⟨none, none, D0, [], rfl, s13, s3 _ _ hpo2, nD00, s3 _ _ hD2, fun k h => by (cases h), by simp⟩ (fun i σ H' hi h => ?_) (fun σ H' h => ?_)
    · obtain ⟨y4, y5, D, ks0, rfl, sm, hpo', nD, hD, hk, hl⟩ := h
      have hi6 : i < 6 := by omega
      refine ⟨_, rfl, _, rfl, _, _, rfl, rfl, _, rfl, _, _, rfl, rfl, p, xs, a + 31 + i, ?_, sm.seq hp, by omega, fun H5 sm5 => ?_⟩
      · show [V.ref p, V.int ((a : Int) + 31 + (0 + (i : Int)))] = _
        rw [show (a : Int) + 31 + (0 + (i : Int)) = ((a + 31 + i : Nat) : Int) by omega]
      · refine ⟨(by show 4 ≤ sizeLine; decide), fun z nz => ?_⟩
        refine ⟨z, cellAt xs (a + 31 + i), [4, 60, 30, 256], rfl, upd_same, by decide, by decide, fun H6 dg ds sm6 nq hdg hdl hin => ?_⟩
        obtain ⟨d0, d1, d2, d3, rfl⟩ : ∃ d0 d1 d2 d3, ds = [d0, d1, d2, d3] := by
          match ds, hdl with
          | [a, b, c, d], _ => exact ⟨a, b, c, d, rfl⟩
        have hd0 := hin.2 0 d0 4 rfl rfl
        have hd1 := hin.2 1 d1 60 rfl rfl
        have hd2 := hin.2 2 d2 30 rfl rfl
        have hd3 := hin.2 3 d3 256 rfl rfl
        have sm46 : Same H' H6 := (sm5.trans (same_upd nz)).trans sm6
        have sm06 : Same H H6 := sm.trans sm46
        have hD6 := sm46 _ _ hD
        have hpo6 := sm46 _ _ hpo'
        have hdgS : SqL K H6 dg [.int d0, .int d1, .int d2, .int d3] := .inl (.inl hdg)
        obtain ⟨k2, rfl⟩ := nat_of hd2.1
        obtain ⟨k3, rfl⟩ := nat_of hd3.1
        clear nq hin hdl hdg
        have fin : ∀ (H9 : Hp) (r : Addr) (ks2 : List Nat), Same H H9 → Same H6 H9 → H9 r = none → (∀ k ∈ ks2, k < 256) → ks2.length ≤ 30 →
            ∃ (y4' y5' : Option V) (D : Addr) (ks : List Nat), [some (.ref p), some (.int (a : Int)), some (.ref po), some (.ref r), some (.int (0 + (i : Int))), some (.ref dg)] = [some (.ref p), some (.int (a : Int)), some (.ref po), some (.ref D), y4', y5'] ∧ Same H (upd H9 r (.lst (bys ks0 ++ bys ks2))) ∧ (upd H9 r (.lst (bys ks0 ++ bys ks2))) po = some (.lst (bys old)) ∧ H D = none ∧ (upd H9 r (.lst (bys ks0 ++ bys ks2))) D = some (.lst (bys ks)) ∧ (∀ k ∈ ks, k < 256) ∧ ks.length ≤ 30 * (i + 1) := by
          intro H9 r ks2 sm9 s69 nr h2 hl2
          refine ⟨_, _, r, ks0 ++ ks2, rfl, sm9.trans (same_upd nr), (s69.trans (same_upd nr)) _ _ hpo6, none_back sm9 nr, by rw [upd_same, bys_app], fun k m => ?_, by rw [List.length_append]; omega⟩
          rcases (List.mem_append.mp m) with (m | m)
          · exact hk k m
          · exact h2 k m
        refine ⟨_, rfl, dg, _, 0, _, rfl, rfl, hdgS, rfl, _, _, rfl, rfl, _, rfl, ite2 (fun e3 => ?_) (fun e3 => ?_)⟩
        · refine ⟨_, rfl, Nat.zero_le _, fun z2 nz2 => ?_⟩
          have sm67 : Same H6 (upd H6 z2 (.lst [])) := same_upd nz2
          have hz2 : (upd H6 z2 (.lst [])) z2 = some (.lst []) := upd_same
          generalize upd H6 z2 (.lst []) = H7 at *
          have hD7 := sm67 _ _ hD6
          have hpo7 := sm67 _ _ hpo6
          refine ⟨_, _, .lst (.inl (.inl hpo7)) (dp_ints _), .lst (ds := []) (.inl (.inl hz2)) .nil, shaped_intsQ _, shaped_intsQ [], _, rfl, ite2 (fun e4 => ?_) (fun e4 => ?_)⟩
          · have hne : old ≠ [] := by
              intro z
              subst z
              cases e4
            have hpos : 0 < old.length := List.length_pos_iff.mpr hne
            have hdg7 := sm67.seq hdgS
            refine ⟨_, rfl, _, rfl, _, rfl, dg, _, 1, _, rfl, rfl, hdg7, rfl, .inl ⟨_, rfl, _, rfl, po, _, rfl, .inl (.inl (.inl hpo7)), _, _, rfl, rfl, (by rw [bys_len]; omega), ?_⟩⟩
            refine ⟨_, rfl, po, _, rfl, .inl (.inl hpo7), fun r1 nr1 => ?_⟩
            obtain ⟨ks2, e2, hks2⟩ := cut_some old (some (d1.fmod ((bys old).length : Int))) none
            rw [e2]
            have s8 := same_upd (o := .lst (bys ks2)) nr1
            refine ⟨_, rfl, dg, _, 2, _, rfl, rfl, s8.seq hdg7, rfl, _, rfl, r1, _, rfl, .inl (.inl upd_same), fun r2 nr2 => ?_⟩
            rw [bys_to]
            have s9 := same_upd (o := .lst (bys (ks2.take k2))) nr2
            refine ⟨D, r2, _, _, rfl, rfl, s9 _ _ (s8 _ _ hD7), upd_same, (by rw [bys_len, bys_len, List.length_take, hz]; omega), fun r3 nr3 => ?_⟩
            exact fin _ r3 _ (((sm06.trans sm67).trans s8).trans s9) ((sm67.trans s8).trans s9) nr3 (fun k m => hko k (hks2 k (List.mem_of_mem_take m))) (by rw [List.length_take]; omega)
          · have hdg7 := sm67.seq hdgS
            have sm07 := sm06.trans sm67
            refine ⟨_, rfl, dg, _, 0, _, rfl, rfl, hdg7, rfl, rfl, _, rfl, ite2 (fun e5 => ?_) (fun e5 => ?_)⟩
            · refine ⟨_, rfl, Nat.zero_le _, fun z3 nz3 => ?_⟩
              have sm78 : Same H7 (upd H7 z3 (.lst [])) := same_upd nz3
              have hz3 : (upd H7 z3 (.lst [])) z3 = some (.lst []) := upd_same
              generalize upd H7 z3 (.lst []) = H8 at *
              have hD8 := sm78 _ _ hD7
              refine ⟨_, _, .lst (.inl (.inl hD8)) (dp_ints _), .lst (ds := []) (.inl (.inl hz3)) .nil, shaped_intsQ _, shaped_intsQ [], _, rfl, ite2 (fun e4 => ?_) (fun e4 => ?_)⟩
              · have hne : ks0 ≠ [] := by
                  intro z
                  subst z
                  cases e4
                have hpos : 0 < ks0.length := List.length_pos_iff.mpr hne
                have hdg8 := sm78.seq hdg7
                refine ⟨_, rfl, _, rfl, _, rfl, dg, _, 1, _, rfl, rfl, hdg8, rfl, .inl ⟨_, rfl, _, rfl, D, _, rfl, .inl (.inl (.inl hD8)), _, _, rfl, rfl, (by rw [bys_len]; omega), ?_⟩⟩
                refine ⟨_, rfl, D, _, rfl, .inl (.inl hD8), fun r1 nr1 => ?_⟩
                obtain ⟨ks2, e2, hks2⟩ := cut_some ks0 (some (d1.fmod ((bys ks0).length : Int))) none
                rw [e2]
                have s8 := same_upd (o := .lst (bys ks2)) nr1
                refine ⟨_, rfl, dg, _, 2, _, rfl, rfl, s8.seq hdg8, rfl, _, rfl, r1, _, rfl, .inl (.inl upd_same), fun r2 nr2 => ?_⟩
                rw [bys_to]
                have s9 := same_upd (o := .lst (bys (ks2.take k2))) nr2
                refine ⟨D, r2, _, _, rfl, rfl, s9 _ _ (s8 _ _ hD8), upd_same, (by rw [bys_len, bys_len, List.length_take, hz]; omega), fun r3 nr3 => ?_⟩
                exact fin _ r3 _ (((sm07.trans sm78).trans s8).trans s9) (((sm67.trans sm78).trans s8).trans s9) nr3 (fun k m => hk k (hks2 k (List.mem_of_mem_take m))) (by rw [List.length_take]; omega)
              · have hdg8 := sm78.seq hdg7
                have hc2 := fmod_in (a := (k2 : Int)) (l := 3) (by decide)
                obtain ⟨c, ec⟩ := nat_of hc2.1
                refine ⟨_, rfl, _, rfl, dg, _, 3, _, rfl, rfl, hdg8, rfl, (by show 3 ≤ sizeLine; rw [hz]; decide), fun r1 nr1 => ?_⟩
                have s8 := same_upd (o := .lst [.int (k3 : Int), .int 97, .int 98]) nr1
                have hr1 : (upd H8 r1 (.lst [.int (k3 : Int), .int 97, .int 98])) r1 = some (.lst (bys [k3, 97, 98])) := upd_same
                refine ⟨_, rfl, dg, _, 2, _, rfl, rfl, s8.seq hdg8, rfl, .inl ⟨_, rfl, _, _, rfl, rfl, (by show (3 : Int) ≠ 0; decide), _, _, rfl, rfl, _, rfl, r1, _, rfl, .inl (.inl hr1), fun r2 nr2 => ?_⟩⟩
                have e1 : (1 : Int) + (k2 : Int).fmod 3 = ((1 + c : Nat) : Int) := by omega
                rw [e1, bys_to]
                have s9 := same_upd (o := .lst (bys ([k3, 97, 98].take (1 + c)))) nr2
                refine ⟨D, r2, _, _, rfl, rfl, s9 _ _ (s8 _ _ hD8), upd_same, (by rw [bys_len, bys_len, List.length_take, hz]; simp; omega), fun r3 nr3 => ?_⟩
                refine fin _ r3 _ (((sm07.trans sm78).trans s8).trans s9) (((sm67.trans sm78).trans s8).trans s9) nr3 (fun k m => ?_) (by rw [List.length_take]; simp; omega)
                have := List.mem_of_mem_take m
                simp at this
                omega
            · obtain ⟨H8, eH8, sm78, hD8⟩ : ∃ H8, H8 = H7 ∧ Same H7 H8 ∧ H8 D = some (.lst (bys ks0)) := ⟨H7, rfl, Same.refl H7, hD7⟩
              rw [← eH8]
              have hdg8 := sm78.seq hdg7
              have hc2 := fmod_in (a := (k2 : Int)) (l := 3) (by decide)
              obtain ⟨c, ec⟩ := nat_of hc2.1
              refine ⟨_, rfl, _, rfl, dg, _, 3, _, rfl, rfl, hdg8, rfl, (by show 3 ≤ sizeLine; rw [hz]; decide), fun r1 nr1 => ?_⟩
              have s8 := same_upd (o := .lst [.int (k3 : Int), .int 97, .int 98]) nr1
              have hr1 : (upd H8 r1 (.lst [.int (k3 : Int), .int 97, .int 98])) r1 = some (.lst (bys [k3, 97, 98])) := upd_same
              refine ⟨_, rfl, dg, _, 2, _, rfl, rfl, s8.seq hdg8, rfl, .inl ⟨_, rfl, _, _, rfl, rfl, (by show (3 : Int) ≠ 0; decide), _, _, rfl, rfl, _, rfl, r1, _, rfl, .inl (.inl hr1), fun r2 nr2 => ?_⟩⟩
              have e1 : (1 : Int) + (k2 : Int).fmod 3 = ((1 + c : Nat) : Int) := by omega
              rw [e1, bys_to]
              have s9 := same_upd (o := .lst (bys ([k3, 97, 98].take (1 + c)))) nr2
              refine ⟨D, r2, _, _, rfl, rfl, s9 _ _ (s8 _ _ hD8), upd_same, (by rw [bys_len, bys_len, List.length_take, hz]; simp; omega), fun r3 nr3 => ?_⟩
              refine fin _ r3 _ (((sm07.trans sm78).trans s8).trans s9) (((sm67.trans sm78).trans s8).trans s9) nr3 (fun k m => ?_) (by rw [List.length_take]; simp; omega)
              have := List.mem_of_mem_take m
              simp at this
              omega
        · obtain ⟨H7, eH, sm67, hD7⟩ : ∃ H7, H7 = H6 ∧ Same H6 H7 ∧ H7 D = some (.lst (bys ks0)) := ⟨H6, rfl, Same.refl H6, hD6⟩
          rw [← eH]
          have hdg7 := sm67.seq hdgS
          have sm07 := sm06.trans sm67
          refine ⟨_, rfl, dg, _, 0, _, rfl, rfl, hdg7, rfl, rfl, _, rfl, ite2 (fun e5 => ?_) (fun e5 => ?_)⟩
          · refine ⟨_, rfl, Nat.zero_le _, fun z3 nz3 => ?_⟩
            have sm78 : Same H7 (upd H7 z3 (.lst [])) := same_upd nz3
            have hz3 : (upd H7 z3 (.lst [])) z3 = some (.lst []) := upd_same
            generalize upd H7 z3 (.lst []) = H8 at *
            have hD8 := sm78 _ _ hD7
            refine ⟨_, _, .lst (.inl (.inl hD8)) (dp_ints _), .lst (ds := []) (.inl (.inl hz3)) .nil, shaped_intsQ _, shaped_intsQ [], _, rfl, ite2 (fun e4 => ?_) (fun e4 => ?_)⟩
            · have hne : ks0 ≠ [] := by
                intro z
                subst z
                cases e4
              have hpos : 0 < ks0.length := List.length_pos_iff.mpr hne
              have hdg8 := sm78.seq hdg7
              refine ⟨_, rfl, _, rfl, _, rfl, dg, _, 1, _, rfl, rfl, hdg8, rfl, .inl ⟨_, rfl, _, rfl, D, _, rfl, .inl (.inl (.inl hD8)), _, _, rfl, rfl, (by rw [bys_len]; omega), ?_⟩⟩
              refine ⟨_, rfl, D, _, rfl, .inl (.inl hD8), fun r1 nr1 => ?_⟩
              obtain ⟨ks2, e2, hks2⟩ := cut_some ks0 (some (d1.fmod ((bys ks0).length : Int))) none
              rw [e2]
              have s8 := same_upd (o := .lst (bys ks2)) nr1
              refine ⟨_, rfl, dg, _, 2, _, rfl, rfl, s8.seq hdg8, rfl, _, rfl, r1, _, rfl, .inl (.inl upd_same), fun r2 nr2 => ?_⟩
              rw [bys_to]
              have s9 := same_upd (o := .lst (bys (ks2.take k2))) nr2
              refine ⟨D, r2, _, _, rfl, rfl, s9 _ _ (s8 _ _ hD8), upd_same, (by rw [bys_len, bys_len, List.length_take, hz]; omega), fun r3 nr3 => ?_⟩
              exact fin _ r3 _ (((sm07.trans sm78).trans s8).trans s9) (((sm67.trans sm78).trans s8).trans s9) nr3 (fun k m => hk k (hks2 k (List.mem_of_mem_take m))) (by rw [List.length_take]; omega)
            · have hdg8 := sm78.seq hdg7
              have hc2 := fmod_in (a := (k2 : Int)) (l := 3) (by decide)
              obtain ⟨c, ec⟩ := nat_of hc2.1
              refine ⟨_, rfl, _, rfl, dg, _, 3, _, rfl, rfl, hdg8, rfl, (by show 3 ≤ sizeLine; rw [hz]; decide), fun r1 nr1 => ?_⟩
              have s8 := same_upd (o := .lst [.int (k3 : Int), .int 97, .int 98]) nr1
              have hr1 : (upd H8 r1 (.lst [.int (k3 : Int), .int 97, .int 98])) r1 = some (.lst (bys [k3, 97, 98])) := upd_same
              refine ⟨_, rfl, dg, _, 2, _, rfl, rfl, s8.seq hdg8, rfl, .inl ⟨_, rfl, _, _, rfl, rfl, (by show (3 : Int) ≠ 0; decide), _, _, rfl, rfl, _, rfl, r1, _, rfl, .inl (.inl hr1), fun r2 nr2 => ?_⟩⟩
              have e1 : (1 : Int) + (k2 : Int).fmod 3 = ((1 + c : Nat) : Int) := by omega
              rw [e1, bys_to]
              have s9 := same_upd (o := .lst (bys ([k3, 97, 98].take (1 + c)))) nr2
              refine ⟨D, r2, _, _, rfl, rfl, s9 _ _ (s8 _ _ hD8), upd_same, (by rw [bys_len, bys_len, List.length_take, hz]; simp; omega), fun r3 nr3 => ?_⟩
              refine fin _ r3 _ (((sm07.trans sm78).trans s8).trans s9) (((sm67.trans sm78).trans s8).trans s9) nr3 (fun k m => ?_) (by rw [List.length_take]; simp; omega)
              have := List.mem_of_mem_take m
              simp at this
              omega
          · obtain ⟨H8, eH8, sm78, hD8⟩ : ∃ H8, H8 = H7 ∧ Same H7 H8 ∧ H8 D = some (.lst (bys ks0)) := ⟨H7, rfl, Same.refl H7, hD7⟩
            rw [← eH8]
            have hdg8 := sm78.seq hdg7
            have hc2 := fmod_in (a := (k2 : Int)) (l := 3) (by decide)
            obtain ⟨c, ec⟩ := nat_of hc2.1
            refine ⟨_, rfl, _, rfl, dg, _, 3, _, rfl, rfl, hdg8, rfl, (by show 3 ≤ sizeLine; rw [hz]; decide), fun r1 nr1 => ?_⟩
            have s8 := same_upd (o := .lst [.int (k3 : Int), .int 97, .int 98]) nr1
            have hr1 : (upd H8 r1 (.lst [.int (k3 : Int), .int 97, .int 98])) r1 = some (.lst (bys [k3, 97, 98])) := upd_same
            refine ⟨_, rfl, dg, _, 2, _, rfl, rfl, s8.seq hdg8, rfl, .inl ⟨_, rfl, _, _, rfl, rfl, (by show (3 : Int) ≠ 0; decide), _, _, rfl, rfl, _, rfl, r1, _, rfl, .inl (.inl hr1), fun r2 nr2 => ?_⟩⟩
            have e1 : (1 : Int) + (k2 : Int).fmod 3 = ((1 + c : Nat) : Int) := by omega
            rw [e1, bys_to]
            have s9 := same_upd (o := .lst (bys ([k3, 97, 98].take (1 + c)))) nr2
            refine ⟨D, r2, _, _, rfl, rfl, s9 _ _ (s8 _ _ hD8), upd_same, (by rw [bys_len, bys_len, List.length_take, hz]; simp; omega), fun r3 nr3 => ?_⟩
            refine fin _ r3 _ (((sm07.trans sm78).trans s8).trans s9) (((sm67.trans sm78).trans s8).trans s9) nr3 (fun k m => ?_) (by rw [List.length_take]; simp; omega)
            have := List.mem_of_mem_take m
            simp at this
            omega
    · obtain ⟨y4, y5, D, ks, rfl, sm, hpo', nD, hD, hk, hl⟩ := h
      refine ⟨_, rfl, _, rfl, _, rfl, D, _, rfl, .inl (.inl hD), fun r nr => ?_⟩
      have e9 : cutV (bys ks) none (some (90 : Int)) = bys (ks.take 90) := bys_to ks 90
      rw [e9]
      have s5 := sm.trans (same_upd (o := .lst (bys (ks.take 90))) nr)
      refine ⟨(by show 2 ≤ sizeLine; omega), fun t nt => ?_⟩
      have hpo5 := same_upd (o := .lst (bys (ks.take 90))) nr _ _ hpo'
      have s6 := same_upd (o := .tup [.ref po, .ref r]) nt
      exact q _ t po r old (ks.take 90) (s5.trans s6) (none_back s5 nt) upd_same (s6 _ _ hpo5) (s6 _ _ upd_same) npo (none_back sm nr) hko (fun k m => hk k (List.mem_of_mem_take m)) hlo (by rw [List.length_take]; omega)
end
end K0

namespace K0
open PySem PySem.Spec PyProof.Rows L2
/-! ### _law_any -/
section
variable {P : Program} {w : World} {K : PySem.W.Frag} {mg : Str → Option Value} {base : Heap}
def spAn (K : PySem.W.Frag) : Sp := fun vs H Q _ => ∃ (p : Addr) (xs : List Int) (a size : Nat), vs = [.ref p, .int (a : Int), .int (size : Int)] ∧ SqL K H p (xs.map V.int) ∧ a ≤ 40000 ∧ size ≤ 2000 ∧
  ∀ H' q row n, Same H H' → H q = none → RwAt H' q row → row.length ≤ 20 → fitR size 0 row = some n → n ≤ 900 → Q (.ref q) H'
theorem ok_an {f fC fN fW : Addr} {fd fdC fdN fdW : FuncData} {j k1 k2 k3 : Nat} (F : Fun K "_law_any" "_law_any" sLAny f fd)
    (GC : FnOk P w K mg base CX0 k1 fC fdC ["_law_script", "_law_k"] (K0.spCell K)) (bC : Binds K fdC ["_law_script", "_law_k"] []) (kC : PySem.W.keepIn K (.ref fC) = true) (gC : mg "_law_cell_at" = some (.ref fC)) (l1 : k1 ≤ j)
    (GN : FnOk P w K mg base CX0 k2 fN fdN ["_law_cell", "_law_limits"] spNums) (bN : Binds K fdN ["_law_cell", "_law_limits"] []) (kN : PySem.W.keepIn K (.ref fN) = true) (gN : mg "_law_numbers" = some (.ref fN)) (l2 : k2 ≤ j)
    (GW : FnOk P w K mg base CX0 k3 fW fdW ["_law_item"] spLw) (bW : Binds K fdW ["_law_item"] []) (kW : PySem.W.keepIn K (.ref fW) = true) (gW : mg "_law_wide" = some (.ref fW)) (l3 : k3 ≤ j)
    (m1 : mg "range" = none) (m2 : mg "int" = none) (m3 : mg "isinstance" = none) (m4 : mg "tuple" = none) (m5 : mg "min" = none) : FnOk P w K mg base CX0 (j + 1) f fd ["_law_script", "_law_at", "_law_size"] (spAn K) := by
  refine F.ok scAn (fun vs H Q E h => ?_) (fun cdv A outer s H vs Q E hr h => ?_)
  · obtain ⟨p, xs, a, size, rfl, _⟩ := h
    rfl
  · obtain ⟨p, xs, a, size, rfl, hp, ha, hsz, q⟩ := h
    have hz := PySem.sizeLine_eq
    refine ⟨_, pss_cons (ps_par (i := 3) (j := 4) rfl scAn.nd rfl rfl (by decide) rfl rfl (pa_cons (pe_lst pa_nil) (pa_cons pe_int pa_nil)) (by rfl))
      (pss_cons (ps_for PassesOwn.never rfl (pi_range1 (by rfl) m1 (pa_cons (pe_op op_modN (pe_call GC (hr.mono l1) (by rfl) gC kC bC .nil pass0 (pa_cons (pv 0) (pa_cons (pv 1) pa_nil))) pe_int) pa_nil)) (pg_name (i := 5) scAn.nd rfl (.inl rfl))
        (pss_cons (ps_set (i := 6) scAn.nd rfl (.inl rfl) (pe_call GN (hr.mono l2) (by rfl) gN kN bN .nil pass0 (pa_cons (pe_call GC (hr.mono l1) (by rfl) gC kC bC .nil pass0 (pa_cons (pv 0) (pa_cons (pe_op op_add (pe_op op_add (pv 1) pe_int) (pv 5)) pa_nil))) (pa_cons (pe_lst (pa_cons pe_int (pa_cons pe_int (pa_cons pe_int (pa_cons pe_int pa_nil))))) pa_nil))))
        (pss_cons (ps_if (pt_cmpR op_gt (pv 4) pe_int (nomark _)) (pss_one (ps_ret (pv 3))) pss_nil)
        (pss_cons (ps_if (PW.pt (pw_and (pt_cmpR op_eq (pe_ix ix_list (pv 6) pe_int (fun _ _ => rfl)) pe_int (nomark _)) (pw_and1 (pt_cmpR op_gt (pv 4) pe_int (nomark _)))))
          (pss_one (ps_expr (pe_bm PySem.F.plainAttrs_list PySem.F.slot_list_append PySem.F.type_list_append mt_append (pv 3) (pa_cons (pe_tup (pa_cons pe_str (pa_cons (pe_op op_add pe_int (pe_op op_modN (pe_callTy call_int1 (by rfl) m2 (by decide +kernel) (pa_cons (pe_ix ix_list (pv 6) pe_int (fun _ _ => rfl)) pa_nil)) pe_int))
            (pa_cons (pe_op op_add pe_int (pe_op op_modN (pe_callTy call_int1 (by rfl) m2 (by decide +kernel) (pa_cons (pe_ix ix_list (pv 6) pe_int (fun _ _ => rfl)) pa_nil)) (pv 4))) pa_nil)))) pa_nil))))
          (pss_one (ps_if (PW.pt (pw_and (pt_cmpR op_gt (pe_ix ix_list (pv 6) pe_int (fun _ _ => rfl)) pe_int (nomark _)) (pw_and1 (pt_cmpR op_gt (pv 2) pe_int (nomark _)))))
            (pss_cons (ps_set (i := 7) scAn.nd rfl (.inl rfl) (pe_op op_modN (pe_callTy call_int1 (by rfl) m2 (by decide +kernel) (pa_cons (pe_ix ix_list (pv 6) pe_int (fun _ _ => rfl)) pa_nil)) (pv 2)))
            (pss_cons (ps_if (PW.pt (pw_and (pt_cmpR op_eq (pe_op op_modN (pe_callTy call_int1 (by rfl) m2 (by decide +kernel) (pa_cons (pe_ix ix_list (pv 6) pe_int (fun _ _ => rfl)) pa_nil)) pe_int) pe_int (nomark _))
                (pw_and (pt_cmpR (op_neD hr.units) (pv 3) (pe_lst pa_nil) (nomark _))
                (pw_and (pt_val (pe_callB call_isi (by rfl) m3 (by decide +kernel) (pa_cons (pe_ix ix_list (pv 3) (pe_un un_neg pe_int) (fun _ _ => rfl)) (pa_cons (pe_bltn (v := .ty "tuple") (by rfl) m4 (by decide +kernel) rfl) pa_nil))))
                (pw_and1 (pt_cmpR op_eq (pe_ix ix_tup (pe_ix ix_list (pv 3) (pe_un un_neg pe_int) (fun _ _ => rfl)) pe_int (fun _ _ => rfl)) pe_str (nomark _)))))))
              (pss_one (ps_set (i := 7) scAn.nd rfl (.inl rfl) (pe_op op_modN (pe_callTy call_int1 (by rfl) m2 (by decide +kernel) (pa_cons (pe_op op_add (pe_ix ix_tup (pe_ix ix_list (pv 3) (pe_un un_neg pe_int) (fun _ _ => rfl)) pe_int (fun _ _ => rfl)) (pe_ix ix_tup (pe_ix ix_list (pv 3) (pe_un un_neg pe_int) (fun _ _ => rfl)) pe_int (fun _ _ => rfl))) pa_nil)) (pv 2)))) pss_nil)
            (pss_one (ps_expr (pe_bm PySem.F.plainAttrs_list PySem.F.slot_list_append PySem.F.type_list_append mt_append (pv 3) (pa_cons (pe_tup (pa_cons pe_str (pa_cons (pe_op op_add pe_int (pe_op op_modN (pe_callTy call_int1 (by rfl) m2 (by decide +kernel) (pa_cons (pe_ix ix_list (pv 6) pe_int (fun _ _ => rfl)) pa_nil)) (pe_callB (call_min2 rfl) (by rfl) m5 (by decide +kernel) (pa_cons pe_int (pa_cons (pe_op op_sub (pv 2) (pv 7)) pa_nil)))))
              (pa_cons (pv 7) pa_nil)))) pa_nil))))))
            (pss_one (ps_expr (pe_bm PySem.F.plainAttrs_list PySem.F.slot_list_append PySem.F.type_list_append mt_append (pv 3) (pa_cons (pe_ix ix_list (pv 6) pe_int (fun _ _ => rfl)) pa_nil)))))))
        (pss_one (ps_set (i := 4) scAn.nd rfl (.inl rfl) (pe_op op_add (pv 4) (pe_call GW (hr.mono l3) (by rfl) gW kW bW .nil pass0 (pa_cons (pe_ix ix_list (pv 3) (pe_un un_neg pe_int) (fun _ _ => rfl)) pa_nil)))))))))
      (pss_one (ps_ret (pv 3)))), ?_⟩
    refine ⟨Nat.zero_le _, fun D nD => ?_⟩
    have s1 := same_upd (o := .lst []) nD
    have hD1 : (upd H D (.lst [])) D = some (.lst []) := upd_same
    generalize upd H D (.lst []) = H1 at *
    refine ⟨_, _, rfl, ?_⟩
    refine ⟨_, rfl, _, rfl, p, xs, a, rfl, s1.seq hp, by omega, fun H3 s3 => ?_⟩
    have hc := fmod_in (a := cellAt xs a) (l := 14) (by decide)
    have s13 := s1.trans s3
    refine ⟨_, _, rfl, rfl, (by show (14 : Int) ≠ 0; decide), (cellAt xs a).fmod 14, rfl, by omega, by omega, ?_⟩
    refine for_range (lo := 0) (n := ((cellAt xs a).fmod 14).toNat) (fun i σ H' => ∃ (y5 y6 y7 : Option V) (many : Nat) (row : List Di) (us : List V), σ = [some (.ref p), some (.int (a : Int)), some (.int (size : Int)), some (.ref D), some (.int (many : Int)), y5, y6, y7] ∧ Same H H' ∧ H' D = some (.lst us) ∧ Paired (DiAt H') row us ∧ row.length ≤ i ∧ fitR size 0 row = some many ∧ many ≤ 900)
      ⟨none, none, none, 0, [], [], rfl, s13, s3 _ _ hD1, .nil, Nat.le_refl _, rfl, by decide⟩ (fun i σ H' hi h => ?_) (fun σ H' h => ?_)
    · obtain ⟨y5, y6, y7, many, row, us, rfl, sm, hD, hus, hrl, hfit, hmany⟩ := h
      have hi14 : i < 14 := by omega
      refine ⟨_, rfl, _, rfl, _, _, rfl, rfl, _, rfl, _, _, rfl, rfl, p, xs, a + 1 + i, ?_, sm.seq hp, by omega, fun H5 sm5 => ?_⟩
      · show [V.ref p, V.int ((a : Int) + 1 + (0 + (i : Int)))] = _
        rw [show (a : Int) + 1 + (0 + (i : Int)) = ((a + 1 + i : Nat) : Int) by omega]
      · refine ⟨(by show 4 ≤ sizeLine; decide), fun z nz => ?_⟩
        refine ⟨z, cellAt xs (a + 1 + i), [4, 256, 255, 600], rfl, upd_same, by decide, by decide, fun H6 dg ds sm6 nq hdg hdl hin => ?_⟩
        obtain ⟨d0, d1, d2, d3, rfl⟩ : ∃ d0 d1 d2 d3, ds = [d0, d1, d2, d3] := by
          match ds, hdl with
          | [a, b, c, d], _ => exact ⟨a, b, c, d, rfl⟩
        have hd0 := hin.2 0 d0 4 rfl rfl
        have hd1 := hin.2 1 d1 256 rfl rfl
        have hd2 := hin.2 2 d2 255 rfl rfl
        have hd3 := hin.2 3 d3 600 rfl rfl
        have sm46 : Same H' H6 := (sm5.trans (same_upd nz)).trans sm6
        have sm06 : Same H H6 := sm.trans sm46
        have hD6 := sm46 _ _ hD
        have hus6 : Paired (DiAt H6) row us := hus.mono fun _ _ h => h.same sm46
        have hdgS : SqL K H6 dg [.int d0, .int d1, .int d2, .int d3] := .inl (.inl hdg)
        obtain ⟨k1, rfl⟩ := nat_of hd1.1
        have hul := hus.length
        clear nq hin hdl hdg hus hD
        dsimp only [gName]
        refine ⟨_, rfl, _, _, rfl, rfl, _, rfl, ite2 (fun e0 => ?_) (fun e0 => ?_)⟩
        · exact ⟨_, rfl, q H6 D row many sm06 nD ⟨us, hD6, hus6⟩ (by omega) hfit hmany⟩
        have e0 : many ≤ 600 := by
          have : ¬ (600 : Int) < (many : Int) := fun z => e0 (decide_eq_true z)
          omega
        obtain ⟨M, hM⟩ : ∃ M : L2.St → Hp → Prop, M = (fun σ' H9 => ∃ (y7 : Option V) (it : Di) (v : V), σ' = [some (.ref p), some (.int (a : Int)), some (.int (size : Int)), some (.ref D), some (.int (many : Int)), some (.int (0 + (i : Int))), some (.ref dg), y7] ∧ Same H H9 ∧ H9 D = some (.lst (us ++ [v])) ∧ Paired (DiAt H9) (row ++ [it]) (us ++ [v]) ∧ DiAt H9 it v ∧ fitI size many it = true) := ⟨_, rfl⟩
        dsimp only [tNext]
        with_reducible refine seq_mid M (fun N hN => ?_) (fun σ9 H9 h => ?_)
        · -- an item of one byte
          have byte : ∀ (H7 : Hp) (y7 : Option V), Same H6 H7 → N [some (.ref p), some (.int (a : Int)), some (.int (size : Int)), some (.ref D), some (.int (many : Int)), some (.int (0 + (i : Int))), some (.ref dg), y7] (upd H7 D (.lst (us ++ [.int (k1 : Int)]))) := fun H7 y7 s7 => by
            refine hN _ _ ?_
            rw [hM]
            have hD7 := s7 _ _ hD6
            refine ⟨y7, .b k1, _, rfl, same_put (sm06.trans s7) nD, upd_same, (hus6.mono fun _ _ h => (h.same s7).put hD7).snoc (show DiAt _ (.b k1) (.int (k1 : Int)) from rfl), rfl, decide_eq_true (by omega)⟩
          -- a tuple
          have tupd : ∀ (H7 : Hp) (y7 : Option V) (nw : Bool) (m pl : Nat) (tt : Addr), Same H6 H7 → H7 tt = none → fitI size many (.c nw m pl) = true → N [some (.ref p), some (.int (a : Int)), some (.int (size : Int)), some (.ref D), some (.int (many : Int)), some (.int (0 + (i : Int))), some (.ref dg), y7] (upd (upd H7 tt (.tup [.str (wdN nw), .int (m : Int), .int (pl : Int)])) D (.lst (us ++ [.ref tt]))) := fun H7 y7 nw m pl tt s7 ntt hf => by
            refine hN _ _ ?_
            rw [hM]
            have st := same_upd (o := .tup [.str (wdN nw), .int (m : Int), .int (pl : Int)]) ntt
            have hD7 := st _ _ (s7 _ _ hD6)
            have hit : DiAt (upd (upd H7 tt (.tup [.str (wdN nw), .int (m : Int), .int (pl : Int)])) D (.lst (us ++ [.ref tt]))) (.c nw m pl) (.ref tt) := DiAt.put (i := .c nw m pl) ⟨tt, rfl, upd_same⟩ hD7
            exact ⟨y7, .c nw m pl, _, rfl, same_put ((sm06.trans s7).trans st) nD, upd_same, (hus6.mono fun _ _ h => ((h.same s7).same st).put hD7).snoc hit, hit, hf⟩
          have hsize : us.length + 1 < sizeLine := by omega
          -- what comes where it is no copy of the new
          have rest : True := trivial
          refine ⟨_, rfl, dg, _, 0, _, rfl, rfl, hdgS, rfl, rfl, _, rfl, ite2 (fun e1 => ?_) (fun e1 => ?_)⟩
          · refine ⟨_, rfl, _, _, rfl, rfl, _, rfl, ite2 (fun e2 => ?_) (fun e2 => ?_)⟩
            · have e2 : 0 < many := by have : (0 : Int) < (many : Int) := of_decide_eq_true e2; omega
              have h30 := fmod_in (a := (k1 : Int)) (l := 30) (by decide)
              have hmn := fmod_in (a := d3) (l := (many : Int)) (by omega)
              obtain ⟨c1, ec1⟩ := nat_of h30.1
              obtain ⟨c3, ec3⟩ := nat_of hmn.1
              refine ⟨_, rfl, .inl ⟨rfl, _, .inl (.inl hD6)⟩, ?_⟩
              refine ⟨_, rfl, dg, _, 1, _, rfl, rfl, hdgS, rfl, .inl ⟨_, rfl, _, _, rfl, rfl, (by show (30 : Int) ≠ 0; decide), _, _, rfl, rfl, ?_⟩⟩
              refine ⟨_, rfl, dg, _, 3, _, rfl, rfl, hdgS, rfl, .inl ⟨_, rfl, _, rfl, _, _, rfl, rfl, (by omega), _, _, rfl, rfl, (by show 3 ≤ sizeLine; omega), fun tt ntt => ?_⟩⟩
              dsimp only at ntt ⊢
              rw [ec1, ec3, show (3 : Int) + (c1 : Int) = ((3 + c1 : Nat) : Int) by push_cast; rfl, show (1 : Int) + (c3 : Int) = ((1 + c3 : Nat) : Int) by push_cast; rfl]
              refine ⟨D, _, _, rfl, rfl, same_upd ntt _ _ hD6, by omega, ?_⟩
              exact tupd H6 _ true (3 + c1) (1 + c3) tt (Same.refl H6) ntt (decide_eq_true ⟨by omega, by omega, by omega, by omega⟩)
            · refine ⟨_, rfl, dg, _, 0, _, rfl, rfl, hdgS, rfl, _, _, rfl, rfl, _, rfl, ite2 (fun e3 => ?_) (fun e3 => ?_)⟩
              · refine ⟨_, rfl, _, _, rfl, rfl, _, rfl, ite2 (fun e4 => ?_) (fun e4 => ?_)⟩
                · have e4 : 0 < size := by have : (0 : Int) < (size : Int) := of_decide_eq_true e4; omega
                  have hmn := fmod_in (a := d3) (l := (size : Int)) (by omega)
                  obtain ⟨pl0, epl⟩ := nat_of hmn.1
                  refine ⟨_, rfl, dg, _, 3, _, rfl, rfl, hdgS, rfl, .inl ⟨_, rfl, _, rfl, _, _, rfl, rfl, (by omega), ?_⟩⟩
                  dsimp only [gName]
                  rw [epl] at hmn ⊢
                  obtain ⟨M2, hM2⟩ : ∃ M2 : L2.St → Hp → Prop, M2 = (fun σ' H9 => ∃ pl : Nat, σ' = [some (.ref p), some (.int (a : Int)), some (.int (size : Int)), some (.ref D), some (.int (many : Int)), some (.int (0 + (i : Int))), some (.ref dg), some (.int (pl : Int))] ∧ Same H6 H9 ∧ pl < size) := ⟨_, rfl⟩
                  with_reducible refine seq_mid M2 (fun N2 hN2 => ?_) (fun σ8 H8 h => ?_)
                  · have keep : ∀ H7, Same H6 H7 → N2 [some (.ref p), some (.int (a : Int)), some (.int (size : Int)), some (.ref D), some (.int (many : Int)), some (.int (0 + (i : Int))), some (.ref dg), some (.int (pl0 : Int))] H7 := fun H7 s7 => by
                      refine hN2 _ _ ?_
                      rw [hM2]
                      exact ⟨pl0, rfl, s7, by omega⟩
                    refine ⟨_, rfl, dg, _, 1, _, rfl, rfl, hdgS, rfl, .inl ⟨_, rfl, _, _, rfl, rfl, (by show (3 : Int) ≠ 0; decide), rfl, _, rfl, ite2 (fun e5 => ?_) (fun e5 => keep _ (Same.refl H6))⟩⟩
                    refine ⟨_, rfl, Nat.zero_le _, fun z2 nz2 => ?_⟩
                    have s67 : Same H6 (upd H6 z2 (.lst [])) := same_upd nz2
                    have hz2 : (upd H6 z2 (.lst [])) z2 = some (.lst []) := upd_same
                    generalize upd H6 z2 (.lst []) = H7 at *
                    have hD7 := s67 _ _ hD6
                    have hus7 : Paired (DiAt H7) row us := hus6.mono fun _ _ h => h.same s67
                    refine ⟨_, _, dp_row ⟨us, hD7, hus7⟩, .lst (ds := []) (.inl (.inl hz2)) .nil, sh_row _, sh_row [], ?_⟩
                    have ee : PyData.eqv (rowD row) (.list []) = decide (row = []) := eqv_row row []
                    rw [ee]
                    refine ⟨_, rfl, ?_⟩
                    rcases List.eq_nil_or_concat row with er | ⟨r0, x0, er⟩
                    · rw [er, decide_eq_true rfl]
                      exact iteF (keep _ s67)
                    · rw [List.concat_eq_append] at er
                      rw [er] at hus7
                      rw [decide_eq_false (fun z => by rw [er] at z; cases (List.append_eq_nil_iff.mp z).2)]
                      refine iteT ?_
                      obtain ⟨us0, v0, eu, _, hx0⟩ := paired_snoc_inv hus7
                      rw [eu] at hD7
                      refine ⟨_, rfl, 1, rfl, D, _, -1, v0, rfl, rfl, .inl (.inl hD7), atI_lastV, ?_⟩
                      cases x0 with
                      | b n =>
                        obtain rfl : v0 = .int (n : Int) := hx0
                        exact ⟨_, _, _, _, _, rfl, .ty "tuple", .base (.int _), kit_ty (a := "int") (r := false) (by decide +kernel), _, rfl, iteF (keep _ s67)⟩
                      | c nw m pl =>
                        obtain ⟨tx, rfl, htx⟩ := hx0
                        refine ⟨_, _, .type "tuple", _, _, rfl, .ty "tuple", .base (.tup htx), kit_ty (a := "tuple") (r := true) (by decide +kernel), _, rfl, iteT ?_⟩
                        refine ⟨_, rfl, 1, rfl, D, _, -1, .ref tx, rfl, rfl, .inl (.inl hD7), atI_lastV, tx, _, 0, _, rfl, rfl, .inl (.inl htx), rfl, rfl, _, rfl, ite2 (fun e6 => ?_) (fun e6 => keep _ s67)⟩
                        have hmp := fmod_in (a := (m : Int) + (pl : Int)) (l := (size : Int)) (by omega)
                        obtain ⟨pl1, epl1⟩ := nat_of hmp.1
                        refine ⟨_, rfl, 1, rfl, D, _, -1, .ref tx, rfl, rfl, .inl (.inl hD7), atI_lastV, tx, _, 1, _, rfl, rfl, .inl (.inl htx), rfl, _, rfl, 1, rfl, D, _, -1, .ref tx, rfl, rfl, .inl (.inl hD7), atI_lastV, tx, _, 2, _, rfl, rfl, .inl (.inl htx), rfl, _, _, rfl, rfl, .inl ⟨_, rfl, _, rfl, _, _, rfl, rfl, (by omega), ?_⟩⟩
                        dsimp only [gName]
                        rw [epl1]
                        refine hN2 _ _ ?_
                        rw [hM2]
                        exact ⟨pl1, rfl, s67, by omega⟩
                  · rw [hM2] at h
                    obtain ⟨pl, rfl, s8, hpl⟩ := h
                    have hD8 := s8 _ _ hD6
                    obtain ⟨mn, emn⟩ : ∃ mn : Nat, (if (size : Int) - (pl : Int) < 255 then (size : Int) - (pl : Int) else 255) = (mn : Int) := ⟨min 255 (size - pl), by split <;> omega⟩
                    have hmn1 : 1 ≤ mn ∧ mn ≤ 255 ∧ pl + mn ≤ size := by split at emn <;> omega
                    have h2m := fmod_in (a := d2) (l := (mn : Int)) (by omega)
                    obtain ⟨c2, ec2⟩ := nat_of h2m.1
                    refine ⟨_, rfl, .inl ⟨rfl, _, .inl (.inl hD8)⟩, ?_⟩
                    refine ⟨_, rfl, dg, _, 2, _, rfl, rfl, s8.seq hdgS, rfl, .inl ⟨_, rfl, _, rfl, _, rfl, _, _, rfl, rfl, _, _, rfl, _, _, rfl, rfl, (by rw [emn]; omega), _, _, rfl, rfl, _, rfl, (by show 3 ≤ sizeLine; omega), fun tt ntt => ?_⟩⟩
                    dsimp only at ntt ⊢
                    rw [emn, ec2, show (1 : Int) + (c2 : Int) = ((1 + c2 : Nat) : Int) by push_cast; rfl]
                    refine ⟨D, _, _, rfl, rfl, same_upd ntt _ _ hD8, by omega, ?_⟩
                    exact tupd H8 _ false (1 + c2) pl tt s8 ntt (decide_eq_true ⟨by omega, by omega, by omega⟩)
                · exact ⟨_, rfl, .inl ⟨rfl, _, .inl (.inl hD6)⟩, _, rfl, dg, _, 1, _, rfl, rfl, hdgS, rfl, D, _, _, rfl, rfl, hD6, by omega, byte H6 _ (Same.refl H6)⟩
              · exact ⟨_, rfl, .inl ⟨rfl, _, .inl (.inl hD6)⟩, _, rfl, dg, _, 1, _, rfl, rfl, hdgS, rfl, D, _, _, rfl, rfl, hD6, by omega, byte H6 _ (Same.refl H6)⟩
          · refine ⟨_, rfl, dg, _, 0, _, rfl, rfl, hdgS, rfl, _, _, rfl, rfl, _, rfl, ite2 (fun e3 => ?_) (fun e3 => ?_)⟩
            · refine ⟨_, rfl, _, _, rfl, rfl, _, rfl, ite2 (fun e4 => ?_) (fun e4 => ?_)⟩
              · have e4 : 0 < size := by have : (0 : Int) < (size : Int) := of_decide_eq_true e4; omega
                have hmn := fmod_in (a := d3) (l := (size : Int)) (by omega)
                obtain ⟨pl0, epl⟩ := nat_of hmn.1
                refine ⟨_, rfl, dg, _, 3, _, rfl, rfl, hdgS, rfl, .inl ⟨_, rfl, _, rfl, _, _, rfl, rfl, (by omega), ?_⟩⟩
                dsimp only [gName]
                rw [epl] at hmn ⊢
                obtain ⟨M2, hM2⟩ : ∃ M2 : L2.St → Hp → Prop, M2 = (fun σ' H9 => ∃ pl : Nat, σ' = [some (.ref p), some (.int (a : Int)), some (.int (size : Int)), some (.ref D), some (.int (many : Int)), some (.int (0 + (i : Int))), some (.ref dg), some (.int (pl : Int))] ∧ Same H6 H9 ∧ pl < size) := ⟨_, rfl⟩
                with_reducible refine seq_mid M2 (fun N2 hN2 => ?_) (fun σ8 H8 h => ?_)
                · have keep : ∀ H7, Same H6 H7 → N2 [some (.ref p), some (.int (a : Int)), some (.int (size : Int)), some (.ref D), some (.int (many : Int)), some (.int (0 + (i : Int))), some (.ref dg), some (.int (pl0 : Int))] H7 := fun H7 s7 => by
                    refine hN2 _ _ ?_
                    rw [hM2]
                    exact ⟨pl0, rfl, s7, by omega⟩
                  refine ⟨_, rfl, dg, _, 1, _, rfl, rfl, hdgS, rfl, .inl ⟨_, rfl, _, _, rfl, rfl, (by show (3 : Int) ≠ 0; decide), rfl, _, rfl, ite2 (fun e5 => ?_) (fun e5 => keep _ (Same.refl H6))⟩⟩
                  refine ⟨_, rfl, Nat.zero_le _, fun z2 nz2 => ?_⟩
                  have s67 : Same H6 (upd H6 z2 (.lst [])) := same_upd nz2
                  have hz2 : (upd H6 z2 (.lst [])) z2 = some (.lst []) := upd_same
                  generalize upd H6 z2 (.lst []) = H7 at *
                  have hD7 := s67 _ _ hD6
                  have hus7 : Paired (DiAt H7) row us := hus6.mono fun _ _ h => h.same s67
                  refine ⟨_, _, dp_row ⟨us, hD7, hus7⟩, .lst (ds := []) (.inl (.inl hz2)) .nil, sh_row _, sh_row [], ?_⟩
                  have ee : PyData.eqv (rowD row) (.list []) = decide (row = []) := eqv_row row []
                  rw [ee]
                  refine ⟨_, rfl, ?_⟩
                  rcases List.eq_nil_or_concat row with er | ⟨r0, x0, er⟩
                  · rw [er, decide_eq_true rfl]
                    exact iteF (keep _ s67)
                  · rw [List.concat_eq_append] at er
                    rw [er] at hus7
                    rw [decide_eq_false (fun z => by rw [er] at z; cases (List.append_eq_nil_iff.mp z).2)]
                    refine iteT ?_
                    obtain ⟨us0, v0, eu, _, hx0⟩ := paired_snoc_inv hus7
                    rw [eu] at hD7
                    refine ⟨_, rfl, 1, rfl, D, _, -1, v0, rfl, rfl, .inl (.inl hD7), atI_lastV, ?_⟩
                    cases x0 with
                    | b n =>
                      obtain rfl : v0 = .int (n : Int) := hx0
                      exact ⟨_, _, _, _, _, rfl, .ty "tuple", .base (.int _), kit_ty (a := "int") (r := false) (by decide +kernel), _, rfl, iteF (keep _ s67)⟩
                    | c nw m pl =>
                      obtain ⟨tx, rfl, htx⟩ := hx0
                      refine ⟨_, _, .type "tuple", _, _, rfl, .ty "tuple", .base (.tup htx), kit_ty (a := "tuple") (r := true) (by decide +kernel), _, rfl, iteT ?_⟩
                      refine ⟨_, rfl, 1, rfl, D, _, -1, .ref tx, rfl, rfl, .inl (.inl hD7), atI_lastV, tx, _, 0, _, rfl, rfl, .inl (.inl htx), rfl, rfl, _, rfl, ite2 (fun e6 => ?_) (fun e6 => keep _ s67)⟩
                      have hmp := fmod_in (a := (m : Int) + (pl : Int)) (l := (size : Int)) (by omega)
                      obtain ⟨pl1, epl1⟩ := nat_of hmp.1
                      refine ⟨_, rfl, 1, rfl, D, _, -1, .ref tx, rfl, rfl, .inl (.inl hD7), atI_lastV, tx, _, 1, _, rfl, rfl, .inl (.inl htx), rfl, _, rfl, 1, rfl, D, _, -1, .ref tx, rfl, rfl, .inl (.inl hD7), atI_lastV, tx, _, 2, _, rfl, rfl, .inl (.inl htx), rfl, _, _, rfl, rfl, .inl ⟨_, rfl, _, rfl, _, _, rfl, rfl, (by omega), ?_⟩⟩
                      dsimp only [gName]
                      rw [epl1]
                      refine hN2 _ _ ?_
                      rw [hM2]
                      exact ⟨pl1, rfl, s67, by omega⟩
                · rw [hM2] at h
                  obtain ⟨pl, rfl, s8, hpl⟩ := h
                  have hD8 := s8 _ _ hD6
                  obtain ⟨mn, emn⟩ : ∃ mn : Nat, (if (size : Int) - (pl : Int) < 255 then (size : Int) - (pl : Int) else 255) = (mn : Int) := ⟨min 255 (size - pl), by split <;> omega⟩
                  have hmn1 : 1 ≤ mn ∧ mn ≤ 255 ∧ pl + mn ≤ size := by split at emn <;> omega
                  have h2m := fmod_in (a := d2) (l := (mn : Int)) (by omega)
                  obtain ⟨c2, ec2⟩ := nat_of h2m.1
                  refine ⟨_, rfl, .inl ⟨rfl, _, .inl (.inl hD8)⟩, ?_⟩
                  refine ⟨_, rfl, dg, _, 2, _, rfl, rfl, s8.seq hdgS, rfl, .inl ⟨_, rfl, _, rfl, _, rfl, _, _, rfl, rfl, _, _, rfl, _, _, rfl, rfl, (by rw [emn]; omega), _, _, rfl, rfl, _, rfl, (by show 3 ≤ sizeLine; omega), fun tt ntt => ?_⟩⟩
                  dsimp only at ntt ⊢
                  rw [emn, ec2, show (1 : Int) + (c2 : Int) = ((1 + c2 : Nat) : Int) by push_cast; rfl]
                  refine ⟨D, _, _, rfl, rfl, same_upd ntt _ _ hD8, by omega, ?_⟩
                  exact tupd H8 _ false (1 + c2) pl tt s8 ntt (decide_eq_true ⟨by omega, by omega, by omega⟩)
              · exact ⟨_, rfl, .inl ⟨rfl, _, .inl (.inl hD6)⟩, _, rfl, dg, _, 1, _, rfl, rfl, hdgS, rfl, D, _, _, rfl, rfl, hD6, by omega, byte H6 _ (Same.refl H6)⟩
            · exact ⟨_, rfl, .inl ⟨rfl, _, .inl (.inl hD6)⟩, _, rfl, dg, _, 1, _, rfl, rfl, hdgS, rfl, D, _, _, rfl, rfl, hD6, by omega, byte H6 _ (Same.refl H6)⟩
        · rw [hM] at h
          obtain ⟨y7, it, v, rfl, s9, hD9, hus9, hit, hf⟩ := h
          refine ⟨_, rfl, _, rfl, 1, rfl, D, _, -1, v, rfl, rfl, .inl (.inl hD9), atI_lastV, v, it, rfl, hit, _, _, rfl, rfl, ?_⟩
          have e9 : (many : Int) + ((wideI it : Nat) : Int) = ((many + wideI it : Nat) : Int) := by push_cast; rfl
          dsimp only [gName]
          rw [e9]
          refine ⟨_, _, _, many + wideI it, row ++ [it], us ++ [v], rfl, s9, hD9, hus9, by rw [List.length_append]; show row.length + 1 ≤ _; omega, ?_, by have := (fit_wide hf).2; omega⟩
          rw [fitR_app, hfit]
          show (if fitI size many it = true then some (many + wideI it) else none) = _
          rw [if_pos hf]
    · obtain ⟨y5, y6, y7, many, row, us, rfl, sm, hD, hus, hrl, hfit, hmany⟩ := h
      exact ⟨_, rfl, q H' D row many sm nD ⟨us, hD, hus⟩ (by omega) hfit hmany⟩
end
end K0

/-! ### more of what goes on while an exception is handled -/
namespace HY
open PySem PySem.Spec PyProof.Rows HotX
section
variable {prog : Program} {w : World} {A : Around} {E : Value → Shared → Prop} {s : Shared} {x1 : Addr}
theorem list_endP_hot {it l : Addr} {i : Nat} {items : Array Value} {Q : Option Value → Shared → Prop} (hot : HotAt A x1 s.heap) (nx : x1 ≠ it) (hit : s.heap.IsListIter it l i) (hl : s.heap.IsList l items) (hx : items[i]? = none)
    (hQ : ∀ h', Heap.ExtBut it s.heap h' → Q none { s with heap := h' }) : wpAny (model prog w) A (pyNext (.ref it)) Q E s := by
  obtain ⟨o, ho, hc, hd⟩ := id hit
  obtain ⟨ot, hot', _, nt, hdt⟩ := hl
  unfold pyNext
  refine wpAny_bind (wpAny_attempt (wpAny_callSpecial?_slot (name := Str.ofString "__next__") hit.typeIs slot_listiter_next (wpAny_call_entry slot_listiter_next hit.typeIs entry_listiter_next ?_ (args_listiter_next _))))
  show wpAny _ _ (field (.ref it) 0 >>= _) _ _ s; refine wpAny_bind (wpAny_field ho hd (x := .ref l) rfl ?_)
  show wpAny _ _ (if (Value.ref l == Value.none) = true then _ else _) _ _ s; rw [if_neg (show ¬ ((Value.ref l == Value.none) = true) from Bool.false_ne_true)]
  show wpAny _ _ (field (.ref it) 1 >>= _) _ _ s; refine wpAny_bind (wpAny_field ho hd (x := .int i 0) rfl ?_)
  show wpAny _ _ (seqItems? (.ref l) >>= _) _ _ s; refine wpAny_bind (wpAny_seqItems hot' hdt ?_)
  simp only [Int.toNat_natCast, hx]
  refine wpAny_bind (wpAny_rule (wpAny_bind (wpAny_setField ho hd (by simp) ?_)))
  refine stop_hot (x1 := x1) (A := A.in1) (hotUp hot fun u e => (Heap.get?_update_other _ _ (Ne.symm nx)).trans e) fun h' e k ⟨oe, he, hce⟩ => ?_
  refine wpAny_bind (wpAny_isInstance (T := "StopIteration") (b := true) ⟨oe, he, hce⟩ isSubtype_stop (wpAny_pure (hQ _ fun b u hb eb => k b u ((Heap.get?_update_other _ _ (Ne.symm hb)).trans eb))))
theorem ascii_endP_hot {it : Addr} {x : Str} {t : Tok} {i : Nat} {Q : Option Value → Shared → Prop} (hot : HotAt A x1 s.heap) (nx : x1 ≠ it)
    (hit : s.heap.IsStrIter it "str_ascii_iterator" x t i) (hx : x.cps[i]? = none)
    (hQ : ∀ h', Heap.ExtBut it s.heap h' → Q none { s with heap := h' }) : wpAny (model prog w) A (pyNext (.ref it)) Q E s := by
  obtain ⟨o, ho, hc, hd⟩ := id hit
  unfold pyNext
  refine wpAny_bind (wpAny_attempt (wpAny_callSpecial?_slot (name := Str.ofString "__next__") hit.typeIs F.slot_str_ascii_iterator_next
    (wpAny_call_entry F.slot_str_ascii_iterator_next hit.typeIs F.entry_str_ascii_iterator_next ?_ (F.args_str_ascii_iterator_next_1 _))))
  show wpAny _ _ (field (.ref it) 0 >>= _) _ _ s
  refine wpAny_bind (wpAny_field ho hd (x := .str x t) rfl ?_)
  show wpAny _ _ (field (.ref it) 1 >>= _) _ _ s
  refine wpAny_bind (wpAny_field ho hd (x := .int i 0) rfl ?_)
  simp only [Int.toNat_natCast, hx]
  refine wpAny_bind (wpAny_rule (wpAny_bind (wpAny_setField ho hd (by simp) (wpAny_bind (wpAny_letGo ?_)))))
  refine stop_hot (x1 := x1) (A := A.in1) (hotUp hot fun u e => (Heap.get?_update_other _ _ (Ne.symm nx)).trans e) fun h' e k ⟨oe, he, hce⟩ => ?_
  refine wpAny_bind (wpAny_isInstance (T := "StopIteration") (b := true) ⟨oe, he, hce⟩ isSubtype_stop (wpAny_pure (hQ _ fun b u hb eb => k b u ((Heap.get?_update_other _ _ (Ne.symm hb)).trans eb))))
theorem walksL_hot {I ax : Addr} {items : Array Value} (hne : ax ≠ I) (nx : x1 ≠ I) :
    Walks prog w A I [I, ax, x1] [I] items.size (fun i v => items[i]? = some v) (fun i h => h.IsListIter I ax i ∧ h.IsList ax items ∧ HotAt A x1 h) where
  sub := fun b hb => by
    rw [List.mem_singleton.mp hb]
    exact List.mem_cons_self ..
  frame := fun _ _ _ st hk => ⟨st.1.at fun o e => hk I (by simp) o e, st.2.1.at fun o e => hk ax (by simp) o e, hotUp st.2.2 fun o e => hk x1 (by simp) o e⟩
  item := fun i s Q E hi st hQ => by
    refine wpAny_pyNext_list_item st.1 st.2.1 (x := items[i]) (by simp [hi]) fun h' hi' hs' => hQ _ h' s.toks (by simp [hi]) ⟨hi', st.2.1.extBut hs'.extBut hne, hotUp st.2.2 fun o e => hs'.extBut x1 o nx e⟩ fun b o hb e => hs'.extBut b o (fun z => hb (by simp [z])) e
  done := fun s Q E st hQ => list_endP_hot (x1 := x1) st.2.2 nx st.1 st.2.1 (by simp) fun h' he' => hQ h' s.toks fun b o hb e => he' b o (fun z => hb (by simp [z])) e
  self := fun _ _ _ _ st hQ => wpAny_pyIter_listiter st.1 hQ
theorem sum_hot {l : Addr} {its : List Value} {ns : List Int} {Q : Value → Shared → Prop} (hot : HotAt A x1 s.heap) (hl : s.heap.IsList l its.toArray) (hi : IntsAre its ns)
    (h : ∀ h' tk t', (∀ b o, s.heap.get? b = some o → h'.get? b = some o) → Q (.int ns.sum t') { s with heap := h', toks := tk }) : wpAny (model prog w) A (call (.builtin "sum") [.ref l]) Q E s := by
  obtain ⟨xs, e⟩ := hi.allInts.items
  have hn : numsOf (intItems xs).toList = ns := by rw [← e]; exact hi.numsOf
  rw [nums_intItems] at hn
  rw [e] at hl
  have hx := hotLt hot
  refine call_sum_walkG (iter_intList hl fun s₂ e st hfp hlI => ?_)
  subst e
  refine ⟨_, [_, l, x1], _, _, _, _, numAt xs, rfl, walksL_hot (A := A.in1) (x1 := x1) (ax := l) (items := intItems xs) hlI (Nat.ne_of_lt hx), ⟨st.1, st.2, hotUp hot fun o e => Heap.get?_push_of_some _ e⟩, fun b hb => ?_, (fun _ _ => intItems_at), fun h' tk t' hk => ?_⟩
  · rcases List.mem_cons.mp hb with z | hb
    · exact hfp b (by rw [z]; simp)
    rcases List.mem_cons.mp hb with z | hb
    · exact hfp b (by rw [z]; simp)
    · rw [List.mem_singleton.mp hb]
      show x1 < (s.heap.push _).objs.size
      rw [Heap.size_push]
      exact Nat.lt_succ_of_lt hx
  · have := h h' tk t' (fun b o eo => hk b o (fun hm => by
      rw [List.mem_singleton.mp hm] at eo
      exact absurd (Heap.lt_size eo) (Nat.lt_irrefl _)) (Heap.get?_push_of_some _ eo))
    rw [show (intItems xs).size = xs.size by simp [intItems], preSum_eq, List.take_of_length_le (by simp), hn]
    exact this
theorem all_hot {l : Addr} {its : List Value} {bs : List Bool} {Q : Value → Shared → Prop} (hot : HotAt A x1 s.heap) (hl : s.heap.IsList l its.toArray) (hb : its = bs.map Value.bool)
    (h : ∀ h' tk, (∀ b o, s.heap.get? b = some o → h'.get? b = some o) → Q (.bool (bs.all id)) { s with heap := h', toks := tk }) : wpAny (model prog w) A (call (.builtin "all") [.ref l]) Q E s := by
  have hx := hotLt hot
  refine call_all_walk (L2.iter_any hl fun s₂ e2 st hne => ?_)
  subst e2
  refine ⟨_, _, _, _, _, _, _, rfl, walksL_hot (A := A.in1) (x1 := x1) (ax := l) (items := its.toArray) hne (Nat.ne_of_lt hx), ⟨st.1, st.2, hotUp hot fun o e => Heap.get?_push_of_some _ e⟩, L2.truth_bools hb, fun h' tk hk => ?_⟩
  have := h h' tk (fun b o eo => hk b o (fun hmem => by
    rcases List.mem_cons.mp hmem with e1 | hmem
    · exact absurd (e1 ▸ Heap.lt_size eo) (Nat.lt_irrefl _)
    · cases hmem) (Heap.get?_push_of_some _ eo))
  rw [hb, List.size_toArray, List.length_map, L2.all_range]
  exact this
end
end HY
namespace L2H
open PySem PySem.Spec PyProof.Rows L2 HotX HY
section
variable {X : Cx} {CX : CXT} {k : Nat} {f C : Addr} {fd : FuncData} {ps : List Str} {sp : Sp} {E : XK} {x m : Str} {q pos apos : Pos} {e o : Expr} {es : List Expr} {ta : TE} {t : TA}
theorem cr_sumH (hc : HotC X) : CallR X (.builtin "sum") (rSum X.K) := by
  intro pins s σ H vs us Q I r h
  obtain ⟨a, ns, rfl, hs, q⟩ := h
  obtain ⟨its, rv, hl, _⟩ := I.list hs
  rw [Vals.ref1 r]
  obtain ⟨x1, hot⟩ := hc.at I
  exact sum_hot (x1 := x1) hot hl.isList rv.ints fun h' tk t' hk => ⟨.int _, H, I.kept hk, ⟨_, rfl⟩, q⟩
theorem cr_allH (hc : HotC X) : CallR X (.builtin "all") (rAll X.K) := by
  intro pins s σ H vs us Q I r h
  obtain ⟨a, bs, rfl, hs, q⟩ := h
  obtain ⟨its, rv, hl, _⟩ := I.list hs
  rw [Vals.ref1 r]
  obtain ⟨x1, hot⟩ := hc.at I
  exact all_hot (x1 := x1) hot hl.isList rv.bls fun h' tk hk => ⟨.bl _, H, I.kept hk, rfl, q⟩
theorem RoomH.make {k : Nat} {A : Around} (r : RoomH (k + 1) A) (C : Addr) (us : List Value) (kw : List (Str × Value)) : RoomH k (A.under (.builtin "type.__call__" ⟨.ref C :: us, kw⟩)) :=
  ⟨by have := r.dp; rw [make_depth]; omega, by have := r.un; rw [make_units]; omega⟩
theorem run_makeH {pins : List (Addr × Obj)} {σ : St} {H : Hp} {s : Shared} {Q : VK} {us : List Value} {vs : List V} (M : Mk X.K C f) (F : FnH X.prog X.w X.K X.mg X.base CX k f fd ps sp) (hr : RoomH (k + 1) X.A) (hc : HotC X) (hb : Binds X.K fd ps [])
    (hx : Passes CX X E) (I : Inv X pins σ H s) (r : Vals vs us)
    (h : ∀ x dx, H x = none → H dx = none → dx ≠ x → sp (.ref x :: vs) (upd (upd H dx (.own x)) x (.ins C dx [])) (fun v H2 => v = .non ∧ Q (.ref x) H2) E) :
    wpAny (model X.prog X.w) X.A (call (.ref C) us) (EP X pins σ Q) X.xe s := by
  obtain ⟨p, hot, hp⟩ := hc
  have hq := h (s.heap.objs.size + 1) s.heap.objs.size (I.hok.fresh (Nat.le_succ _)) (I.hok.fresh (Nat.le_refl _)) (Nat.ne_of_lt (Nat.lt_succ_self _))
  have I2 := Inv.made (C := C) I
  have r2 : Vals (V.ref (s.heap.objs.size + 1) :: vs) (Value.ref (s.heap.objs.size + 1) :: us) := .cons rfl r
  have hl : (Value.ref (s.heap.objs.size + 1) :: us).length = ps.length := by
    have e := r2.length
    rw [F.len _ _ _ _ hq] at e
    exact e.symm
  have P1 := I2.pin p (List.mem_append_left _ hp)
  have b := hb _ (Value.ref (s.heap.objs.size + 1) :: us) I2.kIn (by rw [List.append_nil]; exact hl)
  rw [List.append_nil] at b
  refine wpAny_call (make_map (f := f) I.kIn M.makes M.init (beq_iff_eq.mp M.fn) (codeAny_mono (F.run _ X.stack _ _ ⟨Value.ref (s.heap.objs.size + 1) :: us, []⟩ (Value.ref (s.heap.objs.size + 1) :: us) _ _ E p (hr.make C us [])
    hot ⟨P1.1, P1.2.1, fun hm => (List.mem_cons.mp (I2.stkSub p.1 hm)).elim P1.2.2.1 P1.2.2.2.1, P1.2.2.2.2⟩ (I2.env0.make C us []) b r2 hq) fun r s' hq' => ?_))
  cases r with
  | error e => exact hx pins σ _ _ e s' I2 hq'
  | ok fl =>
    cases fl with
    | ret u =>
      obtain ⟨v, H', I3, rv, ev, q3⟩ := I2.after hq'
      subst ev
      exact ⟨rv, ⟨V.ref (s.heap.objs.size + 1), H', I3, rfl, q3⟩⟩
    | next => exact False.elim hq'
    | brk => exact False.elim hq'
    | cont => exact False.elim hq'
theorem pe_makeH (M : Mk X.K C f) (F : FnH X.prog X.w X.K X.mg X.base CX k f fd ps sp) (hr : RoomH (k + 1) X.A) (hc : HotC X) (hg : Gl X x) (hm : X.mg x = some (.ref C)) (hb : Binds X.K fd ps []) (hx : Passes CX X E)
    (ha : PA X (e :: es) t) (hdb : (x == ("__debug__" : Str)) = false := by decide) (he : starEach (e :: es) X.env = (false, eval e X.env) :: starEach es X.env := by rfl) (hpl : (backTo pos (starEach es X.env)).any (·.1) = false := by rfl) :
    PE X (.Call (.Name x q) (e :: es) [] pos) (tMake C sp [] E t) := by
  refine ⟨fun pins s σ H Q I h => ?_⟩
  refine wpAny_Call_Name_kw (ld_glob I hg hm ?_ hdb)
  refine PySem.W.callWith_K (h₀ := X.base) I.ok.mod.kin M.kp (thn (ha.run pos pins s σ H _ I h) fun us s1 ⟨vs, H1, I1, r, q⟩ => ⟨I1.kIn, ?_⟩) he hpl
  exact run_makeH M F hr hc hb hx I1 r fun x dx a b c => by
    have := q x dx a b c
    rw [List.append_nil] at this
    exact this
/-- a while whose test is false at once -/
theorem ps_whileNo {c : Expr} {body : List Stmt} {tc : TT} (hp : PassesOwn (model X.prog X.w) X.A X.env X.xe) (hc : PT X c tc) : PS X (.While c body [] pos) (fun D σ H => tc σ H fun b H1 => b = false ∧ D.nx σ H1) := by
  refine ⟨fun pins s σ H D I h => ?_⟩
  refine wpAny_While (codeAny_whileLoop (fun n s' => n = 0 ∧ Inv X pins σ H s') ?_ 0 ⟨rfl, I⟩)
  rintro n s1 ⟨rfl, I1⟩
  refine wpAny_passesOwn hp (thn (hc.run pins s1 σ H _ I1 h) fun b s2 ⟨H2, I2, eb, q2⟩ => ?_)
  subst eb
  rw [if_neg Bool.false_ne_true]
  exact wpAny_execs_nil ⟨σ, H2, I2, q2⟩
theorem pe_never {e : Expr} : PE X e (fun _ _ _ => False) := ⟨fun _ _ _ _ _ _ h => h.elim⟩
end
end L2H

namespace L2H
open PySem PySem.Spec PyProof.Rows L2 HotX HY
/-! ### iterators and comprehensions while an exception is handled -/
structure TurnG (P : Program) (w : World) (K : PySem.W.Frag) (tg : Expr) (J : It) (fp : List Addr) (it : Addr) (tn : Nat → Heap → Prop) : Prop where
  mem : it ∈ fp
  obj : ∀ i h, tn i h → ∀ b ∈ fp, ∃ o, h.get? b = some o ∧ ∀ v, o.data ≠ .cell v
  keep : ∀ i h h', tn i h → (∀ b ∈ fp, ∀ o, h.get? b = some o → h'.get? b = some o) → tn i h'
  item : ∀ (X : Cx), X.prog = P → X.w = w → X.K = K → ∀ (x1 : Addr) {s : Shared}, HotAt X.A x1 s.heap → (∀ b ∈ fp, x1 ≠ b) → ∀ (i : Nat) (pins : List (Addr × Obj)) (s' : Shared) (σ : St) (H : Hp) (E : Value → Shared → Prop), s' = s → Inv X pins σ H s' → (∀ b ∈ fp, FpOk X pins H b) → tn i s'.heap → J.go i H →
    wpAny (model P w) X.A (pyNext (.ref it)) (fun r s1 => ∃ u, r = some u ∧
      wpAny (model P w) X.A (letOwnedTupleGo tg (.ref it) u) (fun _ s2 => ∃ x H', Inv X pins σ H' s2 ∧ RelV x u ∧ J.yld i H x H' ∧ tn (i + 1) s2.heap ∧ ∀ b ∈ fp, H' b = none) E s1) E s'
  done : ∀ (X : Cx), X.prog = P → X.w = w → X.K = K → ∀ (x1 : Addr) {s : Shared}, HotAt X.A x1 s.heap → (∀ b ∈ fp, x1 ≠ b) → ∀ (i : Nat) (pins : List (Addr × Obj)) (s' : Shared) (σ : St) (H : Hp) (E : Value → Shared → Prop), s' = s → Inv X pins σ H s' → (∀ b ∈ fp, FpOk X pins H b) → tn i s'.heap → J.stop i H →
    wpAny (model P w) X.A (pyNext (.ref it)) (fun r s1 => r = none ∧ Inv X pins σ H s1) E s'
  self : ∀ (A : Around) (i : Nat) (s : Shared) (Q : Value → Shared → Prop) (E : Value → Shared → Prop), tn i s.heap → Q (.ref it) s → wpAny (model P w) A (pyIter (.ref it)) Q E s
def PIEG (X : Cx) (pins : List (Addr × Obj)) (σ : St) (tg : Expr) (R : It → Hp → Prop) (itv : Value) (s2 : Shared) : Prop :=
  ∃ (it : Addr) (fp : List Addr) (tn : Nat → Heap → Prop) (J : It) (H' : Hp), itv = .ref it ∧ Inv X pins σ H' s2 ∧ TurnG X.prog X.w X.K tg J fp it tn ∧ tn 0 s2.heap ∧ (∀ b ∈ fp, FpOk X pins H' b) ∧ R J H'
structure PIG (X : Cx) (tg iter : Expr) (wi : TI) : Prop where
  run : ∀ (pins : List (Addr × Obj)) (s : Shared) (σ : St) (H : Hp) (R : It → Hp → Prop), Inv X pins σ H s → wi σ H R →
    wpAny (model X.prog X.w) X.A (eval iter X.env) (fun v s1 => wpAny (model X.prog X.w) X.A (pyIter v) (PIEG X pins σ tg R) X.xe s1) X.xe s
/-- a target, the handled exception being at hand -/
structure PGG (X : Cx) (tg : Expr) (g : TG) : Prop where
  run : ∀ (pins : List (Addr × Obj)) (s : Shared) (σ : St) (H : Hp) (v : V) (u : Value) (Q : St → Hp → Prop), Inv X pins σ H s → (∃ x1, HotAt X.A x1 s.heap) → RelV v u → g v σ H Q → wpAny (model X.prog X.w) X.A (assign tg X.env u) (fun _ s' => ∃ σ' H', Inv X pins σ' H' s' ∧ Q σ' H') X.xe s
theorem pgg_of {X : Cx} {tg : Expr} {g : TG} (h : PG X tg g) : PGG X tg g := ⟨fun pins s σ H v u Q I _ r q => h.run pins s σ H v u Q I r q⟩
theorem pgg_never {X : Cx} {tg : Expr} : PGG X tg (fun _ _ _ _ => False) := ⟨fun _ _ _ _ _ _ _ _ _ _ q => q.elim⟩
theorem pgg_tup {X : Cx} {es : List Expr} {k : Nat} {t : TGs} {n : Nat} {pos : Pos} (h : PGs X es t)
    (hn : (assignEach es X.env).length = n := by rfl) (hst : (assignEach es X.env).findIdx? (·.1) = none := by rfl) : PGG X (.Tuple es k pos) (gTup X.K n t) := by
  refine ⟨fun pins s σ H v u Q I ⟨x1, hot⟩ r hw => ?_⟩
  obtain ⟨a, xs, e1, hq, hl, hw⟩ := hw
  subst e1
  cases r
  obtain ⟨its, rv, ht, hz⟩ := I.tuple hq
  refine tup_asg_hot (x1 := x1) hot ht (by simp [hn, ← hl, rv.length]) hst fun h' hx => ?_
  exact h.run pins _ σ H xs _ Q (I.kept (t' := s.toks) fun b o e => hx b o (Nat.ne_of_lt (Heap.lt_size e)) e) (by simpa using rv) hw
section
variable {X : Cx}
theorem lc_coreG {pins : List (Addr × Obj)} {s : Shared} {σ : St} {H : Hp} {Q : VK} {elt tg iter : Expr} {ifs : List Expr} {scope : Scope} {own : List (Str × Nat)} {pos pos' : Pos} {wi : TI} {g : TG} {tt : TT} {te : TE} {use : Option (Value → Sem Unit)} {Qf : Value → Shared → Prop}
    (hc : HotC X) (hN : X.N.Nodup) (I : Inv X pins σ H s) (hi : PIG X tg iter wi) (ok : BlkOk X.N X.env.scope scope own)
    (hg : ∀ (s : Shared) (H : Hp) (C : Addr) (cl : List (Str × Addr)) (fp : List Addr), PGG (X.blk s H scope (compEnvC scope cl C X.env) fp) tg g) (ht : ∀ (s : Shared) (H : Hp) (C : Addr) (cl : List (Str × Addr)) (fp : List Addr), PTs (X.blk s H scope (compEnvC scope cl C X.env) fp) ifs tt)
    (he : ∀ (s : Shared) (H : Hp) (C : Addr) (cl : List (Str × Addr)) (fp : List Addr), PE (X.blk s H scope (compEnvC scope cl C X.env) fp) elt te) (hs : ∀ x, foldedSetIterable iter X.env x = pure x)
    (h : tLc wi g tt te (own.map (·.2)) σ H Q)
    (hRR : ∀ D C s' m H', Inv X pins σ H' s' → Q (.ref D) H' → s'.heap.Ns C m → FpOk X pins H' C → compPost (model X.prog X.w) X.A X.xe use Qf (.ref D) C (.ok .next) s') :
    wpAny (model X.prog X.w) X.A (comprehension (.ListComp elt [⟨tg, iter, ifs, 0⟩] scope pos) scope X.env pos' (newList []) false (eval iter X.env) use) Qf X.xe s := by
  have hfree : ∀ y ∈ scope.names, y.2 = .free → ∃ c, X.env.cells.lookup y.1 = some c := fun y hy e => by
    rcases ok.free y hy e with k | k
    · exact I.ok.has _ (.inl k)
    · exact I.ok.has _ (.inr k)
  refine wpAny_comprehension_free (use := use) rfl hs (closure_ok hfree) ok.kind (fun y hy e => by rw [ok.uniq y hy, e])
    (thn (hi.run pins s σ H _ I h) fun xv s1 hx => thn hx fun itv s2 h2 => ?_)
  obtain ⟨it, fp, tn, J, H2, e, I2, T, st2, f2, q⟩ := h2
  subst e
  refine wpAny_newObj_type (newEnv_comp ?_) (by show 0 ≤ sizeLine; decide)
  generalize hD : s2.heap.objs.size = D
  have hDn : H2 D = none := I2.hok.fresh (Nat.le_of_eq hD)
  obtain ⟨W, ⟨m0, w0⟩, turn⟩ := q D hDn
  -- the new list
  generalize hs3 : ({ s2 with heap := s2.heap.push { cls := .type "list", data := .seq ([] : List Value).toArray } } : Shared) = s3
  have I3 : Inv X pins σ (upd H2 D (.lst [])) s3 := by
    rw [← hs3]
    refine I2.laid (t' := s2.toks) (fun b o e => Heap.get?_push_of_some _ e) (Nat.le_of_eq hD) ⟨Nat.zero_le _, [], 0, .nil, ?_⟩
    rw [← hD]
    exact Heap.get?_push_size _ rfl
  have h3 : s3.heap = s2.heap.push { cls := .type "list", data := .seq ([] : List Value).toArray } := by rw [← hs3]
  have sz : ∀ b ∈ fp, b < s2.heap.objs.size := fun b hb => by
    obtain ⟨o, e, _⟩ := T.obj _ _ st2 b hb
    exact Heap.lt_size e
  have f3 : ∀ b ∈ fp, FpOk X pins (upd H2 D (.lst [])) b ∧ b < s3.heap.objs.size := fun b hb => by
    have hlt := sz b hb
    refine ⟨⟨?_, (f2 b hb).2⟩, by rw [h3, Heap.size_push]; exact Nat.lt_succ_of_lt hlt⟩
    rw [upd_ne (by rw [← hD]; exact Nat.ne_of_lt hlt)]
    exact (f2 b hb).1
  have st3 : tn 0 s3.heap := T.keep _ _ _ st2 fun b _ o e => by rw [h3]; exact Heap.get?_push_of_some _ e
  have I4 := block_start I3 ok hN f3
  have pg := hg s3 (upd H2 D (.lst [])) s3.heap.objs.size (cellsFrom (s3.heap.objs.size + 1) scope.names (cloFrom X.env.cells scope.names [])) fp
  have pt := ht s3 (upd H2 D (.lst [])) s3.heap.objs.size (cellsFrom (s3.heap.objs.size + 1) scope.names (cloFrom X.env.cells scope.names [])) fp
  have pe := he s3 (upd H2 D (.lst [])) s3.heap.objs.size (cellsFrom (s3.heap.objs.size + 1) scope.names (cloFrom X.env.cells scope.names [])) fp
  show codeAny _ _ (.compStart (.ListComp elt [⟨tg, iter, ifs, 0⟩] scope pos) 0 (.ref it) (.ref D) (compEnvC scope (cellsFrom (s3.heap.objs.size + 1) scope.names (cloFrom X.env.cells scope.names [])) s3.heap.objs.size X.env)) (compPost (model X.prog X.w) X.A X.xe use Qf (.ref D) s3.heap.objs.size) { s3 with heap := pushCells (s3.heap.push { cls := .type "dict", data := .dict #[] }) scope.names }
  have nfp : ∀ b ∈ fp, (upd H2 D (.lst [])) b = none := fun b hb => (f3 b hb).1.1
  generalize hce : compEnvC scope (cellsFrom (s3.heap.objs.size + 1) scope.names (cloFrom X.env.cells scope.names [])) s3.heap.objs.size X.env = ce at I4 pg pt pe ⊢
  have cL : ce.locals = s3.heap.objs.size := by subst hce; rfl
  generalize hH3 : upd H2 D (.lst []) = H3 at I3 I4 pg pt pe w0 nfp f3
  generalize hs4 : ({ s3 with heap := pushCells (s3.heap.push { cls := .type "dict", data := .dict #[] }) scope.names } : Shared) = s4 at I4 ⊢
  have st4 : tn 0 s4.heap := T.keep _ _ _ st3 fun b _ o e => by rw [← hs4]; exact pushCells_keeps _ _ _ _ (Heap.get?_push_of_some _ e)
  have stat : ∀ {σ' : St} {H' : Hp} {s' : Shared}, Inv (X.blk s3 H3 scope ce fp) [] σ' H' s' → (∀ b ∈ fp, H' b = none) → ∀ b ∈ fp, FpOk (X.blk s3 H3 scope ce fp) [] H' b := fun {σ' H' s'} I' hn b hb =>
    ⟨hn b hb, (I'.ok.exf b hb).1, I'.ok.exfs b hb, .inl hb, fun x c e => (I'.ok.exf b hb).2 x c e, fun p hp => absurd (show p ∈ ([] : List (Addr × Obj)) ++ [] from hp) (by simp)⟩
  have loop : codeAny (model X.prog X.w) X.A (.compLoop (.ListComp elt [⟨tg, iter, ifs, 0⟩] scope pos) 0 (.ref it) (.ref D) ce) (compPost (model X.prog X.w) X.A X.xe use Qf (.ref D) s3.heap.objs.size) s4 := by
    refine compLoop_any (fun n s' => ∃ i H', Inv (X.blk s3 H3 scope ce fp) [] (wipe σ (own.map (·.2))) H' s' ∧ tn i s'.heap ∧ (∀ b ∈ fp, H' b = none) ∧ W i n H') ?_ m0 ⟨0, H3, I4, st4, nfp, w0⟩
    rintro n s5 ⟨i, H5, I5, st5, n5, w5⟩
    have I5o : Inv X pins σ H5 s5 := I3.call' (ch := fp) I5.os I5.base I5.hok I5.bare fun b hb => ⟨(f3 b hb).1.2.2.2.1, (f3 b hb).1.2.1, (f3 b hb).1.2.2.2.2.1, (f3 b hb).1.2.2.2.2.2⟩
    obtain ⟨p1, ⟨hh1, v1, ev1, cv1⟩, hp1⟩ := id hc
    have hot5 : HotX.HotAt X.A p1.1 s5.heap := ⟨hh1, p1.2, v1, (I5o.pin p1 (List.mem_append_left _ hp1)).1, ev1, cv1⟩
    have ne5 : ∀ b ∈ fp, p1.1 ≠ b := fun b hb => (f3 b hb).1.2.2.2.2.2 p1 (List.mem_append_left _ hp1)
    rcases turn i n H5 w5 with ⟨stop, qq⟩ | ⟨go, Nx, hNx, step⟩
    · have td := T.done (X.blk s3 H3 scope ce fp) rfl rfl rfl p1.1 hot5 ne5 i [] s5 _ H5 (fun _ _ => False) rfl I5 (stat I5 n5) st5 stop
      refine thnF td fun r s6 ⟨hr, I6⟩ => ?_
      subst hr
      -- back in the def's context
      have I7 : Inv X pins σ H5 s6 := I3.call' (ch := fp) I6.os I6.base I6.hok I6.bare fun b hb => ⟨(f3 b hb).1.2.2.2.1, (f3 b hb).1.2.1, (f3 b hb).1.2.2.2.2.1, (f3 b hb).1.2.2.2.2.2⟩
      have nC : H5 s3.heap.objs.size = none := by
        have z : H5 ce.locals = none := I6.free
        rw [cL] at z
        exact z
      obtain ⟨m, hn, _⟩ := I6.loc
      have hn : s6.heap.Ns ce.locals m := hn
      rw [cL] at hn
      exact hRR D s3.heap.objs.size s6 m H5 I7 qq hn (I3.fpOk (Nat.le_refl _) nC)
    · have ti := T.item (X.blk s3 H3 scope ce fp) rfl rfl rfl p1.1 hot5 ne5 i [] s5 _ H5 (fun _ _ => False) rfl I5 (stat I5 n5) st5 go
      refine thnF ti fun r s6 ⟨u, hr, h6⟩ => ?_
      subst hr
      refine thnF h6 fun _ s7 ⟨x, H7, I7, r7, y7, st7, n7⟩ => ?_
      have I7' := I7.pinned (stat I7 n7) (T.obj _ _ st7)
      have I7o : Inv X pins σ H7 s7 := I3.call' (ch := fp) I7.os I7.base I7.hok I7.bare fun b hb => ⟨(f3 b hb).1.2.2.2.1, (f3 b hb).1.2.1, (f3 b hb).1.2.2.2.2.1, (f3 b hb).1.2.2.2.2.2⟩
      have hot7 : HotX.HotAt X.A p1.1 s7.heap := ⟨hh1, p1.2, v1, (I7o.pin p1 (List.mem_append_left _ hp1)).1, ev1, cv1⟩
      refine thnF (pg.run _ s7 _ H7 x u _ I7' ⟨p1.1, hot7⟩ r7 (step x H7 y7)) fun _ s8 ⟨σ8, H8, I8, hw8, q8⟩ => ?_
      refine thnF (pt.run _ s8 σ8 H8 _ I8 q8) fun b s9 ⟨H9, I9, q9⟩ => ?_
      -- the turn's end
      have fin : ∀ {s' : Shared} {H' : Hp}, Inv (X.blk s3 H3 scope ce fp) ([] ++ pinsAt fp s7.heap) σ8 H' s' → Nx H' → ∃ m, m < n ∧ ∃ i H', Inv (X.blk s3 H3 scope ce fp) [] (wipe σ (own.map (·.2))) H' s' ∧ tn i s'.heap ∧ (∀ b ∈ fp, H' b = none) ∧ W i m H' := fun {s' H'} I' nx => by
        obtain ⟨m', hm, w'⟩ := hNx H' nx
        have pin' : ∀ b ∈ fp, ∀ o, s7.heap.get? b = some o → s'.heap.get? b = some o ∧ H' b = none := fun b hb o e =>
          let z := I'.pin (b, o) (List.mem_append_right _ (List.mem_append_right _ (mem_pinsAt hb e)))
          ⟨z.1, z.2.1⟩
        have hl : (wipe σ (own.map (·.2))).length = σ8.length := by rw [← hw8, wipe_length]
        refine ⟨m', hm, i + 1, H', (I'.unpinned (pins := [])).weak hl (fun j v e => ?_), T.keep _ _ _ st7 fun b hb o e => (pin' b hb o e).1, fun b hb => ?_, w'⟩
        · rw [← hw8] at e
          exact (wipe_some e).1
        · obtain ⟨o, e, _⟩ := T.obj _ _ st7 b hb
          exact (pin' b hb o e).2
      cases b with
      | false =>
        simp only [Bool.false_eq_true, if_false] at q9 ⊢
        exact fin I9 q9
      | true =>
        simp only [if_true] at q9 ⊢
        refine thnF (pe.run _ s9 σ8 H9 _ I9 q9) fun z s10 ⟨yv, H10, I10, r10, acc, hD10, hz10, nx⟩ => ?_
        exact app_ok (X := X.blk s3 H3 scope ce fp) I10 hD10 hz10 r10 fun s11 I11 => fin I11 nx
  exact codeAny_compStart_list loop (T.self X.A 0 _ _ _ st4 loop)
theorem pe_lcG {elt tg iter : Expr} {ifs : List Expr} {scope : Scope} {own : List (Str × Nat)} {pos : Pos} {wi : TI} {g : TG} {tt : TT} {te : TE} (hc : HotC X) (hN : X.N.Nodup) (hi : PIG X tg iter wi) (ok : BlkOk X.N X.env.scope scope own)
    (hg : ∀ (s : Shared) (H : Hp) (C : Addr) (cl : List (Str × Addr)) (fp : List Addr), PGG (X.blk s H scope (compEnvC scope cl C X.env) fp) tg g) (ht : ∀ (s : Shared) (H : Hp) (C : Addr) (cl : List (Str × Addr)) (fp : List Addr), PTs (X.blk s H scope (compEnvC scope cl C X.env) fp) ifs tt)
    (he : ∀ (s : Shared) (H : Hp) (C : Addr) (cl : List (Str × Addr)) (fp : List Addr), PE (X.blk s H scope (compEnvC scope cl C X.env) fp) elt te) (hs : ∀ x, foldedSetIterable iter X.env x = pure x := by intro _; rfl) :
    PE X (.ListComp elt [⟨tg, iter, ifs, 0⟩] scope pos) (tLc wi g tt te (own.map (·.2))) := by
  refine ⟨fun pins s σ H Q I h => ?_⟩
  rw [eval_ListComp]
  refine lc_coreG hc hN I hi ok hg ht he hs h fun D C s' m H' I' q hn f => ⟨m, hn, fun h'' sb => ?_⟩
  obtain ⟨f0, f1, f2, f3, f4, f5⟩ := f
  exact ⟨.ref D, H', I'.turned (t' := s'.toks) (fun b o hb e => (sb.2 b hb).trans e) f0 f1 f3 f4 f5, rfl, q⟩
/-- name = [..] on one line, the name a local -/
theorem ps_setLcG {i : Nat} {y : Str} {py : Pos} {elt tg iter : Expr} {ifs : List Expr} {scope : Scope} {own : List (Str × Nat)} {pos spos : Pos} {wi : TI} {g : TG} {tt : TT} {te : TE} (hc : HotC X) (hN : X.N.Nodup) (hy : X.N[i]? = some y) (hyl : X.env.scope.names.lookup y = some .local)
    (hsw : swapsWith (.ListComp elt [⟨tg, iter, ifs, 0⟩] scope pos) (some (.Name y py)) spos.line X.env = pure true) (hi : PIG X tg iter wi) (ok : BlkOk X.N X.env.scope scope own)
    (hg : ∀ (s : Shared) (H : Hp) (C : Addr) (cl : List (Str × Addr)) (fp : List Addr), PGG (X.blk s H scope (compEnvC scope cl C X.env) fp) tg g) (ht : ∀ (s : Shared) (H : Hp) (C : Addr) (cl : List (Str × Addr)) (fp : List Addr), PTs (X.blk s H scope (compEnvC scope cl C X.env) fp) ifs tt)
    (he : ∀ (s : Shared) (H : Hp) (C : Addr) (cl : List (Str × Addr)) (fp : List Addr), PE (X.blk s H scope (compEnvC scope cl C X.env) fp) elt te) (hs : ∀ x, foldedSetIterable iter X.env x = pure x := by intro _; rfl) :
    PS X (.Assign [.Name y py] (.ListComp elt [⟨tg, iter, ifs, 0⟩] scope pos) spos) (tAsg (tLc wi g tt te (own.map (·.2))) (gName i)) := by
  refine ⟨fun pins s σ H D I h => ?_⟩
  rw [exec_Assign_Name_used _ _ _ _ hsw]
  refine wpAny_bind (wpAny_standAt (wpAny_bind ?_))
  show wpAny _ X.A (do let _ ← comprehension (.ListComp elt [⟨tg, iter, ifs, 0⟩] scope pos) scope X.env (firstIterPos [⟨tg, iter, ifs, 0⟩] pos) (newList []) false (eval iter X.env) (some (assign (.Name y py) X.env))) _ _ s
  have h : tLc wi g tt te (own.map (·.2)) σ H (fun x H1 => gName i x σ H1 D.nx) := h
  refine wpAny_bind (thn (lc_coreG (Qf := fun _ s' => SP X pins D .next s') hc hN I hi ok hg ht he hs h fun L C s' m H' I' q hn f => ?_) fun _ s' hq => wpAny_pure (wpAny_pure hq))
  show wpAny _ _ (assign (.Name y py) X.env (.ref L)) _ _ _
  refine wpAny_assign_Name (store_ok2 (v := V.ref L) I' hN hy (.inl hyl) rfl (fun s2 I2 ⟨a, sb, ha⟩ => ?_) (.inr hyl))
  obtain ⟨f0, f1, f2, f3, f4, f5⟩ := f
  have haC : C ≠ a := by
    rcases ha with z | z
    · rw [z]; exact f1
    · exact fun e => f4 y a z e.symm
  refine ⟨m, hn.sameBut sb haC, fun h3 sb3 => ?_⟩
  exact ⟨_, H', I2.turned (t' := s2.toks) (fun b o hb e => (sb3.2 b hb).trans e) f0 f1 f3 f4 f5, q⟩
end
/-- nothing comes: the list at a is empty -/
def It0 (K : PySem.W.Frag) (a : Addr) : It := ⟨fun _ _ => False, fun _ _ _ _ => False, fun _ H => SqL K H a []⟩
def ItN : It := ⟨fun _ _ => False, fun _ _ _ _ => False, fun _ _ => True⟩
theorem turnG_list0 {P : Program} {w : World} {K : PySem.W.Frag} {tg : Expr} (a it : Addr) : TurnG P w K tg (It0 K a) [it] it (fun i h => h.IsListIter it a i) where
  mem := by simp
  obj := fun i h st b hb => by
    have e : b = it := by simpa using hb
    subst e
    obtain ⟨o, e, c, d⟩ := st
    exact ⟨o, e, fun v z => by rw [d] at z; cases z⟩
  keep := fun i h h' st k => st.at fun o e => k it (by simp) o e
  item := fun X _ _ _ x1 s _ _ i pins s' σ H E _ _ _ _ hg => hg.elim
  done := by
    intro X hP hw hK x1 s hot hne i pins s' σ H E es I hf st hg
    subst hP hw hK es
    obtain ⟨its, rv, p, hz⟩ := I.list hg
    obtain ⟨f0, f1, f2, f3, f4, f5⟩ := hf it (by simp)
    cases rv
    exact list_endP_hot (x1 := x1) hot (hne it (by simp)) st p.isList (by simp) fun h' eb => ⟨rfl, I.turned (t' := s'.toks) (fun b o hb e => eb b o hb e) f0 f1 f3 f4 f5⟩
  self := fun _ _ _ _ _ st h => wpAny_pyIter_listiter st h
theorem turnG_str0 {P : Program} {w : World} {K : PySem.W.Frag} {tg : Expr} (it : Addr) (t : Tok) : TurnG P w K tg ItN [it] it (fun i h => h.IsStrIter it "str_ascii_iterator" Str.empty t i) where
  mem := by simp
  obj := fun i h st b hb => by
    have e : b = it := by simpa using hb
    subst e
    obtain ⟨o, e, c, d⟩ := st
    exact ⟨o, e, fun v z => by rw [d] at z; cases z⟩
  keep := fun i h h' st k => let ⟨o, ho, r⟩ := st; ⟨o, k it (by simp) o ho, r⟩
  item := fun X _ _ _ x1 s _ _ i pins s' σ H E _ _ _ _ hg => hg.elim
  done := by
    intro X hP hw hK x1 s hot hne i pins s' σ H E es I hf st hg
    subst hP hw hK es
    obtain ⟨f0, f1, f2, f3, f4, f5⟩ := hf it (by simp)
    exact ascii_endP_hot (x1 := x1) hot (hne it (by simp)) st (Array.getElem?_eq_none (Nat.zero_le _)) fun h' eb => ⟨rfl, I.turned (t' := s'.toks) (fun b o hb e => eb b o hb e) f0 f1 f3 f4 f5⟩
  self := fun _ _ _ _ _ st h => wpAny_pyIter_striter_ascii st h
theorem turnG_enumB {P : Program} {w : World} {K : PySem.W.Frag} {elts : List Expr} {kk : Nat} {tpos : Pos} (x : Array UInt8) (t : Tok) (e it : Addr) :
    TurnG P w K (.Tuple elts kk tpos) (ItEB x) [e, it] e (fun i h => (∃ old, IsEnum h e it ((i : Nat) : Int) old) ∧ PySem.W.KBw.IsBytesIter h it x t i ∧ e ≠ it) where
  mem := by simp
  obj := fun i h st b hb => enumB_obj (a := e) st b hb
  keep := fun i h h' st k => enumB_keep st k
  item := by
    intro X hP hw hK x1 s hot hne i pins s' σ H E es I hf st hg
    subst hP hw hK es
    have nx : x1 ≠ it := hne it (by simp)
    have nx2 : e ≠ x1 := Ne.symm (hne e (by simp))
    exact enumB_item (EBX.draws_bytH (A := X.A.in1) (x1 := x1) it nx x t) (fun _ z => z.1) ⟨st.2.1, hot⟩ (by simp [st.2.2, nx2]) I hf st hg
  done := by
    intro X hP hw hK x1 s hot hne' i pins s' σ H E es I hf st hg
    subst hP hw hK es
    obtain ⟨⟨old, he⟩, hit, hne⟩ := st
    obtain ⟨f0, f1, f2, f3, f4, f5⟩ := hf it (by simp)
    have nx : x1 ≠ it := hne' it (by simp)
    have hg' : x.size ≤ i := hg
    have hT : s'.TypeIs (.ref e) "enumerate" := ⟨_, he, rfl⟩
    unfold pyNext
    refine wpAny_bind (wpAny_attempt (wpAny_callSpecial?_slot (name := Str.ofString "__next__") hT F.slot_enumerate_next (wpAny_call_entry F.slot_enumerate_next hT F.entry_enumerate_next ?_ (F.args_enumerate_next_1 _))))
    show wpAny _ _ (field (.ref e) 2 >>= _) _ _ _
    refine wpAny_bind (wpAny_field he rfl (x := .ref it) rfl (wpAny_bind (EBX.nx_end_hot (A := X.A.in1) (x1 := x1) hot nx hit (Array.getElem?_eq_none hg') fun h' z eb ⟨o, ho, hcl⟩ => ?_)))
    exact wpAny_bind (wpAny_isInstance (T := "StopIteration") (b := true) ⟨o, ho, hcl⟩ isSubtype_stop (wpAny_pure ⟨rfl, I.turned (t' := s'.toks) (fun b o hb q => eb b o hb q) f0 f1 f3 f4 f5⟩))
  self := fun A i s Q E st h => let ⟨⟨_, he⟩, _⟩ := st; wpAny_pyIter_enum he h
section
variable {X : Cx} {tg : Expr}
theorem pie_oneG {pins : List (Addr × Obj)} {σ : St} {H : Hp} {s : Shared} {R : It → Hp → Prop} {J : It} {tn : Nat → Heap → Prop} {tk : Nat} (I : Inv X pins σ H s) (o : Obj)
    (T : TurnG X.prog X.w X.K tg J [s.heap.objs.size] s.heap.objs.size tn) (st : tn 0 (s.heap.push o)) (q : R J H) : PIEG X pins σ tg R (.ref s.heap.objs.size) { s with heap := s.heap.push o, toks := tk } := by
  refine ⟨s.heap.objs.size, [s.heap.objs.size], tn, J, H, rfl, I.kept fun b ob e => Heap.get?_push_of_some _ e, T, st, fun b hb => ?_, q⟩
  have e : b = s.heap.objs.size := by simpa using hb
  subst e
  exact I.fpOk (Nat.le_refl _) (I.hok.fresh (Nat.le_refl _))
def iList0 (K : PySem.W.Frag) (tl : TE) : TI := fun σ H R => tl σ H fun x H1 => ∃ a, x = .ref a ∧ SqL K H1 a [] ∧ R (It0 K a) H1
theorem pig_list0 {l : Expr} {tl : TE} (hl : PE X l tl) : PIG X tg l (iList0 X.K tl) := by
  refine ⟨fun pins s σ H R I h => ?_⟩
  refine thn (hl.run pins s σ H _ I h) fun v s1 ⟨x, H1, I1, r1, q1⟩ => ?_
  obtain ⟨a, e, hq, q⟩ := q1
  subst e
  cases r1
  obtain ⟨its, rv, p, hz⟩ := I1.list hq
  exact wpAny_pyIter_list p.isList (pie_oneG (tk := s1.toks) I1 _ (turnG_list0 a _) ⟨_, Heap.get?_push_size _ rfl, rfl, rfl⟩ q)
def iStr0 (te : TE) : TI := fun σ H R => te σ H fun v H1 => v = .str Str.empty ∧ R ItN H1
theorem pig_str0 {e : Expr} {te : TE} (he : PE X e te) : PIG X tg e (iStr0 te) := by
  refine ⟨fun pins s σ H R I h => ?_⟩
  refine thn (he.run pins s σ H _ I h) fun v s1 ⟨y, H1, I1, r1, ex, q⟩ => ?_
  subst ex
  obtain ⟨t, rfl⟩ := r1
  exact wpAny_pyIter_ascii (by decide +kernel) (pie_oneG (tk := s1.toks) I1 _ (turnG_str0 _ t) ⟨_, Heap.get?_push_size _ rfl, rfl, rfl⟩ q)
theorem pig_enumB {e : Expr} {ta : TA} {p pos tpos : Pos} {elts : List Expr} {kk : Nat} (hg : Gl X "enumerate") (hm : X.mg "enumerate" = none) (ha : PA X [e] ta) (hs : starEach [e] X.env = [(false, eval e X.env)] := by rfl) :
    PIG X (.Tuple elts kk tpos) (.Call (.Name "enumerate" p) [e] [] pos) (iEnumB ta) := by
  refine ⟨fun pins s σ H R I h => ?_⟩
  refine Call_ (ld_blt I hg hm boot_enumerate (PyProof.Rows.callWith_type1 (thn (ha.run pos pins s σ H _ I h) fun us s1 ⟨vs, H1, I1, r1, q1⟩ => ?_) hs rfl))
  obtain ⟨x, ex, q⟩ := q1
  subst ex
  cases r1 with
  | cons r rr =>
    cases rr
    obtain ⟨t, rfl⟩ := r
    refine EBX.call_enumB fun h' he hit hsz hk => wpAny_pyIter_enum he ?_
    have I2 : Inv X pins σ H1 { s1 with heap := h' } := I1.kept (t' := s1.toks) hk
    refine ⟨s1.heap.objs.size + 1, [s1.heap.objs.size + 1, s1.heap.objs.size], _, _, H1, rfl, I2, turnG_enumB x t (s1.heap.objs.size + 1) s1.heap.objs.size, ⟨⟨.none, he⟩, hit, Nat.succ_ne_self _⟩, fun b hb => ?_, q⟩
    have e' : b = s1.heap.objs.size + 1 ∨ b = s1.heap.objs.size := by simpa using hb
    have hle : s1.heap.objs.size ≤ b := by
      rcases e' with z | z
      · rw [z]; exact Nat.le_add_right _ _
      · rw [z]; exact Nat.le_refl _
    exact I1.fpOk hle (I1.hok.fresh hle)
/-- a for over the same -/
theorem turnH_of {P : Program} {w : World} {K : PySem.W.Frag} {J : It} {fp : List Addr} {it : Addr} {tn : Nat → Heap → Prop} (T : TurnG P w K tg J fp it tn) : TurnH P w K tg J fp it tn where
  mem := T.mem
  obj := T.obj
  keep := T.keep
  self := T.self
  item := fun X hP hw hK hc i pins s σ H E I hf st hg => by
    obtain ⟨q, ⟨hh, v1, e1, c1⟩, hp⟩ := id hc
    exact T.item X hP hw hK q.1 (s := s) ⟨hh, q.2, v1, (I.pin q (List.mem_append_left _ hp)).1, e1, c1⟩ (fun b hb => (hf b hb).2.2.2.2.2 q (List.mem_append_left _ hp)) i pins s σ H E rfl I hf st hg
  done := fun X hP hw hK hc i pins s σ H E I hf st hg => by
    obtain ⟨q, ⟨hh, v1, e1, c1⟩, hp⟩ := id hc
    exact T.done X hP hw hK q.1 (s := s) ⟨hh, q.2, v1, (I.pin q (List.mem_append_left _ hp)).1, e1, c1⟩ (fun b hb => (hf b hb).2.2.2.2.2 q (List.mem_append_left _ hp)) i pins s σ H E rfl I hf st hg
theorem pih_of {iter : Expr} {wi : TI} (h : PIG X tg iter wi) : PIH X tg iter wi := ⟨fun pins s σ H R I q => thn (h.run pins s σ H R I q) fun v s1 q1 => thn q1 fun itv s2 ⟨it, fp, tn, J, H', a, b, T, c⟩ => ⟨it, fp, tn, J, H', a, b, turnH_of T, c⟩⟩
theorem turnG_list {P : Program} {w : World} {K : PySem.W.Frag} (a it : Addr) : TurnG P w K tg (Itl K a) [it] it (fun i h => h.IsListIter it a i) where
  mem := by simp
  obj := (turn_list (P := P) (w := w) (K := K) (tg := tg) a it).obj
  keep := (turn_list (P := P) (w := w) (K := K) (tg := tg) a it).keep
  self := (turn_list (P := P) (w := w) (K := K) (tg := tg) a it).self
  item := by
    intro X hP hw hK x1 s hot hne i pins s' σ H E es I hf st hg
    subst hP hw hK es
    obtain ⟨xs, x, hq, hx⟩ := hg
    obtain ⟨its, rv, p, hz⟩ := I.list hq
    obtain ⟨u, hu, ru⟩ := rv.get hx
    obtain ⟨f0, f1, f2, f3, f4, f5⟩ := hf it (by simp)
    refine wpAny_pyNext_list_item st p.isList (x := u) (by simpa using hu) fun h' st' sb => ?_
    have I1 : Inv X pins σ H { s' with heap := h' } := I.turned (t' := s'.toks) (fun b o hb e => (sb.2 b hb).trans e) f0 f1 f3 f4 f5
    obtain ⟨o, e, c, d⟩ := id st'
    exact ⟨u, rfl, go_of (s := { s' with heap := h' }) e c d (by decide) ⟨x, H, I1, ru, ⟨rfl, fun ys hy => by rw [I.list_inj hy hq]; exact hx⟩, st', fun b hb => (hf b hb).1⟩⟩
  done := by
    intro X hP hw hK x1 s hot hne i pins s' σ H E es I hf st hg
    subst hP hw hK es
    obtain ⟨xs, hq, hx⟩ := hg
    obtain ⟨its, rv, p, hz⟩ := I.list hq
    obtain ⟨f0, f1, f2, f3, f4, f5⟩ := hf it (by simp)
    have hl := rv.length
    exact list_endP_hot (x1 := x1) hot (hne it (by simp)) st p.isList (by simp; omega) fun h' eb => ⟨rfl, I.turned (t' := s'.toks) (fun b o hb e => eb b o hb e) f0 f1 f3 f4 f5⟩
theorem pi_listH {l : Expr} {tl : TE} (hl : PE X l tl) : PIH X tg l (iList X.K tl) := by
  refine pih_of ⟨fun pins s σ H R I h => ?_⟩
  refine thn (hl.run pins s σ H _ I h) fun v s1 ⟨x, H1, I1, r1, q1⟩ => ?_
  obtain ⟨a, e, ⟨xs, hq⟩, q⟩ := q1
  subst e
  cases r1
  obtain ⟨its, rv, p, hz⟩ := I1.list hq
  exact wpAny_pyIter_list p.isList (pie_oneG (tk := s1.toks) I1 _ (turnG_list a _) ⟨_, Heap.get?_push_size _ rfl, rfl, rfl⟩ q)
/-- reversed(range) where nothing is in it -/
def iRev0 (tr : St → Hp → (Int → Int → Hp → Prop) → Prop) : TI := fun σ H R => tr σ H fun a b H1 => a = 0 ∧ b = 0 ∧ R ItN H1
theorem turnG_rev0 {P : Program} {w : World} {K : PySem.W.Frag} (it : Addr) (lo c : Int) : TurnG P w K tg ItN [it] it (fun _ h => IsRangeIter h it lo 0 c) where
  mem := by simp
  obj := fun i h st b hb => by
    have e : b = it := by simpa using hb
    subst e
    exact ⟨_, st, fun v z => by
      have z' : Data.fields _ = Data.cell v := z
      cases z'⟩
  keep := fun i h h' st k => k it (by simp) _ st
  item := fun X _ _ _ x1 s _ _ i pins s' σ H E _ _ _ _ hg => hg.elim
  done := by
    intro X hP hw hK x1 s hot hne i pins s' σ H E es I hf st hg
    subst hP hw hK es
    obtain ⟨f0, f1, f2, f3, f4, f5⟩ := hf it (by simp)
    exact pyNext_range_end_hot (x1 := x1) hot st (Int.le_refl _) fun h' eb => ⟨rfl, I.turned (t' := s'.toks) (fun b o _ e => eb b o e) f0 f1 f3 f4 f5⟩
  self := fun _ _ _ _ _ st h => wpAny_pyIter_rangeiter st h
theorem pi_rev0H {e : Expr} {tr : St → Hp → (Int → Int → Hp → Prop) → Prop} {p pos : Pos} (hg : Gl X "reversed") (hm : X.mg "reversed" = none) (he : PRg X e tr) (hs : starEach [e] X.env = (false, eval e X.env) :: starEach [] X.env := by rfl) :
    PIH X tg (.Call (.Name "reversed" p) [e] [] pos) (iRev0 tr) := by
  refine pih_of ⟨fun pins s σ H R I h => ?_⟩
  refine Call_ (ld_blt I hg hm PyProof.Rows.boot_reversed (PyProof.Rows.callWith_type1 (args_cons (thn (he pins s σ H _ I h) fun u s1 hx => args_nil ?_) hs) hs rfl))
  obtain ⟨r, a, b, t, w1, v, H1, eu, hr, I1, ea, eb, q⟩ := hx
  subst eu ea eb
  refine call_reversed_range hr (smallRev_one (by decide) (by decide) (by decide) (by decide)) (wpAny_pyIter_rangeiter (Heap.get?_push_size _ rfl) ?_)
  exact pie_oneG (tk := s1.toks) I1 _ (turnG_rev0 _ _ _) (Heap.get?_push_size _ rfl) q
end
end L2H

namespace K0
open PySem PySem.Spec PyProof.Rows L2
/-! ### the same while an exception is handled -/
section
variable {P : Program} {w : World} {K : PySem.W.Frag} {mg : Str → Option Value} {base : Heap}
theorem okh_whole {f : Addr} {fd : FuncData} {k : Nat} (F : Fun K "is_whole" "is_whole" sWhole f fd) (m1 : mg "isinstance" = none) (m2 : mg "bool" = none) (m3 : mg "int" = none) : L2H.FnH P w K mg base CX0 (k + 1) f fd ["told"] spWhole := by
  refine okH F scWhole (fun vs H Q E h => ?_) (fun cdv A outer s H vs Q E pn hot hr h => ?_)
  · obtain ⟨v, rfl, _⟩ := h
    rfl
  · obtain ⟨v, rfl, h⟩ := h
    have hcX : L2H.HotC (L2H.cxH CX0 P w K mg base ["told"] "is_whole" (defScope sWhole) f cdv A outer s H E pn) := ⟨pn, hot, List.mem_singleton_self pn⟩
    refine ⟨_, pss_one (ps_ret (pe_and (pe_callB call_isi (by rfl) m1 (by decide +kernel) (pa_cons (pv 0) (pa_cons (pe_bltn (v := .ty "int") (by rfl) m3 (by decide +kernel) rfl) pa_nil)))
      (pe_one (pe_not (pe_callB call_isi (by rfl) m1 (by decide +kernel) (pa_cons (pv 0) (pa_cons (pe_bltn (v := .ty "bool") (by rfl) m2 (by decide +kernel) rfl) pa_nil))))))), ?_⟩
    rcases h with ⟨x, rfl, q⟩ | ⟨p, xs, rfl, hp, q⟩ | ⟨rfl, q⟩
    · refine ⟨_, rfl, _, _, _, _, _, rfl, .ty "int", .base (.int _), kit_ty (a := "int") (r := true) (by decide +kernel), _, rfl, iteT ?_⟩
      exact ⟨_, rfl, _, _, _, _, _, rfl, .ty "bool", .base (.int _), kit_ty (a := "int") (r := false) (by decide +kernel), _, rfl, q⟩
    · exact ⟨_, rfl, _, _, _, _, _, rfl, .ty "int", .base (.lst hp), kit_ty (a := "list") (r := false) (by decide +kernel), _, rfl, iteF q⟩
    · exact ⟨_, rfl, _, _, _, _, _, rfl, .ty "int", .base .non, kit_ty (a := "NoneType") (r := false) (by decide +kernel), _, rfl, iteF q⟩
theorem okh_isNum {f f0 : Addr} {fd fd0 : FuncData} {k : Nat} (F : Fun K "is_number" "is_number" sIsNum f fd) (F0 : Fun K "is_whole" "is_whole" sWhole f0 fd0) (G0 : L2H.FnH P w K mg base CX0 (k + 1) f0 fd0 ["told"] spWhole) (b0 : Binds K fd0 ["told"] []) (g0 : mg "is_whole" = some (.ref f0)) :
    L2H.FnH P w K mg base CX0 (k + 2) f fd ["told", "least", "most"] spIsNum := by
  refine okH F scIsNum (fun vs H Q E h => ?_) (fun cdv A outer s H vs Q E pn hot hr h => ?_)
  · obtain ⟨v, a, b, rfl, _⟩ := h
    rfl
  · obtain ⟨v, a, b, rfl, h⟩ := h
    have hcX : L2H.HotC (L2H.cxH CX0 P w K mg base ["told", "least", "most"] "is_number" (defScope sIsNum) f cdv A outer s H E pn) := ⟨pn, hot, List.mem_singleton_self pn⟩
    refine ⟨_, pss_one (ps_ret (pe_and (L2H.pe_callH (E := fun _ => E0) G0 hr hcX (by rfl) g0 F0.kp b0 (fun σ _ _ _ _ _ _ z => z.elim) (pa_cons (pv 0) pa_nil)) (pe_one (pe_chain op_le op_le (pv 1) (pv 0) (pv 2))))), ?_⟩
    rcases h with ⟨x, rfl, q⟩ | ⟨p, xs, rfl, hp, q⟩ | ⟨rfl, q⟩
    · refine ⟨_, rfl, _, rfl, .inl ⟨x, rfl, _, rfl, iteT ?_⟩⟩
      refine ⟨_, rfl, _, rfl, _, _, rfl, rfl, _, rfl, ?_⟩
      by_cases h1 : a ≤ x
      · rw [if_pos (decide_eq_true h1)]
        refine ⟨_, rfl, _, _, rfl, rfl, ?_⟩
        simpa [h1] using q
      · rw [if_neg (by simpa using h1)]
        simpa [h1] using q
    · exact ⟨_, rfl, _, rfl, .inr (.inl ⟨p, xs, rfl, hp, _, rfl, iteF q⟩)⟩
    · exact ⟨_, rfl, _, rfl, .inr (.inr ⟨rfl, _, rfl, iteF q⟩)⟩
theorem okh_areBytes {f : Addr} {fd : FuncData} {j : Nat} (F : Fun K "are_bytes" "are_bytes" sAreBytes f fd) (m1 : mg "isinstance" = none) (m2 : mg "bytes" = none) (m3 : mg "len" = none) : L2H.FnH P w K mg base CX0 (j + 1) f fd ["told", "most"] spAreBytes := by
  refine okH F scAreBytes (fun vs H Q E h => ?_) (fun cdv A outer s H vs Q E pn hot hr h => ?_)
  · obtain ⟨b, n, rfl, _⟩ := h
    rfl
  · obtain ⟨b, n, rfl, hb, q⟩ := h
    have hcX : L2H.HotC (L2H.cxH CX0 P w K mg base ["told", "most"] "are_bytes" (defScope sAreBytes) f cdv A outer s H E pn) := ⟨pn, hot, List.mem_singleton_self pn⟩
    have hz := PySem.sizeLine_eq
    refine ⟨_, pss_one (ps_ret (pe_and (pe_callB call_isi (by rfl) m1 (by decide +kernel) (pa_cons (pv 0) (pa_cons (pe_bltn (v := .ty "bytes") (by rfl) m2 (by decide +kernel) rfl) pa_nil)))
      (pe_one (pe_cmpR op_le (pe_callB call_len (by rfl) m3 PySem.boot_len (pa_cons (pv 0) pa_nil)) (pv 1) (nomark _))))), ?_⟩
    refine ⟨_, rfl, _, _, _, _, _, rfl, .ty "bytes", .byt _, kit_ty (a := "bytes") (r := true) (by decide +kernel), _, rfl, iteT ?_⟩
    refine ⟨_, rfl, _, b.size, rfl, ⟨by omega, rfl⟩, _, rfl, _, _, rfl, rfl, ?_⟩
    have e : decide (((b.size : Nat) : Int) ≤ (n : Int)) = decide (b.size ≤ n) := by simp
    show Q (.bl (decide (((b.size : Nat) : Int) ≤ (n : Int)))) H
    rw [e]
    exact q
theorem okh_mark {f : Addr} {fd : FuncData} {j : Nat} {t1 : Tok} (F : Fun K "mark_of" "mark_of" sMarkOf f fd) (m1 : mg "len" = none) (m2 : mg "sum" = none) (m3 : mg "enumerate" = none) (c1 : mg "MODULUS" = some (.int 65521 t1)) :
    L2H.FnH P w K mg base CX0 (j + 1) f fd ["data"] spMark := by
  refine okH F scMk (fun vs H Q E h => ?_) (fun cdv A outer s H vs Q E pn hot hr h => ?_)
  · obtain ⟨ks, rfl, _⟩ := h
    rfl
  · obtain ⟨ks, rfl, hk, hl, q⟩ := h
    have hcX : L2H.HotC (L2H.cxH CX0 P w K mg base NMk "mark_of" (defScope sMarkOf) f cdv A outer s H E pn) := ⟨pn, hot, List.mem_singleton_self pn⟩
    have hz := PySem.sizeLine_eq
    refine ⟨_, pss_one (ps_ret (pe_tup (pa_cons (pe_callB call_len (by rfl) m1 PySem.boot_len (pa_cons (pv 0) pa_nil)) (pa_cons (pe_op op_modN (pe_callB (L2H.cr_sumH hcX) (by rfl) m2 (by decide +kernel) (pa_cons
      (L2H.pe_lcG (own := [("at", 1), ("byte", 2)]) (g := gTup K 2 (gCons (gName 1) (gCons (gName 2) gNil))) (tt := tYes) hcX scMk.nd (L2H.pig_enumB (by rfl) m3 (pa_cons (pv 0) pa_nil)) (blkOk_by (N := NMk) (sc := defScope sMarkOf) (by decide +kernel))
        (fun _ _ _ _ _ => L2H.pgg_tup (pgs_cons (pg_name (i := 1) scMk.nd rfl (.inl rfl)) (pgs_cons (pg_name (i := 2) scMk.nd rfl (.inl rfl)) pgs_nil))) (fun _ _ _ _ _ => pts_nil)
        (fun _ _ _ _ _ => pe_op op_mul (pe_op op_add (pv 1) pe_int) (pv 2))) pa_nil)) (pe_glob (v := .int 65521) rfl c1 ⟨_, rfl⟩)) pa_nil)))), ?_⟩
    refine ⟨_, rfl, _, (byB ks).size, rfl, ⟨by rw [byB_size]; omega, rfl⟩, ?_⟩
    refine ⟨_, rfl, _, rfl, fun D nD => ?_⟩
    refine lc_it (walk_enumB (b := byB ks)) (fun i H' => Same H H' ∧ H' D = some (.lst (((mrkL ks).take i).map V.int))) ⟨same_upd nD, by rw [upd_same]; rfl⟩ (fun _ _ _ _ => trivial) (fun i x H2 H3 hi z y => ?_) (fun H2 z => ?_)
    · obtain ⟨sm, hD⟩ := z
      rw [byB_size] at hi
      obtain ⟨T0, x0, y0, rfl, nT0, rfl, e0, e1⟩ := y
      obtain rfl := Option.some.inj e0
      cases hc : (byB ks)[i]? with
      | none =>
        have e1 : ((byB ks)[i]?.map fun c => V.int (c.toNat : Int)) = some y0 := e1
        rw [hc] at e1
        cases e1
      | some c =>
        have e1 : ((byB ks)[i]?.map fun c => V.int (c.toNat : Int)) = some y0 := e1
        rw [hc] at e1
        obtain rfl := Option.some.inj e1
        have hc' := byB_at hk hc
        have sm2 : Same H2 (upd H2 T0 (.tup [.int (i : Nat), .int (c.toNat : Int)])) := same_upd nT0
        have hD2 := sm2 _ _ hD
        have hc2 : c.toNat < 256 := c.toNat_lt
        refine ⟨T0, _, rfl, .inl (.inl upd_same), rfl, _, _, rfl, _, _, rfl, rfl, rfl, yes ?_⟩
        refine ⟨_, rfl, _, _, rfl, rfl, _, rfl, _, _, rfl, rfl, .inl ⟨by omega, by omega⟩, _, hD2, ?_, same_put (sm.trans sm2) nD, ?_⟩
        · rw [List.length_map, List.length_take, mrkL_len, hz]
          omega
        · rw [upd_same, take_snocG (mrkL_at hc'), List.map_append]
          push_cast
          rfl
    · obtain ⟨sm, hD⟩ := z
      rw [byB_size, ← mrkL_len, List.take_length] at hD
      refine ⟨D, mrkL ks, rfl, .inl (.inl hD), _, _, rfl, rfl, (by show (65521 : Int) ≠ 0; decide), ?_⟩
      dsimp only
      rw [mrkL_sum]
      refine ⟨(by show 2 ≤ sizeLine; omega), fun t nt => ?_⟩
      rw [byB_size]
      exact q _ t (sm.trans (same_upd nt)) (none_back sm nt) upd_same
theorem okh_isMk {f fN : Addr} {fd fdN : FuncData} {j k1 : Nat} {t1 t2 : Tok} (F : Fun K "is_mark" "is_mark" sIsMark f fd) (GN : L2H.FnH P w K mg base CX0 k1 fN fdN ["told", "least", "most"] spIsNum) (bN : Binds K fdN ["told", "least", "most"] []) (kN : PySem.W.keepIn K (.ref fN) = true) (gN : mg "is_number" = some (.ref fN)) (l1 : k1 ≤ j)
    (m1 : mg "isinstance" = none) (m2 : mg "tuple" = none) (m3 : mg "len" = none) (c1 : mg "MOST_BYTES" = some (.int 2000 t1)) (c2 : mg "MODULUS" = some (.int 65521 t2)) :
    L2H.FnH P w K mg base CX0 (j + 1) f fd ["told"] spIsMk := by
  refine okH F scIsMk (fun vs H Q E h => ?_) (fun cdv A outer s H vs Q E pn hot hr h => ?_)
  · obtain ⟨a, m, rfl, _⟩ := h
    rfl
  · obtain ⟨a, m, rfl, ha, h1, h2, q⟩ := h
    have hcX : L2H.HotC (L2H.cxH CX0 P w K mg base ["told"] "is_mark" (defScope sIsMark) f cdv A outer s H E pn) := ⟨pn, hot, List.mem_singleton_self pn⟩
    refine ⟨_, pss_cons (ps_if (PW.pt (pw_or (pt_not (pt_val (pe_callB call_isi (by rfl) m1 (by decide +kernel) (pa_cons (pv 0) (pa_cons (pe_bltn (v := .ty "tuple") (by rfl) m2 (by decide +kernel) rfl) pa_nil))))) (pw_or1 (pt_cmpR op_ne (pe_callB call_len_seq (by rfl) m3 PySem.boot_len (pa_cons (pv 0) pa_nil)) pe_int (nomark _))))) (pss_one (ps_ret pe_bl)) pss_nil)
      (pss_one (ps_ret (pe_and (L2H.pe_callH (E := fun _ => E0) GN (hr.mono l1) hcX (by rfl) gN kN bN (fun σ _ _ _ _ _ _ z => z.elim) (pa_cons (pe_ix ix_tup (pv 0) pe_int (fun _ _ => rfl)) (pa_cons pe_int (pa_cons (pe_glob (v := .int 2000) rfl c1 ⟨_, rfl⟩) pa_nil))))
        (pe_one (L2H.pe_callH (E := fun _ => E0) GN (hr.mono l1) hcX (by rfl) gN kN bN (fun σ _ _ _ _ _ _ z => z.elim) (pa_cons (pe_ix ix_tup (pv 0) pe_int (fun _ _ => rfl)) (pa_cons pe_int (pa_cons (pe_op op_sub (pe_glob (v := .int 65521) rfl c2 ⟨_, rfl⟩) pe_int) pa_nil)))))))), ?_⟩
    refine ⟨_, rfl, _, _, .type "tuple", _, _, rfl, .ty "tuple", .base (.tup ha), kit_ty (a := "tuple") (r := true) (by decide +kernel), _, rfl, iteF ?_⟩
    refine ⟨_, rfl, a, _, rfl, .inr (.inl (.inl ha)), rfl, _, rfl, iteF ?_⟩
    refine ⟨_, rfl, a, _, 0, _, rfl, rfl, .inl (.inl ha), rfl, _, 0, 2000, rfl, .inl ⟨_, rfl, _, rfl, iteC (decide_eq_true ⟨by omega, by omega⟩) ?_⟩⟩
    refine ⟨_, rfl, a, _, 1, _, rfl, rfl, .inl (.inl ha), rfl, _, _, rfl, rfl, _, 0, _, rfl, .inl ⟨_, rfl, ?_⟩⟩
    rw [decide_eq_true (by omega)]
    exact q
theorem okh_mo {f fN : Addr} {fd fdN : FuncData} {j k1 : Nat} {t1 t2 t3 t4 t5 t6 : Tok} (F : Fun K "many_of" "many_of" sManyOf f fd) (GN : L2H.FnH P w K mg base CX0 k1 fN fdN ["told", "least", "most"] spIsNum) (bN : Binds K fdN ["told", "least", "most"] []) (kN : PySem.W.keepIn K (.ref fN) = true) (gN : mg "is_number" = some (.ref fN)) (l1 : k1 ≤ j)
    (m1 : mg "isinstance" = none) (m2 : mg "tuple" = none) (m3 : mg "len" = none) (m4 : mg "min" = none) (c1 : mg "MOST_BYTES" = some (.int 2000 t1)) (c2 : mg "NEW" = some (.str "new" t2)) (c3 : mg "OLD" = some (.str "old" t3)) (c4 : mg "FEWEST_NEW" = some (.int 3 t4)) (c5 : mg "FEWEST_OLD" = some (.int 1 t5)) (c6 : mg "MOST_AT_ONCE" = some (.int 255 t6)) :
    L2H.FnH P w K mg base CX0 (j + 1) f fd ["item", "old_many", "there"] spMo := by
  refine okH F scMo (fun vs H Q E h => ?_) (fun cdv A outer s H vs Q E pn hot hr h => ?_)
  · obtain ⟨v, i, old, there, rfl, _⟩ := h
    rfl
  · obtain ⟨v, i, old, there, rfl, hi, q⟩ := h
    have hcX : L2H.HotC (L2H.cxH CX0 P w K mg base NMo "many_of" (defScope sManyOf) f cdv A outer s H E pn) := ⟨pn, hot, List.mem_singleton_self pn⟩
    refine ⟨_, pss_cons (ps_if (pt_not (pt_val (pe_callB call_isi (by rfl) m1 (by decide +kernel) (pa_cons (pv 0) (pa_cons (pe_bltn (v := .ty "tuple") (by rfl) m2 (by decide +kernel) rfl) pa_nil)))))
        (pss_one (ps_ret (pe_ifExp (pt_val (L2H.pe_callH (E := fun _ => E0) GN (hr.mono l1) hcX (by rfl) gN kN bN (fun σ _ _ _ _ _ _ z => z.elim) (pa_cons (pv 0) (pa_cons pe_int (pa_cons pe_int pa_nil))))) pe_int pe_int))) pss_nil)
      (pss_cons (ps_if (pt_cmpR op_ne (pe_callB call_len_seq (by rfl) m3 PySem.boot_len (pa_cons (pv 0) pa_nil)) pe_int (nomark _)) (pss_one (ps_ret pe_int)) pss_nil)
      (pss_cons (ps_asg (pv 0) (L2H.pg_tupH hcX (pgs_cons (pg_name (i := 3) scMo.nd rfl (.inl rfl)) (pgs_cons (pg_name (i := 4) scMo.nd rfl (.inl rfl)) (pgs_cons (pg_name (i := 5) scMo.nd rfl (.inl rfl)) pgs_nil)))))
      (pss_cons (ps_if (PW.pt (pw_and (pt_cmpR op_eq (pv 3) (pe_glob (v := .str "new") rfl c2 ⟨_, rfl⟩) (nomark _))
          (pw_and (pt_val (L2H.pe_callH (E := fun _ => E0) GN (hr.mono l1) hcX (by rfl) gN kN bN (fun σ _ _ _ _ _ _ z => z.elim) (pa_cons (pv 4) (pa_cons (pe_glob (v := .int 3) rfl c4 ⟨_, rfl⟩) (pa_cons (pe_glob (v := .int 255) rfl c6 ⟨_, rfl⟩) pa_nil)))))
          (pw_and1 (pt_val (L2H.pe_callH (E := fun _ => E0) GN (hr.mono l1) hcX (by rfl) gN kN bN (fun σ _ _ _ _ _ _ z => z.elim) (pa_cons (pv 5) (pa_cons pe_int (pa_cons (pe_callB (L2H.call_min2H hcX) (by rfl) m4 (by decide +kernel) (pa_cons (pe_glob (v := .int 2000) rfl c1 ⟨_, rfl⟩) (pa_cons (pv 2) pa_nil))) pa_nil))))))))) (pss_one (ps_ret (pv 4))) pss_nil)
      (pss_cons (ps_if (PW.pt (pw_and (pt_cmpR op_eq (pv 3) (pe_glob (v := .str "old") rfl c3 ⟨_, rfl⟩) (nomark _))
          (pw_and (pt_val (L2H.pe_callH (E := fun _ => E0) GN (hr.mono l1) hcX (by rfl) gN kN bN (fun σ _ _ _ _ _ _ z => z.elim) (pa_cons (pv 4) (pa_cons (pe_glob (v := .int 1) rfl c5 ⟨_, rfl⟩) (pa_cons (pe_glob (v := .int 255) rfl c6 ⟨_, rfl⟩) pa_nil)))))
          (pw_and1 (pt_val (L2H.pe_callH (E := fun _ => E0) GN (hr.mono l1) hcX (by rfl) gN kN bN (fun σ _ _ _ _ _ _ z => z.elim) (pa_cons (pv 5) (pa_cons pe_int (pa_cons (pe_op op_sub (pv 1) (pv 4)) pa_nil))))))))) (pss_one (ps_ret (pv 4))) pss_nil)
      (pss_one (ps_ret pe_int)))))), ?_⟩
    cases i with
    | b n =>
      obtain rfl : v = .int (n : Int) := hi
      refine ⟨_, rfl, _, _, _, _, _, rfl, .ty "tuple", .base (.int _), kit_ty (a := "int") (r := false) (by decide +kernel), _, rfl, iteT ?_⟩
      refine ⟨_, rfl, _, 0, 255, rfl, .inl ⟨_, rfl, _, rfl, ?_⟩⟩
      have q : Q (.int (((if decide (n < 256) = true then 1 else 0) : Nat) : Int)) H := q
      refine ite2 (fun e => ?_) (fun e => ?_)
      · rw [if_pos (decide_eq_true (by have := of_decide_eq_true e; omega))] at q
        exact q
      · rw [if_neg (fun z => e (decide_eq_true (by have := of_decide_eq_true z; omega)))] at q
        exact q
    | c nw m p =>
      obtain ⟨t, rfl, ht⟩ := hi
      refine ⟨_, rfl, _, _, .type "tuple", _, _, rfl, .ty "tuple", .base (.tup ht), kit_ty (a := "tuple") (r := true) (by decide +kernel), _, rfl, iteF ?_⟩
      refine ⟨_, rfl, t, _, rfl, .inr (.inl (.inl ht)), rfl, _, rfl, iteF ?_⟩
      refine ⟨_, rfl, t, _, rfl, .inl (.inl ht), rfl, _, _, rfl, _, _, rfl, _, _, rfl, rfl, ?_⟩
      cases nw with
      | true =>
        have q : Q (.int (((if decide (3 ≤ m ∧ m ≤ 255 ∧ 1 ≤ p ∧ p ≤ min 2000 there) = true then m else 0) : Nat) : Int)) H := q
        have hno : ¬ (3 ≤ m ∧ m ≤ 255 ∧ 1 ≤ p ∧ p ≤ min 2000 there) → Q (.int 0) H := fun z => by
          rw [if_neg (fun y => z (of_decide_eq_true y))] at q
          exact q
        refine ⟨_, rfl, rfl, _, rfl, iteT ?_⟩
        have rest : Q (.int 0) H → ∀ R : Prop, (R = True) → True := fun _ _ _ => trivial
        refine ⟨_, rfl, _, 3, 255, rfl, .inl ⟨_, rfl, _, rfl, ite2 (fun e => ?_) (fun e => ?_)⟩⟩
        · have e := of_decide_eq_true e
          refine ⟨_, rfl, _, rfl, _, _, rfl, _, 1, _, rfl, .inl ⟨_, rfl, _, rfl, ite2 (fun e2 => ?_) (fun e2 => ?_)⟩⟩
          · have e2 := of_decide_eq_true e2
            rw [if_pos (decide_eq_true ⟨by omega, by omega, by omega, by have := e2.2; split at this <;> omega⟩)] at q
            exact ⟨_, rfl, q⟩
          · refine ⟨_, rfl, rfl, _, rfl, iteF (hno fun z => e2 (decide_eq_true ⟨by omega, by split <;> omega⟩))⟩
        · exact ⟨_, rfl, rfl, _, rfl, iteF (hno fun z => e (decide_eq_true ⟨by omega, by omega⟩))⟩
      | false =>
        have q : Q (.int (((if decide (1 ≤ m ∧ m ≤ 255 ∧ p + m ≤ old) = true then m else 0) : Nat) : Int)) H := q
        have hno : ¬ (1 ≤ m ∧ m ≤ 255 ∧ p + m ≤ old) → Q (.int 0) H := fun z => by
          rw [if_neg (fun y => z (of_decide_eq_true y))] at q
          exact q
        refine ⟨_, rfl, rfl, _, rfl, iteF ?_⟩
        refine ⟨_, rfl, rfl, _, rfl, iteT ?_⟩
        refine ⟨_, rfl, _, 1, 255, rfl, .inl ⟨_, rfl, _, rfl, ite2 (fun e => ?_) (fun e => ?_)⟩⟩
        · have e := of_decide_eq_true e
          refine ⟨_, rfl, _, rfl, _, rfl, _, _, rfl, rfl, _, 0, _, rfl, .inl ⟨_, rfl, _, rfl, ite2 (fun e2 => ?_) (fun e2 => ?_)⟩⟩
          · have e2 := of_decide_eq_true e2
            rw [if_pos (decide_eq_true ⟨by omega, by omega, by omega⟩)] at q
            exact ⟨_, rfl, q⟩
          · exact hno fun z => e2 (decide_eq_true ⟨by omega, by omega⟩)
        · exact hno fun z => e (decide_eq_true ⟨by omega, by omega⟩)
theorem okh_tm {f fN : Addr} {fd fdN : FuncData} {j k1 : Nat} (F : Fun K "tells_as_many" "tells_as_many" sTellsM f fd) (GN : L2H.FnH P w K mg base CX0 k1 fN fdN ["item", "old_many", "there"] spMo) (bN : Binds K fdN ["item", "old_many", "there"] []) (kN : PySem.W.keepIn K (.ref fN) = true) (gN : mg "many_of" = some (.ref fN)) (l1 : k1 ≤ j) :
    L2H.FnH P w K mg base CX0 (j + 1) f fd ["row", "old_many", "new_many"] spTm := by
  refine okH F scTm (fun vs H Q E h => ?_) (fun cdv A outer s H vs Q E pn hot hr h => ?_)
  · obtain ⟨r, row, old, new, rfl, _⟩ := h
    rfl
  · obtain ⟨r, row, old, new, rfl, ⟨us, hr0, hus⟩, hl, q⟩ := h
    have hcX : L2H.HotC (L2H.cxH CX0 P w K mg base NTm "tells_as_many" (defScope sTellsM) f cdv A outer s H E pn) := ⟨pn, hot, List.mem_singleton_self pn⟩
    have hz := PySem.sizeLine_eq
    refine ⟨_, pss_cons (ps_set (i := 3) scTm.nd rfl (.inl rfl) pe_int)
      (pss_cons (L2H.ps_forH (passes_of rfl) hcX (L2H.pi_listH (pv 0)) (pg_name (i := 4) scTm.nd rfl (.inl rfl))
        (pss_cons (ps_set (i := 5) scTm.nd rfl (.inl rfl) (L2H.pe_callH (E := fun _ => E0) GN (hr.mono l1) hcX (by rfl) gN kN bN (fun σ _ _ _ _ _ _ z => z.elim) (pa_cons (pv 4) (pa_cons (pv 1) (pa_cons (pv 3) pa_nil)))))
        (pss_cons (ps_if (pt_cmpR op_eq (pv 5) pe_int (nomark _)) (pss_one (ps_ret pe_bl)) pss_nil)
        (pss_one (ps_aug (i := 3) scTm.nd rfl (.inl rfl) (pv 5) ip_add)))))
      (pss_one (ps_ret (pe_cmpR op_eq (pv 3) (pv 2) (nomark _))))), ?_⟩
    try dsimp only [gName]
    have hlen := hus.length
    refine ⟨_, rfl, r, rfl, ⟨_, .inl (.inl hr0)⟩, ?_⟩
    refine for_list (K := K) (a := r) (xs := us) (fun i σ H' => H' = H ∧ ∃ (y4 y5 : Option V) (th : Nat), σ = [some (.ref r), some (.int (old : Int)), some (.int (new : Int)), some (.int (th : Int)), y4, y5] ∧ fitR old 0 row = fitR old th (row.drop i))
      ⟨rfl, _, _, 0, rfl, rfl⟩ (fun i σ H' _ h => ?_) (fun i x σ H' hx h => ?_) (fun σ H' h => ?_)
    · rw [h.1]
      exact .inl (.inl hr0)
    · obtain ⟨rfl, y4, y5, th, rfl, ef⟩ := h
      have hi : i < row.length := by have := (List.getElem?_eq_some_iff.mp hx).1; omega
      obtain ⟨x', e1, hd⟩ := paired_get hus (List.getElem?_eq_getElem hi)
      obtain rfl := Option.some.inj (e1.symm.trans hx)
      rw [List.drop_eq_getElem_cons hi] at ef
      generalize row[i] = it at *
      have ef : fitR old 0 row = if fitI old th it = true then fitR old (th + wideI it) (row.drop (i + 1)) else none := ef
      refine ⟨_, rfl, _, rfl, _, rfl, _, it, old, th, rfl, hd, ?_⟩
      dsimp only [gName]
      refine ⟨_, rfl, rfl, _, rfl, ?_⟩
      by_cases hf : fitI old th it = true
      · rw [if_pos hf] at ef ⊢
        have := (fit_wide hf).1
        refine ite2 (fun z => ?_) (fun _ => ?_)
        · have z : V.int (wideI it : Int) = V.int 0 := of_decide_eq_true z
          have := V.int.inj z
          omega
        · have ea : (th : Int) + (wideI it : Int) = ((th + wideI it : Nat) : Int) := by push_cast; rfl
          refine ⟨_, rfl, _, rfl, _, _, rfl, rfl, ?_⟩
          dsimp only
          rw [ea]
          exact ⟨rfl, _, _, th + wideI it, rfl, ef⟩
      · rw [if_neg hf] at ef ⊢
        refine iteC (decide_eq_true rfl) ?_
        rw [ef, decide_eq_false (fun z => by cases z)] at q
        exact q
    · obtain ⟨rfl, y4, y5, th, rfl, ef⟩ := h
      rw [← hlen, List.drop_length] at ef
      refine ⟨_, rfl, _, rfl, rfl, ?_⟩
      have e : decide (V.int (th : Int) = V.int (new : Int)) = decide (fitR old 0 row = some new) := by
        rw [ef]
        show _ = decide (some th = some new)
        by_cases z : th = new
        · rw [z, decide_eq_true rfl, decide_eq_true rfl]
        · rw [decide_eq_false (fun y => z (by have := V.int.inj y; omega)), decide_eq_false (fun y => z (Option.some.inj y))]
      rw [e]
      exact q
theorem okh_id {f fM fT : Addr} {fd fdM fdT : FuncData} {j k1 k2 : Nat} (F : Fun K "is_difference" "is_difference" sIsDif f fd) (GM : L2H.FnH P w K mg base CX0 k1 fM fdM ["told"] spIsMk) (bM : Binds K fdM ["told"] []) (kM : PySem.W.keepIn K (.ref fM) = true) (gM : mg "is_mark" = some (.ref fM)) (l1 : k1 ≤ j)
    (GT : L2H.FnH P w K mg base CX0 k2 fT fdT ["row", "old_many", "new_many"] spTm) (bT : Binds K fdT ["row", "old_many", "new_many"] []) (kT : PySem.W.keepIn K (.ref fT) = true) (gT : mg "tells_as_many" = some (.ref fT)) (l2 : k2 ≤ j)
    (m1 : mg "isinstance" = none) (m2 : mg "tuple" = none) (m3 : mg "len" = none) (m4 : mg "list" = none) :
    L2H.FnH P w K mg base CX0 (j + 1) f fd ["told"] spId := by
  refine okH F scId (fun vs H Q E h => ?_) (fun cdv A outer s H vs Q E pn hot hr h => ?_)
  · obtain ⟨t, x, d, rfl, _⟩ := h
    rfl
  · obtain ⟨t, x, d, rfl, ⟨ht, ha, hb, hrw⟩, ⟨l01, l02, l03, l04, l05⟩, q⟩ := h
    have hcX : L2H.HotC (L2H.cxH CX0 P w K mg base NId "is_difference" (defScope sIsDif) f cdv A outer s H E pn) := ⟨pn, hot, List.mem_singleton_self pn⟩
    refine ⟨_, pss_cons (ps_if (PW.pt (pw_or (pt_not (pt_val (pe_callB call_isi (by rfl) m1 (by decide +kernel) (pa_cons (pv 0) (pa_cons (pe_bltn (v := .ty "tuple") (by rfl) m2 (by decide +kernel) rfl) pa_nil))))) (pw_or1 (pt_cmpR op_ne (pe_callB call_len_seq (by rfl) m3 PySem.boot_len (pa_cons (pv 0) pa_nil)) pe_int (nomark _))))) (pss_one (ps_ret pe_bl)) pss_nil)
      (pss_cons (ps_asg (pv 0) (L2H.pg_tupH hcX (pgs_cons (pg_name (i := 1) scId.nd rfl (.inl rfl)) (pgs_cons (pg_name (i := 2) scId.nd rfl (.inl rfl)) (pgs_cons (pg_name (i := 3) scId.nd rfl (.inl rfl)) pgs_nil)))))
      (pss_one (ps_ret (pe_and (L2H.pe_callH (E := fun _ => E0) GM (hr.mono l1) hcX (by rfl) gM kM bM (fun σ _ _ _ _ _ _ z => z.elim) (pa_cons (pv 1) pa_nil)) (pe_and (L2H.pe_callH (E := fun _ => E0) GM (hr.mono l1) hcX (by rfl) gM kM bM (fun σ _ _ _ _ _ _ z => z.elim) (pa_cons (pv 2) pa_nil))
        (pe_and (pe_callB call_isi (by rfl) m1 (by decide +kernel) (pa_cons (pv 3) (pa_cons (pe_bltn (v := .ty "list") (by rfl) m4 (by decide +kernel) rfl) pa_nil)))
        (pe_one (L2H.pe_callH (E := fun _ => E0) GT (hr.mono l2) hcX (by rfl) gT kT bT (fun σ _ _ _ _ _ _ z => z.elim) (pa_cons (pv 3) (pa_cons (pe_ix ix_tup (pv 1) pe_int (fun _ _ => rfl)) (pa_cons (pe_ix ix_tup (pv 2) pe_int (fun _ _ => rfl)) pa_nil))))))))))), ?_⟩
    refine ⟨_, rfl, _, _, .type "tuple", _, _, rfl, .ty "tuple", .base (.tup ht), kit_ty (a := "tuple") (r := true) (by decide +kernel), _, rfl, iteF ?_⟩
    refine ⟨_, rfl, t, _, rfl, .inr (.inl (.inl ht)), rfl, _, rfl, iteF ?_⟩
    refine ⟨_, rfl, t, _, rfl, .inl (.inl ht), rfl, _, _, rfl, _, _, rfl, _, _, rfl, rfl, ?_⟩
    refine ⟨_, rfl, _, d.old, rfl, ha, l01, l02, _, rfl, iteT ?_⟩
    refine ⟨_, rfl, _, d.new, rfl, hb, l03, l04, _, rfl, iteT ?_⟩
    obtain ⟨us, hu1, hu2⟩ := id hrw
    refine ⟨_, rfl, _, _, .type "list", _, _, rfl, .ty "list", .base (.lst hu1), kit_ty (a := "list") (r := true) (by decide +kernel), _, rfl, iteT ?_⟩
    exact ⟨_, rfl, _, rfl, _, _, 0, _, rfl, rfl, .inl (.inl ha), rfl, _, rfl, _, _, 0, _, rfl, rfl, .inl (.inl hb), rfl, _, d.row, d.old.1, d.new.1, rfl, hrw, l05, q⟩
theorem okh_refD {f fI : Addr} {fd fdI : FuncData} {j k1 : Nat} (F : Fun K "refuse_difference" "refuse_difference" sRefD f fd) (GI : L2H.FnH P w K mg base CX0 k1 fI fdI ["told"] spId) (bI : Binds K fdI ["told"] []) (kI : PySem.W.keepIn K (.ref fI) = true) (gI : mg "is_difference" = some (.ref fI)) (l1 : k1 ≤ j) :
    L2H.FnH P w K mg base CX0 (j + 1) f fd ["told"] spRefD := by
  refine okH F scRefD (fun vs H Q E h => ?_) (fun cdv A outer s H vs Q E pn hot hr h => ?_)
  · obtain ⟨t, x, d, rfl, _⟩ := h
    rfl
  · obtain ⟨t, x, d, rfl, hD, hL, ho, q⟩ := h
    have hcX : L2H.HotC (L2H.cxH CX0 P w K mg base ["told"] "refuse_difference" (defScope sRefD) f cdv A outer s H E pn) := ⟨pn, hot, List.mem_singleton_self pn⟩
    refine ⟨_, pss_one (ps_if (pt_not (pt_val (L2H.pe_callH (E := fun _ => E0) GI (hr.mono l1) hcX (by rfl) gI kI bI (fun σ _ _ _ _ _ _ z => z.elim) (pa_cons (pv 0) pa_nil)))) (pss_one ps_never) pss_nil), ?_⟩
    refine ⟨_, rfl, t, x, d, rfl, hD, hL, _, rfl, ?_⟩
    rw [ho]
    exact iteF q
theorem okh_refB {f fI : Addr} {fd fdI : FuncData} {j k1 : Nat} {t1 : Tok} (F : Fun K "refuse_bytes" "refuse_bytes" sRefB f fd) (GI : L2H.FnH P w K mg base CX0 k1 fI fdI ["told", "most"] spAreBytes) (bI : Binds K fdI ["told", "most"] []) (kI : PySem.W.keepIn K (.ref fI) = true) (gI : mg "are_bytes" = some (.ref fI)) (l1 : k1 ≤ j) (c1 : mg "MOST_BYTES" = some (.int 2000 t1)) :
    L2H.FnH P w K mg base CX0 (j + 1) f fd ["told"] spRefB := by
  refine okH F scRefB (fun vs H Q E h => ?_) (fun cdv A outer s H vs Q E pn hot hr h => ?_)
  · obtain ⟨ks, rfl, _⟩ := h
    rfl
  · obtain ⟨ks, rfl, hl, q⟩ := h
    have hcX : L2H.HotC (L2H.cxH CX0 P w K mg base ["told"] "refuse_bytes" (defScope sRefB) f cdv A outer s H E pn) := ⟨pn, hot, List.mem_singleton_self pn⟩
    refine ⟨_, pss_one (ps_if (pt_not (pt_val (L2H.pe_callH (E := fun _ => E0) GI (hr.mono l1) hcX (by rfl) gI kI bI (fun σ _ _ _ _ _ _ z => z.elim) (pa_cons (pv 0) (pa_cons (pe_glob (v := .int 2000) rfl c1 ⟨_, rfl⟩) pa_nil))))) (pss_one ps_never) pss_nil), ?_⟩
    refine ⟨_, rfl, byB ks, 2000, rfl, (by rw [byB_size]; omega), _, rfl, ?_⟩
    rw [byB_size, decide_eq_true hl]
    exact iteF q
theorem okh_or {f : Addr} {fd : FuncData} {j : Nat} {t1 : Tok} (F : Fun K "origins_of" "origins_of" sOrig f fd) (m1 : mg "isinstance" = none) (m2 : mg "tuple" = none) (m3 : mg "range" = none) (c1 : mg "NEW" = some (.str "new" t1)) :
    L2H.FnH P w K mg base CX0 (j + 1) f fd ["row"] spOr := by
  refine okH F scOr (fun vs H Q E h => ?_) (fun cdv A outer s H vs Q E pn hot hr h => ?_)
  · obtain ⟨r, row, old, n, rfl, _⟩ := h
    rfl
  · obtain ⟨r, row, old, n, rfl, ⟨us, hr0, hus⟩, hfit, hn, q⟩ := h
    have hcX : L2H.HotC (L2H.cxH CX0 P w K mg base NOr "origins_of" (defScope sOrig) f cdv A outer s H E pn) := ⟨pn, hot, List.mem_singleton_self pn⟩
    have hz := PySem.sizeLine_eq
    refine ⟨_, pss_cons (ps_set (i := 1) scOr.nd rfl (.inl rfl) (pe_lst pa_nil))
      (pss_cons (L2H.ps_forH (passes_of rfl) hcX (L2H.pi_listH (pv 0)) (pg_name (i := 2) scOr.nd rfl (.inl rfl))
        (pss_cons (ps_if (pt_not (pt_val (pe_callB call_isi (by rfl) m1 (by decide +kernel) (pa_cons (pv 2) (pa_cons (pe_bltn (v := .ty "tuple") (by rfl) m2 (by decide +kernel) rfl) pa_nil)))))
          (pss_cons (ps_expr (pe_bm PySem.F.plainAttrs_list PySem.F.slot_list_append PySem.F.type_list_append mt_append (pv 1) (pa_cons (pv 2) pa_nil))) (pss_one ps_continue)) pss_nil)
        (pss_cons (ps_asg (pv 2) (L2H.pg_tupH hcX (pgs_cons (pg_name (i := 3) scOr.nd rfl (.inl rfl)) (pgs_cons (pg_name (i := 4) scOr.nd rfl (.inl rfl)) (pgs_cons (pg_name (i := 5) scOr.nd rfl (.inl rfl)) pgs_nil)))))
        (pss_one (L2H.ps_forH (passes_of rfl) hcX (L2H.pi_range1H (by rfl) m3 (pa_cons (pv 4) pa_nil)) (pg_name (i := 6) scOr.nd rfl (.inl rfl))
          (pss_one (ps_expr (pe_bm PySem.F.plainAttrs_list PySem.F.slot_list_append PySem.F.type_list_append mt_append (pv 1) (pa_cons (pe_ifExp (pt_cmpR op_eq (pv 3) (pe_glob (v := .str "new") rfl c1 ⟨_, rfl⟩) (nomark _)) (pe_ix ix_list (pv 1) (pe_un un_neg (pv 5)) (fun _ _ => rfl)) (pe_tup (pa_cons (pe_op op_add (pv 5) (pv 6)) pa_nil))) pa_nil)))))))))
      (pss_one (ps_ret (pv 1)))), ?_⟩
    refine ⟨Nat.zero_le _, fun D nD => ?_⟩
    have hlen := hus.length
    have hrl : row.length ≤ 2000 := by have := fitR_le hfit; omega
    dsimp only [gName]
    refine ⟨_, rfl, r, rfl, ⟨_, .inl (.inl (same_upd nD _ _ hr0))⟩, ?_⟩
    refine for_list (K := K) (a := r) (xs := us) (fun i σ H' => ∃ (y2 y3 y4 y5 y6 : Option V) (os : List Og) (vs : List V), σ = [some (.ref r), some (.ref D), y2, y3, y4, y5, y6] ∧ Same H H' ∧ H' D = some (.lst vs) ∧ Paired (OgAt H') os vs ∧ os = (row.take i).foldl origS [] ∧ fitR old os.length (row.drop i) = some n)
      ⟨_, _, _, _, _, [], [], rfl, same_upd nD, upd_same, .nil, rfl, hfit⟩ (fun i σ H' _ h => ?_) (fun i x σ H' hx h => ?_) (fun σ H' h => ?_)
    · obtain ⟨_, _, _, _, _, _, _, _, sm, _⟩ := h
      exact .inl (.inl (sm _ _ hr0))
    · obtain ⟨y2, y3, y4, y5, y6, os, vs, rfl, sm, hD, hP, eos, ef⟩ := h
      have hi : i < row.length := by have := (List.getElem?_eq_some_iff.mp hx).1; omega
      obtain ⟨x', e1, hd0⟩ := paired_get hus (List.getElem?_eq_getElem hi)
      obtain rfl := Option.some.inj (e1.symm.trans hx)
      have hd := hd0.same sm
      rw [List.drop_eq_getElem_cons hi] at ef
      have et : (row.take (i + 1)).foldl origS [] = origS os row[i] := by
        rw [List.take_add_one, List.getElem?_eq_getElem hi, List.foldl_append, ← eos]
        rfl
      rw [et]
      clear eos et hd0
      generalize row[i] = it at *
      obtain ⟨hf, ef⟩ := fitR_cons ef
      have hvl := hP.length
      have htop := fit_top ef
      rw [← origS_len] at ef
      dsimp only [gName]
      cases it with
      | b k =>
        obtain rfl : x' = .int (k : Int) := hd
        refine ⟨_, rfl, _, _, _, _, _, rfl, .ty "tuple", .base (.int _), kit_ty (a := "int") (r := false) (by decide +kernel), _, rfl, iteT ?_⟩
        refine ⟨_, rfl, .inl ⟨rfl, _, .inl (.inl hD)⟩, _, rfl, D, _, _, rfl, rfl, hD, by omega, ?_⟩
        refine ⟨_, _, _, _, _, _, vs ++ [.int (k : Int)], rfl, same_put sm nD, upd_same, ?_, rfl, ef⟩
        exact (hP.mono fun _ _ h => h.put hD).snoc rfl
      | c nw m p =>
        obtain ⟨t, rfl, ht⟩ := hd
        refine ⟨_, rfl, _, _, .type "tuple", _, _, rfl, .ty "tuple", .base (.tup ht), kit_ty (a := "tuple") (r := true) (by decide +kernel), _, rfl, iteF ?_⟩
        refine ⟨_, rfl, t, _, rfl, .inl (.inl ht), rfl, _, _, rfl, _, _, rfl, _, _, rfl, rfl, ?_⟩
        have hm : m ≤ 255 := (fit_wide hf).2
        have htop : os.length + m ≤ n := htop
        refine ⟨_, rfl, m, rfl, by omega, by omega, ?_⟩
        cases nw with
        | true =>
          have hf := of_decide_eq_true (show decide (3 ≤ m ∧ m ≤ 255 ∧ 1 ≤ p ∧ p ≤ min 2000 os.length) = true from hf)
          refine for_range (lo := 0) (n := (m : Int).toNat) (fun k σ H3 => ∃ (y6 : Option V) (vs3 : List V), σ = [some (.ref r), some (.ref D), some (.ref t), some (.str (wdN true)), some (.int (m : Int)), some (.int (p : Int)), y6] ∧ Same H H3 ∧ H3 D = some (.lst vs3) ∧ Paired (OgAt H3) (copyO p k os) vs3) ⟨_, vs, rfl, sm, hD, hP⟩ (fun k σ H3 hk h => ?_) (fun σ H3 h => ?_)
          · obtain ⟨y6, vs3, rfl, sm3, hD3, hP3⟩ := h
            have hl3 := hP3.length
            rw [copyO_len] at hl3
            obtain ⟨v, e1, hv⟩ := paired_getD hP3 (i := (copyO p k os).length - p) (by rw [copyO_len]; omega)
            refine ⟨_, rfl, .inl ⟨rfl, _, .inl (.inl hD3)⟩, ?_⟩
            refine ⟨_, rfl, rfl, _, rfl, iteT ?_⟩
            refine ⟨_, rfl, _, rfl, _, rfl, D, _, _, v, rfl, rfl, .inl (.inl hD3), ?_, D, _, _, rfl, rfl, hD3, by omega, ?_⟩
            · rw [atI_back (by omega) (by omega), ← hl3, ← copyO_len p k os]
              exact e1
            · refine ⟨_, vs3 ++ [v], rfl, same_put sm3 nD, upd_same, ?_⟩
              rw [copyO_succ]
              exact (hP3.mono fun _ _ h => h.put hD3).snoc (hv.put hD3)
          · obtain ⟨y6, vs3, rfl, sm3, hD3, hP3⟩ := h
            rw [Int.toNat_natCast] at hP3
            exact ⟨_, _, _, _, _, _, vs3, rfl, sm3, hD3, hP3, rfl, ef⟩
        | false =>
          refine for_range (lo := 0) (n := (m : Int).toNat) (fun k σ H3 => ∃ (y6 : Option V) (vs3 : List V), σ = [some (.ref r), some (.ref D), some (.ref t), some (.str (wdN false)), some (.int (m : Int)), some (.int (p : Int)), y6] ∧ Same H H3 ∧ H3 D = some (.lst vs3) ∧ Paired (OgAt H3) (os ++ (List.range k).map fun t => Og.o (p + t)) vs3) ⟨_, vs, rfl, sm, hD, by rw [List.range_zero]; simpa using hP⟩ (fun k σ H3 hk h => ?_) (fun σ H3 h => ?_)
          · obtain ⟨y6, vs3, rfl, sm3, hD3, hP3⟩ := h
            have hl3 := hP3.length
            rw [List.length_append, List.length_map, List.length_range] at hl3
            refine ⟨_, rfl, .inl ⟨rfl, _, .inl (.inl hD3)⟩, ?_⟩
            refine ⟨_, rfl, rfl, _, rfl, iteF ?_⟩
            refine ⟨_, rfl, _, rfl, _, _, rfl, rfl, (by show 1 ≤ sizeLine; omega), fun tt ntt => ?_⟩
            have st := same_upd (o := .tup [.int ((p : Int) + (0 + (k : Int)))]) ntt
            refine ⟨D, _, _, rfl, rfl, st _ _ hD3, by omega, ?_⟩
            refine ⟨_, vs3 ++ [.ref tt], rfl, same_put (sm3.trans st) nD, upd_same, ?_⟩
            rw [List.range_succ, List.map_append, ← List.append_assoc]
            refine (hP3.mono fun _ _ h => (h.same st).put (st _ _ hD3)).snoc (OgAt.put (i := .o (p + k)) ⟨tt, rfl, ?_⟩ (st _ _ hD3))
            rw [upd_same]
            show some (HO.tup [V.int ((p : Int) + (0 + (k : Int)))]) = _
            rw [show (p : Int) + (0 + (k : Int)) = ((p + k : Nat) : Int) by push_cast; omega]
          · obtain ⟨y6, vs3, rfl, sm3, hD3, hP3⟩ := h
            rw [Int.toNat_natCast] at hP3
            exact ⟨_, _, _, _, _, _, vs3, rfl, sm3, hD3, hP3, rfl, ef⟩
    · obtain ⟨y2, y3, y4, y5, y6, os, vs, rfl, sm, hD, hP, eos, ef⟩ := h
      rw [← hlen, List.take_length] at eos
      refine ⟨_, rfl, q H' D sm nD ⟨vs, hD, ?_⟩⟩
      rw [show orig row = os from eos.symm]
      exact hP
end
end K0

namespace K0
open PySem PySem.Spec PyProof.Rows L2
/-! ### within the except suite: the difference to no bytes, joined -/
section
variable {P : Program} {w : World} {K : PySem.W.Frag} {mg : Str → Option Value} {base : Heap} {C fI fA fO : Addr}
def spOfHex0 : Sp := fun vs H Q _ => vs = [.str Str.empty] ∧ ∀ H', Same H H' → Q (.byt (byB [])) H'
theorem okh_ofHex0 {f : Addr} {fd : FuncData} {j : Nat} {t : Tok} (F : Fun K "of_hex" "of_hex" sOfHex f fd) (m1 : mg "isinstance" = none) (m2 : mg "str" = none) (m3 : mg "len" = none) (m4 : mg "all" = none) (m5 : mg "bytes" = none) (c1 : mg "SIGNS" = some (.str hexTab t)) :
    L2H.FnH P w K mg base CX0 (j + 1) f fd ["text"] spOfHex0 := by
  refine okH F scOfHex (fun vs H Q E h => ?_) (fun cdv A outer s H vs Q E pn hot hr h => ?_)
  · obtain ⟨rfl, _⟩ := h
    rfl
  · obtain ⟨rfl, q⟩ := h
    have hcX : L2H.HotC (L2H.cxH CX0 P w K mg base ["text", "sign"] "of_hex" (defScope sOfHex) f cdv A outer s H E pn) := ⟨pn, hot, List.mem_singleton_self pn⟩
    refine ⟨_, pss_cons (ps_if (PW.pt (pw_or (pt_not (pt_val (pe_callB call_isi (by rfl) m1 (by decide +kernel) (pa_cons (pv 0) (pa_cons (pe_bltn (v := .ty "str") (by rfl) m2 (by decide +kernel) rfl) pa_nil)))))
        (pw_or (pt_truth (pe_op op_and (pe_callB call_len_str (by rfl) m3 PySem.boot_len (pa_cons (pv 0) pa_nil)) pe_int) (by intro _; rfl))
        (pw_or1 (pt_not (pt_val (pe_callB (L2H.cr_allH hcX) (by rfl) m4 (by decide +kernel) (pa_cons (L2H.pe_lcG (own := [("sign", 1)]) (g := gName 1) (tt := tYes) hcX scOfHex.nd (L2H.pig_str0 (pv 0)) (blkOk_by (N := ["text", "sign"]) (sc := defScope sOfHex) (by decide +kernel))
          (fun _ _ _ _ _ => L2H.pgg_of (pg_name (i := 1) scOfHex.nd rfl (Or.inl rfl))) (fun _ _ _ _ _ => pts_nil)
          (fun _ _ _ _ _ => L2H.pe_never)) pa_nil))))))))
        (pss_one ps_never) pss_nil)
      (pss_one (ps_ret (pe_fromhex (pe_bltn (v := .ty "bytes") (by rfl) m5 (by decide +kernel) rfl) (pa_cons (pv 0) pa_nil)))), ?_⟩
    have hz := PySem.sizeLine_eq
    refine ⟨_, rfl, _, _, _, _, _, rfl, .ty "str", .base (.str _), kit_ty (a := "str") (r := true) (by decide +kernel), _, rfl, iteF ?_⟩
    refine ⟨_, rfl, _, rfl, Nat.zero_le _, _, _, rfl, rfl, _, rfl, ?_⟩
    have hev : Builtin.bitAnd (((Str.empty).length : Nat) : Int) 1 = 0 := by
      rw [PyProof.Rows.bitAnd_m1]
      rfl
    rw [hev]
    refine iteF ?_
    refine ⟨_, rfl, rfl, fun D nD => ?_⟩
    refine ⟨fun i m H' => i = 0 ∧ H' = upd H D (.lst []), ⟨0, rfl, rfl⟩, ?_⟩
    rintro i m H' ⟨rfl, rfl⟩
    refine .inl ⟨trivial, D, [], rfl, .inl (.inl upd_same), _, rfl, iteF ?_⟩
    have s1 := same_upd (o := .lst []) nD
    refine ⟨rfl, fun u nu => ⟨_, rfl, upd_same, [], rfl, fun k m => (by cases m), Nat.zero_le _, ?_⟩⟩
    exact q _ (same_put s1 (none_back s1 nu))
def spLn0 : Sp := fun vs H Q _ => vs = [.byt (byB [])] ∧ ∀ H' q, Same H H' → H q = none → H' q = some (.lst (bys [])) → Q (.ref q) H'
theorem okh_ln0 {f : Addr} {fd : FuncData} {j : Nat} (F : Fun K "longest_new" "longest_new" sLongN f fd) (m1 : mg "range" = none) (m2 : mg "len" = none) : L2H.FnH P w K mg base CX0 (j + 1) f fd ["new"] spLn0 := by
  refine okH F scLn (fun vs H Q E h => ?_) (fun cdv A outer s H vs Q E pn hot hr h => ?_)
  · obtain ⟨rfl, _⟩ := h
    rfl
  · obtain ⟨rfl, q⟩ := h
    have hcX : L2H.HotC (L2H.cxH CX0 P w K mg base NLn "longest_new" (defScope sLongN) f cdv A outer s H E pn) := ⟨pn, hot, List.mem_singleton_self pn⟩
    refine ⟨_, pss_cons (ps_set (i := 1) scLn.nd rfl (.inl rfl) (pe_lst pa_nil))
      (pss_cons (ps_set (i := 2) scLn.nd rfl (.inl rfl) pe_int)
      (pss_cons (L2H.ps_forH (passes_of rfl) hcX (L2H.pi_range1H (by rfl) m1 (pa_cons (pe_callB call_len (by rfl) m2 PySem.boot_len (pa_cons (pv 0) pa_nil)) pa_nil)) (pg_name (i := 3) scLn.nd rfl (.inl rfl))
        (pss_cons ps_never (pss_cons ps_never (pss_one ps_never))))
      (pss_one (ps_ret (pv 1))))), ?_⟩
    refine ⟨Nat.zero_le _, fun D nD => ?_⟩
    refine ⟨_, rfl, _, 0, rfl, ⟨by decide, rfl⟩, 0, rfl, by decide, by decide, ?_⟩
    refine for_range (lo := 0) (n := 0) (fun i σ H' => σ = [some (.byt (byB [])), some (.ref D), some (.int 0), none] ∧ H' = upd H D (.lst [])) ⟨rfl, rfl⟩ (fun i σ H' hi h => by omega) (fun σ H' h => ?_)
    obtain ⟨rfl, rfl⟩ := h
    exact ⟨_, rfl, q _ D (same_upd nD) nD upd_same⟩
def spLo0 : Sp := fun vs H Q _ => ∃ old : List Nat, vs = [.byt (byB old), .byt (byB [])] ∧ ∀ H' q, Same H H' → H q = none → H' q = some (.lst (bys [])) → Q (.ref q) H'
theorem okh_lo0 {f : Addr} {fd : FuncData} {j : Nat} (F : Fun K "longest_old" "longest_old" sLongO f fd) (m1 : mg "range" = none) (m2 : mg "len" = none) : L2H.FnH P w K mg base CX0 (j + 1) f fd ["old", "new"] spLo0 := by
  refine okH F scLo (fun vs H Q E h => ?_) (fun cdv A outer s H vs Q E pn hot hr h => ?_)
  · obtain ⟨old, rfl, _⟩ := h
    rfl
  · obtain ⟨old, rfl, q⟩ := h
    have hcX : L2H.HotC (L2H.cxH CX0 P w K mg base NLo "longest_old" (defScope sLongO) f cdv A outer s H E pn) := ⟨pn, hot, List.mem_singleton_self pn⟩
    refine ⟨_, pss_cons (ps_set (i := 2) scLo.nd rfl (.inl rfl) (pe_lst pa_nil))
      (pss_cons (ps_set (i := 3) scLo.nd rfl (.inl rfl) pe_int)
      (pss_cons (L2H.ps_forH (passes_of rfl) hcX (L2H.pi_range1H (by rfl) m1 (pa_cons (pe_callB call_len (by rfl) m2 PySem.boot_len (pa_cons (pv 1) pa_nil)) pa_nil)) (pg_name (i := 4) scLo.nd rfl (.inl rfl))
        (pss_cons ps_never (pss_cons ps_never (pss_one ps_never))))
      (pss_one (ps_ret (pv 2))))), ?_⟩
    refine ⟨Nat.zero_le _, fun D nD => ?_⟩
    refine ⟨_, rfl, _, 0, rfl, ⟨by decide, rfl⟩, 0, rfl, by decide, by decide, ?_⟩
    refine for_range (lo := 0) (n := 0) (fun i σ H' => σ = [some (.byt (byB old)), some (.byt (byB [])), some (.ref D), some (.int 0), none] ∧ H' = upd H D (.lst [])) ⟨rfl, rfl⟩ (fun i σ H' hi h => by omega) (fun σ H' h => ?_)
    obtain ⟨rfl, rfl⟩ := h
    exact ⟨_, rfl, q _ D (same_upd nD) nD upd_same⟩
theorem reOk0 (old : List Nat) : ReOk old [] [] [] := ⟨rfl, rfl, fun i h => absurd h (Nat.not_lt_zero _), fun i h => absurd h (Nat.not_lt_zero _)⟩
def spReI0 (C : Addr) : Sp := fun vs H Q _ => ∃ (x dx : Addr) (old : List Nat), vs = [.ref x, .byt (byB old), .byt (byB [])] ∧ H x = some (.ins C dx []) ∧
  ∀ H', (∀ b o, b ≠ x → H b = some o → H' b = some o) → ReAt C H' x old [] [] [] → Q .non H'
theorem okh_reInit0 (T : ReTxt K mg C fI fA fO) {f1 f2 : Addr} {fd fd1 fd2 : FuncData} {j k1 k2 : Nat} (F : Fun K "__init__" "Reaches.__init__" sReInit fI fd)
    (G1 : L2H.FnH P w K mg base CX0 k1 f1 fd1 ["new"] spLn0) (b1 : Binds K fd1 ["new"] []) (kk1 : PySem.W.keepIn K (.ref f1) = true) (g1 : mg "longest_new" = some (.ref f1)) (l1 : k1 ≤ j)
    (G2 : L2H.FnH P w K mg base CX0 k2 f2 fd2 ["old", "new"] spLo0) (b2 : Binds K fd2 ["old", "new"] []) (kk2 : PySem.W.keepIn K (.ref f2) = true) (g2 : mg "longest_old" = some (.ref f2)) (l2 : k2 ≤ j) :
    L2H.FnH P w K mg base CX0 (j + 1) fI fd ["self", "old", "new"] (spReI0 C) := by
  refine okH F scReI (fun vs H Q E h => ?_) (fun cdv A outer s H vs Q E pn hot hr h => ?_)
  · obtain ⟨x, dx, old, rfl, _⟩ := h
    rfl
  · obtain ⟨x, dx, old, rfl, hx, fin⟩ := h
    have hcX : L2H.HotC (L2H.cxH CX0 P w K mg base ["self", "old", "new"] "Reaches.__init__" (defScope sReInit) fI cdv A outer s H E pn) := ⟨pn, hot, List.mem_singleton_self pn⟩
    refine ⟨_, pss_cons (ps_fld (pv 0) (pv 1) rfl) (pss_cons (ps_fld (pv 0) (pv 2) rfl)
      (pss_cons (ps_fld (pv 0) (L2H.pe_callH (E := fun _ => E0) G1 (hr.mono l1) hcX (by rfl) g1 kk1 b1 (fun σ _ _ _ _ _ _ z => z.elim) (pa_cons (pv 2) pa_nil)) rfl)
      (pss_one (ps_fld (pv 0) (L2H.pe_callH (E := fun _ => E0) G2 (hr.mono l2) hcX (by rfl) g2 kk2 b2 (fun σ _ _ _ _ _ _ z => z.elim) (pa_cons (pv 1) (pa_cons (pv 2) pa_nil))) rfl)))), ?_⟩
    refine ⟨_, rfl, _, rfl, x, C, dx, _, rfl, hx, T.cl, T.nO, (by show 0 < 1000; decide), ?_⟩
    have k1 : ∀ b o, b ≠ x → H b = some o → (upd H x (.ins C dx (putF "old" (.byt (byB old)) []))) b = some o := fun b o n e => by rw [upd_ne n]; exact e
    have h1 : (upd H x (.ins C dx (putF "old" (.byt (byB old)) []))) x = some (.ins C dx (putF "old" (.byt (byB old)) [])) := upd_same
    generalize upd H x (.ins C dx (putF "old" (.byt (byB old)) [])) = H1 at *
    refine ⟨_, rfl, _, rfl, x, C, dx, _, rfl, h1, T.cl, T.nN, (by show 1 < 1000; decide), ?_⟩
    have k2 : ∀ b o, b ≠ x → H b = some o → (upd H1 x (.ins C dx (putF "new" (.byt (byB [])) (putF "old" (.byt (byB old)) [])))) b = some o := fun b o n e => by rw [upd_ne n]; exact k1 b o n e
    have h2 : (upd H1 x (.ins C dx (putF "new" (.byt (byB [])) (putF "old" (.byt (byB old)) [])))) x = some (.ins C dx (putF "new" (.byt (byB [])) (putF "old" (.byt (byB old)) []))) := upd_same
    generalize upd H1 x (.ins C dx (putF "new" (.byt (byB [])) (putF "old" (.byt (byB old)) []))) = H2 at *
    refine ⟨_, rfl, rfl, fun H3 p s3 np hp => ?_⟩
    have h3 := s3 _ _ h2
    have nxp : x ≠ p := ne_of_none h2 np
    refine ⟨_, rfl, x, C, dx, _, rfl, h3, T.cl, T.nM, (by show 2 < 1000; decide), ?_⟩
    have k4 : ∀ b o, b ≠ x → H b = some o → (upd H3 x (.ins C dx (putF "many_new" (.ref p) (putF "new" (.byt (byB [])) (putF "old" (.byt (byB old)) []))))) b = some o := fun b o n e => by rw [upd_ne n]; exact s3 _ _ (k2 b o n e)
    have h4 : (upd H3 x (.ins C dx (putF "many_new" (.ref p) (putF "new" (.byt (byB [])) (putF "old" (.byt (byB old)) []))))) x = some (.ins C dx (putF "many_new" (.ref p) (putF "new" (.byt (byB [])) (putF "old" (.byt (byB old)) [])))) := upd_same
    have hp4 : (upd H3 x (.ins C dx (putF "many_new" (.ref p) (putF "new" (.byt (byB [])) (putF "old" (.byt (byB old)) []))))) p = some (.lst (bys [])) := by rw [upd_ne (Ne.symm nxp)]; exact hp
    generalize upd H3 x (.ins C dx (putF "many_new" (.ref p) (putF "new" (.byt (byB [])) (putF "old" (.byt (byB old)) [])))) = H4 at *
    refine ⟨_, rfl, _, rfl, old, rfl, fun H5 q s5 nq hq => ?_⟩
    have h5 := s5 _ _ h4
    have hp5 := s5 _ _ hp4
    have nxq : x ≠ q := ne_of_none h4 nq
    refine ⟨_, rfl, x, C, dx, _, rfl, h5, T.cl, T.nL, (by show 3 < 1000; decide), ?_⟩
    rw [reF_put]
    refine fin _ (fun b o n e => by rw [upd_ne n]; exact s5 _ _ (k4 b o n e)) ⟨dx, p, q, upd_same, ?_, ?_, reOk0 old⟩
    · rw [upd_ne (Ne.symm nxp)]
      exact hp5
    · rw [upd_ne (Ne.symm nxq)]
      exact hq
def spCo0 (C : Addr) : Sp := fun vs H Q _ => ∃ (x : Addr) (old : List Nat), vs = [.ref x] ∧ ReAt C H x old [] [] [] ∧ ∀ H' q us, Same H H' → H q = none → H' q = some (.lst us) → Q (.ref q) H'
theorem okh_co0 (T : ReTxt K mg C fI fA fO) {f : Addr} {fd : FuncData} {j : Nat} (F : Fun K "costs_of" "costs_of" sCostsR f fd) (m1 : mg "len" = none) (m2 : mg "reversed" = none) (m3 : mg "range" = none) :
    L2H.FnH P w K mg base CX0 (j + 1) f fd ["reaches"] (spCo0 C) := by
  refine okH F scCo (fun vs H Q E h => ?_) (fun cdv A outer s H vs Q E pn hot hr h => ?_)
  · obtain ⟨x, old, rfl, _⟩ := h
    rfl
  · obtain ⟨x, old, rfl, hRe, fin⟩ := h
    have hcX : L2H.HotC (L2H.cxH CX0 P w K mg base NCo "costs_of" (defScope sCostsR) f cdv A outer s H E pn) := ⟨pn, hot, List.mem_singleton_self pn⟩
    obtain ⟨dx, p, q0, hx, hp, hq, RO⟩ := id hRe
    have hz := PySem.sizeLine_eq
    refine ⟨_, pss_cons (ps_set (i := 1) scCo.nd rfl (.inr rfl) (pe_op op_rep (pe_lst (pa_cons pe_int pa_nil)) (pe_op op_add (pe_callB call_len (by rfl) m1 PySem.boot_len (pa_cons (pe_fld (pv 0) rfl) pa_nil)) pe_int)))
      (pss_cons (L2H.ps_forH (passes_of rfl) hcX (L2H.pi_rev0H (by rfl) m2 (prg_1 (by rfl) m3 (pe_callB call_len (by rfl) m1 PySem.boot_len (pa_cons (pe_fld (pv 0) rfl) pa_nil)))) (pg_name (i := 2) scCo.nd rfl (.inr rfl))
        (pss_cons ps_never (pss_one ps_never)))
      (pss_one (ps_ret (pv 1)))), ?_⟩
    refine ⟨(by show 1 ≤ sizeLine; omega), fun z nz => ?_⟩
    have s1 := same_upd (o := .lst [.int 0]) nz
    have hz1 : (upd H z (.lst [.int 0])) z = some (.lst [.int 0]) := upd_same
    generalize upd H z (.lst [.int 0]) = H1 at *
    refine ⟨_, rfl, x, C, dx, _, _, rfl, s1 _ _ hx, T.cl, T.nN, reF_n _ _ _ _, _, 0, rfl, ⟨by decide, rfl⟩, _, _, rfl, rfl, z, _, _, rfl, rfl, hz1, by decide, by decide, (by show 1 * _ ≤ _; rw [hz]; decide), fun D nD => ?_⟩
    have s2 := s1.trans (same_upd (o := .lst (List.replicate ((0 : Nat) + (1 : Int)).toNat [V.int 0]).flatten) nD)
    refine ⟨_, rfl, x, C, dx, _, _, rfl, s2 _ _ hx, T.cl, T.nN, reF_n _ _ _ _, _, 0, rfl, ⟨by decide, rfl⟩, 0, rfl, rfl, rfl, ?_⟩
    refine ⟨fun i m σ H' => i = 0 ∧ (∃ y2 y3 y4 y5 y6, σ = [some (.ref x), some (.ref D), y2, y3, y4, y5, y6]) ∧ H' = upd H1 D (.lst (List.replicate ((0 : Nat) + (1 : Int)).toNat [V.int 0]).flatten), ⟨0, rfl, ⟨_, _, _, _, _, rfl⟩, rfl⟩, ?_⟩
    rintro i m σ H' ⟨rfl, ⟨y2, y3, y4, y5, y6, rfl⟩, rfl⟩
    exact .inl ⟨trivial, _, rfl, fin _ D _ s2 (none_back s1 nD) upd_same⟩
def spLr0 (C : Addr) : Sp := fun vs H Q _ => ∃ (x pc : Addr) (old : List Nat), vs = [.ref x, .ref pc] ∧ ReAt C H x old [] [] [] ∧ ∀ H' q, Same H H' → H q = none → H' q = some (.lst []) → Q (.ref q) H'
theorem okh_lr0 (T : ReTxt K mg C fI fA fO) {f : Addr} {fd : FuncData} {j : Nat} (F : Fun K "least_row" "least_row" sLeastR f fd) (m1 : mg "len" = none) :
    L2H.FnH P w K mg base CX0 (j + 1) f fd ["reaches", "costs"] (spLr0 C) := by
  refine okH F scLr (fun vs H Q E h => ?_) (fun cdv A outer s H vs Q E pn hot hr h => ?_)
  · obtain ⟨x, pc, old, rfl, _⟩ := h
    rfl
  · obtain ⟨x, pc, old, rfl, hRe, fin⟩ := h
    obtain ⟨dx, p, q0, hx, hp, hq, RO⟩ := id hRe
    refine ⟨_, pss_cons (ps_set (i := 2) scLr.nd rfl (.inl rfl) (pe_lst pa_nil))
      (pss_cons (ps_set (i := 3) scLr.nd rfl (.inr rfl) pe_int)
      (pss_cons (L2H.ps_whileNo (passes_of rfl) (pt_cmpR op_lt (pv 3) (pe_callB call_len (by rfl) m1 PySem.boot_len (pa_cons (pe_fld (pv 0) rfl) pa_nil)) (nomark _)))
      (pss_one (ps_ret (pv 2))))), ?_⟩
    refine ⟨Nat.zero_le _, fun D nD => ?_⟩
    have s1 := same_upd (o := .lst []) nD
    refine ⟨_, rfl, _, rfl, x, C, dx, _, _, rfl, s1 _ _ hx, T.cl, T.nN, reF_n _ _ _ _, _, 0, rfl, ⟨by decide, rfl⟩, _, _, rfl, rfl, _, rfl, rfl, ?_⟩
    exact ⟨_, rfl, fin _ D s1 nD upd_same⟩
def spDi0 : Sp := fun vs H Q _ => ∃ (old : List Nat), vs = [.byt (byB old), .byt (byB [])] ∧ (∀ k ∈ old, k < 256) ∧ old.length ≤ 2000 ∧
  ∀ H' t d pc x, Same H H' → H t = none → H' t = some (.tup [.ref d, .ref pc]) → DfAt H' d x ⟨(old.length, mrk old), (0, mrk []), []⟩ → Q (.ref t) H'
theorem okh_di0 (T : ReTxt K mg C fI fA fO) {f fB fC fM fL : Addr} {fd fdB fdC fdM fdL fdI : FuncData} {j k1 k2 k3 k4 k5 : Nat} (F : Fun K "difference" "difference" sDiff f fd)
    (GB : L2H.FnH P w K mg base CX0 k1 fB fdB ["told"] spRefB) (bB : Binds K fdB ["told"] []) (kB : PySem.W.keepIn K (.ref fB) = true) (gB : mg "refuse_bytes" = some (.ref fB)) (l1 : k1 ≤ j)
    (GI : L2H.FnH P w K mg base CX0 k2 fI fdI ["self", "old", "new"] (spReI0 C)) (bI : Binds K fdI ["self", "old", "new"] []) (l2 : k2 + 1 ≤ j)
    (GC : L2H.FnH P w K mg base CX0 k3 fC fdC ["reaches"] (spCo0 C)) (bC : Binds K fdC ["reaches"] []) (kC : PySem.W.keepIn K (.ref fC) = true) (gC : mg "costs_of" = some (.ref fC)) (l3 : k3 ≤ j)
    (GM : L2H.FnH P w K mg base CX0 k4 fM fdM ["data"] spMark) (bM : Binds K fdM ["data"] []) (kM : PySem.W.keepIn K (.ref fM) = true) (gM : mg "mark_of" = some (.ref fM)) (l4 : k4 ≤ j)
    (GL : L2H.FnH P w K mg base CX0 k5 fL fdL ["reaches", "costs"] (spLr0 C)) (bL : Binds K fdL ["reaches", "costs"] []) (kL : PySem.W.keepIn K (.ref fL) = true) (gL : mg "least_row" = some (.ref fL)) (l5 : k5 ≤ j) :
    L2H.FnH P w K mg base CX0 (j + 1) f fd ["old", "new"] spDi0 := by
  refine okH F scDi (fun vs H Q E h => ?_) (fun cdv A outer s H vs Q E pn hot hr h => ?_)
  · obtain ⟨old, rfl, _⟩ := h
    rfl
  · obtain ⟨old, rfl, ko, lo, fin⟩ := h
    have hcX : L2H.HotC (L2H.cxH CX0 P w K mg base ["old", "new", "reaches", "costs"] "difference" (defScope sDiff) f cdv A outer s H E pn) := ⟨pn, hot, List.mem_singleton_self pn⟩
    have hz := PySem.sizeLine_eq
    refine ⟨_, pss_cons (ps_expr (L2H.pe_callH (E := fun _ => E0) GB (hr.mono l1) hcX (by rfl) gB kB bB (fun σ _ _ _ _ _ _ z => z.elim) (pa_cons (pv 0) pa_nil))) (pss_cons (ps_expr (L2H.pe_callH (E := fun _ => E0) GB (hr.mono l1) hcX (by rfl) gB kB bB (fun σ _ _ _ _ _ _ z => z.elim) (pa_cons (pv 1) pa_nil)))
      (pss_cons (ps_set (i := 2) scDi.nd rfl (.inl rfl) (L2H.pe_makeH T.made GI (hr.mono l2) hcX (by rfl) T.gC bI pass0 (pa_cons (pv 0) (pa_cons (pv 1) pa_nil))))
      (pss_cons (ps_set (i := 3) scDi.nd rfl (.inl rfl) (L2H.pe_callH (E := fun _ => E0) GC (hr.mono l3) hcX (by rfl) gC kC bC (fun σ _ _ _ _ _ _ z => z.elim) (pa_cons (pv 2) pa_nil)))
      (pss_one (ps_ret (pe_tup (pa_cons (pe_tup (pa_cons (L2H.pe_callH (E := fun _ => E0) GM (hr.mono l4) hcX (by rfl) gM kM bM (fun σ _ _ _ _ _ _ z => z.elim) (pa_cons (pv 0) pa_nil)) (pa_cons (L2H.pe_callH (E := fun _ => E0) GM (hr.mono l4) hcX (by rfl) gM kM bM (fun σ _ _ _ _ _ _ z => z.elim) (pa_cons (pv 1) pa_nil)) (pa_cons (L2H.pe_callH (E := fun _ => E0) GL (hr.mono l5) hcX (by rfl) gL kL bL (fun σ _ _ _ _ _ _ z => z.elim) (pa_cons (pv 2) (pa_cons (pv 3) pa_nil))) pa_nil)))) (pa_cons (pv 3) pa_nil)))))))), ?_⟩
    refine ⟨_, rfl, old, rfl, lo, _, rfl, [], rfl, Nat.zero_le _, _, rfl, _, rfl, ?_⟩
    intro x dx nx nd ne
    refine ⟨x, dx, old, rfl, upd_same, fun H1 k1' hRe => ⟨rfl, ?_⟩⟩
    have s1 := make_same nx nd k1'
    dsimp only [gName]
    refine ⟨_, rfl, x, old, rfl, hRe, fun H2 pc us s2 npc hpc => ?_⟩
    have s12 := s1.trans s2
    dsimp only [gName]
    refine ⟨_, rfl, old, rfl, ko, lo, fun H3 a s3 na hma => ?_⟩
    refine ⟨_, rfl, [], rfl, fun k m => (by cases m), Nat.zero_le _, fun H4 b s4 nb hmb => ?_⟩
    have hma := s4 _ _ hma
    have s24 := s3.trans s4
    refine ⟨_, rfl, _, rfl, x, pc, old, rfl, (hRe.same s2).same s24, fun H5 r s5 nr hrw => ?_⟩
    have hma := s5 _ _ hma
    have hmb := s5 _ _ hmb
    have s15 := (s12.trans s24).trans s5
    refine ⟨(by show 3 ≤ sizeLine; omega), fun d nd => ?_⟩
    have s6 := same_upd (o := .tup [.ref a, .ref b, .ref r]) nd
    have hd6 : (upd H5 d (.tup [.ref a, .ref b, .ref r])) d = some (.tup [.ref a, .ref b, .ref r]) := upd_same
    have s16 := s15.trans s6
    have hma := s6 _ _ hma
    have hmb := s6 _ _ hmb
    have hrw := s6 _ _ hrw
    generalize upd H5 d (.tup [.ref a, .ref b, .ref r]) = H6 at *
    refine ⟨_, rfl, (by show 2 ≤ sizeLine; omega), fun t nt => ?_⟩
    have s7 := same_upd (o := .tup [.ref d, .ref pc]) nt
    exact fin _ t d pc ⟨a, b, r⟩ (s16.trans s7) (none_back s16 nt) upd_same ⟨s7 _ _ hd6, s7 _ _ hma, s7 _ _ hmb, [], s7 _ _ hrw, .nil⟩
def spRf0 : Sp := fun vs H Q _ => ∃ (r : Addr), vs = [.ref r] ∧ H r = some (.lst []) ∧ ∀ H' q, Same H H' → H q = none → H' q = some (.lst []) → Q (.ref q) H'
theorem okh_rf0 {f : Addr} {fd : FuncData} {j : Nat} (F : Fun K "row_from" "row_from" sRowFr f fd) : L2H.FnH P w K mg base CX0 (j + 1) f fd ["origins"] spRf0 := by
  refine okH F scRf (fun vs H Q E h => ?_) (fun cdv A outer s H vs Q E pn hot hr h => ?_)
  · obtain ⟨r, rfl, _⟩ := h
    rfl
  · obtain ⟨r, rfl, hr0, q⟩ := h
    have hcX : L2H.HotC (L2H.cxH CX0 P w K mg base NRf "row_from" (defScope sRowFr) f cdv A outer s H E pn) := ⟨pn, hot, List.mem_singleton_self pn⟩
    refine ⟨_, pss_cons (ps_set (i := 1) scRf.nd rfl (.inl rfl) (pe_lst pa_nil))
      (pss_cons (L2H.ps_forH (passes_of rfl) hcX (L2H.pih_of (L2H.pig_list0 (pv 0))) (pg_name (i := 2) scRf.nd rfl (.inl rfl)) (pss_one ps_never))
      (pss_one (ps_ret (pv 1)))), ?_⟩
    refine ⟨Nat.zero_le _, fun D nD => ?_⟩
    have s1 := same_upd (o := .lst []) nD
    have hr1 : SqL K (upd H D (.lst [])) r [] := .inl (.inl (s1 _ _ hr0))
    refine ⟨_, rfl, r, rfl, hr1, ?_⟩
    refine ⟨fun i m σ H' => i = 0 ∧ (∃ y2 y3 y4 y5, σ = [some (.ref r), some (.ref D), y2, y3, y4, y5]) ∧ H' = upd H D (.lst []), ⟨0, rfl, ⟨_, _, _, _, rfl⟩, rfl⟩, ?_⟩
    rintro i m σ H' ⟨rfl, ⟨y2, y3, y4, y5, rfl⟩, rfl⟩
    exact .inl ⟨hr1, _, rfl, q _ D s1 nD upd_same⟩
def spJo0 : Sp := fun vs H Q _ => ∃ (t1 t2 : Addr) (x1 x2 : DfA) (d1 d2 : Dfv), vs = [.ref t1, .ref t2] ∧ DfAt H t1 x1 d1 ∧ DfAt H t2 x2 d2 ∧ d1.Low ∧ d2.Low ∧ d1.ok = true ∧ d2.ok = true ∧ d1.new = d2.old ∧ d2.row = [] ∧
  ∀ H' t' x', Same H H' → H t' = none → DfAt H' t' x' ⟨d1.old, d2.new, []⟩ → Q (.ref t') H'
theorem okh_jo0 {f fR fF fG : Addr} {fd fdR fdF fdG : FuncData} {j k1 k2 k3 : Nat} (F : Fun K "joined" "joined" sJoined f fd)
    (GR : L2H.FnH P w K mg base CX0 k1 fR fdR ["told"] spRefD) (bR : Binds K fdR ["told"] []) (kR : PySem.W.keepIn K (.ref fR) = true) (gR : mg "refuse_difference" = some (.ref fR)) (l1 : k1 ≤ j)
    (GF : L2H.FnH P w K mg base CX0 k2 fF fdF ["origins"] spRf0) (bF : Binds K fdF ["origins"] []) (kF : PySem.W.keepIn K (.ref fF) = true) (gF : mg "row_from" = some (.ref fF)) (l2 : k2 ≤ j)
    (GG : L2H.FnH P w K mg base CX0 k3 fG fdG ["row"] spOr) (bG : Binds K fdG ["row"] []) (kG : PySem.W.keepIn K (.ref fG) = true) (gG : mg "origins_of" = some (.ref fG)) (l3 : k3 ≤ j) :
    L2H.FnH P w K mg base CX0 (j + 1) f fd ["first", "second"] spJo0 := by
  refine okH F scJo (fun vs H Q E h => ?_) (fun cdv A outer s H vs Q E pn hot hr h => ?_)
  · obtain ⟨t1, t2, x1, x2, d1, d2, rfl, _⟩ := h
    rfl
  · obtain ⟨t1, t2, x1, x2, d1, d2, rfl, hD1, hD2, hL1, hL2, hok1, hok2, emk, erow, fin⟩ := h
    have hcX : L2H.HotC (L2H.cxH CX0 P w K mg base NJo "joined" (defScope sJoined) f cdv A outer s H E pn) := ⟨pn, hot, List.mem_singleton_self pn⟩
    have hz := PySem.sizeLine_eq
    have hfit1 := of_decide_eq_true (show decide (fitR d1.old.1 0 d1.row = some d1.new.1) = true from hok1)
    have hfit2 := of_decide_eq_true (show decide (fitR d2.old.1 0 d2.row = some d2.new.1) = true from hok2)
    have hn1 := hL1.2.2.1
    have hn2 := hL2.2.2.1
    have hun := hr.un
    refine ⟨_, pss_cons (ps_expr (L2H.pe_callH (E := fun _ => E0) GR (hr.mono l1) hcX (by rfl) gR kR bR (fun σ _ _ _ _ _ _ z => z.elim) (pa_cons (pv 0) pa_nil))) (pss_cons (ps_expr (L2H.pe_callH (E := fun _ => E0) GR (hr.mono l1) hcX (by rfl) gR kR bR (fun σ _ _ _ _ _ _ z => z.elim) (pa_cons (pv 1) pa_nil)))
      (pss_cons (ps_if (pt_cmpR (op_neD (by show (A.deeper (envOfC "joined" (defScope sJoined) s.heap.objs.size f cdv)).units + 64 < cLine; omega)) (pe_ix ix_tup (pv 0) pe_int (fun _ _ => rfl)) (pe_ix ix_tup (pv 1) pe_int (fun _ _ => rfl)) (nomark _)) (pss_one ps_never) pss_nil)
      (pss_cons (ps_set (i := 2) scJo.nd rfl (.inr rfl) (L2H.pe_callH (E := fun _ => E0) GG (hr.mono l3) hcX (by rfl) gG kG bG (fun σ _ _ _ _ _ _ z => z.elim) (pa_cons (pe_ix ix_tup (pv 0) pe_int (fun _ _ => rfl)) pa_nil)))
      (pss_cons (L2H.ps_setLcG (i := 3) (own := [("one", 4)]) (g := gName 4) (tt := tYes) hcX scJo.nd rfl rfl (sw_true rfl rfl rfl (by decide +kernel))
          (L2H.pig_list0 (L2H.pe_callH (E := fun _ => E0) GG (hr.mono l3) hcX (by rfl) gG kG bG (fun σ _ _ _ _ _ _ z => z.elim) (pa_cons (pe_ix ix_tup (pv 1) pe_int (fun _ _ => rfl)) pa_nil))) (blkOk_by (N := NJo) (sc := defScope sJoined) (by decide +kernel)) (fun _ _ _ _ _ => L2H.pgg_of (pg_name (i := 4) scJo.nd rfl (.inl rfl))) (fun _ _ _ _ _ => pts_nil)
          (fun _ _ _ _ _ => L2H.pe_never))
      (pss_one (ps_ret (pe_tup (pa_cons (pe_ix ix_tup (pv 0) pe_int (fun _ _ => rfl)) (pa_cons (pe_ix ix_tup (pv 1) pe_int (fun _ _ => rfl)) (pa_cons (L2H.pe_callH (E := fun _ => E0) GF (hr.mono l2) hcX (by rfl) gF kF bF (fun σ _ _ _ _ _ _ z => z.elim) (pa_cons (pv 3) pa_nil)) pa_nil)))))))))), ?_⟩
    refine ⟨_, rfl, t1, x1, d1, rfl, hD1, hL1, hok1, _, rfl, t2, x2, d2, rfl, hD2, hL2, hok2, ?_⟩
    refine ⟨_, rfl, t1, _, 1, _, rfl, rfl, .inl (.inl hD1.1), rfl, _, rfl, t2, _, 0, _, rfl, rfl, .inl (.inl hD2.1), rfl, _, _, dp_mk hD1.2.2.1, dp_mk hD2.2.1, sh_mk _, sh_mk _, ?_⟩
    rw [eqv_mk, decide_eq_true emk]
    refine ⟨_, rfl, iteF ?_⟩
    refine ⟨_, rfl, t1, _, 2, _, rfl, rfl, .inl (.inl hD1.1), rfl, x1.r, d1.row, d1.old.1, d1.new.1, rfl, hD1.2.2.2, hfit1, hn1, fun H1 p s1 np hOs1 => ?_⟩
    have hD2' := hD2.same s1
    dsimp only [gName]
    refine ⟨_, rfl, t2, _, 2, _, rfl, rfl, .inl (.inl hD2'.1), rfl, x2.r, d2.row, d2.old.1, d2.new.1, rfl, hD2'.2.2.2, hfit2, hn2, fun H2 q s2 nq hOs2 => ?_⟩
    have s12 := s1.trans s2
    obtain ⟨us2, hq, hus2⟩ := hOs2
    rw [erow] at hus2
    have eu : us2 = [] := List.eq_nil_of_length_eq_zero hus2.length.symm
    subst eu
    have hqS : SqL K H2 q [] := .inl (.inl hq)
    refine ⟨q, rfl, hqS, fun B nB => ?_⟩
    have s5 := same_upd (o := .lst []) nB
    refine ⟨fun i m H' => i = 0 ∧ H' = upd H2 B (.lst []), ⟨0, rfl, rfl⟩, ?_⟩
    rintro i m H' ⟨rfl, rfl⟩
    refine .inl ⟨s5.seq hqS, ?_⟩
    have s15 := s12.trans s5
    have hD1'' := hD1.same s15
    have hD2'' := hD2.same s15
    dsimp only [gName]
    refine ⟨_, rfl, t1, _, 0, _, rfl, rfl, .inl (.inl hD1''.1), rfl, _, rfl, t2, _, 1, _, rfl, rfl, .inl (.inl hD2''.1), rfl, _, rfl, B, rfl, upd_same, fun H6 r s6 nr hRw => ?_⟩
    have s16 := s15.trans s6
    refine ⟨(by show 3 ≤ sizeLine; omega), fun t' nt => ?_⟩
    have s7 := same_upd (o := .tup [.ref x1.a, .ref x2.b, .ref r]) nt
    have s17 := s16.trans s7
    exact fin _ t' ⟨x1.a, x2.b, r⟩ s17 (none_back s16 nt) ⟨upd_same, s17 _ _ hD1.2.1, s17 _ _ hD2.2.2.1, [], s7 _ _ hRw, .nil⟩
end
end K0

namespace K0
open PySem PySem.Spec PyProof.Rows L2
/-! ### _law_all_right -/
abbrev NAl : List Str := ["_law_script", "_law_k", "_law_old", "_law_new", "_law_row", "_law_sources", "_law_made", "_law_first", "_law_data_here", "_law_late_data", "_law_late", "_law_second", "_law_last", "_law_other", "_law_due", "_law_lowest", "_law_mine", "_law_at", "_law_one"]
theorem scAl : FnScope NAl ["_law_script"] (defScope sAll) := ⟨rfl, rfl, rfl, by decide +kernel, rfl, by decide +kernel, by decide +kernel⟩
theorem takes0N {X : Cx} : L2N.Takes X (fun _ _ _ _ => False) := fun _ _ z => by
  obtain ⟨_, _, _, _, _, _, _, _, _, _, _, _, _, _, _, _, q⟩ := z
  exact q.elim
theorem neDK {X : Cx} (K : PySem.W.Frag) (hu : X.A.units + 64 < cLine) (h : X.K = K := by rfl) : OpR X (compareOp .NotEq) (rNeD K) := by subst h; exact op_neD hu
def rSeqLen (K : PySem.W.Frag) : List V → Hp → VK → Prop := fun xs H Q => ∃ p ys, xs = [.ref p] ∧ (SqL K H p ys ∨ SqT K H p ys) ∧ Q (.int ys.length) H
theorem lenSK {X : Cx} (K : PySem.W.Frag) (h : X.K = K := by rfl) : CallR X (.builtin "len") (rSeqLen K) := by subst h; exact call_len_seq
theorem hot_suite {X : Cx} {a : Addr} {oe : Obj} {cls : Value} {d : Option Addr} {pn : List (Addr × Obj)} (hz : L2N.Zn cls d oe) (hf : ∃ vs, oe.data = .fields vs) : L2H.HotC (X.suite a ((a, oe) :: pn)) := ⟨(a, oe), ⟨rfl, by obtain ⟨fv, e⟩ := hf; exact ⟨fv, e, hz.2.2 fv e⟩⟩, List.mem_cons_self ..⟩
def dfOf (old : List Nat) (row : List Di) : Dfv := ⟨(old.length, mrk old), ((makeB (orig row) old).length, mrk (makeB (orig row) old)), row⟩
/-- bytes, and a row over them -/
structure LwP (old : List Nat) (row : List Di) : Prop where
  ko : ∀ k ∈ old, k < 256
  lo : old.length ≤ 900
  fit : ∃ n, fitR old.length 0 row = some n ∧ n ≤ 900
  rl : row.length ≤ 2000
theorem LwP.og {old : List Nat} {row : List Di} (h : LwP old row) : fitR old.length 0 row = some (orig row).length ∧ (orig row).length ≤ 900 ∧ ∀ o ∈ orig row, OgOk old.length o := by
  obtain ⟨n, h1, h2⟩ := h.fit
  obtain ⟨a, b⟩ := orig_ok (acc := []) (fun o z => by cases z) h1
  have a : (orig row).length = n := a
  exact ⟨by rw [a]; exact h1, by omega, b⟩
theorem LwP.lt {old : List Nat} {row : List Di} (h : LwP old row) : ∀ k ∈ makeB (orig row) old, k < 256 := makeB_lt h.ko h.og.2.2
theorem LwP.low {old : List Nat} {row : List Di} (h : LwP old row) : (dfOf old row).Low := ⟨by show old.length ≤ 2000; have := h.lo; omega, mrk_lt _, by show (makeB (orig row) old).length ≤ 2000; rw [makeB_len]; have := h.og.2.1; omega, mrk_lt _, h.rl⟩
theorem LwP.ok {old : List Nat} {row : List Di} (h : LwP old row) : (dfOf old row).ok = true := decide_eq_true (by show fitR old.length 0 row = some (makeB (orig row) old).length; rw [makeB_len]; exact h.og.1)
theorem dfOf_eq {old : List Nat} {row row2 : List Di} (h : makeB (orig row) old = makeB (orig row2) old) : (⟨(dfOf old row).old, (dfOf old row).new, row2⟩ : Dfv) = dfOf old row2 := by
  show (⟨(old.length, mrk old), ((makeB (orig row) old).length, mrk (makeB (orig row) old)), row2⟩ : Dfv) = _
  rw [h]
  rfl
theorem LwP.flat {old : List Nat} {os : List Og} (ko : ∀ k ∈ old, k < 256) (lo : old.length ≤ 900) (h : ∀ o ∈ os, OgOk old.length o) (hl : os.length ≤ 900) : LwP old (flatF os) := ⟨ko, lo, ⟨_, flat_fit h, hl⟩, by have := flat_len os []; rw [List.length_nil, Nat.zero_add] at this; exact Nat.le_trans this (by omega)⟩
structure LwA (H : Hp) (po pn pr ps pm tf : Addr) (x1 : DfA) (old new : List Nat) (row : List Di) : Prop where
  ho : H po = some (.lst (bys old))
  hn : H pn = some (.lst (bys new))
  hr : RwAt H pr row
  hs : H ps = some (.lst (ogV (orig row)))
  hm : H pm = some (.lst (bys (makeB (orig row) old)))
  hf : DfAt H tf x1 (dfOf old row)
theorem LwA.same {H H' : Hp} {po pn pr ps pm tf : Addr} {x1 : DfA} {old new : List Nat} {row : List Di} (h : LwA H po pn pr ps pm tf x1 old new row) (s : Same H H') : LwA H' po pn pr ps pm tf x1 old new row := ⟨s _ _ h.ho, s _ _ h.hn, h.hr.same s, s _ _ h.hs, s _ _ h.hm, h.hf.same s⟩
theorem og_at {L : List V} {p : Nat} {v : V} (h : L[p]? = some v) : atI L (-1 - ogI (.o p)) = some v := by
  show atI L (-1 - (-1 - (p : Int))) = _
  rw [show -1 - (-1 - (p : Int)) = (p : Int) by omega]
  exact atI_nat h
theorem makeB_V (os : List Og) (old : List Nat) : bys (makeB os old) = os.map fun o => V.int ((byteO old o : Nat) : Int) := by
  unfold bys makeB
  rw [List.map_map, List.map_map]
  rfl
theorem join_V (os os1 : List Og) : ogV (os.map (joinO os1)) = os.map fun o => V.int (ogI (joinO os1 o)) := by
  unfold ogV
  rw [List.map_map]
  rfl
theorem mk_next (a : Nat) : ((a : Int) + 1).fmod 65521 = (((a + 1) % 65521 : Nat) : Int) := by
  rw [Int.fmod_eq_emod_of_nonneg _ (by omega)]
  omega
theorem bys_getV {ks : List Nat} {p : Nat} (h : p < ks.length) : (bys ks)[p]? = some (.int ((ks.getD p 0 : Nat) : Int)) := by
  rw [bys_eq, List.getElem?_map, List.getElem?_eq_getElem h, List.getD_eq_getElem?_getD, List.getElem?_eq_getElem h]
  rfl
theorem LwP.flatP {old : List Nat} {row : List Di} (h : LwP old row) : LwP old (flatF (orig row)) := LwP.flat h.ko h.lo h.og.2.2 h.og.2.1
theorem LwP.flatE {old : List Nat} {row : List Di} (h : LwP old row) : (⟨(dfOf old row).old, (dfOf old row).new, flatF (orig row)⟩ : Dfv) = dfOf old (flatF (orig row)) := dfOf_eq (by rw [flat_orig h.og.2.2])
theorem LwP.flatM {old : List Nat} {row : List Di} (h : LwP old row) : makeB (orig (flatF (orig row))) old = makeB (orig row) old := by rw [flat_orig h.og.2.2]
theorem cut2 (x y z : V) : cutV [x, y, z] none (some 2) = [x, y] := rfl
theorem jn_at {os : List Og} {p : Nat} (h : p < os.length) : (ogV os)[p]? = some (.int (ogI (joinO os (.o p)))) := by
  unfold ogV
  rw [List.getElem?_map, List.getElem?_eq_getElem h]
  show some (V.int (ogI os[p])) = some (.int (ogI (os.getD p ogD)))
  rw [List.getD_eq_getElem?_getD, List.getElem?_eq_getElem h]
  rfl
theorem te_mid {te : TE} {σ : L2.St} {H : Hp} {Q : VK} (Mid : V → Hp → Prop) (ht : ∀ N : VK, (∀ v H', Mid v H' → N v H') → te σ H N) (hr : ∀ v H', Mid v H' → Q v H') : te σ H Q := ht Q hr
section
variable {P : Program} {w : World} {K : PySem.W.Frag} {mg : Str → Option Value} {base : Heap} {CD : Addr}
def spAl (K : PySem.W.Frag) : Sp := fun vs H Q _ => ∃ (p : Addr) (xs : List Int), vs = [.ref p] ∧ SqL K H p (xs.map V.int) ∧ ∀ H', Q (.bl true) H'
theorem ok_al (TB : BdTxt K mg CD) (eT : PySem.W.exmOne K (.ref CD) (.ref CD) = some true) {f fPa fC fAn fLg fLm fOh fHx fFl fLf fPo fJo fDi : Addr} {fd fdPa fdC fdAn fdLg fdLm fdOh fdHx fdFl fdLf fdPo fdJo fdDi : FuncData} {j k1 k2 k3 k4 k5 k6 k7 k8 k9 k10 k11 k12 k13 k14 k15 k16 : Nat} (F : Fun K "_law_all_right" "_law_all_right" sAll f fd)
    (GPa : FnOk P w K mg base CX0 k1 fPa fdPa ["_law_script", "_law_at"] (spPa K)) (bPa : Binds K fdPa ["_law_script", "_law_at"] []) (kPa : PySem.W.keepIn K (.ref fPa) = true) (gPa : mg "_law_pair" = some (.ref fPa)) (l1 : k1 ≤ j)
    (GC : FnOk P w K mg base CX0 k2 fC fdC ["_law_script", "_law_k"] (K0.spCell K)) (bC : Binds K fdC ["_law_script", "_law_k"] []) (kC : PySem.W.keepIn K (.ref fC) = true) (gC : mg "_law_cell_at" = some (.ref fC)) (l2 : k2 ≤ j)
    (GAn : FnOk P w K mg base CX0 k3 fAn fdAn ["_law_script", "_law_at", "_law_size"] (spAn K)) (bAn : Binds K fdAn ["_law_script", "_law_at", "_law_size"] []) (kAn : PySem.W.keepIn K (.ref fAn) = true) (gAn : mg "_law_any" = some (.ref fAn)) (l3 : k3 ≤ j)
    (GLg : FnOk P w K mg base CX0 k4 fLg fdLg ["_law_row", "_law_size"] spLg) (bLg : Binds K fdLg ["_law_row", "_law_size"] []) (kLg : PySem.W.keepIn K (.ref fLg) = true) (gLg : mg "_law_origins" = some (.ref fLg)) (l4 : k4 ≤ j)
    (GLm : FnOk P w K mg base CX0 k5 fLm fdLm ["_law_numbers_here"] spLm) (bLm : Binds K fdLm ["_law_numbers_here"] []) (kLm : PySem.W.keepIn K (.ref fLm) = true) (gLm : mg "_law_mark" = some (.ref fLm)) (l5 : k5 ≤ j)
    (GOh : FnOk P w K mg base CX0 k6 fOh fdOh ["text"] spOfHex) (bOh : Binds K fdOh ["text"] []) (kOh : PySem.W.keepIn K (.ref fOh) = true) (gOh : mg "of_hex" = some (.ref fOh)) (l6 : k6 ≤ j)
    (GHx : FnOk P w K mg base CX0 k7 fHx fdHx ["_law_numbers_here"] spHex) (bHx : Binds K fdHx ["_law_numbers_here"] []) (kHx : PySem.W.keepIn K (.ref fHx) = true) (gHx : mg "_law_hex" = some (.ref fHx)) (l7 : k7 ≤ j)
    (GFl : FnOk P w K mg base CX0 k8 fFl fdFl ["difference"] spFl) (bFl : Binds K fdFl ["difference"] []) (kFl : PySem.W.keepIn K (.ref fFl) = true) (gFl : mg "flat" = some (.ref fFl)) (l8 : k8 ≤ j)
    (GLf : FnOk P w K mg base CX0 k9 fLf fdLf ["_law_sources"] spLf) (bLf : Binds K fdLf ["_law_sources"] []) (kLf : PySem.W.keepIn K (.ref fLf) = true) (gLf : mg "_law_flat_row" = some (.ref fLf)) (l9 : k9 ≤ j)
    (GPo : FnOk P w K mg base CX0 k10 fPo fdPo ["old", "difference"] spPo) (bPo : Binds K fdPo ["old", "difference"] []) (kPo : PySem.W.keepIn K (.ref fPo) = true) (gPo : mg "put_on" = some (.ref fPo)) (l10 : k10 ≤ j)
    (GJo : FnOk P w K mg base CX0 k11 fJo fdJo ["first", "second"] spJo) (bJo : Binds K fdJo ["first", "second"] []) (kJo : PySem.W.keepIn K (.ref fJo) = true) (gJo : mg "joined" = some (.ref fJo)) (l11 : k11 ≤ j)
    (GDi : FnOk P w K mg base CX0 k12 fDi fdDi ["old", "new"] spDi) (bDi : Binds K fdDi ["old", "new"] []) (kDi : PySem.W.keepIn K (.ref fDi) = true) (gDi : mg "difference" = some (.ref fDi)) (l12 : k12 ≤ j)
    (GJN : FnOk P w K mg base (L2N.CX P w) k13 fJo fdJo ["first", "second"] (spJoN CD)) (l13 : k13 ≤ j)
    (GJH : L2H.FnH P w K mg base CX0 k14 fJo fdJo ["first", "second"] spJo0) (l14 : k14 ≤ j)
    (GDH : L2H.FnH P w K mg base CX0 k15 fDi fdDi ["old", "new"] spDi0) (l15 : k15 ≤ j)
    (GOH : L2H.FnH P w K mg base CX0 k16 fOh fdOh ["text"] spOfHex0) (l16 : k16 ≤ j)
    (m1 : mg "range" = none) (m2 : mg "len" = none) (m3 : mg "list" = none) :
    FnOk P w K mg base CX0 (j + 1) f fd ["_law_script"] (spAl K) := by
  refine F.ok scAl (fun vs H Q E h => ?_) (fun cdv A outer s H vs Q E hr h => ?_)
  · obtain ⟨p, xs, rfl, _⟩ := h
    rfl
  · obtain ⟨p, xs, rfl, hp, q⟩ := h
    have hz := PySem.sizeLine_eq
    refine ⟨_, pss_cons (ps_for PassesOwn.never rfl (pi_range1 (by rfl) m1 (pa_cons pe_int pa_nil)) (pg_name (i := 1) scAl.nd rfl (.inl rfl))
        (pss_cons (ps_asg (pe_call GPa (hr.mono l1) (by rfl) gPa kPa bPa .nil pass0 (pa_cons (pv 0) (pa_cons (pe_op op_mul pe_int (pv 1)) pa_nil))) (pg_tup (by rfl) (pgs_cons (pg_name (i := 2) scAl.nd rfl (.inr rfl)) (pgs_cons (pg_name (i := 3) scAl.nd rfl (.inl rfl)) pgs_nil))))
        (pss_cons (ps_if (pt_cmpR op_eq (pe_op op_modN (pe_call GC (hr.mono l2) (by rfl) gC kC bC .nil pass0 (pa_cons (pv 0) (pa_cons (pe_op op_add (pe_op op_mul pe_int (pv 1)) pe_int) pa_nil))) pe_int) pe_int (nomark _))
          (pss_one (ps_set (i := 2) scAl.nd rfl (.inr rfl) (pe_lc (own := [("_law_at", 17)]) (g := gName 17) (tt := tYes) rfl scAl.nd (pi_range1 (by rfl) m1 (pa_cons pe_int pa_nil)) (blkOk_by (N := NAl) (sc := defScope sAll) (by decide +kernel)) (fun _ _ _ _ _ => pg_name (i := 17) scAl.nd rfl (.inl rfl)) (fun _ _ _ _ _ => pts_nil)
            (fun _ _ _ _ _ => pe_op op_modN (pe_op op_mul (pv 17) pe_int) pe_int)))) pss_nil)
        (pss_cons (ps_set (i := 4) scAl.nd rfl (.inl rfl) (pe_call GAn (hr.mono l3) (by rfl) gAn kAn bAn .nil pass0 (pa_cons (pv 0) (pa_cons (pe_op op_add (pe_op op_mul pe_int (pv 1)) pe_int) (pa_cons (pe_callB call_len_seq (by rfl) m2 PySem.boot_len (pa_cons (pv 2) pa_nil)) pa_nil)))))
        (pss_cons (ps_set (i := 5) scAl.nd rfl (.inr rfl) (pe_call GLg (hr.mono l4) (by rfl) gLg kLg bLg .nil pass0 (pa_cons (pv 4) (pa_cons (pe_callB call_len_seq (by rfl) m2 PySem.boot_len (pa_cons (pv 2) pa_nil)) pa_nil))))
        (pss_cons (ps_set (i := 6) scAl.nd rfl (.inr rfl) (pe_lc (own := [("_law_one", 18)]) (g := gName 18) (tt := tYes) rfl scAl.nd (pi_list (pv 5)) (blkOk_by (N := NAl) (sc := defScope sAll) (by decide +kernel)) (fun _ _ _ _ _ => pg_name (i := 18) scAl.nd rfl (.inl rfl)) (fun _ _ _ _ _ => pts_nil)
            (fun _ _ _ _ _ => pe_ifExp (pt_cmpR op_ge (pv 18) pe_int (nomark _)) (pv 18) (pe_ix (ixL K) (pv 2) (pe_op op_sub (pe_un un_neg pe_int) (pv 18)) (fun _ _ => rfl)))))
        (pss_cons (ps_set (i := 7) scAl.nd rfl (.inl rfl) (pe_tup (pa_cons (pe_call GLm (hr.mono l5) (by rfl) gLm kLm bLm .nil pass0 (pa_cons (pv 2) pa_nil)) (pa_cons (pe_call GLm (hr.mono l5) (by rfl) gLm kLm bLm .nil pass0 (pa_cons (pv 6) pa_nil)) (pa_cons (pv 4) pa_nil)))))
        (pss_cons (ps_par (i := 8) (j := 9) rfl scAl.nd rfl rfl (by decide) rfl rfl (pa_cons (pe_call GOh (hr.mono l6) (by rfl) gOh kOh bOh .nil pass0 (pa_cons (pe_call GHx (hr.mono l7) (by rfl) gHx kHx bHx .nil pass0 (pa_cons (pv 2) pa_nil)) pa_nil)) (pa_cons (pe_call GOh (hr.mono l6) (by rfl) gOh kOh bOh .nil pass0 (pa_cons (pe_call GHx (hr.mono l7) (by rfl) gHx kHx bHx .nil pass0 (pa_cons (pv 6) pa_nil)) pa_nil)) pa_nil)) (by rfl))
        (pss_cons (ps_if (PW.pt (pw_or (pt_cmpR (op_neD hr.units) (pe_call GFl (hr.mono l8) (by rfl) gFl kFl bFl .nil pass0 (pa_cons (pv 7) pa_nil)) (pe_op op_catT (pe_slice sl_tup (pv 7) po_none (po_some pe_int)) (pe_tup (pa_cons (pe_call GLf (hr.mono l9) (by rfl) gLf kLf bLf .nil pass0 (pa_cons (pv 5) pa_nil)) pa_nil))) (nomark _))
            (pw_or1 (pt_cmpR op_ne (pe_call GPo (hr.mono l10) (by rfl) gPo kPo bPo .nil pass0 (pa_cons (pv 8) (pa_cons (pe_call GFl (hr.mono l8) (by rfl) gFl kFl bFl .nil pass0 (pa_cons (pv 7) pa_nil)) pa_nil))) (pv 9) (nomark _))))) (pss_one (ps_ret pe_bl)) pss_nil)
        (pss_cons (ps_if (pt_cmpR op_gt (pe_callB call_len_seq (by rfl) m2 PySem.boot_len (pa_cons (pv 6) pa_nil)) pe_int (nomark _))
          (pss_one (ps_set (i := 10) scAl.nd rfl (.inl rfl) (pe_call GAn (hr.mono l3) (by rfl) gAn kAn bAn .nil pass0 (pa_cons (pv 0) (pa_cons (pe_op op_add (pe_op op_mul pe_int (pv 1)) pe_int) (pa_cons (pe_callB call_len_seq (by rfl) m2 PySem.boot_len (pa_cons (pv 6) pa_nil)) pa_nil))))))
          (pss_one (ps_set (i := 10) scAl.nd rfl (.inl rfl) (pe_lst (pa_cons pe_int pa_nil)))))
        (pss_cons (ps_set (i := 11) scAl.nd rfl (.inl rfl) (pe_call GLg (hr.mono l4) (by rfl) gLg kLg bLg .nil pass0 (pa_cons (pv 10) (pa_cons (pe_callB call_len_seq (by rfl) m2 PySem.boot_len (pa_cons (pv 6) pa_nil)) pa_nil))))
        (pss_cons (ps_setLc (i := 12) (own := [("_law_one", 18)]) (g := gName 18) (tt := tYes) rfl scAl.nd rfl rfl (sw_true rfl rfl rfl (by decide +kernel)) (pi_list (pv 11)) (blkOk_by (N := NAl) (sc := defScope sAll) (by decide +kernel)) (fun _ _ _ _ _ => pg_name (i := 18) scAl.nd rfl (.inl rfl)) (fun _ _ _ _ _ => pts_nil)
            (fun _ _ _ _ _ => pe_ifExp (pt_cmpR op_ge (pv 18) pe_int (nomark _)) (pv 18) (pe_ix (ixL K) (pv 6) (pe_op op_sub (pe_un un_neg pe_int) (pv 18)) (fun _ _ => rfl))))
        (pss_cons (ps_set (i := 13) scAl.nd rfl (.inl rfl) (pe_tup (pa_cons (pe_call GLm (hr.mono l5) (by rfl) gLm kLm bLm .nil pass0 (pa_cons (pv 6) pa_nil)) (pa_cons (pe_call GLm (hr.mono l5) (by rfl) gLm kLm bLm .nil pass0 (pa_cons (pv 12) pa_nil)) (pa_cons (pv 10) pa_nil)))))
        (pss_cons (ps_setLc (i := 14) (own := [("_law_one", 18)]) (g := gName 18) (tt := tYes) rfl scAl.nd rfl rfl (sw_true rfl rfl rfl (by decide +kernel)) (pi_list (pv 11)) (blkOk_by (N := NAl) (sc := defScope sAll) (by decide +kernel)) (fun _ _ _ _ _ => pg_name (i := 18) scAl.nd rfl (.inl rfl)) (fun _ _ _ _ _ => pts_nil)
            (fun _ _ _ _ _ => pe_ifExp (pt_cmpR op_ge (pv 18) pe_int (nomark _)) (pv 18) (pe_ix (ixL K) (pv 5) (pe_op op_sub (pe_un un_neg pe_int) (pv 18)) (fun _ _ => rfl))))
        (pss_cons (ps_if (pt_cmpR (op_neD hr.units) (pe_call GJo (hr.mono l11) (by rfl) gJo kJo bJo .nil pass0 (pa_cons (pv 7) (pa_cons (pv 13) pa_nil))) (pe_tup (pa_cons (pe_ix ix_tup (pv 7) pe_int (fun _ _ => rfl)) (pa_cons (pe_ix ix_tup (pv 13) pe_int (fun _ _ => rfl)) (pa_cons (pe_call GLf (hr.mono l9) (by rfl) gLf kLf bLf .nil pass0 (pa_cons (pv 14) pa_nil)) pa_nil)))) (nomark _)) (pss_one (ps_ret pe_bl)) pss_nil)
        (pss_cons (ps_if (pt_cmpR (op_neD hr.units) (pe_listOfB rfl (by rfl) m3 (pe_call GPo (hr.mono l10) (by rfl) gPo kPo bPo .nil pass0 (pa_cons (pe_call GOh (hr.mono l6) (by rfl) gOh kOh bOh .nil pass0 (pa_cons (pe_call GHx (hr.mono l7) (by rfl) gHx kHx bHx .nil pass0 (pa_cons (pv 2) pa_nil)) pa_nil)) (pa_cons (pe_call GJo (hr.mono l11) (by rfl) gJo kJo bJo .nil pass0 (pa_cons (pv 7) (pa_cons (pv 13) pa_nil))) pa_nil)))) (pv 12) (nomark _)) (pss_one (ps_ret pe_bl)) pss_nil)
        (pss_cons (ps_set (i := 15) scAl.nd rfl (.inl rfl) (pe_ix ix_tup (pe_call GDi (hr.mono l12) (by rfl) gDi kDi bDi .nil pass0 (pa_cons (pe_call GOh (hr.mono l6) (by rfl) gOh kOh bOh .nil pass0 (pa_cons (pe_call GHx (hr.mono l7) (by rfl) gHx kHx bHx .nil pass0 (pa_cons (pe_slice sl_list (pv 2) po_none (po_some pe_int)) pa_nil)) pa_nil)) (pa_cons (pe_call GOh (hr.mono l6) (by rfl) gOh kOh bOh .nil pass0 (pa_cons (pe_call GHx (hr.mono l7) (by rfl) gHx kHx bHx .nil pass0 (pa_cons (pv 3) pa_nil)) pa_nil)) pa_nil))) pe_int (fun _ _ => rfl)))
        (pss_cons (ps_set (i := 16) scAl.nd rfl (.inl rfl) (pe_call GLf (hr.mono l9) (by rfl) gLf kLf bLf .nil pass0 (pa_cons (pe_call GLg (hr.mono l4) (by rfl) gLg kLg bLg .nil pass0 (pa_cons (pe_ix ix_tup (pv 15) pe_int (fun _ _ => rfl)) (pa_cons (pe_callB call_len_seq (by rfl) m2 PySem.boot_len (pa_cons (pe_slice sl_list (pv 2) po_none (po_some pe_int)) pa_nil)) pa_nil))) pa_nil)))
        (pss_cons (ps_if (PW.pt (pw_or (pt_cmpR (op_neD hr.units) (pe_call GFl (hr.mono l8) (by rfl) gFl kFl bFl .nil pass0 (pa_cons (pv 15) pa_nil)) (pe_tup (pa_cons (pe_ix ix_tup (pv 15) pe_int (fun _ _ => rfl)) (pa_cons (pe_ix ix_tup (pv 15) pe_int (fun _ _ => rfl)) (pa_cons (pv 16) pa_nil)))) (nomark _))
            (pw_or1 (pt_cmpR (op_neD hr.units) (pe_call GFl (hr.mono l8) (by rfl) gFl kFl bFl .nil pass0 (pa_cons (pe_call GFl (hr.mono l8) (by rfl) gFl kFl bFl .nil pass0 (pa_cons (pv 15) pa_nil)) pa_nil)) (pe_call GFl (hr.mono l8) (by rfl) gFl kFl bFl .nil pass0 (pa_cons (pv 15) pa_nil)) (nomark _))))) (pss_one (ps_ret pe_bl)) pss_nil)
        (pss_one (L2N.ps_try_many (tb := _) (l := [(.ref CD, _)]) (Wout := fun _ _ _ _ => False) rfl rfl takes0N
          (fun W pn xe tk _ => pss_cons (ps_expr (pe_callS GJN (hr.mono l13) (by rfl) gJo kJo bJo (fun σ => L2N.passAt tk σ) (pa_cons (pv 7) (pa_cons (pe_tup (pa_cons (pe_tup (pa_cons (pe_ix (ixT K) (pe_ix (ixT K) (pv 7) pe_int (fun _ _ => rfl)) pe_int (fun _ _ => rfl)) (pa_cons (pe_op op_modN (pe_op op_add (pe_ix (ixT K) (pe_ix (ixT K) (pv 7) pe_int (fun _ _ => rfl)) pe_int (fun _ _ => rfl)) pe_int) pe_int) pa_nil)))
              (pa_cons (pe_ix (ixT K) (pv 7) pe_int (fun _ _ => rfl)) (pa_cons (pe_ifExp (pt_cmpR (neDK K hr.units) (pv 6) (pe_lst pa_nil) (nomark _)) (pe_lst (pa_cons (pe_tup (pa_cons pe_str (pa_cons pe_int (pa_cons pe_int pa_nil)))) pa_nil)) (pe_lst pa_nil)) pa_nil)))) pa_nil)))) (pss_one (ps_ret pe_bl)))
          (.cons ⟨rfl, by decide, Or.inl TB.gC⟩ (fun a oe cls d pn hz hf =>
            pss_one (ps_if (PW.pt (pw_and (pt_cmpR op_le (pe_callB (lenSK K) (by rfl) m2 PySem.boot_len (pa_cons (pv 6) pa_nil)) pe_int (nomark _)) (pw_and1 (pt_cmpR (neDK K hr.units) (pe_ix (ixT K) (L2H.pe_callH (E := fun _ => E0) GJH ⟨(hr.mono l14).dp, (hr.mono l14).un⟩ (hot_suite hz hf) (by rfl) gJo kJo bJo (fun σ _ _ _ _ _ _ z => z.elim) (pa_cons (pv 7)
              (pa_cons (pe_ix (ixT K) (L2H.pe_callH (E := fun _ => E0) GDH ⟨(hr.mono l15).dp, (hr.mono l15).un⟩ (hot_suite hz hf) (by rfl) gDi kDi bDi (fun σ _ _ _ _ _ _ z => z.elim) (pa_cons (pv 9) (pa_cons (L2H.pe_callH (E := fun _ => E0) GOH ⟨(hr.mono l16).dp, (hr.mono l16).un⟩ (hot_suite hz hf) (by rfl) gOh kOh bOh (fun σ _ _ _ _ _ _ z => z.elim) (pa_cons pe_str pa_nil)) pa_nil))) pe_int (fun _ _ => rfl)) pa_nil))) pe_int (fun _ _ => rfl)) (pe_lst pa_nil) (nomark _))))) (pss_one (ps_ret pe_bl)) pss_nil)) .nil))))))))))))))))))))))
      (pss_one (ps_ret pe_bl)), ?_⟩
--READ
    refine ⟨2, rfl, by decide, by decide, ?_⟩
    refine for_range (lo := 0) (n := 2) (fun i σ H' => ∃ (y1 y2 y3 y4 y5 y6 y7 y8 y9 y10 y11 y12 y13 y14 y15 y16 y17 y18 : Option V), σ = [some (.ref p), y1, y2, y3, y4, y5, y6, y7, y8, y9, y10, y11, y12, y13, y14, y15, y16, y17, y18] ∧ Same H H') ⟨_, _, _, _, _, _, _, _, _, _, _, _, _, _, _, _, _, _, rfl, Same.refl H⟩ (fun i σ H1 hi h => ?_) (fun σ H' h => q _)
    obtain ⟨y1, y2, y3, y4, y5, y6, y7, y8, y9, y10, y11, y12, y13, y14, y15, y16, y17, y18, rfl, sm1⟩ := h
    have hp1 := sm1.seq hp
    have e0 : (0 : Int) + (i : Int) = (i : Int) := by omega
    rw [e0]
    refine ⟨_, rfl, _, rfl, _, _, rfl, rfl, .inl ⟨by decide, by decide⟩, p, xs, 90 * i, by push_cast; rfl, hp1, by omega, fun H2 t po0 pn old0 new s2 nt ht hpo hpn npo npn hko hkn hlo hln => ?_⟩
    refine ⟨t, _, rfl, .inl (.inl ht), rfl, _, _, rfl, _, _, rfl, rfl, ?_⟩
    have hp2 := s2.seq hp1
    dsimp only [gName]
    obtain ⟨M, hM⟩ : ∃ M : L2.St → Hp → Prop, M = (fun σ' H' => ∃ (po : Addr) (old : List Nat), σ' = [some (.ref p), some (.int (i : Int)), some (.ref po), some (.ref pn), y4, y5, y6, y7, y8, y9, y10, y11, y12, y13, y14, y15, y16, y17, y18] ∧ Same H2 H' ∧ H' po = some (.lst (bys old)) ∧ (∀ k ∈ old, k < 256) ∧ old.length ≤ 300) := ⟨_, rfl⟩
    with_reducible refine seq_mid M (fun N hN => ?_) (fun σ3 H3 h => ?_)
    · refine ⟨_, rfl, _, rfl, _, _, rfl, rfl, .inl ⟨by decide, by decide⟩, _, _, rfl, rfl, p, xs, 90 * i + 40, by push_cast; rfl, hp2, by omega, fun H3 s3 => ?_⟩
      refine ⟨_, _, rfl, rfl, (by show (4 : Int) ≠ 0; decide), rfl, _, rfl, ite2 (fun e => ?_) (fun e => ?_)⟩
      · refine ⟨300, rfl, by decide, by decide, fun B nB => ?_⟩
        refine lc_range (lo := 0) (n := 300) (fun k H' => Same H3 H' ∧ H' B = some (.lst (bys ((List.range k).map fun a => a * 7 % 251)))) ⟨same_upd nB, upd_same⟩ (fun k H' hk h => ?_) (fun H' h => ?_)
        · obtain ⟨s4, hB⟩ := h
          refine ⟨rfl, yes ?_⟩
          refine ⟨_, rfl, _, _, rfl, rfl, .inl ⟨by omega, by omega⟩, _, _, rfl, rfl, (by show (251 : Int) ≠ 0; decide), _, hB, by rw [bys_len, List.length_map, List.length_range]; omega, same_put s4 nB, ?_⟩
          rw [upd_same, List.range_succ, List.map_append, ← bys_app]
          have e7 : ((0 + (k : Int)) * 7).fmod 251 = ((k * 7 % 251 : Nat) : Int) := by
            rw [Int.fmod_eq_emod_of_nonneg _ (by omega)]
            push_cast
            omega
          show some (HO.lst (_ ++ [V.int (((0 + (k : Int)) * 7).fmod 251)])) = _
          rw [e7]
          rfl
        · obtain ⟨s4, hB⟩ := h
          dsimp only [gName]
          refine hN _ _ ?_
          rw [hM]
          refine ⟨B, _, rfl, s3.trans s4, hB, fun k hk => ?_, by rw [List.length_map, List.length_range]; exact Nat.le_refl _⟩
          obtain ⟨a, _, rfl⟩ := List.mem_map.mp hk
          omega
      · refine hN _ _ ?_
        rw [hM]
        exact ⟨po0, old0, rfl, s3, s3 _ _ hpo, hko, by omega⟩
    rw [hM] at h
    obtain ⟨po, old, rfl, s3, hpo3, hko, hlo⟩ := h
    clear hM M hpo
    have hp3 := s3.seq hp2
    have hpn3 := s3 _ _ hpn
    have sm3 := (sm1.trans s2).trans s3
    refine ⟨_, rfl, _, rfl, _, _, rfl, rfl, .inl ⟨by decide, by decide⟩, _, _, rfl, rfl, _, rfl, po, _, rfl, .inl (.inl (.inl hpo3)), p, xs, 90 * i + 41, old.length, by rw [bys_len]; push_cast; rfl, hp3, by omega, by omega, fun H4 pr row n1 s4 npr hrw hrl hfit hn1 => ?_⟩
    have P1 : LwP old row := ⟨hko, by omega, ⟨n1, hfit, hn1⟩, by omega⟩
    obtain ⟨ofit, ol, oo⟩ := P1.og
    dsimp only [gName]
    have hpo4 := s4 _ _ hpo3
    have hpn4 := s4 _ _ hpn3
    refine ⟨_, rfl, _, rfl, po, _, rfl, .inl (.inl (.inl hpo4)), pr, row, old.length, _, by rw [bys_len]; rfl, hrw, ofit, by omega, fun H5 ps s5a nps hps => ?_⟩
    have hpo5 := s5a _ _ hpo4
    have hpn5 := s5a _ _ hpn4
    have hrw5 := hrw.same s5a
    dsimp only [gName]
    refine ⟨_, rfl, ps, rfl, ⟨_, .inl (.inl hps)⟩, fun B nB => ?_⟩
    refine lc_list (K := K) (a := ps) (xs := ogV (orig row)) (fun i H' => Same H5 H' ∧ H' B = some (.lst (((orig row).map (fun o => V.int ((byteO old o : Nat) : Int))).take i))) ⟨same_upd nB, by rw [upd_same]; rfl⟩ (fun i H' _ h => .inl (.inl (h.1 _ _ hps))) (fun i x' H' hx' h => ?_) (fun H' h => ?_)
    · obtain ⟨s5, hB⟩ := h
      have hi : i < (orig row).length := by have := (List.getElem?_eq_some_iff.mp hx').1; rw [ogV_len] at this; exact this
      have ex : x' = .int (ogI (orig row)[i]) := by
        unfold ogV at hx'
        rw [List.getElem?_map, List.getElem?_eq_getElem hi] at hx'
        exact (Option.some.inj hx').symm
      subst ex
      have eo : ((orig row).map (fun o => V.int ((byteO old o : Nat) : Int)))[i]? = some ((fun o => V.int ((byteO old o : Nat) : Int)) (orig row)[i]) := by rw [List.getElem?_map, List.getElem?_eq_getElem hi]; rfl
      rw [take_snocG eo]
      have hok := oo (orig row)[i] (List.getElem_mem hi)
      have hsz : (((orig row).map (fun o => V.int ((byteO old o : Nat) : Int))).take i).length < sizeLine := by
        rw [List.length_take, List.length_map]
        omega
      clear hx' eo
      generalize (orig row)[i] = o at *
      refine ⟨rfl, yes ?_⟩
      cases o with
      | b k =>
        exact ⟨_, rfl, _, _, rfl, rfl, _, rfl, iteC (decide_eq_true (show (0 : Int) ≤ (k : Int) by omega)) ⟨_, rfl, _, hB, hsz, same_put s5 nB, by rw [upd_same] <;> rfl⟩⟩
      | o pl =>
        refine ⟨_, rfl, _, _, rfl, rfl, _, rfl, ite2 (fun e => absurd (of_decide_eq_true e) (by show ¬ (0 : Int) ≤ -1 - (pl : Int); omega)) (fun _ => ?_)⟩
        exact ⟨_, rfl, 1, rfl, _, rfl, _, _, rfl, rfl, po, _, _, (fun o => V.int ((byteO old o : Nat) : Int)) (.o pl), rfl, rfl, .inl (.inl (s5 _ _ hpo5)), og_at (bys_getV hok), _, hB, hsz, same_put s5 nB, by rw [upd_same] <;> rfl⟩
    · obtain ⟨s5, hB⟩ := h
      rw [ogV_len, ← List.length_map (f := fun o => V.int ((byteO old o : Nat) : Int)) (as := (orig row)), List.take_length] at hB
      rw [← makeB_V] at hB
      obtain ⟨md, hmd⟩ : ∃ md, md = makeB (orig row) old := ⟨_, rfl⟩
      have hml : md.length = (orig row).length := by rw [hmd]; exact makeB_len _ _
      have hmk : ∀ k ∈ md, k < 256 := by rw [hmd]; exact P1.lt
      rw [← hmd] at hB
      dsimp only [gName]
      have hpo6 := s5 _ _ hpo5
      refine ⟨_, rfl, po, old, rfl, hpo6, hko, by omega, fun H6 a s6 na hma => ?_⟩
      refine ⟨_, rfl, B, md, rfl, s6 _ _ hB, hmk, by omega, fun H7 b s7 nb hmb => ?_⟩
      refine ⟨_, rfl, (by show 3 ≤ sizeLine; omega), fun tf ntf => ?_⟩
      have s8 := same_upd (o := .tup [.ref a, .ref b, .ref pr]) ntf
      have s58 := ((s5.trans s6).trans s7).trans s8
      have A8 : LwA (upd H7 tf (.tup [.ref a, .ref b, .ref pr])) po pn pr ps B tf ⟨a, b, pr⟩ old new row := ⟨s58 _ _ hpo5, s58 _ _ hpn5, hrw5.same s58, s58 _ _ hps, by rw [← hmd]; exact ((s6.trans s7).trans s8) _ _ hB, upd_same, (s7.trans s8) _ _ hma, by show MkAt _ b ((makeB (orig row) old).length, mrk (makeB (orig row) old)); rw [← hmd]; exact s8 _ _ hmb, hrw5.same s58⟩
      have sm8 : Same H (upd H7 tf (.tup [.ref a, .ref b, .ref pr])) := ((sm3.trans s4).trans s5a).trans s58
      clear s8 s58 hB hps hma hmb hrw5 hpo5 hpn5 hpo6 hpo4 hpn4 hrw hpo3 hpn3 hpn
      generalize upd H7 tf (.tup [.ref a, .ref b, .ref pr]) = H8 at *
      dsimp only [gName]
      refine ⟨_, rfl, po, old, rfl, by rw [A8.ho, bys_eq], hko, by omega, fun H9 s9 => ⟨old, rfl, hko, by omega, fun H10 s10 => ?_⟩⟩
      have A10 := (A8.same s9).same s10
      refine ⟨_, rfl, B, md, rfl, by rw [A10.hm, bys_eq, hmd], hmk, by omega, fun H11 s11 => ⟨md, rfl, hmk, by omega, fun H12 s12 => ?_⟩⟩
      have A12 := (A10.same s11).same s12
      have sm12 := (((sm8.trans s9).trans s10).trans s11).trans s12
      clear s9 s10 s11 s12 A8 A10
      refine ⟨_, _, rfl, ?_⟩
      -- flat
      refine ⟨_, rfl, tf, _, dfOf old row, rfl, A12.hf, P1.low, P1.ok, fun H13 t1 x1 s13 nt1 hd1 => ?_⟩
      have A13 := A12.same s13
      refine ⟨_, rfl, _, rfl, tf, _, rfl, .inl (.inl A13.hf.1), (show ¬ (HT.sIx 3 0 none = 0 ∧ HT.sIx 3 3 (some 2) = 3) by decide), fun t2 nt2 => ?_⟩
      have s14 := same_upd (o := .tup (cutV [V.ref a, V.ref b, V.ref pr] none (some 2))) nt2
      have ht2 : (upd H13 t2 (.tup (cutV [V.ref a, V.ref b, V.ref pr] none (some 2)))) t2 = some (.tup [.ref a, .ref b]) := upd_same
      have A14 := A13.same s14
      have hd1 := hd1.same s14
      generalize upd H13 t2 (.tup (cutV [V.ref a, V.ref b, V.ref pr] none (some 2))) = H14 at *
      refine ⟨_, rfl, ps, orig row, rfl, A14.hs, by omega, fun H15 r1 s15 nr1 hr1 => ?_⟩
      have hd1 := hd1.same s15
      have A15 := A14.same s15
      have ht2 := s15 _ _ ht2
      refine ⟨(by show 1 ≤ sizeLine; omega), fun t3 nt3 => ?_⟩
      have s16 := same_upd (o := .tup [.ref r1]) nt3
      have ht3 : (upd H15 t3 (.tup [.ref r1])) t3 = some (.tup [.ref r1]) := upd_same
      have hd1 := hd1.same s16
      have A16 := A15.same s16
      have ht2 := s16 _ _ ht2
      have hr1 := hr1.same s16
      generalize upd H15 t3 (.tup [.ref r1]) = H16 at *
      refine ⟨t2, t3, _, _, rfl, rfl, .inl (.inl ht2), .inl (.inl ht3), (fun z => by cases z), (by show 2 + 1 ≤ sizeLine; omega), (fun z => by cases z), fun _ t4 nt4 => ?_⟩
      have s17 := same_upd (o := .tup ([V.ref a, V.ref b] ++ [V.ref r1])) nt4
      have hd1 := hd1.same s17
      have A17 := A16.same s17
      have hd4 : DfAt (upd H16 t4 (.tup ([V.ref a, V.ref b] ++ [V.ref r1]))) t4 ⟨a, b, r1⟩ ⟨(dfOf old row).old, (dfOf old row).new, flatF (orig row)⟩ := ⟨upd_same, A17.hf.2.1, A17.hf.2.2.1, hr1.same s17⟩
      have sm17 := (((sm12.trans s13).trans s14).trans (s15.trans s16)).trans s17
      generalize upd H16 t4 (.tup ([V.ref a, V.ref b] ++ [V.ref r1])) = H17 at *
      refine ⟨_, _, dp_df hd1, dp_df hd4, sh_df _, sh_df _, ?_⟩
      rw [eqv_df, decide_eq_true ⟨rfl, rfl, rfl⟩]
      refine ⟨_, rfl, iteF ?_⟩
      clear hd1 hd4 ht2 ht3 hr1 A13 A14 A15 A16 s13 s14 s15 s16 s17 A12
      refine ⟨_, rfl, _, rfl, tf, _, dfOf old row, rfl, A17.hf, P1.low, P1.ok, fun H18 t5 x5 s18 nt5 hd5 => ?_⟩
      have hd5 : DfAt H18 t5 x5 ⟨(dfOf old row).old, (dfOf old row).new, flatF (orig row)⟩ := hd5
      rw [P1.flatE] at hd5
      refine ⟨t5, x5, dfOf old (flatF (orig row)), old, rfl, hd5, P1.flatP.low, P1.flatP.ok, hko, by omega, rfl, rfl, fun H19 s19 => ?_⟩
      have A19 := (A17.same s18).same s19
      have sm19 := (sm17.trans s18).trans s19
      refine ⟨_, rfl, rfl, ?_⟩
      rw [show orig (dfOf old (flatF (orig row))).row = orig (flatF (orig row)) from rfl, P1.flatM, ← hmd]
      refine ⟨_, rfl, iteNS rfl ?_⟩
      clear hd5 A17 s18 s19
      -- the later row
      have hB19 : H19 B = some (.lst (bys md)) := by rw [hmd]; exact A19.hm
      have hp19 : SqL K H19 p (xs.map V.int) := sm19.seq hp
      obtain ⟨M, hM⟩ : ∃ M : L2.St → Hp → Prop, M = (fun σ' H' => ∃ (pl : Addr) (row2 : List Di), σ' = [some (.ref p), some (.int (i : Int)), some (.ref po), some (.ref pn), some (.ref pr), some (.ref ps), some (.ref B), some (.ref tf), some (.byt (byB old)), some (.byt (byB md)), some (.ref pl), y11, y12, y13, y14, y15, y16, y17, y18] ∧ Same H19 H' ∧ RwAt H' pl row2 ∧ LwP md row2 ∧ row2.length ≤ 20) := ⟨_, rfl⟩
      dsimp only [tNext]
      with_reducible refine seq_mid M (fun N hN => ?_) (fun σ3 H20 h => ?_)
      · refine ⟨_, rfl, B, _, rfl, .inl (.inl (.inl hB19)), _, _, rfl, rfl, _, rfl, ite2 (fun e => ?_) (fun e => ?_)⟩
        · refine ⟨_, rfl, _, rfl, _, _, rfl, rfl, .inl ⟨by decide, by decide⟩, _, _, rfl, rfl, _, rfl, B, _, rfl, .inl (.inl (.inl hB19)), p, xs, 90 * i + 60, md.length, by rw [bys_len]; push_cast; rfl, hp19, by omega, by omega, fun H20 pl row2 n2 s20 npl hrw2 hrl2 hfit2 hn2 => ?_⟩
          refine hN _ _ ?_
          rw [hM]
          exact ⟨pl, row2, rfl, s20, hrw2, ⟨hmk, by omega, ⟨n2, hfit2, hn2⟩, by omega⟩, hrl2⟩
        · refine ⟨(by show 1 ≤ sizeLine; omega), fun pl npl => ?_⟩
          refine hN _ _ ?_
          rw [hM]
          exact ⟨pl, [.b 5], rfl, same_upd npl, ⟨_, upd_same, .cons rfl .nil⟩, ⟨hmk, by omega, ⟨1, rfl, by decide⟩, (by decide : 1 ≤ 2000)⟩, (by decide : 1 ≤ 20)⟩
      rw [hM] at h
      obtain ⟨pl, row2, rfl, s20, hrw2, P2, hrl2⟩ := h
      clear hM M hp19 hB19
      have A20 := A19.same s20
      have sm20 := sm19.trans s20
      clear A19 s20
      obtain ⟨ofit2, ol2, oo2⟩ := P2.og
      have hB20 : H20 B = some (.lst (bys md)) := by rw [hmd]; exact A20.hm
      refine ⟨_, rfl, _, rfl, B, _, rfl, .inl (.inl (.inl hB20)), pl, row2, md.length, _, by rw [bys_len]; rfl, hrw2, ofit2, by omega, fun H21 ps2 s21 nps2 hps2 => ?_⟩
      have A21 := A20.same s21
      have sm21 := sm20.trans s21
      have hrw2 := hrw2.same s21
      have hqB := s21 _ _ hB20
      clear A20 hB20 s21
      dsimp only [gName]
      refine ⟨_, rfl, ps2, rfl, ⟨_, .inl (.inl hps2)⟩, fun L nL => ?_⟩
      refine lc_list (K := K) (a := ps2) (xs := ogV (orig row2)) (fun i H' => Same H21 H' ∧ H' L = some (.lst (((orig row2).map (fun o => V.int ((byteO md o : Nat) : Int))).take i))) ⟨same_upd nL, by rw [upd_same]; rfl⟩ (fun i H' _ h => .inl (.inl (h.1 _ _ hps2))) (fun i x' H' hx' h => ?_) (fun H' h => ?_)
      · obtain ⟨s5L, hL⟩ := h
        have hi : i < (orig row2).length := by have := (List.getElem?_eq_some_iff.mp hx').1; rw [ogV_len] at this; exact this
        have ex : x' = .int (ogI (orig row2)[i]) := by
          unfold ogV at hx'
          rw [List.getElem?_map, List.getElem?_eq_getElem hi] at hx'
          exact (Option.some.inj hx').symm
        subst ex
        have eo : ((orig row2).map (fun o => V.int ((byteO md o : Nat) : Int)))[i]? = some ((fun o => V.int ((byteO md o : Nat) : Int)) (orig row2)[i]) := by rw [List.getElem?_map, List.getElem?_eq_getElem hi]; rfl
        rw [take_snocG eo]
        have hok := oo2 (orig row2)[i] (List.getElem_mem hi)
        have hsz : (((orig row2).map (fun o => V.int ((byteO md o : Nat) : Int))).take i).length < sizeLine := by
          rw [List.length_take, List.length_map]
          omega
        clear hx' eo
        generalize (orig row2)[i] = o at *
        refine ⟨rfl, yes ?_⟩
        cases o with
        | b k =>
          exact ⟨_, rfl, _, _, rfl, rfl, _, rfl, iteC (decide_eq_true (show (0 : Int) ≤ (k : Int) by omega)) ⟨_, rfl, _, hL, hsz, same_put s5L nL, by rw [upd_same] <;> rfl⟩⟩
        | o pl =>
          refine ⟨_, rfl, _, _, rfl, rfl, _, rfl, ite2 (fun e => absurd (of_decide_eq_true e) (by show ¬ (0 : Int) ≤ -1 - (pl : Int); omega)) (fun _ => ?_)⟩
          exact ⟨_, rfl, 1, rfl, _, rfl, _, _, rfl, rfl, B, _, _, (fun o => V.int ((byteO md o : Nat) : Int)) (.o pl), rfl, rfl, .inl (.inl (s5L _ _ (hqB))), og_at (bys_getV hok), _, hL, hsz, same_put s5L nL, by rw [upd_same] <;> rfl⟩
      · obtain ⟨s5L, hL⟩ := h
        rw [ogV_len, ← List.length_map (f := fun o => V.int ((byteO md o : Nat) : Int)) (as := (orig row2)), List.take_length] at hL
        dsimp only [gName]
        rw [← makeB_V] at hL
        have hLl : (makeB (orig row2) md).length = (orig row2).length := makeB_len _ _
        have hLk : ∀ k ∈ makeB (orig row2) md, k < 256 := P2.lt
        refine ⟨_, rfl, B, md, rfl, s5L _ _ hqB, hmk, by omega, fun H22 a2 s22 na2 hma2 => ?_⟩
        refine ⟨_, rfl, L, makeB (orig row2) md, rfl, s22 _ _ hL, hLk, by omega, fun H23 b2 s23 nb2 hmb2 => ?_⟩
        refine ⟨_, rfl, (by show 3 ≤ sizeLine; omega), fun tg ntg => ?_⟩
        have s24 := same_upd (o := .tup [.ref a2, .ref b2, .ref pl]) ntg
        have s2124 := ((s5L.trans s22).trans s23).trans s24
        have hd2 : DfAt (upd H23 tg (.tup [.ref a2, .ref b2, .ref pl])) tg ⟨a2, b2, pl⟩ (dfOf md row2) := ⟨upd_same, (s23.trans s24) _ _ hma2, s24 _ _ hmb2, hrw2.same s2124⟩
        have A24 := A21.same s2124
        have hps2 := s2124 _ _ hps2
        have hL := ((s22.trans s23).trans s24) _ _ hL
        have sm24 := sm21.trans s2124
        clear hqB hma2 hmb2 A21 s5L s22 s23 s24 s2124 hrw2
        generalize upd H23 tg (.tup [.ref a2, .ref b2, .ref pl]) = H24 at *
        dsimp only [gName]
        have hqS := A24.hs
        refine ⟨_, rfl, ps2, rfl, ⟨_, .inl (.inl hps2)⟩, fun U nU => ?_⟩
        refine lc_list (K := K) (a := ps2) (xs := ogV (orig row2)) (fun i H' => Same H24 H' ∧ H' U = some (.lst (((orig row2).map (fun o => V.int (ogI (joinO (orig row) o)))).take i))) ⟨same_upd nU, by rw [upd_same]; rfl⟩ (fun i H' _ h => .inl (.inl (h.1 _ _ hps2))) (fun i x' H' hx' h => ?_) (fun H' h => ?_)
        · obtain ⟨s5U, hU⟩ := h
          have hi : i < (orig row2).length := by have := (List.getElem?_eq_some_iff.mp hx').1; rw [ogV_len] at this; exact this
          have ex : x' = .int (ogI (orig row2)[i]) := by
            unfold ogV at hx'
            rw [List.getElem?_map, List.getElem?_eq_getElem hi] at hx'
            exact (Option.some.inj hx').symm
          subst ex
          have eo : ((orig row2).map (fun o => V.int (ogI (joinO (orig row) o))))[i]? = some ((fun o => V.int (ogI (joinO (orig row) o))) (orig row2)[i]) := by rw [List.getElem?_map, List.getElem?_eq_getElem hi]; rfl
          rw [take_snocG eo]
          have hok := oo2 (orig row2)[i] (List.getElem_mem hi)
          have hsz : (((orig row2).map (fun o => V.int (ogI (joinO (orig row) o)))).take i).length < sizeLine := by
            rw [List.length_take, List.length_map]
            omega
          clear hx' eo
          generalize (orig row2)[i] = o at *
          refine ⟨rfl, yes ?_⟩
          cases o with
          | b k =>
            exact ⟨_, rfl, _, _, rfl, rfl, _, rfl, iteC (decide_eq_true (show (0 : Int) ≤ (k : Int) by omega)) ⟨_, rfl, _, hU, hsz, same_put s5U nU, by rw [upd_same] <;> rfl⟩⟩
          | o pl =>
            refine ⟨_, rfl, _, _, rfl, rfl, _, rfl, ite2 (fun e => absurd (of_decide_eq_true e) (by show ¬ (0 : Int) ≤ -1 - (pl : Int); omega)) (fun _ => ?_)⟩
            exact ⟨_, rfl, 1, rfl, _, rfl, _, _, rfl, rfl, ps, _, _, (fun o => V.int (ogI (joinO (orig row) o))) (.o pl), rfl, rfl, .inl (.inl (s5U _ _ (hqS))), og_at (jn_at (by have h9 : pl < md.length := hok; omega)), _, hU, hsz, same_put s5U nU, by rw [upd_same] <;> rfl⟩
        · obtain ⟨s5U, hU⟩ := h
          rw [ogV_len, ← List.length_map (f := fun o => V.int (ogI (joinO (orig row) o))) (as := (orig row2)), List.take_length] at hU
          rw [← join_V] at hU
          dsimp only [gName]
          rename_i HU
          have A25 := A24.same s5U
          have hd2 := hd2.same s5U
          have hL := s5U _ _ hL
          have sm25 := sm24.trans s5U
          clear A24 hqS hps2 s5U
          have emk : (dfOf old row).new = (dfOf md row2).old := by
            show ((makeB (orig row) old).length, mrk (makeB (orig row) old)) = (md.length, mrk md)
            rw [hmd]
          have hjl : ((orig row2).map (joinO (orig row))).length ≤ 900 := by rw [List.length_map]; exact ol2
          have hjo : ∀ o ∈ (orig row2).map (joinO (orig row)), OgOk old.length o := join_ok oo hml.symm oo2
          have hjm : makeB ((orig row2).map (joinO (orig row))) old = makeB (orig row2) md := by rw [join_make (by rw [← hml]; exact oo2), hmd]
          refine ⟨_, rfl, _, rfl, tf, tg, _, _, dfOf old row, dfOf md row2, rfl, A25.hf, hd2, P1.low, P2.low, P1.ok, P2.ok, emk, fun H26 t5 x5 s26 nt5 hd5 => ?_⟩
          have hd5 : DfAt H26 t5 x5 ⟨(dfOf old row).old, (dfOf md row2).new, flatF ((orig row2).map (joinO (orig row)))⟩ := hd5
          have A26 := A25.same s26
          have hd2 := hd2.same s26
          refine ⟨_, rfl, tf, _, 0, _, rfl, rfl, .inl (.inl A26.hf.1), rfl, _, rfl, tg, _, 1, _, rfl, rfl, .inl (.inl hd2.1), rfl, _, rfl, U, _, rfl, s26 _ _ hU, by omega, fun H27 r1 s27 nr1 hr1 => ⟨(by show 3 ≤ sizeLine; omega), fun t6 nt6 => ?_⟩⟩
          have s28 := same_upd (o := .tup [.ref a, .ref b2, .ref r1]) nt6
          have s278 := s27.trans s28
          have A28 := A26.same s278
          have hd2 := hd2.same s278
          have hd6 : DfAt (upd H27 t6 (.tup [.ref a, .ref b2, .ref r1])) t6 ⟨a, b2, r1⟩ ⟨(dfOf old row).old, (dfOf md row2).new, flatF ((orig row2).map (joinO (orig row)))⟩ := ⟨upd_same, A28.hf.2.1, hd2.2.2.1, hr1.same s28⟩
          have hd5 := hd5.same s278
          have hL := (s26.trans s278) _ _ hL
          have sm28 := sm25.trans (s26.trans s278)
          refine ⟨_, _, dp_df hd5, dp_df hd6, sh_df _, sh_df _, ?_⟩
          rw [eqv_df, decide_eq_true ⟨rfl, rfl, rfl⟩]
          refine ⟨_, rfl, iteF ?_⟩
          clear hd5 hd6 hr1 A25 A26 s26 s27 s28 s278 hU
          generalize upd H27 t6 (.tup [.ref a, .ref b2, .ref r1]) = H28 at *
          have P3 : LwP old (flatF ((orig row2).map (joinO (orig row)))) := LwP.flat hko (by omega) hjo hjl
          have e9 : makeB (orig (flatF ((orig row2).map (joinO (orig row))))) old = makeB (orig row2) md := by rw [flat_orig hjo, hjm]
          have ed : (⟨(dfOf old row).old, (dfOf md row2).new, flatF ((orig row2).map (joinO (orig row)))⟩ : Dfv) = dfOf old (flatF ((orig row2).map (joinO (orig row)))) := by
            show (⟨(old.length, mrk old), ((makeB (orig row2) md).length, mrk (makeB (orig row2) md)), _⟩ : Dfv) = ⟨(old.length, mrk old), ((makeB (orig (flatF ((orig row2).map (joinO (orig row))))) old).length, mrk (makeB (orig (flatF ((orig row2).map (joinO (orig row))))) old)), _⟩
            rw [e9]
          refine ⟨_, rfl, po, old, rfl, by rw [A28.ho, bys_eq], hko, by omega, fun H29 s29 => ⟨old, rfl, hko, by omega, fun H30 s30 => ?_⟩⟩
          have A30 := A28.same (s29.trans s30)
          have hd2 := hd2.same (s29.trans s30)
          have hL := (s29.trans s30) _ _ hL
          refine ⟨_, rfl, _, rfl, tf, tg, _, _, dfOf old row, dfOf md row2, rfl, A30.hf, hd2, P1.low, P2.low, P1.ok, P2.ok, emk, fun H31 t5 x5 s31 nt5 hd5 => ?_⟩
          have hd5 : DfAt H31 t5 x5 ⟨(dfOf old row).old, (dfOf md row2).new, flatF ((orig row2).map (joinO (orig row)))⟩ := hd5
          rw [ed] at hd5
          refine ⟨t5, x5, _, old, rfl, hd5, P3.low, P3.ok, hko, by omega, rfl, rfl, fun H32 s32 => ?_⟩
          rw [show orig (dfOf old (flatF ((orig row2).map (joinO (orig row))))).row = orig (flatF ((orig row2).map (joinO (orig row)))) from rfl, e9]
          refine ⟨_, rfl, by rw [byB_size]; omega, fun qa nqa => ?_⟩
          have s33 := same_upd (o := .lst ((bi (byB (makeB (orig row2) md))).map V.int)) nqa
          have hqa : (upd H32 qa (.lst ((bi (byB (makeB (orig row2) md))).map V.int))) qa = some (.lst (bys (makeB (orig row2) md))) := by rw [upd_same, bi_byB hLk]
          have s303 := (s31.trans s32).trans s33
          have A33 := A30.same s303
          have hd2 := hd2.same s303
          have hL := s303 _ _ hL
          have sm33 := sm28.trans ((s29.trans s30).trans s303)
          refine ⟨_, rfl, _, _, .lst (.inl (.inl hqa)) (dp_ints _), .lst (.inl (.inl hL)) (dp_ints _), shaped_intsQ _, shaped_intsQ _, ?_⟩
          rw [eqv_ints, decide_eq_true rfl]
          refine ⟨_, rfl, iteF ?_⟩
          clear hqa hL hd5 A28 A30 s29 s30 s31 s32 s33 s303
          generalize upd H32 qa (.lst ((bi (byB (makeB (orig row2) md))).map V.int)) = H33 at *
          -- the lowest
          have kt : ∀ k ∈ old.take 40, k < 256 := fun k h => hko k (List.mem_of_mem_take h)
          have lt40 : (old.take 40).length ≤ 40 := by rw [List.length_take]; omega
          refine ⟨_, rfl, _, rfl, po, _, rfl, .inl (.inl A33.ho), fun q1 nq1 => ?_⟩
          have s34 := same_upd (o := .lst (cutV (bys old) none (some 40))) nq1
          have hq1 : (upd H33 q1 (.lst (cutV (bys old) none (some 40)))) q1 = some (.lst (bys (old.take 40))) := by rw [upd_same]; exact congrArg (fun z => some (HO.lst z)) (bys_to old 40)
          have A34 := A33.same s34
          have hd2 := hd2.same s34
          have sm34 := sm33.trans s34
          clear s34 A33
          generalize upd H33 q1 (.lst (cutV (bys old) none (some 40))) = H34 at *
          refine ⟨q1, old.take 40, rfl, by rw [hq1, bys_eq], kt, by omega, fun H35 s35 => ⟨old.take 40, rfl, kt, by omega, fun H36 s36 => ?_⟩⟩
          have A36 := A34.same (s35.trans s36)
          refine ⟨_, rfl, pn, new, rfl, by rw [A36.hn, bys_eq], hkn, by omega, fun H37 s37 => ⟨new, rfl, hkn, by omega, fun H38 s38 => ?_⟩⟩
          have ON : OnOk (old.take 40) new := ⟨kt, by omega, hkn, by omega⟩
          refine ⟨old.take 40, new, rfl, ON, fun H39 tq d pc xq rq ms ls cs s39 ntq htq hdq hpc RO CK hrl hrow => ?_⟩
          have s359 := ((s35.trans s36).trans (s37.trans s38)).trans s39
          have A39 := A34.same s359
          have hd2 := hd2.same s359
          have sm39 := sm34.trans s359
          have P4 : LwP (old.take 40) rq := ⟨kt, by omega, ⟨_, row_fit ON RO hrow, by omega⟩, by omega⟩
          obtain ⟨ofit4, ol4, oo4⟩ := P4.og
          have ol5 : new.length = (orig rq).length := Option.some.inj ((row_fit ON RO hrow).symm.trans ofit4)
          clear A34 A36 s35 s36 s37 s38 s39 s359 hq1 hpc RO CK hrow
          refine ⟨tq, _, 0, _, rfl, rfl, .inl (.inl htq), rfl, ?_⟩
          dsimp only [gName]
          refine ⟨_, rfl, d, _, 2, _, rfl, rfl, .inl (.inl hdq.1), rfl, _, rfl, _, rfl, po, _, rfl, .inl (.inl A39.ho), fun q2 nq2 => ?_⟩
          have s40 := same_upd (o := .lst (cutV (bys old) none (some 40))) nq2
          have hq2 : (upd H39 q2 (.lst (cutV (bys old) none (some 40)))) q2 = some (.lst (bys (old.take 40))) := by rw [upd_same]; exact congrArg (fun z => some (HO.lst z)) (bys_to old 40)
          have A40 := A39.same s40
          have hd2 := hd2.same s40
          have hdq := hdq.same s40
          have sm40 := sm39.trans s40
          clear s40 A39 htq
          generalize upd H39 q2 (.lst (cutV (bys old) none (some 40))) = H40 at *
          refine ⟨q2, _, rfl, .inl (.inl (.inl hq2)), xq.r, rq, (old.take 40).length, new.length, by rw [bys_len]; rfl, hdq.2.2.2, by rw [ofit4, ol5], by omega, fun H41 pq s41 npq hpq => ?_⟩
          refine ⟨pq, orig rq, rfl, hpq, by omega, fun H42 pm s42 npm hpm => ?_⟩
          have A42 := A40.same (s41.trans s42)
          have hd2 := hd2.same (s41.trans s42)
          have hdq := hdq.same (s41.trans s42)
          have sm42 := sm40.trans (s41.trans s42)
          clear s41 s42 A40 hpq hq2
          dsimp only [gName]
          have Lq : (⟨((old.take 40).length, mrk (old.take 40)), (new.length, mrk new), rq⟩ : Dfv).Low := ⟨by show (old.take 40).length ≤ 2000; omega, mrk_lt _, by show new.length ≤ 2000; omega, mrk_lt _, by show rq.length ≤ 2000; omega⟩
          have Kq : (⟨((old.take 40).length, mrk (old.take 40)), (new.length, mrk new), rq⟩ : Dfv).ok = true := decide_eq_true (by show fitR (old.take 40).length 0 rq = some new.length; rw [ofit4, ol5])
          have Lf : (⟨((old.take 40).length, mrk (old.take 40)), (new.length, mrk new), flatF (orig rq)⟩ : Dfv).Low := ⟨by show (old.take 40).length ≤ 2000; omega, mrk_lt _, by show new.length ≤ 2000; omega, mrk_lt _, P4.flatP.rl⟩
          have Kf : (⟨((old.take 40).length, mrk (old.take 40)), (new.length, mrk new), flatF (orig rq)⟩ : Dfv).ok = true := decide_eq_true (by show fitR (old.take 40).length 0 (flatF (orig rq)) = some new.length; rw [flat_fit oo4, ol5])
          refine ⟨_, rfl, d, xq, _, rfl, hdq, Lq, Kq, fun H43 t7 x7 s43 nt7 hd7 => ?_⟩
          have hdq := hdq.same s43
          refine ⟨_, rfl, d, _, 0, _, rfl, rfl, .inl (.inl hdq.1), rfl, _, rfl, d, _, 1, _, rfl, rfl, .inl (.inl hdq.1), rfl, _, rfl, (by show 3 ≤ sizeLine; omega), fun t8 nt8 => ?_⟩
          have s44 := same_upd (o := .tup [.ref xq.a, .ref xq.b, .ref pm]) nt8
          have hdq := hdq.same s44
          have hd8 : DfAt (upd H43 t8 (.tup [.ref xq.a, .ref xq.b, .ref pm])) t8 ⟨xq.a, xq.b, pm⟩ ⟨((old.take 40).length, mrk (old.take 40)), (new.length, mrk new), flatF (orig rq)⟩ := ⟨upd_same, hdq.2.1, hdq.2.2.1, (hpm.same s43).same s44⟩
          have hd7 := hd7.same s44
          have A44 := (A42.same s43).same s44
          have hd2 := (hd2.same s43).same s44
          have sm44 := (sm42.trans s43).trans s44
          refine ⟨_, _, dp_df hd7, dp_df hd8, sh_df _, sh_df _, ?_⟩
          rw [eqv_df, decide_eq_true ⟨rfl, rfl, rfl⟩]
          refine ⟨_, rfl, iteF ?_⟩
          clear hd7 hd8 hpm A42 s43 s44
          generalize upd H43 t8 (.tup [.ref xq.a, .ref xq.b, .ref pm]) = H44 at *
          refine ⟨_, rfl, d, xq, _, rfl, hdq, Lq, Kq, fun H45 t9 x9 s45 nt9 hd9 => ?_⟩
          have hd9 : DfAt H45 t9 x9 ⟨((old.take 40).length, mrk (old.take 40)), (new.length, mrk new), flatF (orig rq)⟩ := hd9
          refine ⟨t9, x9, _, rfl, hd9, Lf, Kf, fun H46 t10 x10 s46 nt10 hd10 => ?_⟩
          have hdq := (hdq.same s45).same s46
          refine ⟨_, rfl, d, xq, _, rfl, hdq, Lq, Kq, fun H47 t11 x11 s47 nt11 hd11 => ?_⟩
          have hd10 := hd10.same s47
          refine ⟨_, _, dp_df hd10, dp_df hd11, sh_df _, sh_df _, ?_⟩
          rw [eqv_df, decide_eq_true ⟨rfl, rfl, by show flatF (orig (flatF (orig rq))) = flatF (orig rq); rw [flat_orig oo4]⟩]
          refine ⟨_, rfl, iteF ?_⟩
          have A47 := A44.same ((s45.trans s46).trans s47)
          have hd2 := hd2.same ((s45.trans s46).trans s47)
          have sm47 := sm44.trans ((s45.trans s46).trans s47)
          clear hd9 hd10 hd11 A44 s45 s46 s47 hdq Lq Kq Lf Kf
          -- the try
          have emk2 : (dfOf old row).new = (md.length, mrk md) := emk
          have hbm : ∀ {H9 : Hp}, Same H47 H9 → MkAt H9 b (md.length, mrk md) := fun s => by
            have := (A47.same s).hf.2.2.1
            rw [emk2] at this
            exact this
          dsimp only [tNext]
          refine ⟨_, rfl, _, rfl, tf, _, 1, _, rfl, rfl, .inl (.inl A47.hf.1), rfl, b, _, 0, _, rfl, rfl, .inl (.inl (hbm (Same.refl _))), rfl, ?_⟩
          refine ⟨_, rfl, tf, _, 1, _, rfl, rfl, .inl (.inl A47.hf.1), rfl, b, _, 1, _, rfl, rfl, .inl (.inl (hbm (Same.refl _))), rfl, _, _, rfl, rfl, _, _, rfl, rfl, (by show (65521 : Int) ≠ 0; decide), ?_⟩
          refine ⟨(by show 2 ≤ sizeLine; omega), fun t12 nt12 => ?_⟩
          have s48 := same_upd (o := .tup [.int (md.length : Int), .int (((mrk md : Nat) + 1 : Int).fmod 65521)]) nt12
          have ht12 : (upd H47 t12 (.tup [.int (md.length : Int), .int (((mrk md : Nat) + 1 : Int).fmod 65521)])) t12 = some (.tup [.int (md.length : Int), .int (((mrk md + 1) % 65521 : Nat) : Int)]) := by rw [upd_same, mk_next]
          have A48 := A47.same s48
          have hbm48 := hbm s48
          have sm48 := sm47.trans s48
          clear hbm
          generalize upd H47 t12 (.tup [.int (md.length : Int), .int (((mrk md : Nat) + 1 : Int).fmod 65521)]) = H48 at *
          refine ⟨_, rfl, tf, _, 1, _, rfl, rfl, .inl (.inl A48.hf.1), rfl, ?_⟩
          show tIf _ _ _ _ _ _
          obtain ⟨M, hM⟩ : ∃ M : V → Hp → Prop, M = (fun v H' => ∃ (q : Addr) (rowX : List Di), v = .ref q ∧ Same H48 H' ∧ RwAt H' q rowX ∧ rowX.length ≤ 1) := ⟨_, rfl⟩
          have hB48 : H48 B = some (.lst (bys md)) := by rw [hmd]; exact A48.hm
          with_reducible refine te_mid M (fun N hN => ?_) (fun v H49 h => ?_)
          · refine ⟨_, rfl, Nat.zero_le _, fun z1 nz1 => ?_⟩
            have s49 := same_upd (o := .lst []) nz1
            refine ⟨_, _, .lst (.inl (.inl (s49 _ _ hB48))) (dp_ints _), .lst (ds := []) (.inl (.inl upd_same)) .nil, shaped_intsQ _, shaped_intsQ [], _, rfl, ite2 (fun e4 => ?_) (fun e4 => ?_)⟩
            · refine ⟨(by show 3 ≤ sizeLine; omega), fun z2 nz2 => ?_⟩
              have s50 := same_upd (o := .tup [.str "old", .int 1, .int 0]) nz2
              refine ⟨(by show 1 ≤ sizeLine; omega), fun z3 nz3 => ?_⟩
              have s51 := same_upd (o := .lst [.ref z2]) nz3
              refine hN _ _ ?_
              rw [hM]
              exact ⟨z3, [.c false 1 0], rfl, (s49.trans s50).trans s51, ⟨_, upd_same, .cons ⟨z2, rfl, s51 _ _ upd_same⟩ .nil⟩, Nat.le_refl _⟩
            · refine ⟨Nat.zero_le _, fun z2 nz2 => ?_⟩
              refine hN _ _ ?_
              rw [hM]
              exact ⟨z2, [], rfl, s49.trans (same_upd nz2), ⟨_, upd_same, .nil⟩, Nat.zero_le _⟩
          rw [hM] at h
          obtain ⟨qx, rowX, rfl, s49, hrx, hlx⟩ := h
          clear hM M
          refine ⟨(by show 3 ≤ sizeLine; omega), fun t13 nt13 => ?_⟩
          have s50 := same_upd (o := .tup [.ref t12, .ref b, .ref qx]) nt13
          have s4950 := s49.trans s50
          have hdx : DfAt (upd H49 t13 (.tup [.ref t12, .ref b, .ref qx])) t13 ⟨t12, b, qx⟩ ⟨(md.length, (mrk md + 1) % 65521), (md.length, mrk md), rowX⟩ := ⟨upd_same, s4950 _ _ ht12, s4950 _ _ hbm48, hrx.same s50⟩
          have A50 := A48.same s4950
          have sm50 := sm48.trans s4950
          have hB50 := s4950 _ _ hB48
          clear hrx A48 hB48 s49 s50 s4950
          generalize upd H49 t13 (.tup [.ref t12, .ref b, .ref qx]) = H50 at *
          refine ⟨tf, t13, ⟨a, b, pr⟩, ⟨t12, b, qx⟩, dfOf old row, _, rfl, A50.hf, hdx, P1.low, ⟨by show md.length ≤ 2000; omega, Nat.mod_lt _ (by decide), by show md.length ≤ 2000; omega, mrk_lt _, by show rowX.length ≤ 2000; omega⟩, P1.ok, fun z => ?_, ?_⟩
          · rw [emk2] at z
            have z2 : mrk md = (mrk md + 1) % 65521 := congrArg Prod.snd z
            have := mrk_lt md
            omega
          refine ⟨true, eT, fun _ a0 ha0 => ?_, fun z => Bool.noConfusion z⟩
          refine ⟨_, rfl, B, _, rfl, .inl (.inl (.inl hB50)), _, _, rfl, rfl, _, rfl, ite2 (fun e5 => ?_) (fun e5 => ?_)⟩
          · refine ⟨_, rfl, _, rfl, rfl, fun H51 s51 => ?_⟩
            refine ⟨md, rfl, hmk, by omega, fun H52 t14 d3 pc3 x3 s52 nt14 ht14 hd3 => ?_⟩
            have s512 := s51.trans s52
            have A52 := A50.same s512
            refine ⟨t14, _, 0, _, rfl, rfl, .inl (.inl ht14), rfl, ?_⟩
            refine ⟨tf, d3, ⟨a, b, pr⟩, x3, dfOf old row, _, rfl, A52.hf, hd3, P1.low, ⟨by show md.length ≤ 2000; omega, mrk_lt _, Nat.zero_le _, mrk_lt _, Nat.zero_le _⟩, P1.ok, decide_eq_true rfl, emk2, rfl, fun H53 t15 x15 s53 nt15 hd15 => ?_⟩
            refine ⟨t15, _, 2, _, rfl, rfl, .inl (.inl hd15.1), rfl, Nat.zero_le _, fun z4 nz4 => ?_⟩
            have s54 := same_upd (o := .lst []) nz4
            refine ⟨_, rowD [], dp_row (hd15.2.2.2.same s54), .lst (ds := []) (.inl (.inl upd_same)) .nil, sh_row _, sh_row _, ?_⟩
            rw [eqv_row, decide_eq_true rfl]
            refine ⟨_, rfl, iteF ?_⟩
            exact ⟨_, _, _, _, _, _, _, _, _, _, _, _, _, _, _, _, _, _, rfl, ((sm50.trans s512).trans s53).trans s54⟩
          · exact ⟨_, _, _, _, _, _, _, _, _, _, _, _, _, _, _, _, _, _, rfl, sm50⟩

end
end K0

namespace K0
open PySem PySem.Spec PyProof.Rows L2
/-! ### law -/
theorem scLaw : FnScope ["_law_script"] ["_law_script"] (defScope sLaw) := ⟨rfl, rfl, rfl, by decide +kernel, rfl, by decide +kernel, by decide +kernel⟩
section
variable {P : Program} {w : World} {K : PySem.W.Frag} {mg : Str → Option Value} {base : Heap}
theorem ok_law {f fA : Addr} {fd fdA : FuncData} {j k1 : Nat} (F : Fun K "law" "law" sLaw f fd)
    (GA : FnOk P w K mg base CX0 k1 fA fdA ["_law_script"] (spAl K)) (bA : Binds K fdA ["_law_script"] []) (kA : PySem.W.keepIn K (.ref fA) = true) (gA : mg "_law_all_right" = some (.ref fA)) (l1 : k1 ≤ j) : FnOk P w K mg base CX0 (j + 1) f fd ["_law_script"] (spAl K) := by
  refine F.ok scLaw (fun vs H Q E h => ?_) (fun cdv A outer s H vs Q E hr h => ?_)
  · obtain ⟨p, xs, rfl, _⟩ := h
    rfl
  · refine ⟨_, pss_one (ps_try_thru0 (pss_one (ps_ret (pe_call GA (hr.mono l1) (by rfl) gA kA bA .nil pass0 (pa_cons (pv 0) pa_nil))))), ?_⟩
    obtain ⟨p, xs, rfl, hp, q⟩ := h
    exact ⟨_, rfl, p, xs, rfl, hp, q⟩
end
end K0

namespace K0
open PySem PySem.Spec PyProof.Rows L2
theorem exm_own {K : PySem.W.Frag} {S : Addr} (h1 : PySem.W.subIn K (.ref S) (.type "BaseException") = some true) (h2 : PySem.W.isClsIn K S = true) (h3 : PySem.W.typeIn K (.ref S) = some (.type "type")) (h4 : PySem.W.subIn K (.ref S) (.ref S) = some true) : PySem.W.exmOne K (.ref S) (.ref S) = some true := by
  have a : (PySem.W.subIn K (.ref S) (.type "BaseException") == some true) = true := by rw [h1]; rfl
  have b : ((PySem.W.clsIn K S).isSome && PySem.W.typeIn K (.ref S) == some (.type "type")) = true := by
    rw [show (PySem.W.clsIn K S).isSome = true from h2, h3]; rfl
  exact (if_pos a).trans ((if_pos b).trans h4)
theorem all_mk {l : PySem.W.OpenLaw} {w : World} {K : PySem.W.Frag} {h : Heap} {mg : Str → Option Value} {fa : Addr} (X : K.In h) (G : h.Ns mainGlobals mg) (hfa : mg "law" = some (.ref fa))
    {f0 f1 f2 f3 f4 f5 f6 f7 f8 f9 f10 f11 f12 f13 f14 f15 f16 f17 f18 f19 f20 f21 f22 f23 f24 f25 f26 f27 f28 f29 f30 f31 f32 f33 f34 f35 f36 f37 f38 C_Reaches CB : Addr} {od0 an0 od1 an1 od2 an2 od3 an3 od4 an4 od5 an5 od6 an6 od7 an7 od8 an8 od9 an9 od10 an10 od11 an11 od12 an12 od13 an13 od14 an14 od15 an15 od16 an16 od17 an17 od18 an18 od19 an19 od20 an20 od21 an21 od22 an22 od23 an23 od24 an24 od25 an25 od26 an26 od27 an27 od28 an28 od29 an29 od30 an30 od31 an31 od32 an32 od33 an33 od34 an34 od35 an35 od36 an36 od37 an37 od38 an38 : Option Addr} {sl0 sl1 sl2 sl3 sl4 sl5 sl6 sl7 sl8 sl9 sl10 sl11 sl12 sl13 sl14 sl15 sl16 sl17 sl18 sl19 sl20 sl21 sl22 sl23 sl24 sl25 sl26 sl27 sl28 sl29 sl30 sl31 sl32 sl33 sl34 sl35 sl36 sl37 sl38 : Array (Option Value)} {oc0 kV0 dc0 pm0 ct0 cd0 oc1 kV1 dc1 pm1 ct1 cd1 oc2 kV2 dc2 pm2 ct2 cd2 oc3 kV3 dc3 pm3 ct3 cd3 oc4 kV4 dc4 pm4 ct4 cd4 oc5 kV5 dc5 pm5 ct5 cd5 oc6 kV6 dc6 pm6 ct6 cd6 oc7 kV7 dc7 pm7 ct7 cd7 oc8 kV8 dc8 pm8 ct8 cd8 oc9 kV9 dc9 pm9 ct9 cd9 oc10 kV10 dc10 pm10 ct10 cd10 oc11 kV11 dc11 pm11 ct11 cd11 oc12 kV12 dc12 pm12 ct12 cd12 oc13 kV13 dc13 pm13 ct13 cd13 oc14 kV14 dc14 pm14 ct14 cd14 oc15 kV15 dc15 pm15 ct15 cd15 oc16 kV16 dc16 pm16 ct16 cd16 oc17 kV17 dc17 pm17 ct17 cd17 oc18 kV18 dc18 pm18 ct18 cd18 oc19 kV19 dc19 pm19 ct19 cd19 oc20 kV20 dc20 pm20 ct20 cd20 oc21 kV21 dc21 pm21 ct21 cd21 oc22 kV22 dc22 pm22 ct22 cd22 oc23 kV23 dc23 pm23 ct23 cd23 oc24 kV24 dc24 pm24 ct24 cd24 oc25 kV25 dc25 pm25 ct25 cd25 oc26 kV26 dc26 pm26 ct26 cd26 oc27 kV27 dc27 pm27 ct27 cd27 oc28 kV28 dc28 pm28 ct28 cd28 oc29 kV29 dc29 pm29 ct29 cd29 oc30 kV30 dc30 pm30 ct30 cd30 oc31 kV31 dc31 pm31 ct31 cd31 oc32 kV32 dc32 pm32 ct32 cd32 oc33 kV33 dc33 pm33 ct33 cd33 oc34 kV34 dc34 pm34 ct34 cd34 oc35 kV35 dc35 pm35 ct35 cd35 oc36 kV36 dc36 pm36 ct36 cd36 oc37 kV37 dc37 pm37 ct37 cd37 oc38 kV38 dc38 pm38 ct38 cd38 : Value} {tS tN tO tv_MODULUS tv_MOST_BYTES tv_FEWEST_NEW tv_FEWEST_OLD tv_MOST_AT_ONCE tv_NEW_BITS tv_OLD_BITS tv_BYTE_BITS : Tok}
    (a0 : PySem.W.nsIn K mainGlobals "is_whole" = some (some (.ref f0))) (l0 : K.lookup f0 = some ⟨oc0, od0, .func (PySem.W.fnOf "is_whole" "is_whole" (defArgs sWhole) (defBody sWhole) (defScope sWhole) .none kV0 dc0 pm0 an0 cd0 ct0), sl0⟩) (c0 : PySem.W.codeIn K cd0 "is_whole" = true) (k0 : PySem.W.keepIn K (.ref f0) = true)
    (a1 : PySem.W.nsIn K mainGlobals "is_number" = some (some (.ref f1))) (l1 : K.lookup f1 = some ⟨oc1, od1, .func (PySem.W.fnOf "is_number" "is_number" (defArgs sIsNum) (defBody sIsNum) (defScope sIsNum) .none kV1 dc1 pm1 an1 cd1 ct1), sl1⟩) (c1 : PySem.W.codeIn K cd1 "is_number" = true) (k1 : PySem.W.keepIn K (.ref f1) = true)
    (a2 : PySem.W.nsIn K mainGlobals "_law_cell_at" = some (some (.ref f2))) (l2 : K.lookup f2 = some ⟨oc2, od2, .func (PySem.W.fnOf "_law_cell_at" "_law_cell_at" (defArgs sCell) (defBody sCell) (defScope sCell) .none kV2 dc2 pm2 an2 cd2 ct2), sl2⟩) (c2 : PySem.W.codeIn K cd2 "_law_cell_at" = true) (k2 : PySem.W.keepIn K (.ref f2) = true)
    (a3 : PySem.W.nsIn K mainGlobals "_law_numbers" = some (some (.ref f3))) (l3 : K.lookup f3 = some ⟨oc3, od3, .func (PySem.W.fnOf "_law_numbers" "_law_numbers" (defArgs sNums) (defBody sNums) (defScope sNums) .none kV3 dc3 pm3 an3 cd3 ct3), sl3⟩) (c3 : PySem.W.codeIn K cd3 "_law_numbers" = true) (k3 : PySem.W.keepIn K (.ref f3) = true)
    (a4 : PySem.W.nsIn K mainGlobals "of_hex" = some (some (.ref f4))) (l4 : K.lookup f4 = some ⟨oc4, od4, .func (PySem.W.fnOf "of_hex" "of_hex" (defArgs sOfHex) (defBody sOfHex) (defScope sOfHex) .none kV4 dc4 pm4 an4 cd4 ct4), sl4⟩) (c4 : PySem.W.codeIn K cd4 "of_hex" = true) (k4 : PySem.W.keepIn K (.ref f4) = true)
    (a5 : PySem.W.nsIn K mainGlobals "_law_hex" = some (some (.ref f5))) (l5 : K.lookup f5 = some ⟨oc5, od5, .func (PySem.W.fnOf "_law_hex" "_law_hex" (defArgs sHex) (defBody sHex) (defScope sHex) .none kV5 dc5 pm5 an5 cd5 ct5), sl5⟩) (c5 : PySem.W.codeIn K cd5 "_law_hex" = true) (k5 : PySem.W.keepIn K (.ref f5) = true)
    (a6 : PySem.W.nsIn K mainGlobals "_law_data" = some (some (.ref f6))) (l6 : K.lookup f6 = some ⟨oc6, od6, .func (PySem.W.fnOf "_law_data" "_law_data" (defArgs sData) (defBody sData) (defScope sData) .none kV6 dc6 pm6 an6 cd6 ct6), sl6⟩) (c6 : PySem.W.codeIn K cd6 "_law_data" = true) (k6 : PySem.W.keepIn K (.ref f6) = true)
    (a7 : PySem.W.nsIn K mainGlobals "are_bytes" = some (some (.ref f7))) (l7 : K.lookup f7 = some ⟨oc7, od7, .func (PySem.W.fnOf "are_bytes" "are_bytes" (defArgs sAreBytes) (defBody sAreBytes) (defScope sAreBytes) .none kV7 dc7 pm7 an7 cd7 ct7), sl7⟩) (c7 : PySem.W.codeIn K cd7 "are_bytes" = true) (k7 : PySem.W.keepIn K (.ref f7) = true)
    (a8 : PySem.W.nsIn K mainGlobals "mark_of" = some (some (.ref f8))) (l8 : K.lookup f8 = some ⟨oc8, od8, .func (PySem.W.fnOf "mark_of" "mark_of" (defArgs sMarkOf) (defBody sMarkOf) (defScope sMarkOf) .none kV8 dc8 pm8 an8 cd8 ct8), sl8⟩) (c8 : PySem.W.codeIn K cd8 "mark_of" = true) (k8 : PySem.W.keepIn K (.ref f8) = true)
    (a9 : PySem.W.nsIn K mainGlobals "is_mark" = some (some (.ref f9))) (l9 : K.lookup f9 = some ⟨oc9, od9, .func (PySem.W.fnOf "is_mark" "is_mark" (defArgs sIsMark) (defBody sIsMark) (defScope sIsMark) .none kV9 dc9 pm9 an9 cd9 ct9), sl9⟩) (c9 : PySem.W.codeIn K cd9 "is_mark" = true) (k9 : PySem.W.keepIn K (.ref f9) = true)
    (a10 : PySem.W.nsIn K mainGlobals "many_of" = some (some (.ref f10))) (l10 : K.lookup f10 = some ⟨oc10, od10, .func (PySem.W.fnOf "many_of" "many_of" (defArgs sManyOf) (defBody sManyOf) (defScope sManyOf) .none kV10 dc10 pm10 an10 cd10 ct10), sl10⟩) (c10 : PySem.W.codeIn K cd10 "many_of" = true) (k10 : PySem.W.keepIn K (.ref f10) = true)
    (a11 : PySem.W.nsIn K mainGlobals "tells_as_many" = some (some (.ref f11))) (l11 : K.lookup f11 = some ⟨oc11, od11, .func (PySem.W.fnOf "tells_as_many" "tells_as_many" (defArgs sTellsM) (defBody sTellsM) (defScope sTellsM) .none kV11 dc11 pm11 an11 cd11 ct11), sl11⟩) (c11 : PySem.W.codeIn K cd11 "tells_as_many" = true) (k11 : PySem.W.keepIn K (.ref f11) = true)
    (a12 : PySem.W.nsIn K mainGlobals "is_difference" = some (some (.ref f12))) (l12 : K.lookup f12 = some ⟨oc12, od12, .func (PySem.W.fnOf "is_difference" "is_difference" (defArgs sIsDif) (defBody sIsDif) (defScope sIsDif) .none kV12 dc12 pm12 an12 cd12 ct12), sl12⟩) (c12 : PySem.W.codeIn K cd12 "is_difference" = true) (k12 : PySem.W.keepIn K (.ref f12) = true)
    (a13 : PySem.W.nsIn K mainGlobals "refuse_difference" = some (some (.ref f13))) (l13 : K.lookup f13 = some ⟨oc13, od13, .func (PySem.W.fnOf "refuse_difference" "refuse_difference" (defArgs sRefD) (defBody sRefD) (defScope sRefD) .none kV13 dc13 pm13 an13 cd13 ct13), sl13⟩) (c13 : PySem.W.codeIn K cd13 "refuse_difference" = true) (k13 : PySem.W.keepIn K (.ref f13) = true)
    (a14 : PySem.W.nsIn K mainGlobals "refuse_bytes" = some (some (.ref f14))) (l14 : K.lookup f14 = some ⟨oc14, od14, .func (PySem.W.fnOf "refuse_bytes" "refuse_bytes" (defArgs sRefB) (defBody sRefB) (defScope sRefB) .none kV14 dc14 pm14 an14 cd14 ct14), sl14⟩) (c14 : PySem.W.codeIn K cd14 "refuse_bytes" = true) (k14 : PySem.W.keepIn K (.ref f14) = true)
    (a15 : PySem.W.nsIn K mainGlobals "origins_of" = some (some (.ref f15))) (l15 : K.lookup f15 = some ⟨oc15, od15, .func (PySem.W.fnOf "origins_of" "origins_of" (defArgs sOrig) (defBody sOrig) (defScope sOrig) .none kV15 dc15 pm15 an15 cd15 ct15), sl15⟩) (c15 : PySem.W.codeIn K cd15 "origins_of" = true) (k15 : PySem.W.keepIn K (.ref f15) = true)
    (a16 : PySem.W.nsIn K mainGlobals "goes_on" = some (some (.ref f16))) (l16 : K.lookup f16 = some ⟨oc16, od16, .func (PySem.W.fnOf "goes_on" "goes_on" (defArgs sGoesOn) (defBody sGoesOn) (defScope sGoesOn) .none kV16 dc16 pm16 an16 cd16 ct16), sl16⟩) (c16 : PySem.W.codeIn K cd16 "goes_on" = true) (k16 : PySem.W.keepIn K (.ref f16) = true)
    (a17 : PySem.W.nsIn K mainGlobals "row_from" = some (some (.ref f17))) (l17 : K.lookup f17 = some ⟨oc17, od17, .func (PySem.W.fnOf "row_from" "row_from" (defArgs sRowFr) (defBody sRowFr) (defScope sRowFr) .none kV17 dc17 pm17 an17 cd17 ct17), sl17⟩) (c17 : PySem.W.codeIn K cd17 "row_from" = true) (k17 : PySem.W.keepIn K (.ref f17) = true)
    (a18 : PySem.W.nsIn K mainGlobals "put_together" = some (some (.ref f18))) (l18 : K.lookup f18 = some ⟨oc18, od18, .func (PySem.W.fnOf "put_together" "put_together" (defArgs sPutTo) (defBody sPutTo) (defScope sPutTo) .none kV18 dc18 pm18 an18 cd18 ct18), sl18⟩) (c18 : PySem.W.codeIn K cd18 "put_together" = true) (k18 : PySem.W.keepIn K (.ref f18) = true)
    (a19 : PySem.W.nsIn K mainGlobals "most_at" = some (some (.ref f19))) (l19 : K.lookup f19 = some ⟨oc19, od19, .func (PySem.W.fnOf "most_at" "most_at" (defArgs sMostAt) (defBody sMostAt) (defScope sMostAt) .none kV19 dc19 pm19 an19 cd19 ct19), sl19⟩) (c19 : PySem.W.codeIn K cd19 "most_at" = true) (k19 : PySem.W.keepIn K (.ref f19) = true)
    (a20 : PySem.W.nsIn K mainGlobals "longest_new" = some (some (.ref f20))) (l20 : K.lookup f20 = some ⟨oc20, od20, .func (PySem.W.fnOf "longest_new" "longest_new" (defArgs sLongN) (defBody sLongN) (defScope sLongN) .none kV20 dc20 pm20 an20 cd20 ct20), sl20⟩) (c20 : PySem.W.codeIn K cd20 "longest_new" = true) (k20 : PySem.W.keepIn K (.ref f20) = true)
    (a21 : PySem.W.nsIn K mainGlobals "longest_old" = some (some (.ref f21))) (l21 : K.lookup f21 = some ⟨oc21, od21, .func (PySem.W.fnOf "longest_old" "longest_old" (defArgs sLongO) (defBody sLongO) (defScope sLongO) .none kV21 dc21 pm21 an21 cd21 ct21), sl21⟩) (c21 : PySem.W.codeIn K cd21 "longest_old" = true) (k21 : PySem.W.keepIn K (.ref f21) = true)
    (m22 : PySem.W.findIn K (.ref C_Reaches) "__init__" = some (some (.ref f22))) (n22 : PySem.W.isFn K (.ref f22) = true) (l22 : K.lookup f22 = some ⟨oc22, od22, .func (PySem.W.fnOf "__init__" "Reaches.__init__" (defArgs sReInit) (defBody sReInit) (defScope sReInit) .none kV22 dc22 pm22 an22 cd22 ct22), sl22⟩) (c22 : PySem.W.codeIn K cd22 "Reaches.__init__" = true) (k22 : PySem.W.keepIn K (.ref f22) = true)
    (m23 : PySem.W.findIn K (.ref C_Reaches) "copies_at" = some (some (.ref f23))) (n23 : PySem.W.isFn K (.ref f23) = true) (l23 : K.lookup f23 = some ⟨oc23, od23, .func (PySem.W.fnOf "copies_at" "Reaches.copies_at" (defArgs sReAt) (defBody sReAt) (defScope sReAt) .none kV23 dc23 pm23 an23 cd23 ct23), sl23⟩) (c23 : PySem.W.codeIn K cd23 "Reaches.copies_at" = true) (k23 : PySem.W.keepIn K (.ref f23) = true)
    (m24 : PySem.W.findIn K (.ref C_Reaches) "copy_at" = some (some (.ref f24))) (n24 : PySem.W.isFn K (.ref f24) = true) (l24 : K.lookup f24 = some ⟨oc24, od24, .func (PySem.W.fnOf "copy_at" "Reaches.copy_at" (defArgs sReOne) (defBody sReOne) (defScope sReOne) .none kV24 dc24 pm24 an24 cd24 ct24), sl24⟩) (c24 : PySem.W.codeIn K cd24 "Reaches.copy_at" = true) (k24 : PySem.W.keepIn K (.ref f24) = true)
    (a25 : PySem.W.nsIn K mainGlobals "costs_of" = some (some (.ref f25))) (l25 : K.lookup f25 = some ⟨oc25, od25, .func (PySem.W.fnOf "costs_of" "costs_of" (defArgs sCostsR) (defBody sCostsR) (defScope sCostsR) .none kV25 dc25 pm25 an25 cd25 ct25), sl25⟩) (c25 : PySem.W.codeIn K cd25 "costs_of" = true) (k25 : PySem.W.keepIn K (.ref f25) = true)
    (a26 : PySem.W.nsIn K mainGlobals "least_row" = some (some (.ref f26))) (l26 : K.lookup f26 = some ⟨oc26, od26, .func (PySem.W.fnOf "least_row" "least_row" (defArgs sLeastR) (defBody sLeastR) (defScope sLeastR) .none kV26 dc26 pm26 an26 cd26 ct26), sl26⟩) (c26 : PySem.W.codeIn K cd26 "least_row" = true) (k26 : PySem.W.keepIn K (.ref f26) = true)
    (a27 : PySem.W.nsIn K mainGlobals "difference" = some (some (.ref f27))) (l27 : K.lookup f27 = some ⟨oc27, od27, .func (PySem.W.fnOf "difference" "difference" (defArgs sDiff) (defBody sDiff) (defScope sDiff) .none kV27 dc27 pm27 an27 cd27 ct27), sl27⟩) (c27 : PySem.W.codeIn K cd27 "difference" = true) (k27 : PySem.W.keepIn K (.ref f27) = true)
    (a28 : PySem.W.nsIn K mainGlobals "put_on" = some (some (.ref f28))) (l28 : K.lookup f28 = some ⟨oc28, od28, .func (PySem.W.fnOf "put_on" "put_on" (defArgs sPutOn) (defBody sPutOn) (defScope sPutOn) .none kV28 dc28 pm28 an28 cd28 ct28), sl28⟩) (c28 : PySem.W.codeIn K cd28 "put_on" = true) (k28 : PySem.W.keepIn K (.ref f28) = true)
    (a29 : PySem.W.nsIn K mainGlobals "flat" = some (some (.ref f29))) (l29 : K.lookup f29 = some ⟨oc29, od29, .func (PySem.W.fnOf "flat" "flat" (defArgs sFlat) (defBody sFlat) (defScope sFlat) .none kV29 dc29 pm29 an29 cd29 ct29), sl29⟩) (c29 : PySem.W.codeIn K cd29 "flat" = true) (k29 : PySem.W.keepIn K (.ref f29) = true)
    (a30 : PySem.W.nsIn K mainGlobals "joined" = some (some (.ref f30))) (l30 : K.lookup f30 = some ⟨oc30, od30, .func (PySem.W.fnOf "joined" "joined" (defArgs sJoined) (defBody sJoined) (defScope sJoined) .none kV30 dc30 pm30 an30 cd30 ct30), sl30⟩) (c30 : PySem.W.codeIn K cd30 "joined" = true) (k30 : PySem.W.keepIn K (.ref f30) = true)
    (a31 : PySem.W.nsIn K mainGlobals "_law_mark" = some (some (.ref f31))) (l31 : K.lookup f31 = some ⟨oc31, od31, .func (PySem.W.fnOf "_law_mark" "_law_mark" (defArgs sLMark) (defBody sLMark) (defScope sLMark) .none kV31 dc31 pm31 an31 cd31 ct31), sl31⟩) (c31 : PySem.W.codeIn K cd31 "_law_mark" = true) (k31 : PySem.W.keepIn K (.ref f31) = true)
    (a32 : PySem.W.nsIn K mainGlobals "_law_wide" = some (some (.ref f32))) (l32 : K.lookup f32 = some ⟨oc32, od32, .func (PySem.W.fnOf "_law_wide" "_law_wide" (defArgs sLWide) (defBody sLWide) (defScope sLWide) .none kV32 dc32 pm32 an32 cd32 ct32), sl32⟩) (c32 : PySem.W.codeIn K cd32 "_law_wide" = true) (k32 : PySem.W.keepIn K (.ref f32) = true)
    (a33 : PySem.W.nsIn K mainGlobals "_law_origins" = some (some (.ref f33))) (l33 : K.lookup f33 = some ⟨oc33, od33, .func (PySem.W.fnOf "_law_origins" "_law_origins" (defArgs sLOrig) (defBody sLOrig) (defScope sLOrig) .none kV33 dc33 pm33 an33 cd33 ct33), sl33⟩) (c33 : PySem.W.codeIn K cd33 "_law_origins" = true) (k33 : PySem.W.keepIn K (.ref f33) = true)
    (a34 : PySem.W.nsIn K mainGlobals "_law_flat_row" = some (some (.ref f34))) (l34 : K.lookup f34 = some ⟨oc34, od34, .func (PySem.W.fnOf "_law_flat_row" "_law_flat_row" (defArgs sLFlat) (defBody sLFlat) (defScope sLFlat) .none kV34 dc34 pm34 an34 cd34 ct34), sl34⟩) (c34 : PySem.W.codeIn K cd34 "_law_flat_row" = true) (k34 : PySem.W.keepIn K (.ref f34) = true)
    (a35 : PySem.W.nsIn K mainGlobals "_law_pair" = some (some (.ref f35))) (l35 : K.lookup f35 = some ⟨oc35, od35, .func (PySem.W.fnOf "_law_pair" "_law_pair" (defArgs sLPair) (defBody sLPair) (defScope sLPair) .none kV35 dc35 pm35 an35 cd35 ct35), sl35⟩) (c35 : PySem.W.codeIn K cd35 "_law_pair" = true) (k35 : PySem.W.keepIn K (.ref f35) = true)
    (a36 : PySem.W.nsIn K mainGlobals "_law_any" = some (some (.ref f36))) (l36 : K.lookup f36 = some ⟨oc36, od36, .func (PySem.W.fnOf "_law_any" "_law_any" (defArgs sLAny) (defBody sLAny) (defScope sLAny) .none kV36 dc36 pm36 an36 cd36 ct36), sl36⟩) (c36 : PySem.W.codeIn K cd36 "_law_any" = true) (k36 : PySem.W.keepIn K (.ref f36) = true)
    (a37 : PySem.W.nsIn K mainGlobals "_law_all_right" = some (some (.ref f37))) (l37 : K.lookup f37 = some ⟨oc37, od37, .func (PySem.W.fnOf "_law_all_right" "_law_all_right" (defArgs sAll) (defBody sAll) (defScope sAll) .none kV37 dc37 pm37 an37 cd37 ct37), sl37⟩) (c37 : PySem.W.codeIn K cd37 "_law_all_right" = true) (k37 : PySem.W.keepIn K (.ref f37) = true)
    (a38 : PySem.W.nsIn K mainGlobals "law" = some (some (.ref f38))) (l38 : K.lookup f38 = some ⟨oc38, od38, .func (PySem.W.fnOf "law" "law" (defArgs sLaw) (defBody sLaw) (defScope sLaw) .none kV38 dc38 pm38 an38 cd38 ct38), sl38⟩) (c38 : PySem.W.codeIn K cd38 "law" = true) (k38 : PySem.W.keepIn K (.ref f38) = true)
    (aC_Reaches : PySem.W.nsIn K mainGlobals "Reaches" = some (some (.ref C_Reaches))) (pg_Reaches : PySem.W.plainGet K C_Reaches Str.empty = true) (hd_Reaches : PySem.W.hasDictIn K C_Reaches = true) (po_Reaches : PySem.W.plainOver K C_Reaches = true) (sa_Reaches : PySem.W.findIn K (.ref C_Reaches) "__setattr__" = some (some (.builtin "object.__setattr__"))) (mk_Reaches : PySem.W.makesIn K C_Reaches = true) (kp_Reaches : PySem.W.keepIn K (.ref C_Reaches) = true) (at_old_Reaches : PySem.W.findIn K (.ref C_Reaches) "old" = some none) (at_new_Reaches : PySem.W.findIn K (.ref C_Reaches) "new" = some none) (at_many_new_Reaches : PySem.W.findIn K (.ref C_Reaches) "many_new" = some none) (at_many_old_Reaches : PySem.W.findIn K (.ref C_Reaches) "many_old" = some none)
    (bd0 : PySem.W.nsIn K mainGlobals "BadDifference" = some (some (.ref CB)))
    (bd1 : PySem.W.excIn K CB [.type "ValueError", .type "Exception", .type "BaseException", .type "object"] "ValueError.__new__" = true)
    (bd2 : PySem.W.keepIn K (.ref CB) = true)
    (bd3 : PySem.W.subIn K (.ref CB) (.type "BaseException") = some true)
    (bd4 : PySem.W.typeIn K (.ref CB) = some (.type "type"))
    (bd5 : PySem.W.isClsIn K CB = true)
    (bd6 : PySem.W.subIn K (.ref CB) (.ref CB) = some true)
    (s0 : PySem.W.nsIn K mainGlobals "SIGNS" = some (some (.str hexTab tS)))
    (cN : PySem.W.nsIn K mainGlobals "NEW" = some (some (.str "new" tN)))
    (cO : PySem.W.nsIn K mainGlobals "OLD" = some (some (.str "old" tO)))
    (z_isinstance : PySem.W.nsIn K mainGlobals "isinstance" = some none)
    (z_bool : PySem.W.nsIn K mainGlobals "bool" = some none)
    (z_int : PySem.W.nsIn K mainGlobals "int" = some none)
    (z_len : PySem.W.nsIn K mainGlobals "len" = some none)
    (z_str : PySem.W.nsIn K mainGlobals "str" = some none)
    (z_all : PySem.W.nsIn K mainGlobals "all" = some none)
    (z_bytes : PySem.W.nsIn K mainGlobals "bytes" = some none)
    (z_range : PySem.W.nsIn K mainGlobals "range" = some none)
    (z_sum : PySem.W.nsIn K mainGlobals "sum" = some none)
    (z_enumerate : PySem.W.nsIn K mainGlobals "enumerate" = some none)
    (z_tuple : PySem.W.nsIn K mainGlobals "tuple" = some none)
    (z_min : PySem.W.nsIn K mainGlobals "min" = some none)
    (z_list : PySem.W.nsIn K mainGlobals "list" = some none)
    (z_max : PySem.W.nsIn K mainGlobals "max" = some none)
    (z_reversed : PySem.W.nsIn K mainGlobals "reversed" = some none)
    (v_MODULUS : PySem.W.nsIn K mainGlobals "MODULUS" = some (some (.int 65521 tv_MODULUS)))
    (v_MOST_BYTES : PySem.W.nsIn K mainGlobals "MOST_BYTES" = some (some (.int 2000 tv_MOST_BYTES)))
    (v_FEWEST_NEW : PySem.W.nsIn K mainGlobals "FEWEST_NEW" = some (some (.int 3 tv_FEWEST_NEW)))
    (v_FEWEST_OLD : PySem.W.nsIn K mainGlobals "FEWEST_OLD" = some (some (.int 1 tv_FEWEST_OLD)))
    (v_MOST_AT_ONCE : PySem.W.nsIn K mainGlobals "MOST_AT_ONCE" = some (some (.int 255 tv_MOST_AT_ONCE)))
    (v_NEW_BITS : PySem.W.nsIn K mainGlobals "NEW_BITS" = some (some (.int 20 tv_NEW_BITS)))
    (v_OLD_BITS : PySem.W.nsIn K mainGlobals "OLD_BITS" = some (some (.int 24 tv_OLD_BITS)))
    (v_BYTE_BITS : PySem.W.nsIn K mainGlobals "BYTE_BITS" = some (some (.int 9 tv_BYTE_BITS))) :
    ∃ fd : FuncData, (∀ (s : Shared) (u : Value), BindsTo s fd ⟨[u], []⟩ [("_law_script", u)]) ∧ ∀ base : Heap, K.In base → base.Ns mainGlobals mg → FnOk l.prog w K mg base CX0 9 fa fd ["_law_script"] (spAl K) := by
  have e := hfa.symm.trans (PySem.W.mg_of X G a38)
  cases e
  have F0 := fun_mk (st := sWhole) l0 c0 k0
  have F1 := fun_mk (st := sIsNum) l1 c1 k1
  have F2 := fun_mk (st := sCell) l2 c2 k2
  have F3 := fun_mk (st := sNums) l3 c3 k3
  have F4 := fun_mk (st := sOfHex) l4 c4 k4
  have F5 := fun_mk (st := sHex) l5 c5 k5
  have F6 := fun_mk (st := sData) l6 c6 k6
  have F7 := fun_mk (st := sAreBytes) l7 c7 k7
  have F8 := fun_mk (st := sMarkOf) l8 c8 k8
  have F9 := fun_mk (st := sIsMark) l9 c9 k9
  have F10 := fun_mk (st := sManyOf) l10 c10 k10
  have F11 := fun_mk (st := sTellsM) l11 c11 k11
  have F12 := fun_mk (st := sIsDif) l12 c12 k12
  have F13 := fun_mk (st := sRefD) l13 c13 k13
  have F14 := fun_mk (st := sRefB) l14 c14 k14
  have F15 := fun_mk (st := sOrig) l15 c15 k15
  have F16 := fun_mk (st := sGoesOn) l16 c16 k16
  have F17 := fun_mk (st := sRowFr) l17 c17 k17
  have F18 := fun_mk (st := sPutTo) l18 c18 k18
  have F19 := fun_mk (st := sMostAt) l19 c19 k19
  have F20 := fun_mk (st := sLongN) l20 c20 k20
  have F21 := fun_mk (st := sLongO) l21 c21 k21
  have F22 := fun_mk (st := sReInit) l22 c22 k22
  have F23 := fun_mk (st := sReAt) l23 c23 k23
  have F24 := fun_mk (st := sReOne) l24 c24 k24
  have F25 := fun_mk (st := sCostsR) l25 c25 k25
  have F26 := fun_mk (st := sLeastR) l26 c26 k26
  have F27 := fun_mk (st := sDiff) l27 c27 k27
  have F28 := fun_mk (st := sPutOn) l28 c28 k28
  have F29 := fun_mk (st := sFlat) l29 c29 k29
  have F30 := fun_mk (st := sJoined) l30 c30 k30
  have F31 := fun_mk (st := sLMark) l31 c31 k31
  have F32 := fun_mk (st := sLWide) l32 c32 k32
  have F33 := fun_mk (st := sLOrig) l33 c33 k33
  have F34 := fun_mk (st := sLFlat) l34 c34 k34
  have F35 := fun_mk (st := sLPair) l35 c35 k35
  have F36 := fun_mk (st := sLAny) l36 c36 k36
  have F37 := fun_mk (st := sAll) l37 c37 k37
  have F38 := fun_mk (st := sLaw) l38 c38 k38
  have b0 := F0.binds (ps := ["told"]) fun _ _ _ _ _ _ us hl => match us, hl with | [_], _ => rfl
  have b1 := F1.binds (ps := ["told", "least", "most"]) fun _ _ _ _ _ _ us hl => match us, hl with | [_, _, _], _ => rfl
  have b2 := F2.binds (ps := ["_law_script", "_law_k"]) fun _ _ _ _ _ _ us hl => match us, hl with | [_, _], _ => rfl
  have b3 := F3.binds (ps := ["_law_cell", "_law_limits"]) fun _ _ _ _ _ _ us hl => match us, hl with | [_, _], _ => rfl
  have b4 := F4.binds (ps := ["text"]) fun _ _ _ _ _ _ us hl => match us, hl with | [_], _ => rfl
  have b5 := F5.binds (ps := ["_law_numbers_here"]) fun _ _ _ _ _ _ us hl => match us, hl with | [_], _ => rfl
  have b6 := F6.binds (ps := ["_law_script", "_law_at", "_law_most"]) fun _ _ _ _ _ _ us hl => match us, hl with | [_, _, _], _ => rfl
  have b7 := F7.binds (ps := ["told", "most"]) fun _ _ _ _ _ _ us hl => match us, hl with | [_, _], _ => rfl
  have b8 := F8.binds (ps := ["data"]) fun _ _ _ _ _ _ us hl => match us, hl with | [_], _ => rfl
  have b9 := F9.binds (ps := ["told"]) fun _ _ _ _ _ _ us hl => match us, hl with | [_], _ => rfl
  have b10 := F10.binds (ps := ["item", "old_many", "there"]) fun _ _ _ _ _ _ us hl => match us, hl with | [_, _, _], _ => rfl
  have b11 := F11.binds (ps := ["row", "old_many", "new_many"]) fun _ _ _ _ _ _ us hl => match us, hl with | [_, _, _], _ => rfl
  have b12 := F12.binds (ps := ["told"]) fun _ _ _ _ _ _ us hl => match us, hl with | [_], _ => rfl
  have b13 := F13.binds (ps := ["told"]) fun _ _ _ _ _ _ us hl => match us, hl with | [_], _ => rfl
  have b14 := F14.binds (ps := ["told"]) fun _ _ _ _ _ _ us hl => match us, hl with | [_], _ => rfl
  have b15 := F15.binds (ps := ["row"]) fun _ _ _ _ _ _ us hl => match us, hl with | [_], _ => rfl
  have b16 := F16.binds (ps := ["item", "place"]) fun _ _ _ _ _ _ us hl => match us, hl with | [_, _], _ => rfl
  have b17 := F17.binds (ps := ["origins"]) fun _ _ _ _ _ _ us hl => match us, hl with | [_], _ => rfl
  have b18 := F18.binds (ps := ["origins", "old"]) fun _ _ _ _ _ _ us hl => match us, hl with | [_, _], _ => rfl
  have b19 := F19.binds (ps := ["new", "at"]) fun _ _ _ _ _ _ us hl => match us, hl with | [_, _], _ => rfl
  have b20 := F20.binds (ps := ["new"]) fun _ _ _ _ _ _ us hl => match us, hl with | [_], _ => rfl
  have b21 := F21.binds (ps := ["old", "new"]) fun _ _ _ _ _ _ us hl => match us, hl with | [_, _], _ => rfl
  have b22 := F22.binds (ps := ["self", "old", "new"]) fun _ _ _ _ _ _ us hl => match us, hl with | [_, _, _], _ => rfl
  have b23 := F23.binds (ps := ["self", "at"]) fun _ _ _ _ _ _ us hl => match us, hl with | [_, _], _ => rfl
  have b24 := F24.binds (ps := ["self", "at", "many", "is_new"]) fun _ _ _ _ _ _ us hl => match us, hl with | [_, _, _, _], _ => rfl
  have b25 := F25.binds (ps := ["reaches"]) fun _ _ _ _ _ _ us hl => match us, hl with | [_], _ => rfl
  have b26 := F26.binds (ps := ["reaches", "costs"]) fun _ _ _ _ _ _ us hl => match us, hl with | [_, _], _ => rfl
  have b27 := F27.binds (ps := ["old", "new"]) fun _ _ _ _ _ _ us hl => match us, hl with | [_, _], _ => rfl
  have b28 := F28.binds (ps := ["old", "difference"]) fun _ _ _ _ _ _ us hl => match us, hl with | [_, _], _ => rfl
  have b29 := F29.binds (ps := ["difference"]) fun _ _ _ _ _ _ us hl => match us, hl with | [_], _ => rfl
  have b30 := F30.binds (ps := ["first", "second"]) fun _ _ _ _ _ _ us hl => match us, hl with | [_, _], _ => rfl
  have b31 := F31.binds (ps := ["_law_numbers_here"]) fun _ _ _ _ _ _ us hl => match us, hl with | [_], _ => rfl
  have b32 := F32.binds (ps := ["_law_item"]) fun _ _ _ _ _ _ us hl => match us, hl with | [_], _ => rfl
  have b33 := F33.binds (ps := ["_law_row", "_law_size"]) fun _ _ _ _ _ _ us hl => match us, hl with | [_, _], _ => rfl
  have b34 := F34.binds (ps := ["_law_sources"]) fun _ _ _ _ _ _ us hl => match us, hl with | [_], _ => rfl
  have b35 := F35.binds (ps := ["_law_script", "_law_at"]) fun _ _ _ _ _ _ us hl => match us, hl with | [_, _], _ => rfl
  have b36 := F36.binds (ps := ["_law_script", "_law_at", "_law_size"]) fun _ _ _ _ _ _ us hl => match us, hl with | [_, _, _], _ => rfl
  have b37 := F37.binds (ps := ["_law_script"]) fun _ _ _ _ _ _ us hl => match us, hl with | [_], _ => rfl
  have TRe : ReTxt K mg C_Reaches f22 f23 f24 := { cl := ⟨pg_Reaches, hd_Reaches, po_Reaches, sa_Reaches⟩, gC := PySem.W.mg_of X G aC_Reaches, made := ⟨mk_Reaches, m22, n22, kp_Reaches⟩, nO := at_old_Reaches, nN := at_new_Reaches, nM := at_many_new_Reaches, nL := at_many_old_Reaches, mA := ⟨m23, n23, k23⟩, mO := ⟨m24, n24, k24⟩ }
  have TB : BdTxt K mg CB := { gC := PySem.W.mg_of X G bd0, x := bd1, k := bd2, b := bd3, t := bd4 }
  refine ⟨PySem.W.fnOf "law" "law" (defArgs sLaw) (defBody sLaw) (defScope sLaw) .none kV38 dc38 pm38 an38 cd38 ct38, fun s u => .of_eq rfl, fun base _ _ => ?_⟩
  have G_whole_0 : FnOk l.prog w K mg base CX0 1 f0 _ ["told"] _ := ok_whole (k := 0) F0 (PySem.W.mg_none_of X G z_isinstance) (PySem.W.mg_none_of X G z_bool) (PySem.W.mg_none_of X G z_int)
  have G_isNum_1 : FnOk l.prog w K mg base CX0 2 f1 _ ["told", "least", "most"] _ := ok_isNum (k := 0) F1 F0 G_whole_0 b0 (PySem.W.mg_of X G a0)
  have G_cell_2 : FnOk l.prog w K mg base CX0 1 f2 _ ["_law_script", "_law_k"] _ := ok_cell (j := 0) F2 (PySem.W.mg_none_of X G z_len)
  have G_nums_3 : FnOk l.prog w K mg base CX0 1 f3 _ ["_law_cell", "_law_limits"] _ := ok_nums (j := 0) F3 (PySem.W.mg_none_of X G z_int)
  have G_ofHex_4 : FnOk l.prog w K mg base CX0 1 f4 _ ["text"] _ := ok_ofHex (j := 0) F4 (PySem.W.mg_none_of X G z_isinstance) (PySem.W.mg_none_of X G z_str) (PySem.W.mg_none_of X G z_len) (PySem.W.mg_none_of X G z_all) (PySem.W.mg_none_of X G z_bytes) (PySem.W.mg_of X G s0)
  have G_hex_5 : FnOk l.prog w K mg base CX0 1 f5 _ ["_law_numbers_here"] _ := ok_hex (j := 0) F5 (PySem.W.mg_none_of X G z_int)
  have G_data_6 : FnOk l.prog w K mg base CX0 2 f6 _ ["_law_script", "_law_at", "_law_most"] _ := ok_data (j := 0) F6 G_cell_2 b2 k2 (PySem.W.mg_of X G a2) G_nums_3 b3 k3 (PySem.W.mg_of X G a3) (PySem.W.mg_none_of X G z_len) (PySem.W.mg_none_of X G z_int) (PySem.W.mg_none_of X G z_range)
  have G_areBytes_7 : FnOk l.prog w K mg base CX0 1 f7 _ ["told", "most"] _ := ok_areBytes (j := 0) F7 (PySem.W.mg_none_of X G z_isinstance) (PySem.W.mg_none_of X G z_bytes) (PySem.W.mg_none_of X G z_len)
  have G_mark_8 : FnOk l.prog w K mg base CX0 1 f8 _ ["data"] _ := ok_mark (j := 0) F8 (PySem.W.mg_none_of X G z_len) (PySem.W.mg_none_of X G z_sum) (PySem.W.mg_none_of X G z_enumerate) (PySem.W.mg_of X G v_MODULUS)
  have G_isMk_9 : FnOk l.prog w K mg base CX0 3 f9 _ ["told"] _ := ok_isMk (j := 2) F9 G_isNum_1 b1 k1 (PySem.W.mg_of X G a1) (by decide) (PySem.W.mg_none_of X G z_isinstance) (PySem.W.mg_none_of X G z_tuple) (PySem.W.mg_none_of X G z_len) (PySem.W.mg_of X G v_MOST_BYTES) (PySem.W.mg_of X G v_MODULUS)
  have G_mo_10 : FnOk l.prog w K mg base CX0 3 f10 _ ["item", "old_many", "there"] _ := ok_mo (j := 2) F10 G_isNum_1 b1 k1 (PySem.W.mg_of X G a1) (by decide) (PySem.W.mg_none_of X G z_isinstance) (PySem.W.mg_none_of X G z_tuple) (PySem.W.mg_none_of X G z_len) (PySem.W.mg_none_of X G z_min) (PySem.W.mg_of X G v_MOST_BYTES) (PySem.W.mg_of X G cN) (PySem.W.mg_of X G cO) (PySem.W.mg_of X G v_FEWEST_NEW) (PySem.W.mg_of X G v_FEWEST_OLD) (PySem.W.mg_of X G v_MOST_AT_ONCE)
  have G_tm_11 : FnOk l.prog w K mg base CX0 4 f11 _ ["row", "old_many", "new_many"] _ := ok_tm (j := 3) F11 G_mo_10 b10 k10 (PySem.W.mg_of X G a10) (by decide)
  have G_id_12 : FnOk l.prog w K mg base CX0 5 f12 _ ["told"] _ := ok_id (j := 4) F12 G_isMk_9 b9 k9 (PySem.W.mg_of X G a9) (by decide) G_tm_11 b11 k11 (PySem.W.mg_of X G a11) (by decide) (PySem.W.mg_none_of X G z_isinstance) (PySem.W.mg_none_of X G z_tuple) (PySem.W.mg_none_of X G z_len) (PySem.W.mg_none_of X G z_list)
  have G_refD_13 : FnOk l.prog w K mg base CX0 6 f13 _ ["told"] _ := ok_refD (j := 5) F13 G_id_12 b12 k12 (PySem.W.mg_of X G a12) (by decide)
  have G_refDN_14 : FnOk l.prog w K mg base (L2N.CX l.prog w) 6 f13 _ ["told"] _ := ok_refDN (j := 5) TB F13 G_id_12 b12 k12 (PySem.W.mg_of X G a12) (by decide)
  have G_refB_15 : FnOk l.prog w K mg base CX0 2 f14 _ ["told"] _ := ok_refB (j := 1) F14 G_areBytes_7 b7 k7 (PySem.W.mg_of X G a7) (by decide) (PySem.W.mg_of X G v_MOST_BYTES)
  have G_or_16 : FnOk l.prog w K mg base CX0 1 f15 _ ["row"] _ := ok_or (j := 0) F15 (PySem.W.mg_none_of X G z_isinstance) (PySem.W.mg_none_of X G z_tuple) (PySem.W.mg_none_of X G z_range) (PySem.W.mg_of X G cN)
  have G_go_17 : FnOk l.prog w K mg base CX0 1 f16 _ ["item", "place"] _ := ok_go (j := 0) F16 (PySem.W.mg_none_of X G z_isinstance) (PySem.W.mg_none_of X G z_tuple) (PySem.W.mg_of X G v_MOST_AT_ONCE)
  have G_rf_18 : FnOk l.prog w K mg base CX0 2 f17 _ ["origins"] _ := ok_rf (j := 1) F17 G_go_17 b16 k16 (PySem.W.mg_of X G a16) (by decide) (PySem.W.mg_none_of X G z_isinstance) (PySem.W.mg_none_of X G z_tuple) (PySem.W.mg_of X G cO)
  have G_pt_19 : FnOk l.prog w K mg base CX0 1 f18 _ ["origins", "old"] _ := ok_pt (j := 0) F18 (PySem.W.mg_none_of X G z_isinstance) (PySem.W.mg_none_of X G z_tuple) (PySem.W.mg_none_of X G z_bytes)
  have G_ma_20 : FnOk l.prog w K mg base CX0 1 f19 _ ["new", "at"] _ := ok_ma (j := 0) F19 (PySem.W.mg_none_of X G z_min) (PySem.W.mg_none_of X G z_len) (PySem.W.mg_of X G v_MOST_AT_ONCE)
  have G_ln_21 : FnOk l.prog w K mg base CX0 2 f20 _ ["new"] _ := ok_ln (j := 1) F20 G_ma_20 b19 k19 (PySem.W.mg_of X G a19) (by decide) (PySem.W.mg_none_of X G z_range) (PySem.W.mg_none_of X G z_len) (PySem.W.mg_none_of X G z_max)
  have G_lo_22 : FnOk l.prog w K mg base CX0 2 f21 _ ["old", "new"] _ := ok_lo (j := 1) F21 G_ma_20 b19 k19 (PySem.W.mg_of X G a19) (by decide) (PySem.W.mg_none_of X G z_range) (PySem.W.mg_none_of X G z_len) (PySem.W.mg_none_of X G z_max)
  have G_reInit_23 : FnOk l.prog w K mg base CX0 3 f22 _ ["self", "old", "new"] _ := ok_reInit (j := 2) TRe F22 G_ln_21 b20 k20 (PySem.W.mg_of X G a20) (by decide) G_lo_22 b21 k21 (PySem.W.mg_of X G a21) (by decide)
  have G_reA_24 : FnOk l.prog w K mg base CX0 1 f23 _ ["self", "at"] _ := ok_reA (j := 0) TRe F23 (PySem.W.mg_of X G v_FEWEST_NEW) (PySem.W.mg_of X G v_FEWEST_OLD) (PySem.W.mg_of X G v_NEW_BITS) (PySem.W.mg_of X G v_OLD_BITS)
  have G_reO_25 : FnOk l.prog w K mg base CX0 1 f24 _ ["self", "at", "many", "is_new"] _ := ok_reO (j := 0) TRe F24 (PySem.W.mg_of X G cN) (PySem.W.mg_of X G cO)
  have G_co_26 : FnOk l.prog w K mg base CX0 2 f25 _ ["reaches"] _ := ok_co (j := 1) TRe F25 G_reA_24 b23 (by decide) (PySem.W.mg_none_of X G z_len) (PySem.W.mg_none_of X G z_reversed) (PySem.W.mg_none_of X G z_range) (PySem.W.mg_none_of X G z_min) (PySem.W.mg_of X G v_BYTE_BITS)
  have G_lr_27 : FnOk l.prog w K mg base CX0 2 f26 _ ["reaches", "costs"] _ := ok_lr (j := 1) TRe F26 G_reA_24 b23 (by decide) G_reO_25 b24 (by decide) (PySem.W.mg_none_of X G z_len) (PySem.W.mg_none_of X G z_max) (PySem.W.mg_of X G v_BYTE_BITS)
  have G_di_28 : FnOk l.prog w K mg base CX0 5 f27 _ ["old", "new"] _ := ok_di (j := 4) TRe F27 G_refB_15 b14 k14 (PySem.W.mg_of X G a14) (by decide) G_reInit_23 b22 (by decide) G_co_26 b25 k25 (PySem.W.mg_of X G a25) (by decide) G_mark_8 b8 k8 (PySem.W.mg_of X G a8) (by decide) G_lr_27 b26 k26 (PySem.W.mg_of X G a26) (by decide)
  have G_po_29 : FnOk l.prog w K mg base CX0 7 f28 _ ["old", "difference"] _ := ok_po (j := 6) F28 G_refB_15 b14 k14 (PySem.W.mg_of X G a14) (by decide) G_refD_13 b13 k13 (PySem.W.mg_of X G a13) (by decide) G_mark_8 b8 k8 (PySem.W.mg_of X G a8) (by decide) G_pt_19 b18 k18 (PySem.W.mg_of X G a18) (by decide) G_or_16 b15 k15 (PySem.W.mg_of X G a15) (by decide)
  have G_fl_30 : FnOk l.prog w K mg base CX0 7 f29 _ ["difference"] _ := ok_fl (j := 6) F29 G_refD_13 b13 k13 (PySem.W.mg_of X G a13) (by decide) G_rf_18 b17 k17 (PySem.W.mg_of X G a17) (by decide) G_or_16 b15 k15 (PySem.W.mg_of X G a15) (by decide)
  have G_jo_31 : FnOk l.prog w K mg base CX0 7 f30 _ ["first", "second"] _ := ok_jo (j := 6) F30 G_refD_13 b13 k13 (PySem.W.mg_of X G a13) (by decide) G_rf_18 b17 k17 (PySem.W.mg_of X G a17) (by decide) G_or_16 b15 k15 (PySem.W.mg_of X G a15) (by decide) (PySem.W.mg_none_of X G z_isinstance) (PySem.W.mg_none_of X G z_tuple)
  have G_joN_32 : FnOk l.prog w K mg base (L2N.CX l.prog w) 7 f30 _ ["first", "second"] _ := ok_joN (j := 6) TB F30 G_refDN_14 b13 k13 (PySem.W.mg_of X G a13) (by decide)
  have G_lm_33 : FnOk l.prog w K mg base CX0 1 f31 _ ["_law_numbers_here"] _ := ok_lm (j := 0) F31 (PySem.W.mg_none_of X G z_len) (PySem.W.mg_none_of X G z_sum) (PySem.W.mg_none_of X G z_enumerate)
  have G_lw_34 : FnOk l.prog w K mg base CX0 1 f32 _ ["_law_item"] _ := ok_lw (j := 0) F32 (PySem.W.mg_none_of X G z_isinstance) (PySem.W.mg_none_of X G z_int)
  have G_lg_35 : FnOk l.prog w K mg base CX0 1 f33 _ ["_law_row", "_law_size"] _ := ok_lg (j := 0) F33 (PySem.W.mg_none_of X G z_isinstance) (PySem.W.mg_none_of X G z_int) (PySem.W.mg_none_of X G z_range) (PySem.W.mg_none_of X G z_len)
  have G_lf_36 : FnOk l.prog w K mg base CX0 1 f34 _ ["_law_sources"] _ := ok_lf (j := 0) F34 (PySem.W.mg_none_of X G z_isinstance) (PySem.W.mg_none_of X G z_tuple)
  have G_pa_37 : FnOk l.prog w K mg base CX0 3 f35 _ ["_law_script", "_law_at"] _ := ok_pa (j := 2) F35 G_cell_2 b2 k2 (PySem.W.mg_of X G a2) (by decide) G_nums_3 b3 k3 (PySem.W.mg_of X G a3) (by decide) G_data_6 b6 k6 (PySem.W.mg_of X G a6) (by decide) (PySem.W.mg_none_of X G z_len) (PySem.W.mg_none_of X G z_int) (PySem.W.mg_none_of X G z_range)
  have G_an_38 : FnOk l.prog w K mg base CX0 2 f36 _ ["_law_script", "_law_at", "_law_size"] _ := ok_an (j := 1) F36 G_cell_2 b2 k2 (PySem.W.mg_of X G a2) (by decide) G_nums_3 b3 k3 (PySem.W.mg_of X G a3) (by decide) G_lw_34 b32 k32 (PySem.W.mg_of X G a32) (by decide) (PySem.W.mg_none_of X G z_range) (PySem.W.mg_none_of X G z_int) (PySem.W.mg_none_of X G z_isinstance) (PySem.W.mg_none_of X G z_tuple) (PySem.W.mg_none_of X G z_min)
  have G_Hwhole_39 : L2H.FnH l.prog w K mg base CX0 1 f0 _ ["told"] _ := okh_whole (k := 0) F0 (PySem.W.mg_none_of X G z_isinstance) (PySem.W.mg_none_of X G z_bool) (PySem.W.mg_none_of X G z_int)
  have G_HisNum_40 : L2H.FnH l.prog w K mg base CX0 2 f1 _ ["told", "least", "most"] _ := okh_isNum (k := 0) F1 F0 G_Hwhole_39 b0 (PySem.W.mg_of X G a0)
  have G_HareBytes_41 : L2H.FnH l.prog w K mg base CX0 1 f7 _ ["told", "most"] _ := okh_areBytes (j := 0) F7 (PySem.W.mg_none_of X G z_isinstance) (PySem.W.mg_none_of X G z_bytes) (PySem.W.mg_none_of X G z_len)
  have G_Hmark_42 : L2H.FnH l.prog w K mg base CX0 1 f8 _ ["data"] _ := okh_mark (j := 0) F8 (PySem.W.mg_none_of X G z_len) (PySem.W.mg_none_of X G z_sum) (PySem.W.mg_none_of X G z_enumerate) (PySem.W.mg_of X G v_MODULUS)
  have G_HisMk_43 : L2H.FnH l.prog w K mg base CX0 3 f9 _ ["told"] _ := okh_isMk (j := 2) F9 G_HisNum_40 b1 k1 (PySem.W.mg_of X G a1) (by decide) (PySem.W.mg_none_of X G z_isinstance) (PySem.W.mg_none_of X G z_tuple) (PySem.W.mg_none_of X G z_len) (PySem.W.mg_of X G v_MOST_BYTES) (PySem.W.mg_of X G v_MODULUS)
  have G_Hmo_44 : L2H.FnH l.prog w K mg base CX0 3 f10 _ ["item", "old_many", "there"] _ := okh_mo (j := 2) F10 G_HisNum_40 b1 k1 (PySem.W.mg_of X G a1) (by decide) (PySem.W.mg_none_of X G z_isinstance) (PySem.W.mg_none_of X G z_tuple) (PySem.W.mg_none_of X G z_len) (PySem.W.mg_none_of X G z_min) (PySem.W.mg_of X G v_MOST_BYTES) (PySem.W.mg_of X G cN) (PySem.W.mg_of X G cO) (PySem.W.mg_of X G v_FEWEST_NEW) (PySem.W.mg_of X G v_FEWEST_OLD) (PySem.W.mg_of X G v_MOST_AT_ONCE)
  have G_Htm_45 : L2H.FnH l.prog w K mg base CX0 4 f11 _ ["row", "old_many", "new_many"] _ := okh_tm (j := 3) F11 G_Hmo_44 b10 k10 (PySem.W.mg_of X G a10) (by decide)
  have G_Hid_46 : L2H.FnH l.prog w K mg base CX0 5 f12 _ ["told"] _ := okh_id (j := 4) F12 G_HisMk_43 b9 k9 (PySem.W.mg_of X G a9) (by decide) G_Htm_45 b11 k11 (PySem.W.mg_of X G a11) (by decide) (PySem.W.mg_none_of X G z_isinstance) (PySem.W.mg_none_of X G z_tuple) (PySem.W.mg_none_of X G z_len) (PySem.W.mg_none_of X G z_list)
  have G_HrefD_47 : L2H.FnH l.prog w K mg base CX0 6 f13 _ ["told"] _ := okh_refD (j := 5) F13 G_Hid_46 b12 k12 (PySem.W.mg_of X G a12) (by decide)
  have G_HrefB_48 : L2H.FnH l.prog w K mg base CX0 2 f14 _ ["told"] _ := okh_refB (j := 1) F14 G_HareBytes_41 b7 k7 (PySem.W.mg_of X G a7) (by decide) (PySem.W.mg_of X G v_MOST_BYTES)
  have G_Hor_49 : L2H.FnH l.prog w K mg base CX0 1 f15 _ ["row"] _ := okh_or (j := 0) F15 (PySem.W.mg_none_of X G z_isinstance) (PySem.W.mg_none_of X G z_tuple) (PySem.W.mg_none_of X G z_range) (PySem.W.mg_of X G cN)
  have G_HofHex0_50 : L2H.FnH l.prog w K mg base CX0 1 f4 _ ["text"] _ := okh_ofHex0 (j := 0) F4 (PySem.W.mg_none_of X G z_isinstance) (PySem.W.mg_none_of X G z_str) (PySem.W.mg_none_of X G z_len) (PySem.W.mg_none_of X G z_all) (PySem.W.mg_none_of X G z_bytes) (PySem.W.mg_of X G s0)
  have G_Hln0_51 : L2H.FnH l.prog w K mg base CX0 1 f20 _ ["new"] _ := okh_ln0 (j := 0) F20 (PySem.W.mg_none_of X G z_range) (PySem.W.mg_none_of X G z_len)
  have G_Hlo0_52 : L2H.FnH l.prog w K mg base CX0 1 f21 _ ["old", "new"] _ := okh_lo0 (j := 0) F21 (PySem.W.mg_none_of X G z_range) (PySem.W.mg_none_of X G z_len)
  have G_HreInit0_53 : L2H.FnH l.prog w K mg base CX0 2 f22 _ ["self", "old", "new"] _ := okh_reInit0 (j := 1) TRe F22 G_Hln0_51 b20 k20 (PySem.W.mg_of X G a20) (by decide) G_Hlo0_52 b21 k21 (PySem.W.mg_of X G a21) (by decide)
  have G_Hco0_54 : L2H.FnH l.prog w K mg base CX0 1 f25 _ ["reaches"] _ := okh_co0 (j := 0) TRe F25 (PySem.W.mg_none_of X G z_len) (PySem.W.mg_none_of X G z_reversed) (PySem.W.mg_none_of X G z_range)
  have G_Hlr0_55 : L2H.FnH l.prog w K mg base CX0 1 f26 _ ["reaches", "costs"] _ := okh_lr0 (j := 0) TRe F26 (PySem.W.mg_none_of X G z_len)
  have G_Hdi0_56 : L2H.FnH l.prog w K mg base CX0 4 f27 _ ["old", "new"] _ := okh_di0 (j := 3) TRe F27 G_HrefB_48 b14 k14 (PySem.W.mg_of X G a14) (by decide) G_HreInit0_53 b22 (by decide) G_Hco0_54 b25 k25 (PySem.W.mg_of X G a25) (by decide) G_Hmark_42 b8 k8 (PySem.W.mg_of X G a8) (by decide) G_Hlr0_55 b26 k26 (PySem.W.mg_of X G a26) (by decide)
  have G_Hrf0_57 : L2H.FnH l.prog w K mg base CX0 1 f17 _ ["origins"] _ := okh_rf0 (j := 0) F17
  have G_Hjo0_58 : L2H.FnH l.prog w K mg base CX0 7 f30 _ ["first", "second"] _ := okh_jo0 (j := 6) F30 G_HrefD_47 b13 k13 (PySem.W.mg_of X G a13) (by decide) G_Hrf0_57 b17 k17 (PySem.W.mg_of X G a17) (by decide) G_Hor_49 b15 k15 (PySem.W.mg_of X G a15) (by decide)
  have G_al_59 : FnOk l.prog w K mg base CX0 8 f37 _ ["_law_script"] _ := ok_al (j := 7) TB (exm_own bd3 bd5 bd4 bd6) F37 G_pa_37 b35 k35 (PySem.W.mg_of X G a35) (by decide) G_cell_2 b2 k2 (PySem.W.mg_of X G a2) (by decide) G_an_38 b36 k36 (PySem.W.mg_of X G a36) (by decide) G_lg_35 b33 k33 (PySem.W.mg_of X G a33) (by decide) G_lm_33 b31 k31 (PySem.W.mg_of X G a31) (by decide) G_ofHex_4 b4 k4 (PySem.W.mg_of X G a4) (by decide) G_hex_5 b5 k5 (PySem.W.mg_of X G a5) (by decide) G_fl_30 b29 k29 (PySem.W.mg_of X G a29) (by decide) G_lf_36 b34 k34 (PySem.W.mg_of X G a34) (by decide) G_po_29 b28 k28 (PySem.W.mg_of X G a28) (by decide) G_jo_31 b30 k30 (PySem.W.mg_of X G a30) (by decide) G_di_28 b27 k27 (PySem.W.mg_of X G a27) (by decide) G_joN_32 (by decide) G_Hjo0_58 (by decide) G_Hdi0_56 (by decide) G_HofHex0_50 (by decide) (PySem.W.mg_none_of X G z_range) (PySem.W.mg_none_of X G z_len) (PySem.W.mg_none_of X G z_list)
  have G_law_60 : FnOk l.prog w K mg base CX0 9 fa _ ["_law_script"] _ := ok_law (j := 8) F38 G_al_59 b37 k37 (PySem.W.mg_of X G a37) (by decide)
  exact G_law_60
end K0

open PySem PySem.W PyProof.Rows
set_option maxHeartbeats 0 in
theorem PySem.Challenge.cw_presshouse_k10_whole_flat_holds : PySem.Challenge.rw_presshouse_k10_whole_flat.Holds := by
  w_on; o_law; k_head; (case hw => w_witness2)
  k_fill
  refine L2.walk_ofK (l := PySem.Challenge.rw_presshouse_k10_whole_flat) (n := 63) (k := 9) (x := "_law_script") (CX := L2.CX0) (sp := K0.spAl) rfl (by decide) rfl ⟨rfl, by decide, by decide⟩ (fun w h Y => PySem.W.kIn_of Y) ?F (fun K H a ns hl hO hS => ⟨a, ns, rfl, hS, fun _ => rfl⟩) (fun _ _ _ _ z => z)
  case F =>
    intro w mg fa h KX G hmg
    refine' K0.all_mk KX G hmg ?a0 ?l0 ?c0 ?k0 ?a1 ?l1 ?c1 ?k1 ?a2 ?l2 ?c2 ?k2 ?a3 ?l3 ?c3 ?k3 ?a4 ?l4 ?c4 ?k4 ?a5 ?l5 ?c5 ?k5 ?a6 ?l6 ?c6 ?k6 ?a7 ?l7 ?c7 ?k7 ?a8 ?l8 ?c8 ?k8 ?a9 ?l9 ?c9 ?k9 ?a10 ?l10 ?c10 ?k10 ?a11 ?l11 ?c11 ?k11 ?a12 ?l12 ?c12 ?k12 ?a13 ?l13 ?c13 ?k13 ?a14 ?l14 ?c14 ?k14 ?a15 ?l15 ?c15 ?k15 ?a16 ?l16 ?c16 ?k16 ?a17 ?l17 ?c17 ?k17 ?a18 ?l18 ?c18 ?k18 ?a19 ?l19 ?c19 ?k19 ?a20 ?l20 ?c20 ?k20 ?a21 ?l21 ?c21 ?k21 ?m22 ?n22 ?l22 ?c22 ?k22 ?m23 ?n23 ?l23 ?c23 ?k23 ?m24 ?n24 ?l24 ?c24 ?k24 ?a25 ?l25 ?c25 ?k25 ?a26 ?l26 ?c26 ?k26 ?a27 ?l27 ?c27 ?k27 ?a28 ?l28 ?c28 ?k28 ?a29 ?l29 ?c29 ?k29 ?a30 ?l30 ?c30 ?k30 ?a31 ?l31 ?c31 ?k31 ?a32 ?l32 ?c32 ?k32 ?a33 ?l33 ?c33 ?k33 ?a34 ?l34 ?c34 ?k34 ?a35 ?l35 ?c35 ?k35 ?a36 ?l36 ?c36 ?k36 ?a37 ?l37 ?c37 ?k37 ?a38 ?l38 ?c38 ?k38 ?aC_Reaches ?pg_Reaches ?hd_Reaches ?po_Reaches ?sa_Reaches ?mk_Reaches ?kp_Reaches ?at_old_Reaches ?at_new_Reaches ?at_many_new_Reaches ?at_many_old_Reaches ?bd0 ?bd1 ?bd2 ?bd3 ?bd4 ?bd5 ?bd6 ?s0 ?cN ?cO ?z_isinstance ?z_bool ?z_int ?z_len ?z_str ?z_all ?z_bytes ?z_range ?z_sum ?z_enumerate ?z_tuple ?z_min ?z_list ?z_max ?z_reversed ?v_MODULUS ?v_MOST_BYTES ?v_FEWEST_NEW ?v_FEWEST_OLD ?v_MOST_AT_ONCE ?v_NEW_BITS ?v_OLD_BITS ?v_BYTE_BITS
    (case aC_Reaches => first | k_is | kernel_rfl | rfl | decide +kernel)
    (case a0 => first | k_is | kernel_rfl | rfl | decide +kernel)
    (case l0 => first | k_is | kernel_rfl | rfl | decide +kernel)
    (case c0 => first | k_is | kernel_rfl | rfl | decide +kernel)
    (case k0 => first | k_is | kernel_rfl | rfl | decide +kernel)
    (case a1 => first | k_is | kernel_rfl | rfl | decide +kernel)
    (case l1 => first | k_is | kernel_rfl | rfl | decide +kernel)
    (case c1 => first | k_is | kernel_rfl | rfl | decide +kernel)
    (case k1 => first | k_is | kernel_rfl | rfl | decide +kernel)
    (case a2 => first | k_is | kernel_rfl | rfl | decide +kernel)
    (case l2 => first | k_is | kernel_rfl | rfl | decide +kernel)
    (case c2 => first | k_is | kernel_rfl | rfl | decide +kernel)
    (case k2 => first | k_is | kernel_rfl | rfl | decide +kernel)
    (case a3 => first | k_is | kernel_rfl | rfl | decide +kernel)
    (case l3 => first | k_is | kernel_rfl | rfl | decide +kernel)
    (case c3 => first | k_is | kernel_rfl | rfl | decide +kernel)
    (case k3 => first | k_is | kernel_rfl | rfl | decide +kernel)
    (case a4 => first | k_is | kernel_rfl | rfl | decide +kernel)
    (case l4 => first | k_is | kernel_rfl | rfl | decide +kernel)
    (case c4 => first | k_is | kernel_rfl | rfl | decide +kernel)
    (case k4 => first | k_is | kernel_rfl | rfl | decide +kernel)
    (case a5 => first | k_is | kernel_rfl | rfl | decide +kernel)
    (case l5 => first | k_is | kernel_rfl | rfl | decide +kernel)
    (case c5 => first | k_is | kernel_rfl | rfl | decide +kernel)
    (case k5 => first | k_is | kernel_rfl | rfl | decide +kernel)
    (case a6 => first | k_is | kernel_rfl | rfl | decide +kernel)
    (case l6 => first | k_is | kernel_rfl | rfl | decide +kernel)
    (case c6 => first | k_is | kernel_rfl | rfl | decide +kernel)
    (case k6 => first | k_is | kernel_rfl | rfl | decide +kernel)
    (case a7 => first | k_is | kernel_rfl | rfl | decide +kernel)
    (case l7 => first | k_is | kernel_rfl | rfl | decide +kernel)
    (case c7 => first | k_is | kernel_rfl | rfl | decide +kernel)
    (case k7 => first | k_is | kernel_rfl | rfl | decide +kernel)
    (case a8 => first | k_is | kernel_rfl | rfl | decide +kernel)
    (case l8 => first | k_is | kernel_rfl | rfl | decide +kernel)
    (case c8 => first | k_is | kernel_rfl | rfl | decide +kernel)
    (case k8 => first | k_is | kernel_rfl | rfl | decide +kernel)
    (case a9 => first | k_is | kernel_rfl | rfl | decide +kernel)
    (case l9 => first | k_is | kernel_rfl | rfl | decide +kernel)
    (case c9 => first | k_is | kernel_rfl | rfl | decide +kernel)
    (case k9 => first | k_is | kernel_rfl | rfl | decide +kernel)
    (case a10 => first | k_is | kernel_rfl | rfl | decide +kernel)
    (case l10 => first | k_is | kernel_rfl | rfl | decide +kernel)
    (case c10 => first | k_is | kernel_rfl | rfl | decide +kernel)
    (case k10 => first | k_is | kernel_rfl | rfl | decide +kernel)
    (case a11 => first | k_is | kernel_rfl | rfl | decide +kernel)
    (case l11 => first | k_is | kernel_rfl | rfl | decide +kernel)
    (case c11 => first | k_is | kernel_rfl | rfl | decide +kernel)
    (case k11 => first | k_is | kernel_rfl | rfl | decide +kernel)
    (case a12 => first | k_is | kernel_rfl | rfl | decide +kernel)
    (case l12 => first | k_is | kernel_rfl | rfl | decide +kernel)
    (case c12 => first | k_is | kernel_rfl | rfl | decide +kernel)
    (case k12 => first | k_is | kernel_rfl | rfl | decide +kernel)
    (case a13 => first | k_is | kernel_rfl | rfl | decide +kernel)
    (case l13 => first | k_is | kernel_rfl | rfl | decide +kernel)
    (case c13 => first | k_is | kernel_rfl | rfl | decide +kernel)
    (case k13 => first | k_is | kernel_rfl | rfl | decide +kernel)
    (case a14 => first | k_is | kernel_rfl | rfl | decide +kernel)
    (case l14 => first | k_is | kernel_rfl | rfl | decide +kernel)
    (case c14 => first | k_is | kernel_rfl | rfl | decide +kernel)
    (case k14 => first | k_is | kernel_rfl | rfl | decide +kernel)
    (case a15 => first | k_is | kernel_rfl | rfl | decide +kernel)
    (case l15 => first | k_is | kernel_rfl | rfl | decide +kernel)
    (case c15 => first | k_is | kernel_rfl | rfl | decide +kernel)
    (case k15 => first | k_is | kernel_rfl | rfl | decide +kernel)
    (case a16 => first | k_is | kernel_rfl | rfl | decide +kernel)
    (case l16 => first | k_is | kernel_rfl | rfl | decide +kernel)
    (case c16 => first | k_is | kernel_rfl | rfl | decide +kernel)
    (case k16 => first | k_is | kernel_rfl | rfl | decide +kernel)
    (case a17 => first | k_is | kernel_rfl | rfl | decide +kernel)
    (case l17 => first | k_is | kernel_rfl | rfl | decide +kernel)
    (case c17 => first | k_is | kernel_rfl | rfl | decide +kernel)
    (case k17 => first | k_is | kernel_rfl | rfl | decide +kernel)
    (case a18 => first | k_is | kernel_rfl | rfl | decide +kernel)
    (case l18 => first | k_is | kernel_rfl | rfl | decide +kernel)
    (case c18 => first | k_is | kernel_rfl | rfl | decide +kernel)
    (case k18 => first | k_is | kernel_rfl | rfl | decide +kernel)
    (case a19 => first | k_is | kernel_rfl | rfl | decide +kernel)
    (case l19 => first | k_is | kernel_rfl | rfl | decide +kernel)
    (case c19 => first | k_is | kernel_rfl | rfl | decide +kernel)
    (case k19 => first | k_is | kernel_rfl | rfl | decide +kernel)
    (case a20 => first | k_is | kernel_rfl | rfl | decide +kernel)
    (case l20 => first | k_is | kernel_rfl | rfl | decide +kernel)
    (case c20 => first | k_is | kernel_rfl | rfl | decide +kernel)
    (case k20 => first | k_is | kernel_rfl | rfl | decide +kernel)
    (case a21 => first | k_is | kernel_rfl | rfl | decide +kernel)
    (case l21 => first | k_is | kernel_rfl | rfl | decide +kernel)
    (case c21 => first | k_is | kernel_rfl | rfl | decide +kernel)
    (case k21 => first | k_is | kernel_rfl | rfl | decide +kernel)
    (case a25 => first | k_is | kernel_rfl | rfl | decide +kernel)
    (case l25 => first | k_is | kernel_rfl | rfl | decide +kernel)
    (case c25 => first | k_is | kernel_rfl | rfl | decide +kernel)
    (case k25 => first | k_is | kernel_rfl | rfl | decide +kernel)
    (case a26 => first | k_is | kernel_rfl | rfl | decide +kernel)
    (case l26 => first | k_is | kernel_rfl | rfl | decide +kernel)
    (case c26 => first | k_is | kernel_rfl | rfl | decide +kernel)
    (case k26 => first | k_is | kernel_rfl | rfl | decide +kernel)
    (case a27 => first | k_is | kernel_rfl | rfl | decide +kernel)
    (case l27 => first | k_is | kernel_rfl | rfl | decide +kernel)
    (case c27 => first | k_is | kernel_rfl | rfl | decide +kernel)
    (case k27 => first | k_is | kernel_rfl | rfl | decide +kernel)
    (case a28 => first | k_is | kernel_rfl | rfl | decide +kernel)
    (case l28 => first | k_is | kernel_rfl | rfl | decide +kernel)
    (case c28 => first | k_is | kernel_rfl | rfl | decide +kernel)
    (case k28 => first | k_is | kernel_rfl | rfl | decide +kernel)
    (case a29 => first | k_is | kernel_rfl | rfl | decide +kernel)
    (case l29 => first | k_is | kernel_rfl | rfl | decide +kernel)
    (case c29 => first | k_is | kernel_rfl | rfl | decide +kernel)
    (case k29 => first | k_is | kernel_rfl | rfl | decide +kernel)
    (case a30 => first | k_is | kernel_rfl | rfl | decide +kernel)
    (case l30 => first | k_is | kernel_rfl | rfl | decide +kernel)
    (case c30 => first | k_is | kernel_rfl | rfl | decide +kernel)
    (case k30 => first | k_is | kernel_rfl | rfl | decide +kernel)
    (case a31 => first | k_is | kernel_rfl | rfl | decide +kernel)
    (case l31 => first | k_is | kernel_rfl | rfl | decide +kernel)
    (case c31 => first | k_is | kernel_rfl | rfl | decide +kernel)
    (case k31 => first | k_is | kernel_rfl | rfl | decide +kernel)
    (case a32 => first | k_is | kernel_rfl | rfl | decide +kernel)
    (case l32 => first | k_is | kernel_rfl | rfl | decide +kernel)
    (case c32 => first | k_is | kernel_rfl | rfl | decide +kernel)
    (case k32 => first | k_is | kernel_rfl | rfl | decide +kernel)
    (case a33 => first | k_is | kernel_rfl | rfl | decide +kernel)
    (case l33 => first | k_is | kernel_rfl | rfl | decide +kernel)
    (case c33 => first | k_is | kernel_rfl | rfl | decide +kernel)
    (case k33 => first | k_is | kernel_rfl | rfl | decide +kernel)
    (case a34 => first | k_is | kernel_rfl | rfl | decide +kernel)
    (case l34 => first | k_is | kernel_rfl | rfl | decide +kernel)
    (case c34 => first | k_is | kernel_rfl | rfl | decide +kernel)
    (case k34 => first | k_is | kernel_rfl | rfl | decide +kernel)
    (case a35 => first | k_is | kernel_rfl | rfl | decide +kernel)
    (case l35 => first | k_is | kernel_rfl | rfl | decide +kernel)
    (case c35 => first | k_is | kernel_rfl | rfl | decide +kernel)
    (case k35 => first | k_is | kernel_rfl | rfl | decide +kernel)
    (case a36 => first | k_is | kernel_rfl | rfl | decide +kernel)
    (case l36 => first | k_is | kernel_rfl | rfl | decide +kernel)
    (case c36 => first | k_is | kernel_rfl | rfl | decide +kernel)
    (case k36 => first | k_is | kernel_rfl | rfl | decide +kernel)
    (case a37 => first | k_is | kernel_rfl | rfl | decide +kernel)
    (case l37 => first | k_is | kernel_rfl | rfl | decide +kernel)
    (case c37 => first | k_is | kernel_rfl | rfl | decide +kernel)
    (case k37 => first | k_is | kernel_rfl | rfl | decide +kernel)
    (case a38 => first | k_is | kernel_rfl | rfl | decide +kernel)
    (case l38 => first | k_is | kernel_rfl | rfl | decide +kernel)
    (case c38 => first | k_is | kernel_rfl | rfl | decide +kernel)
    (case k38 => first | k_is | kernel_rfl | rfl | decide +kernel)
    (case pg_Reaches => first | k_is | kernel_rfl | rfl | decide +kernel)
    (case hd_Reaches => first | k_is | kernel_rfl | rfl | decide +kernel)
    (case po_Reaches => first | k_is | kernel_rfl | rfl | decide +kernel)
    (case sa_Reaches => first | k_is | kernel_rfl | rfl | decide +kernel)
    (case mk_Reaches => first | k_is | kernel_rfl | rfl | decide +kernel)
    (case kp_Reaches => first | k_is | kernel_rfl | rfl | decide +kernel)
    (case at_old_Reaches => first | k_is | kernel_rfl | rfl | decide +kernel)
    (case at_new_Reaches => first | k_is | kernel_rfl | rfl | decide +kernel)
    (case at_many_new_Reaches => first | k_is | kernel_rfl | rfl | decide +kernel)
    (case at_many_old_Reaches => first | k_is | kernel_rfl | rfl | decide +kernel)
    (case m22 => first | k_is | kernel_rfl | rfl | decide +kernel)
    (case n22 => first | k_is | kernel_rfl | rfl | decide +kernel)
    (case l22 => first | k_is | kernel_rfl | rfl | decide +kernel)
    (case c22 => first | k_is | kernel_rfl | rfl | decide +kernel)
    (case k22 => first | k_is | kernel_rfl | rfl | decide +kernel)
    (case m23 => first | k_is | kernel_rfl | rfl | decide +kernel)
    (case n23 => first | k_is | kernel_rfl | rfl | decide +kernel)
    (case l23 => first | k_is | kernel_rfl | rfl | decide +kernel)
    (case c23 => first | k_is | kernel_rfl | rfl | decide +kernel)
    (case k23 => first | k_is | kernel_rfl | rfl | decide +kernel)
    (case m24 => first | k_is | kernel_rfl | rfl | decide +kernel)
    (case n24 => first | k_is | kernel_rfl | rfl | decide +kernel)
    (case l24 => first | k_is | kernel_rfl | rfl | decide +kernel)
    (case c24 => first | k_is | kernel_rfl | rfl | decide +kernel)
    (case k24 => first | k_is | kernel_rfl | rfl | decide +kernel)
    (case bd0 => first | k_is | kernel_rfl | rfl | decide +kernel)
    (case bd1 => first | k_is | kernel_rfl | rfl | decide +kernel)
    (case bd2 => first | k_is | kernel_rfl | rfl | decide +kernel)
    (case bd3 => first | k_is | kernel_rfl | rfl | decide +kernel)
    (case bd4 => first | k_is | kernel_rfl | rfl | decide +kernel)
    (case bd5 => first | k_is | kernel_rfl | rfl | decide +kernel)
    (case bd6 => first | k_is | kernel_rfl | rfl | decide +kernel)
    (case s0 => first | k_is | kernel_rfl | rfl | decide +kernel)
    (case cN => first | k_is | kernel_rfl | rfl | decide +kernel)
    (case cO => first | k_is | kernel_rfl | rfl | decide +kernel)
    (case z_isinstance => first | k_is | kernel_rfl | rfl | decide +kernel)
    (case z_bool => first | k_is | kernel_rfl | rfl | decide +kernel)
    (case z_int => first | k_is | kernel_rfl | rfl | decide +kernel)
    (case z_len => first | k_is | kernel_rfl | rfl | decide +kernel)
    (case z_str => first | k_is | kernel_rfl | rfl | decide +kernel)
    (case z_all => first | k_is | kernel_rfl | rfl | decide +kernel)
    (case z_bytes => first | k_is | kernel_rfl | rfl | decide +kernel)
    (case z_range => first | k_is | kernel_rfl | rfl | decide +kernel)
    (case z_sum => first | k_is | kernel_rfl | rfl | decide +kernel)
    (case z_enumerate => first | k_is | kernel_rfl | rfl | decide +kernel)
    (case z_tuple => first | k_is | kernel_rfl | rfl | decide +kernel)
    (case z_min => first | k_is | kernel_rfl | rfl | decide +kernel)
    (case z_list => first | k_is | kernel_rfl | rfl | decide +kernel)
    (case z_max => first | k_is | kernel_rfl | rfl | decide +kernel)
    (case z_reversed => first | k_is | kernel_rfl | rfl | decide +kernel)
    (case v_MODULUS => first | k_is | kernel_rfl | rfl | decide +kernel)
    (case v_MOST_BYTES => first | k_is | kernel_rfl | rfl | decide +kernel)
    (case v_FEWEST_NEW => first | k_is | kernel_rfl | rfl | decide +kernel)
    (case v_FEWEST_OLD => first | k_is | kernel_rfl | rfl | decide +kernel)
    (case v_MOST_AT_ONCE => first | k_is | kernel_rfl | rfl | decide +kernel)
    (case v_NEW_BITS => first | k_is | kernel_rfl | rfl | decide +kernel)
    (case v_OLD_BITS => first | k_is | kernel_rfl | rfl | decide +kernel)
    (case v_BYTE_BITS => first | k_is | kernel_rfl | rfl | decide +kernel)

