import PyProof.Rows.All
import Wide.All
import OpenK.AllK
import Wide.FinOn
import PyProof.EqAt
import PyProof.EqKinds
import PyProof.TupleCall
import HandS.ForMost
import HandS.ForExc
import HandS.IsInst
import HandS.SortKw
import HandS.SortRule
import HandS.SetFor
import HandS.Flow
import HandS.Zip
import HandS.Walk
import HandS.Bytes
import HandS.BytesMake
import HandS.ToBytes
import HandS.Defaults
import KE.KBytesHexOf
import HandS.Small
import HandS.WideBits
import HandS.Strs
import KE.KExcSuper
import HandS.ExcInit
import HandS.FStr
import PyProof.FString2
import HandS.HotCalls
import HandS.Style
import HandS.ExcCtx
import KE.KBytesFind
import KE.GoesMore
import KE.DataMinMax
import HandS.RevRange
import HandS.TupMul
import HandS.DictTup
import KE.KDictDisplayH
import PySem.Challenge.RW_presshouse_k04_whole_least
set_option Elab.async false
set_option linter.all false
set_option maxRecDepth 100000
set_option maxHeartbeats 4100000
namespace K4
open PySem PySem.Spec PyProof.Rows L2
def topS (i : Nat) : Stmt := PySem.Challenge.pw_presshouse_k04_whole_least.main.body.getD i (.Pass ⟨0, 0, 0, 0⟩)
abbrev sRAt : Stmt := topS 30
abbrev sRBy : Stmt := topS 31
abbrev sPairs : Stmt := topS 32
abbrev sWorths : Stmt := topS 37
abbrev sFirstOf : Stmt := topS 39
abbrev sWhole : Stmt := topS 8
abbrev sIsNum : Stmt := topS 9
abbrev sAreNum : Stmt := topS 10
abbrev sOfHex : Stmt := topS 13
abbrev sAreBytes : Stmt := topS 11
abbrev sCopied : Stmt := topS 12
abbrev sAreGood : Stmt := topS 16
abbrev sAreP : Stmt := topS 25
abbrev sBackOf : Stmt := topS 26
abbrev sTld : Stmt := topS 43
abbrev sBits : Stmt := topS 44
abbrev sIsItem : Stmt := topS 45
abbrev sBehind : Stmt := topS 46
abbrev sCopyB : Stmt := topS 47
abbrev sItemB : Stmt := topS 48
abbrev sSteps : Stmt := topS 57
abbrev sCosts : Stmt := topS 38
abbrev sItemAt : Stmt := topS 40
abbrev sLeast : Stmt := topS 53
abbrev sAreCosts : Stmt := topS 54
abbrev sTells : Stmt := topS 55
abbrev sNone : Stmt := topS 56
abbrev sCell : Stmt := topS 59
abbrev sNums : Stmt := topS 60
abbrev sHex : Stmt := topS 61
abbrev sData : Stmt := topS 62
abbrev sBack : Stmt := topS 63
abbrev sCost : Stmt := topS 64
abbrev sTold : Stmt := topS 67
abbrev sItems : Stmt := topS 65
abbrev sSearch : Stmt := topS 66
abbrev sPrices : Stmt := topS 68
abbrev sBetter : Stmt := topS 69
abbrev sToldBy : Stmt := topS 70
abbrev sSpoilt : Stmt := topS 71
abbrev sAll : Stmt := topS 72
abbrev sLaw : Stmt := topS 73
abbrev sPlLook : Stmt := inClass (topS 29) 1
abbrev sPlPairs : Stmt := inClass (topS 29) 2
abbrev sFBits : Stmt := inClass (topS 35) 1
abbrev sFCheap : Stmt := inClass (topS 35) 2
abbrev sRoInit : Stmt := inClass (topS 36) 0
abbrev sRoTaken : Stmt := inClass (topS 36) 1
abbrev sRoSteps : Stmt := inClass (topS 36) 2
abbrev sRoRow : Stmt := inClass (topS 36) 3
abbrev sRoTold : Stmt := inClass (topS 36) 4
abbrev sPInit : Stmt := inClass (topS 24) 0
abbrev sPLet : Stmt := inClass (topS 24) 1
abbrev sPBk : Stmt := inClass (topS 24) 2
abbrev sPlInit : Stmt := inClass (topS 29) 0
abbrev sPlBack : Stmt := inClass (topS 29) 3
abbrev sFInit : Stmt := inClass (topS 35) 0
abbrev sLInit : Stmt := inClass (topS 51) 0
abbrev sLShows : Stmt := inClass (topS 51) 1
abbrev sNInit : Stmt := inClass (topS 52) 0
abbrev sNShows : Stmt := inClass (topS 52) 1
theorem scIsNum : FnScope ["told", "least", "most"] ["told", "least", "most"] (defScope sIsNum) := ⟨rfl, rfl, rfl, by decide +kernel, rfl, by decide +kernel, by decide +kernel⟩
theorem scAreNum : FnScope ["told", "least", "most", "one"] ["told", "least", "most"] (defScope sAreNum) := ⟨rfl, rfl, rfl, by decide +kernel, rfl, by decide +kernel, by decide +kernel⟩
theorem same_upd {H : Hp} {p : Addr} {o : HO} (h : H p = none) : Same H (upd H p o) := fun b x e => by
  rw [upd_ne (ne_of_none e h)]
  exact e
theorem same_put {H H' : Hp} {D : Addr} {o : HO} (h : Same H H') (n : H D = none) : Same H (upd H' D o) := fun b x e => by
  rw [upd_ne (ne_of_none e n)]
  exact h _ _ e
theorem none_back {H H' : Hp} {D : Addr} (h : Same H H') (n : H' D = none) : H D = none := by
  cases e : H D with
  | none => rfl
  | some o => (rw [h _ _ e] at n); (cases n)
theorem int_of {xs : List Int} {i : Nat} {v : V} (h : (xs.map V.int)[i]? = some v) : ∃ x, v = .int x ∧ xs[i]? = some x := by
  rw [List.getElem?_map] at h
  cases e : xs[i]? with
  | none => (rw [e] at h); (cases h)
  | some y => rw [e] at h; exact ⟨y, (Option.some.inj h).symm, rfl⟩
theorem yes {σ : L2.St} {H : Hp} {A B : Hp → Prop} (h : A H) : tYes σ H fun b H3 => if b = true then A H3 else B H3 := by simpa [tYes] using h
section
variable {P : Program} {w : World} {K : PySem.W.Frag} {mg : Str → Option Value} {base : Heap}
def spWhole : Sp := fun vs H Q _ => ∃ v, vs = [v] ∧ ((∃ x : Int, v = .int x ∧ Q (.bl true) H) ∨ (∃ (p : Addr) (xs : List V), v = .ref p ∧ H p = some (.lst xs) ∧ Q (.bl false) H) ∨ (v = .non ∧ Q (.bl false) H))
theorem scWhole : FnScope ["told"] ["told"] (defScope sWhole) := ⟨rfl, rfl, rfl, by decide +kernel, rfl, by decide +kernel, by decide +kernel⟩
theorem ok_whole {f : Addr} {fd : FuncData} {k : Nat} (F : Fun K "is_whole" "is_whole" sWhole f fd) (m1 : mg "isinstance" = none) (m2 : mg "bool" = none) (m3 : mg "int" = none) : FnOk P w K mg base CX0 (k + 1) f fd ["told"] spWhole := by
  refine F.ok scWhole (fun vs H Q E h => ?_) (fun cdv A outer s H vs Q E hr h => ?_)
  · obtain ⟨v, rfl, _⟩ := h
    rfl
  · obtain ⟨v, rfl, h⟩ := h
    refine ⟨_, pss_one (ps_ret (pe_and (pe_callB call_isi (by rfl) m1 (by decide +kernel) (pa_cons (pv 0) (pa_cons (pe_bltn (v := .ty "int") (by rfl) m3 (by decide +kernel) rfl) pa_nil)))
      (pe_one (pe_not (pe_callB call_isi (by rfl) m1 (by decide +kernel) (pa_cons (pv 0) (pa_cons (pe_bltn (v := .ty "bool") (by rfl) m2 (by decide +kernel) rfl) pa_nil))))))), ?_⟩
    rcases h with ⟨x, rfl, q⟩ | ⟨p, xs, rfl, hp, q⟩ | ⟨rfl, q⟩
    · refine ⟨_, rfl, _, _, _, _, _, rfl, .ty "int", .base (.int _), kit_ty (a := "int") (r := true) (by decide +kernel), _, rfl, iteT ?_⟩
      exact ⟨_, rfl, _, _, _, _, _, rfl, .ty "bool", .base (.int _), kit_ty (a := "int") (r := false) (by decide +kernel), _, rfl, q⟩
    · exact ⟨_, rfl, _, _, _, _, _, rfl, .ty "int", .base (.lst hp), kit_ty (a := "list") (r := false) (by decide +kernel), _, rfl, iteF q⟩
    · exact ⟨_, rfl, _, _, _, _, _, rfl, .ty "int", .base .non, kit_ty (a := "NoneType") (r := false) (by decide +kernel), _, rfl, iteF q⟩
def spIsNum : Sp := fun vs H Q _ => ∃ (v : V) (a b : Int), vs = [v, .int a, .int b] ∧ ((∃ x : Int, v = .int x ∧ Q (.bl (decide (a ≤ x ∧ x ≤ b))) H) ∨ (∃ (p : Addr) (xs : List V), v = .ref p ∧ H p = some (.lst xs) ∧ Q (.bl false) H) ∨ (v = .non ∧ Q (.bl false) H))
theorem ok_isNum {f f0 : Addr} {fd fd0 : FuncData} {k : Nat} (F : Fun K "is_number" "is_number" sIsNum f fd) (F0 : Fun K "is_whole" "is_whole" sWhole f0 fd0) (G0 : FnOk P w K mg base CX0 (k + 1) f0 fd0 ["told"] spWhole) (b0 : Binds K fd0 ["told"] []) (g0 : mg "is_whole" = some (.ref f0)) :
    FnOk P w K mg base CX0 (k + 2) f fd ["told", "least", "most"] spIsNum := by
  refine F.ok scIsNum (fun vs H Q E h => ?_) (fun cdv A outer s H vs Q E hr h => ?_)
  · obtain ⟨v, a, b, rfl, _⟩ := h
    rfl
  · obtain ⟨v, a, b, rfl, h⟩ := h
    refine ⟨_, pss_one (ps_ret (pe_and (pe_call G0 hr (by rfl) g0 F0.kp b0 .nil pass0 (pa_cons (pv 0) pa_nil)) (pe_one (pe_chain op_le op_le (pv 1) (pv 0) (pv 2))))), ?_⟩
    rcases h with ⟨x, rfl, q⟩ | ⟨p, xs, rfl, hp, q⟩ | ⟨rfl, q⟩
    · refine ⟨_, rfl, _, rfl, .inl ⟨x, rfl, _, rfl, iteT ?_⟩⟩
      refine ⟨_, rfl, _, rfl, _, _, rfl, rfl, _, rfl, ?_⟩
      by_cases h1 : a ≤ x
      · rw [if_pos (decide_eq_true h1)]
        refine ⟨_, rfl, _, _, rfl, rfl, ?_⟩
        simpa [h1] using q
      · rw [if_neg (by simpa using h1)]
        simpa [h1] using q
    · exact ⟨_, rfl, _, rfl, .inr (.inl ⟨p, xs, rfl, hp, _, rfl, iteF q⟩)⟩
    · exact ⟨_, rfl, _, rfl, .inr (.inr ⟨rfl, _, rfl, iteF q⟩)⟩
/-- a list that is made beside all that was there -/
def spAreNum : Sp := fun vs H Q _ => ∃ (p : Addr) (xs : List Int) (a b : Int), vs = [.ref p, .int a, .int b] ∧ H p = some (.lst (xs.map V.int)) ∧ xs.length ≤ 1000 ∧ ∀ H', Same H H' → Q (.bl (xs.all fun x => decide (a ≤ x ∧ x ≤ b))) H'
theorem ok_areNum {f f1 : Addr} {fd fd1 : FuncData} {k : Nat} (F : Fun K "are_numbers" "are_numbers" sAreNum f fd) (F1 : Fun K "is_number" "is_number" sIsNum f1 fd1) (G1 : FnOk P w K mg base CX0 (k + 2) f1 fd1 ["told", "least", "most"] spIsNum)
    (b1 : Binds K fd1 ["told", "least", "most"] []) (g1 : mg "is_number" = some (.ref f1)) (m1 : mg "isinstance" = none) (m2 : mg "list" = none) (m3 : mg "all" = none) : FnOk P w K mg base CX0 (k + 3) f fd ["told", "least", "most"] spAreNum := by
  refine F.ok scAreNum (fun vs H Q E h => ?_) (fun cdv A outer s H vs Q E hr h => ?_)
  · obtain ⟨p, xs, a, b, rfl, _⟩ := h
    rfl
  · obtain ⟨p, xs, a, b, rfl, hp, hl, q⟩ := h
    refine ⟨_, pss_one (ps_ret (pe_and (pe_callB call_isi (by rfl) m1 (by decide +kernel) (pa_cons (pv 0) (pa_cons (pe_bltn (v := .ty "list") (by rfl) m2 (by decide +kernel) rfl) pa_nil)))
      (pe_one (pe_callB (cr_all rfl) (by rfl) m3 (by decide +kernel) (pa_cons (pe_lc (own := [("one", 3)]) (g := gName 3) (tt := tYes) rfl scAreNum.nd (pi_list (pv 0)) (blkOk_by (N := ["told", "least", "most", "one"]) (sc := defScope sAreNum) (by decide +kernel))
        (fun _ _ _ _ _ => pg_name (i := 3) scAreNum.nd rfl (Or.inl rfl)) (fun _ _ _ _ _ => pts_nil)
        (fun _ _ _ _ _ => pe_call G1 hr (by rfl) g1 F1.kp b1 .nil pass0 (pa_cons (pv 3) (pa_cons (pv 1) (pa_cons (pv 2) pa_nil))))) pa_nil))))), ?_⟩
    refine ⟨_, rfl, _, _, _, _, _, rfl, .ty "list", .base (.lst hp), kit_ty (a := "list") (r := true) (by decide +kernel), _, rfl, iteT ?_⟩
    refine ⟨_, rfl, p, rfl, ⟨_, .inl (.inl hp)⟩, fun D nD => ?_⟩
    refine lc_list (K := K) (a := p) (xs := xs.map V.int) (fun i H' => Same H H' ∧ H' D = some (.lst ((xs.take i).map fun x => .bl (decide (a ≤ x ∧ x ≤ b))))) ⟨same_upd nD, upd_same⟩ (fun i H' _ h => .inl (.inl (h.1 _ _ hp))) (fun i x H' hx h => ?_) (fun H' h => ?_)
    · obtain ⟨x, rfl, hx'⟩ := int_of hx
      refine ⟨rfl, yes ?_⟩
      refine ⟨_, rfl, _, rfl, _, rfl, .int x, a, b, rfl, .inl ⟨x, rfl, _, h.2, ?_, same_put h.1 nD, ?_⟩⟩
      · rw [List.length_map, List.length_take]
        exact small1000 (by omega)
      · rw [upd_same, List.take_add_one, hx']
        simp
    · have e : (xs.take (xs.map V.int).length) = xs := by rw [List.length_map, List.take_length]
      rw [e] at h
      refine ⟨D, (xs.map fun x => decide (a ≤ x ∧ x ≤ b)), rfl, .inl (.inl ?_), ?_⟩
      · rw [h.2, List.map_map]
        rfl
      · have q' := q H' h.1
        rw [List.all_map]
        exact q'
end
end K4

namespace K4
open PySem PySem.Spec PyProof.Rows L2
/-! ### equal lists -/
theorem dp_ints {K : PySem.W.Frag} {H : Hp} : ∀ xs : List Int, DpAll K H (xs.map V.int) (xs.map PyData.int)
  | [] => .nil
  | x :: xs => .cons (.int x) (dp_ints xs)
theorem dp_bools {K : PySem.W.Frag} {H : Hp} : ∀ xs : List Bool, DpAll K H (xs.map V.bl) (xs.map PyData.bool)
  | [] => .nil
  | x :: xs => .cons (.bl x) (dp_bools xs)
theorem eqvA_ints : ∀ xs ys : List Int, PyData.eqvAll (xs.map .int) (ys.map .int) = decide (xs = ys)
  | [], [] => by simp [PyData.eqvAll]
  | [], _ :: _ => by simp [PyData.eqvAll]
  | _ :: _, [] => by simp [PyData.eqvAll]
  | x :: xs, y :: ys => by
    simp only [List.map_cons, PyData.eqvAll, PyData.eqv, eqvA_ints xs ys]
    by_cases h : x = y <;> simp [h]
theorem eqvA_bools : ∀ xs ys : List Bool, PyData.eqvAll (xs.map .bool) (ys.map .bool) = decide (xs = ys)
  | [], [] => by simp [PyData.eqvAll]
  | [], _ :: _ => by simp [PyData.eqvAll]
  | _ :: _, [] => by simp [PyData.eqvAll]
  | x :: xs, y :: ys => by
    simp only [List.map_cons, PyData.eqvAll, PyData.eqv, eqvA_bools xs ys]
    by_cases h : x = y <;> simp [h]
theorem eqv_ints (xs ys : List Int) : PyData.eqv (.list (xs.map .int)) (.list (ys.map .int)) = decide (xs = ys) := by rw [PyData.eqv, eqvA_ints]
theorem eqv_bools (xs ys : List Bool) : PyData.eqv (.list (xs.map .bool)) (.list (ys.map .bool)) = decide (xs = ys) := by rw [PyData.eqv, eqvA_bools]
theorem clA_ints : ∀ ns : List Int, PyData.canLayAll0 (ns.map PyData.int) = true
  | [] => by (simp [PyData.canLayAll0])
  | _ :: r => by simp [PyData.canLayAll0, PyData.canLay0, clA_ints r]
theorem dA_ints : ∀ ns : List Int, PyData.depthAll (ns.map PyData.int) = 0
  | [] => rfl
  | _ :: r => by simp [PyData.depthAll, PyData.depth, dA_ints r]
theorem shaped_intsQ (ns : List Int) : SeqAt.shaped (.list (ns.map PyData.int)) = true := by
  simp [SeqAt.shaped, PyData.canLay0, PyData.depth, clA_ints, dA_ints]
theorem clA_bools : ∀ ns : List Bool, PyData.canLayAll0 (ns.map PyData.bool) = true
  | [] => by (simp [PyData.canLayAll0])
  | _ :: r => by simp [PyData.canLayAll0, PyData.canLay0, clA_bools r]
theorem dA_bools : ∀ ns : List Bool, PyData.depthAll (ns.map PyData.bool) = 0
  | [] => rfl
  | _ :: r => by simp [PyData.depthAll, PyData.depth, dA_bools r]
theorem shaped_bools (ns : List Bool) : SeqAt.shaped (.list (ns.map PyData.bool)) = true := by
  simp [SeqAt.shaped, PyData.canLay0, PyData.depth, clA_bools, dA_bools]
def cellAt (xs : List Int) (k : Nat) : Int := if k < xs.length then xs.getD k 0 else if xs = [] then (k : Int) * 48271 else ((xs.getD (k % xs.length) 0 + k) * 48271).fmod 2147483647
theorem scCell : FnScope ["_law_script", "_law_k"] ["_law_script", "_law_k"] (defScope sCell) := ⟨rfl, rfl, rfl, by decide +kernel, rfl, by decide +kernel, by decide +kernel⟩
section
variable {P : Program} {w : World} {K : PySem.W.Frag} {mg : Str → Option Value} {base : Heap}
def spCell (K : PySem.W.Frag) : Sp := fun vs H Q _ => ∃ (p : Addr) (xs : List Int) (k : Nat), vs = [.ref p, .int (k : Int)] ∧ SqL K H p (xs.map V.int) ∧ k ≤ 100000 ∧ ∀ H', Same H H' → Q (.int (cellAt xs k)) H'
theorem ok_cell {f : Addr} {fd : FuncData} {j : Nat} (F : Fun K "_law_cell_at" "_law_cell_at" sCell f fd) (m1 : mg "len" = none) : FnOk P w K mg base CX0 (j + 1) f fd ["_law_script", "_law_k"] (K4.spCell K) := by
  refine F.ok scCell (fun vs H Q E h => ?_) (fun cdv A outer s H vs Q E hr h => ?_)
  · obtain ⟨p, xs, k, rfl, _⟩ := h
    rfl
  · obtain ⟨p, xs, k, rfl, hp, hk, q⟩ := h
    refine ⟨_, pss_cons (ps_if (pt_cmpR op_lt (pv 1) (pe_callB call_len_seq (by rfl) m1 PySem.boot_len (pa_cons (pv 0) pa_nil)) (nomark _)) (pss_one (ps_ret (pe_ix ix_list (pv 0) (pv 1) (fun _ _ => rfl)))) pss_nil)
      (pss_cons (ps_if (pt_cmpR (op_eqD hr.units) (pv 0) (pe_lst pa_nil) (nomark _)) (pss_one (ps_ret (pe_op op_mul (pv 1) pe_int))) pss_nil)
      (pss_one (ps_ret (pe_op op_modN (pe_op op_mul (pe_op op_add (pe_ix ix_list (pv 0) (pe_op op_modN (pv 1) (pe_callB call_len_seq (by rfl) m1 PySem.boot_len (pa_cons (pv 0) pa_nil))) (fun _ _ => rfl)) (pv 1)) pe_int) pe_int)))), ?_⟩
    refine ⟨_, rfl, _, rfl, p, _, rfl, .inl hp, _, _, rfl, rfl, _, rfl, ite2 (fun e => ?_) (fun e => ?_)⟩
    · have hlt : k < xs.length := by
        have := of_decide_eq_true e
        rw [List.length_map] at this
        omega
      have q' := q H (Same.refl H)
      rw [cellAt, if_pos hlt] at q'
      refine ⟨_, rfl, _, rfl, p, _, _, .int (xs.getD k 0), rfl, rfl, hp, atI_nat ?_, q'⟩
      rw [List.getElem?_map, List.getElem?_eq_getElem hlt, List.getD_eq_getElem?_getD, List.getElem?_eq_getElem hlt]
      rfl
    · have hge : ¬ k < xs.length := fun z => e (decide_eq_true (by rw [List.length_map]; omega))
      refine ⟨_, rfl, Nat.zero_le _, fun z nz => ?_⟩
      have sm : Same H (upd H z (.lst [])) := same_upd nz
      have q' := q _ sm
      rw [cellAt, if_neg hge] at q'
      refine ⟨_, _, .lst (sm.seq hp) (dp_ints xs), .lst (ds := []) (.inl (.inl upd_same)) .nil, shaped_intsQ xs, shaped_intsQ [], ?_⟩
      have ee : PyData.eqv (.list (xs.map .int)) (.list []) = decide (xs = []) := eqv_ints xs []
      rw [ee]
      refine ⟨_, rfl, ite2 (fun e2 => ?_) (fun e2 => ?_)⟩
      · have : xs = [] := of_decide_eq_true e2
        rw [if_pos this] at q'
        exact ⟨_, rfl, _, _, rfl, rfl, .inl ⟨by omega, by omega⟩, q'⟩
      · have hne : ¬ xs = [] := fun z => e2 (decide_eq_true z)
        rw [if_neg hne] at q'
        have hpos : 0 < xs.length := List.length_pos_iff.mpr hne
        have hm : k % xs.length < xs.length := Nat.mod_lt _ hpos
        have em : (k : Int).fmod ((xs.map V.int).length : Int) = ((k % xs.length : Nat) : Int) := by
          rw [List.length_map, Int.fmod_eq_emod_of_nonneg _ (by omega)]
          rfl
        refine ⟨_, rfl, _, rfl, _, rfl, p, _, rfl, .inl (sm.seq hp), _, _, rfl, rfl, by rw [List.length_map]; omega, p, _, _, .int (xs.getD (k % xs.length) 0), rfl, rfl, sm.seq hp, (by rw [em]; exact atI_nat (by
          rw [List.getElem?_map, List.getElem?_eq_getElem hm, List.getD_eq_getElem?_getD, List.getElem?_eq_getElem hm]
          rfl)), _, rfl, _, _, rfl, rfl, _, _, rfl, rfl, .inr ⟨by decide, by decide⟩, _, _, rfl, rfl, (by show (2147483647 : Int) ≠ 0; decide), q'⟩
end
/-! ### _law_numbers -/
def InLims (ds lims : List Int) : Prop := ds.length ≤ lims.length ∧ ∀ (j : Nat) (d l : Int), ds[j]? = some d → lims[j]? = some l → 0 ≤ d ∧ d < l
theorem fmod_in {a l : Int} (h : 0 < l) : 0 ≤ a.fmod l ∧ a.fmod l < l := by
  rw [Int.fmod_eq_emod_of_nonneg _ (Int.le_of_lt h)]
  exact ⟨Int.emod_nonneg _ (by omega), Int.emod_lt_of_pos _ h⟩
theorem InLims.snoc {ds lims : List Int} {d l : Int} (h : InLims ds lims) (hl : lims[ds.length]? = some l) (hd : 0 ≤ d ∧ d < l) : InLims (ds ++ [d]) lims := by
  refine ⟨by have := (List.getElem?_eq_some_iff.mp hl).1; simp; omega, fun j d' l' h1 h2 => ?_⟩
  by_cases q : j < ds.length
  · rw [List.getElem?_append_left q] at h1
    exact h.2 j d' l' h1 h2
  · have e : j = ds.length := by
      have := (List.getElem?_eq_some_iff.mp h1).1
      simp at this
      omega
    subst e
    rw [List.getElem?_append_right (Nat.le_refl _)] at h1
    simp at h1
    rw [hl] at h2
    cases h2
    rw [← h1]
    exact hd
theorem scNums : FnScope ["_law_cell", "_law_limits", "_law_rest", "_law_found"] ["_law_cell", "_law_limits"] (defScope sNums) := ⟨rfl, rfl, rfl, by decide +kernel, rfl, by decide +kernel, by decide +kernel⟩
section
variable {P : Program} {w : World} {K : PySem.W.Frag} {mg : Str → Option Value} {base : Heap}
def spNums : Sp := fun vs H Q _ => ∃ (p : Addr) (c : Int) (lims : List Int), vs = [.int c, .ref p] ∧ H p = some (.lst (lims.map V.int)) ∧ lims.length ≤ 1000 ∧ (∀ l ∈ lims, 0 < l ∧ l < 1000000) ∧
  ∀ H' q ds, Same H H' → H q = none → H' q = some (.lst (ds.map V.int)) → ds.length = lims.length → InLims ds lims → Q (.ref q) H'
theorem ok_nums {f : Addr} {fd : FuncData} {j : Nat} (F : Fun K "_law_numbers" "_law_numbers" sNums f fd) (m1 : mg "int" = none) : FnOk P w K mg base CX0 (j + 1) f fd ["_law_cell", "_law_limits"] spNums := by
  refine F.ok scNums (fun vs H Q E h => ?_) (fun cdv A outer s H vs Q E hr h => ?_)
  · obtain ⟨p, c, lims, rfl, _⟩ := h
    rfl
  · obtain ⟨p, c, lims, rfl, hp, hl, hpos, q⟩ := h
    refine ⟨_, pss_cons (ps_set (i := 2) scNums.nd rfl (.inl rfl) (pv 0))
      (pss_cons (ps_if (pt_cmpR op_lt (pv 0) (pe_op op_pow pe_int pe_int) (nomark _))
        (pss_one (ps_set (i := 2) scNums.nd rfl (.inl rfl) (pe_op op_fdivN (pe_op op_pow (pe_op op_add (pe_op op_mul (pe_op op_modN (pv 0) pe_int) pe_int) pe_int) pe_int) pe_int))) pss_nil)
      (pss_cons (ps_set (i := 3) scNums.nd rfl (.inl rfl) (pe_lst pa_nil))
      (pss_cons (ps_for PassesOwn.never rfl (pi_list (pv 1)) (pg_name (i := 1) scNums.nd rfl (.inl rfl))
        (pss_cons (ps_expr (pe_bm PySem.F.plainAttrs_list PySem.F.slot_list_append PySem.F.type_list_append mt_append (pv 3) (pa_cons (pe_op op_modN (pe_callTy call_int1 (by rfl) m1 (by decide +kernel) (pa_cons (pv 2) pa_nil)) (pv 1)) pa_nil)))
        (pss_one (ps_set (i := 2) scNums.nd rfl (.inl rfl) (pe_op op_fdivN (pv 2) (pv 1))))))
      (pss_one (ps_ret (pv 3)))))), ?_⟩
    refine ⟨_, rfl, _, rfl, _, _, rfl, rfl, ⟨by decide, by decide, by decide⟩, _, _, rfl, rfl, _, rfl, ite2 (fun e => ?_) (fun e => ?_)⟩
    · have hm := fmod_in (a := c) (l := 2147483647) (by decide)
      refine ⟨_, rfl, _, _, rfl, rfl, (by show (2147483647 : Int) ≠ 0; decide), _, _, rfl, rfl, .inr ⟨by decide, by decide⟩, _, _, rfl, rfl, _, _, rfl, rfl, ⟨by decide, by decide, by omega⟩, _, _, rfl, rfl, ⟨by decide, by decide⟩, ?_⟩
      refine ⟨Nat.zero_le _, fun D nD => ?_⟩
      have hpD : (upd H D (.lst [])) p = some (.lst (lims.map V.int)) := same_upd nD _ _ hp
      refine ⟨_, rfl, p, rfl, ⟨_, .inl (.inl hpD)⟩, ?_⟩
      refine for_list (K := K) (a := p) (xs := lims.map V.int) (fun i σ H' => ∃ (y1 : Option V) (r : Int) (ds : List Int), σ = [some (.int c), y1, some (.int r), some (.ref D)] ∧ Same H H' ∧ H' D = some (.lst (ds.map V.int)) ∧ ds.length = i ∧ InLims ds lims)
        ⟨_, _, [], rfl, same_upd nD, upd_same, rfl, Nat.zero_le _, fun j d l h => by simp at h⟩ (fun i σ H' _ h => ?_) (fun i x σ H' hx h => ?_) (fun σ H' h => ?_)
      · obtain ⟨_, _, _, _, sm, _⟩ := h
        exact .inl (.inl (sm _ _ hp))
      · obtain ⟨y1, r, ds, rfl, sm, hD, hdl, hin⟩ := h
        obtain ⟨x, rfl, hx'⟩ := int_of hx
        obtain ⟨hx0, hx1⟩ := hpos x (List.mem_of_getElem? hx')
        refine ⟨.ref D, rfl, .inl ⟨rfl, _, .inl (.inl hD)⟩, .int r, rfl, .inl ⟨r, rfl, .int x, rfl, _, _, rfl, rfl, (by omega), D, _, _, rfl, rfl, hD, ?_, ?_⟩⟩
        · rw [List.length_map]
          exact small1000 (by have := (List.getElem?_eq_some_iff.mp hx').1; omega)
        · refine ⟨.int r, rfl, .int x, rfl, _, _, rfl, rfl, ⟨(by omega), (by omega)⟩, some (.int x), r.fdiv x, ds ++ [r.fmod x], rfl, same_put sm nD, ?_, by simp [hdl], hin.snoc (by rw [hdl]; exact hx') (fmod_in hx0)⟩
          rw [upd_same, List.map_append]
          rfl
      · obtain ⟨y1, r, ds, rfl, sm, hD, hdl, hin⟩ := h
        rw [List.length_map] at hdl
        exact ⟨.ref D, rfl, q H' D ds sm nD hD hdl hin⟩
    · refine ⟨Nat.zero_le _, fun D nD => ?_⟩
      have hpD : (upd H D (.lst [])) p = some (.lst (lims.map V.int)) := same_upd nD _ _ hp
      refine ⟨_, rfl, p, rfl, ⟨_, .inl (.inl hpD)⟩, ?_⟩
      refine for_list (K := K) (a := p) (xs := lims.map V.int) (fun i σ H' => ∃ (y1 : Option V) (r : Int) (ds : List Int), σ = [some (.int c), y1, some (.int r), some (.ref D)] ∧ Same H H' ∧ H' D = some (.lst (ds.map V.int)) ∧ ds.length = i ∧ InLims ds lims)
        ⟨_, _, [], rfl, same_upd nD, upd_same, rfl, Nat.zero_le _, fun j d l h => by simp at h⟩ (fun i σ H' _ h => ?_) (fun i x σ H' hx h => ?_) (fun σ H' h => ?_)
      · obtain ⟨_, _, _, _, sm, _⟩ := h
        exact .inl (.inl (sm _ _ hp))
      · obtain ⟨y1, r, ds, rfl, sm, hD, hdl, hin⟩ := h
        obtain ⟨x, rfl, hx'⟩ := int_of hx
        obtain ⟨hx0, hx1⟩ := hpos x (List.mem_of_getElem? hx')
        refine ⟨.ref D, rfl, .inl ⟨rfl, _, .inl (.inl hD)⟩, .int r, rfl, .inl ⟨r, rfl, .int x, rfl, _, _, rfl, rfl, (by omega), D, _, _, rfl, rfl, hD, ?_, ?_⟩⟩
        · rw [List.length_map]
          exact small1000 (by have := (List.getElem?_eq_some_iff.mp hx').1; omega)
        · refine ⟨.int r, rfl, .int x, rfl, _, _, rfl, rfl, ⟨(by omega), (by omega)⟩, some (.int x), r.fdiv x, ds ++ [r.fmod x], rfl, same_put sm nD, ?_, by simp [hdl], hin.snoc (by rw [hdl]; exact hx') (fmod_in hx0)⟩
          rw [upd_same, List.map_append]
          rfl
      · obtain ⟨y1, r, ds, rfl, sm, hD, hdl, hin⟩ := h
        rw [List.length_map] at hdl
        exact ⟨.ref D, rfl, q H' D ds sm nD hD hdl hin⟩
end
end K4

namespace K4
open PySem PySem.Spec PyProof.Rows L2
open PySem.Calls
/-! ### bytes.fromhex(text) of a text that bytes have -/
abbrev dg : Nat → Nat := PySem.Builtin.Bytes.hexDigit
def sg (ks : List Nat) : List Nat := ks.flatMap fun k => [dg (k / 16), dg (k % 16)]
theorem hex_key {f : Nat → Nat → List Nat → Array UInt8 → Except Nat (Array UInt8)} (e0 : ∀ n i out, f n i [] out = .ok out)
    (e1 : ∀ (a b : Fin 16) n i rest out, f (n + 1) i (dg a.1 :: dg b.1 :: rest) out = f n (i + 2) rest (out.push (a.1 * 16 + b.1).toUInt8)) :
    ∀ (ks : List Nat) (n i : Nat) (out : Array UInt8), (∀ k ∈ ks, k < 256) → ks.length ≤ n → f n i (sg ks) out = .ok (out ++ (ks.map Nat.toUInt8).toArray)
  | [], n, i, out, _, _ => by
    show f n i [] out = _
    rw [e0]
    simp
  | k :: ks, 0, i, out, _, hn => by simp at hn
  | k :: ks, n + 1, i, out, hk, hn => by
    have k0 : k < 256 := hk k (by simp)
    have h1 : k / 16 < 16 := by omega
    have h2 : k % 16 < 16 := by omega
    show f (n + 1) i (dg (k / 16) :: dg (k % 16) :: sg ks) out = _
    rw [e1 ⟨k / 16, h1⟩ ⟨k % 16, h2⟩, hex_key e0 e1 ks n (i + 2) _ (fun k m => hk k (by simp [m])) (by simpa using hn)]
    have e : k / 16 * 16 + k % 16 = k := by omega
    simp [e]
theorem sg_len : ∀ ks : List Nat, (sg ks).length = 2 * ks.length
  | [] => rfl
  | k :: ks => by
    show ([dg (k / 16), dg (k % 16)] ++ sg ks).length = _
    rw [List.length_append, sg_len ks, List.length_cons]
    simp
    omega
theorem dg_lt (n : Nat) (h : n < 16) : dg n < 128 := by
  have : ∀ m : Fin 16, dg m.1 < 128 := by decide +kernel
  exact this ⟨n, h⟩
theorem sg_lt : ∀ {ks : List Nat}, (∀ k ∈ ks, k < 256) → ∀ c ∈ sg ks, c < 128
  | [], _, c, h => by (cases h)
  | k :: ks, hk, c, h => by
    have k0 : k < 256 := hk k (by simp)
    have h' : c ∈ [dg (k / 16), dg (k % 16)] ++ sg ks := h
    rcases (List.mem_append.mp h') with (q | q)
    · simp at q
      rcases q with rfl | rfl
      · exact dg_lt _ (by omega)
      · exact dg_lt _ (by omega)
    · exact sg_lt (fun k m => hk k (by simp [m])) c q
/-- a method of the class bytes, bound to it -/
def fhBound : Obj := { cls := .type "builtin_function_or_method", data := .fields #[.builtin "bytes.fromhex", .type "bytes"] }
def fhHO (u : Addr) : HO := .ext fun h => h.get? u = some fhBound
theorem fh_type : typeOf (.builtin "bytes.fromhex") = pure (.type "classmethod_descriptor") := by
  show builtinType _ = _
  rw [builtinType_eq_fast]
  kernel_rfl
theorem fh_entry : entryFor table "bytes.fromhex" = some Builtin.«bytes.fromhex» := entryFor_of_tree (by kernel_rfl)
theorem fh_quiet {as : Args} : (Code.builtin "bytes.fromhex" as).quiet = true := Code.quiet_builtin _ (by decide +kernel)
theorem fh_isType : isType (.type "bytes") = pure true := by first | rfl | kernel_rfl | (unfold isType; rw [isSubtype_type]; kernel_rfl)
theorem fh_sub : isSubtype (.type "bytes") (.type "bytes") = pure true := by
  rw [isSubtype_type]
  kernel_rfl
theorem fh_owner : (kfb_private% "ownerAndName") "bytes.fromhex" = ("bytes", "fromhex") := by first | decide +kernel | kernel_rfl
theorem fh_check {o : PySem.Str} {u : Tok} : checkBoundCall "bytes.fromhex" ⟨[.type "bytes", .str o u], []⟩ = pure () := by first | kernel_rfl | rfl
section
variable {prog : Program} {w : World} {M : Model} {E : Value → Shared → Prop} {s : Shared} {A : Around} {K : PySem.W.Frag}
theorem fh_run {R : Fin → Shared → Prop} (h : R (.done (.ret (.ref s.heap.objs.size))) { s with heap := s.heap.push fhBound }) :
    wpAny M A (Builtin.«classmethod_descriptor.__get__» ⟨[.builtin "bytes.fromhex", .none, .type "bytes"], []⟩) R E s := by
  unfold Builtin.«classmethod_descriptor.__get__»
  refine wpAny_bind (wpAny_of_eq (a := (.builtin "bytes.fromhex", none, some (.type "bytes"))) (by first | rfl | kernel_rfl) ?_)
  simp only [fh_owner]
  refine wpAny_bind (wpAny_of_eq (a := .type "bytes") rfl ?_)
  refine wpAny_bind (wpAny_of_eq (a := true) fh_isType ?_)
  refine PySem.W.KFB.if_not rfl ?_
  refine wpAny_bind (wpAny_of_eq (a := true) fh_sub ?_)
  refine PySem.W.KFB.if_not rfl ?_
  exact wpAny_bind (wpAny_newObj_type (wpAny_pure h))
theorem fh_tree {ks : List Nat} {u : Tok} {R : Fin → Shared → Prop} (hk : ∀ k ∈ ks, k < 256) (hl : ks.length ≤ 1000000)
    (h : R (.done (.ret (.bytes (ks.map Nat.toUInt8).toArray s.toks))) { s with toks := s.toks + 1 }) :
    wpAny M A (Builtin.«bytes.fromhex» ⟨[.type "bytes", .str ⟨(sg ks).toArray⟩ u], []⟩) R E s := by
  unfold Builtin.«bytes.fromhex» Builtin.Bytes.fromhexM
  dsimp only
  have hno : Array.findIdx? (fun x : Nat => decide (x ≥ 128)) (sg ks).toArray = none := by
    rw [Array.findIdx?_eq_none_iff]
    intro c hc
    have := sg_lt hk c (by simpa using hc)
    exact decide_eq_false (by omega)
  refine wpAny_bind (wpAny_of_eq (a := "bytes") (by first | rfl | kernel_rfl) ?_)
  refine PySem.W.KFB.if_not rfl ?_
  refine wpAny_bind (wpAny_of_eq (a := some ⟨(sg ks).toArray⟩) rfl ?_)
  dsimp only
  rw [hno]
  dsimp only
  split
  all_goals
    rename_i v heq
    have z := (hex_key (by intro n i out; cases n <;> rfl) (by
      intro a b n i rest out
      obtain ⟨a, ha⟩ := a
      obtain ⟨b, hb⟩ := b
      have ea : a = 0 ∨ a = 1 ∨ a = 2 ∨ a = 3 ∨ a = 4 ∨ a = 5 ∨ a = 6 ∨ a = 7 ∨ a = 8 ∨ a = 9 ∨ a = 10 ∨ a = 11 ∨ a = 12 ∨ a = 13 ∨ a = 14 ∨ a = 15 := by omega
      have eb : b = 0 ∨ b = 1 ∨ b = 2 ∨ b = 3 ∨ b = 4 ∨ b = 5 ∨ b = 6 ∨ b = 7 ∨ b = 8 ∨ b = 9 ∨ b = 10 ∨ b = 11 ∨ b = 12 ∨ b = 13 ∨ b = 14 ∨ b = 15 := by omega
      rcases ea with rfl | rfl | rfl | rfl | rfl | rfl | rfl | rfl | rfl | rfl | rfl | rfl | rfl | rfl | rfl | rfl <;>
        (rcases eb with rfl | rfl | rfl | rfl | rfl | rfl | rfl | rfl | rfl | rfl | rfl | rfl | rfl | rfl | rfl | rfl <;> rfl)) ks (sg ks).toArray.size 0 #[] hk (by simp [sg_len]; omega)).symm.trans heq
  · cases z
  · have e := Except.ok.inj z
    rw [← e]
    refine PySem.W.KFB.if_so (by decide +kernel) ?_
    refine wpAny_bind (wpAny_mkBytes ?_ ?_)
    · rw [Array.empty_append]
      exact wpAny_pure h
    · have hz := PySem.sizeLine_eq
      simp
      omega
theorem fh_call {x : Addr} {ks : List Nat} {u : Tok} {Q : Value → Shared → Prop} (ho : s.heap.get? x = some fhBound) (hk : ∀ k ∈ ks, k < 256) (hl : ks.length ≤ 1000000)
    (h : Q (.bytes (ks.map Nat.toUInt8).toArray s.toks) { s with toks := s.toks + 1 }) : wpAny (model prog w) A (call (.ref x) [.str ⟨(sg ks).toArray⟩ u]) Q E s := by
  refine wpAny_call (codeAny_of_tree ?_)
  show wpAny _ A.in1 (callAny (.ref x) ⟨[.str ⟨(sg ks).toArray⟩ u], []⟩) _ _ s
  simp only [callAny]
  refine wpAny_bind (wpAny_load ho ?_)
  simp only [fhBound, show (Value.type "builtin_function_or_method" == Value.type "method" || Value.type "builtin_function_or_method" == Value.type "builtin_function_or_method" || Value.type "builtin_function_or_method" == Value.type "method-wrapper") = true by decide, if_true]
  refine PySem.W.KFB.if_so (by decide) ?_
  refine wpAny_bind (wpAny_of_eq (a := ()) fh_check ?_)
  refine wpAny_bind (wpAny_pure (wpAny_pure ?_))
  exact ⟨fh_quiet, codeAny_builtin fh_entry (fh_tree hk hl h)⟩
theorem fh_fields {pos : Pos} {u : Addr} {first : List Value} {args : List (Bool × Sem Value)} {Q : Value → Shared → Prop} (hplain : args.any (·.1) = false)
    (h : wpAny M A (evalArgs (.ref u) true args []) (fun x s₁ => s₁.heap.get? u = some fhBound ∧ wpAny M A (call (.ref u) (first ++ x.pos) x.kw) Q E s₁) E s) :
    wpAny M A (callWith pos (.ref u) first args []) Q E s := by
  unfold callWith
  refine wpAny_bind (wpAny_holding (wpAny_mono h (fun x s₁ hx => ?_) fun _ _ z => z))
  refine wpAny_bind (wpAny_standAt ?_)
  simp only [hplain, List.any_nil, Bool.or_false]
  refine wpAny_bind (m := keeperOf (.ref u)) ?_
  unfold keeperOf
  refine wpAny_bind (wpAny_load hx.1 ?_)
  simp only [fhBound, show (Value.type "builtin_function_or_method" != Value.type "method") = true by decide, show (Value.type "builtin_function_or_method" == Value.type "builtin_function_or_method" || Value.type "builtin_function_or_method" == Value.type "method-wrapper") = true by decide, if_true]
  refine wpAny_pure ?_
  exact wpAny_bind (wpAny_mono hx.2 (fun r s₂ hr => wpAny_bind (wpAny_holding (wpAny_point (wpAny_pure hr)))) fun _ _ z => z)
theorem fh_with {pos : Pos} {u : Addr} {first : List Value} {env : Env} {e : Expr} {rest : List Expr} {Q : Value → Shared → Prop}
    (h : wpAny M A (spliced (backTo pos (starEach (e :: rest) env))) (fun vs s₁ => s₁.heap.get? u = some fhBound ∧ wpAny M A (call (.ref u) (first ++ vs)) Q E s₁) E s)
    (he : starEach (e :: rest) env = (false, eval e env) :: starEach rest env := by rfl) (hplain : (backTo pos (starEach rest env)).any (·.1) = false := by rfl) :
    wpAny M A (callWith pos (.ref u) first (backTo pos (starEach (e :: rest) env)) []) Q E s := by
  rw [he] at h ⊢
  exact fh_fields (by show (false || (backTo pos (starEach rest env)).any (·.1)) = false; rw [hplain]; rfl) (Calls.evalArgs_plain h)
theorem fh_find (K : PySem.W.Frag) : PySem.W.findCls K (.type "bytes") (.type "type") (PySem.Str.ofString "fromhex") = some (.get (.builtin "classmethod_descriptor.__get__") (.builtin "bytes.fromhex") .none (.type "bytes")) := by first | rfl | kernel_rfl
theorem fh_get {pl : Sem Bool} {Q : Value × List Value → Shared → Prop} (X : K.In s.heap)
    (h : Q (.ref s.heap.objs.size, []) { s with heap := s.heap.push fhBound, toks := s.toks + 1 }) : wpAny (model prog w) A (getMethod (.type "bytes") (PySem.Str.ofString "fromhex") pl) Q E s := by
  have L0 : PySem.W.Looks (model prog w) s.heap (typeOf (.type "bytes")) (.type "type") := PySem.W.Looks.of_pure (by first | rfl | kernel_rfl)
  have LO : PySem.W.Looks (model prog w) s.heap (opaqueClassAbove (.type "bytes")) none := PySem.W.Looks.of_pure (by
    unfold opaqueClassAbove
    dsimp only
    rw [show Manifest.isStub "bytes" = false by decide +kernel]
    rfl)
  have hg : PySem.W.findIn K (.type "type") "__getattribute__" = some (some (.builtin "type.__getattribute__")) := PySem.W.type_tga
  unfold getMethod specialOf
  refine wpAny_bind (wpAny_bind (L0.here ((PySem.W.looks_findIn X hg).here ?_)))
  dsimp only
  rw [if_pos PySem.W.canon_tga]
  refine wpAny_bind (wpAny_mono (E := E) (Q := fun v => Q (v, [])) ?_ (fun _ _ z => wpAny_pure z) fun _ _ z => z)
  refine PySem.W.cls_open X LO L0 hg (PySem.W.looks_hook X (r := none) (by rfl)) (by show PySem.W.subIn K _ _ = _; rfl) (fh_find K) ?_
  show wpAny _ _ (holding [.builtin "bytes.fromhex"] (call (.builtin "classmethod_descriptor.__get__") [.builtin "bytes.fromhex", .none, .type "bytes"]) >>= fun v => ret v) _ _ _
  exact wpAny_bind (wpAny_holding (wpAny_call_entry PySem.W.KFB.slot_get fh_type PySem.W.KFB.entry_get (fh_run ⟨_, rfl, wpAny_pure (wpAny_pure h)⟩) (PySem.W.KFB.args_get _ _ _)))
end
def rFh : List V → Hp → VK → Prop := fun vs H Q => ∃ ks : List Nat, vs = [.str ⟨(sg ks).toArray⟩] ∧ (∀ k ∈ ks, k < 256) ∧ ks.length ≤ 1000000 ∧ Q (.byt (ks.map Nat.toUInt8).toArray) H
def tFh (to : TE) (t : TA) : TE := fun σ H Q => to σ H fun x H1 => x = .ty "bytes" ∧ ∀ u, H1 u = none → t σ (upd H1 u (fhHO u)) fun vs H2 => H2 u = some (fhHO u) ∧ rFh vs H2 Q
theorem fh_at {X : Cx} {pins : List (Addr × Obj)} {s : Shared} {σ : L2.St} {H : Hp} {u : Addr} (I : Inv X pins σ H s) (hu : H u = some (fhHO u)) : s.heap.get? u = some fhBound := by
  have x : ObjOk X.prog X.w H s.heap u (.ext fun h => h.get? u = some fhBound) := I.hok u _ hu
  exact x.1
section
variable {X : Cx} {o e : Expr} {es : List Expr} {to : TE} {t : TA} {apos pos : Pos}
theorem pe_fromhex {pl : Sem Bool} (ho : PE X o to) (ha : PA X (e :: es) t) (hst : starEach (e :: es) X.env = (false, eval e X.env) :: starEach es X.env := by rfl) (hpl : (backTo pos (starEach es X.env)).any (·.1) = false := by rfl)
    (ht : eval (.Call (.Attribute o "fromhex" apos) (e :: es) [] pos) X.env = (do
      let own ← eval o X.env
      standAt apos.atName
      let (f, first) ← holding [own] (getMethod own "fromhex" pl)
      callWith pos f first (backTo pos (starEach (e :: es) X.env)) (backToKw pos (keywordEach [] X.env))) := by rfl) :
    PE X (.Call (.Attribute o "fromhex" apos) (e :: es) [] pos) (tFh to t) := by
  constructor
  intro pins s σ H Q I h
  refine PySem.W.methodCall_KW (pl := pl) (thn (ho.run pins s σ H _ I h) fun v s1 ⟨x, H1, I1, rx, ex, q⟩ => ?_) ht
  subst ex
  obtain rfl : v = Value.type "bytes" := rx
  refine fh_get I1.kIn ?_
  have eb : (s1.heap.push fhBound).get? s1.heap.objs.size = some fhBound := Heap.get?_push_size _ rfl
  have I2 := I1.laid (t' := s1.toks + 1) (a := s1.heap.objs.size) (o := fhHO s1.heap.objs.size) (h' := s1.heap.push fhBound) (fun b u q => Heap.get?_push_of_some _ q) (Nat.le_refl _) ⟨eb, ⟨_, eb⟩, fun h1 h2 f k => k _ f⟩
  show wpAny _ _ (callWith pos (.ref s1.heap.objs.size) [] (backTo pos (starEach (e :: es) X.env)) []) _ _ _
  refine fh_with (thn (ha.run pos pins _ σ _ _ I2 (q _ (I1.hok.fresh (Nat.le_refl _)))) fun us s2 ⟨vs, H2, I3, rv, hu, ks, ev, hk, hl, qq⟩ => ⟨fh_at I3 hu, ?_⟩) hst hpl
  subst ev
  obtain ⟨u1, rfl, ru1⟩ := (vals1 rv)
  obtain ⟨t1, rfl⟩ := ru1
  exact fh_call (fh_at I3 hu) hk hl ⟨.byt _, H2, I3.tok _, ⟨_, rfl⟩, qq⟩
/-! ### b.hex() -/
theorem mt_hex : MtR X "bytes.hex" (fun x vs H Q => ∃ ks : List Nat, x = .byt (ks.map Nat.toUInt8).toArray ∧ vs = [] ∧ (∀ k ∈ ks, k < 256) ∧ ks.length ≤ 1000000 ∧ Q (.str ⟨(sg ks).toArray⟩) H) := by
  intro pins s σ H x vs v us Q I rx rv h
  obtain ⟨ks, rfl, rfl, hk, hl, q⟩ := h
  obtain ⟨t, rfl⟩ := rx
  cases rv
  have hb : PySem.W.KBw.bInts (ks.map Nat.toUInt8).toArray = ks.map fun (k : Nat) => (k : Int) := by
    unfold PySem.W.KBw.bInts
    show ((ks.map Nat.toUInt8).map fun c : UInt8 => ((c.toNat : Nat) : Int)) = _
    rw [List.map_map]
    refine (List.map_congr_left fun n hn => ?_)
    show (((n.toUInt8).toNat : Nat) : Int) = n
    have := hk n hn
    simp [Nat.toUInt8]
    omega
  have ht : PySem.W.KBhx.text (ks.map fun (k : Nat) => (k : Int)) = ⟨(sg ks).toArray⟩ := by
    unfold PySem.W.KBhx.text PySem.W.KBhx.signs sg
    rw [List.flatMap_map]
    rfl
  refine PySem.W.KBhx.hex_K hb (by rw [List.length_map]; omega) fun t' k _ => ?_
  rw [ht]
  exact ⟨.str _, H, I.tok _, ⟨_, rfl⟩, q⟩
end
end K4

namespace K4
open PySem PySem.Spec PyProof.Rows L2
/-! ### of_hex, hex_of -/
def sgS (ks : List Nat) : Str := ⟨(sg ks).toArray⟩
def byB (ks : List Nat) : Array UInt8 := (ks.map Nat.toUInt8).toArray
def hexTab : Str := "0123456789abcdef"
theorem dg_in {n : Nat} (h : n < 16) : dg n ∈ hexTab.cps.toList := by
  have : ∀ m : Fin 16, dg m.1 ∈ hexTab.cps.toList := by decide +kernel
  exact this ⟨n, h⟩
theorem sg_in : ∀ {ks : List Nat}, (∀ k ∈ ks, k < 256) → ∀ c ∈ sg ks, c ∈ hexTab.cps.toList
  | [], _, c, h => by (cases h)
  | k :: ks, hk, c, h => by
    have k0 : k < 256 := hk k (by simp)
    have h' : c ∈ [dg (k / 16), dg (k % 16)] ++ sg ks := h
    rcases (List.mem_append.mp h') with (q | q)
    · simp at q
      rcases q with rfl | rfl
      · exact dg_in (by omega)
      · exact dg_in (by omega)
    · exact sg_in (fun k m => hk k (by simp [m])) c q
theorem scOfHex : FnScope ["text", "sign"] ["text"] (defScope sOfHex) := ⟨rfl, rfl, rfl, by decide +kernel, rfl, by decide +kernel, by decide +kernel⟩
section
variable {P : Program} {w : World} {K : PySem.W.Frag} {mg : Str → Option Value} {base : Heap}
def spOfHex : Sp := fun vs H Q _ => ∃ ks : List Nat, vs = [.str (sgS ks)] ∧ (∀ k ∈ ks, k < 256) ∧ ks.length ≤ 100000 ∧ ∀ H', Same H H' → Q (.byt (byB ks)) H'
theorem ok_ofHex {f : Addr} {fd : FuncData} {j : Nat} {t : Tok} (F : Fun K "of_hex" "of_hex" sOfHex f fd) (m1 : mg "isinstance" = none) (m2 : mg "str" = none) (m3 : mg "len" = none) (m4 : mg "all" = none) (m5 : mg "bytes" = none) (c1 : mg "SIGNS" = some (.str hexTab t)) :
    FnOk P w K mg base CX0 (j + 1) f fd ["text"] spOfHex := by
  refine F.ok scOfHex (fun vs H Q E h => ?_) (fun cdv A outer s H vs Q E hr h => ?_)
  · obtain ⟨ks, rfl, _⟩ := h
    rfl
  · obtain ⟨ks, rfl, hk, hl, q⟩ := h
    refine ⟨_, pss_cons (ps_if (PW.pt (pw_or (pt_not (pt_val (pe_callB call_isi (by rfl) m1 (by decide +kernel) (pa_cons (pv 0) (pa_cons (pe_bltn (v := .ty "str") (by rfl) m2 (by decide +kernel) rfl) pa_nil)))))
        (pw_or (pt_truth (pe_op op_and (pe_callB call_len_str (by rfl) m3 PySem.boot_len (pa_cons (pv 0) pa_nil)) pe_int) (by intro _; rfl))
        (pw_or1 (pt_not (pt_val (pe_callB (cr_all rfl) (by rfl) m4 (by decide +kernel) (pa_cons (pe_lc (own := [("sign", 1)]) (g := gName 1) (tt := tYes) rfl scOfHex.nd (pi_str (pv 0)) (blkOk_by (N := ["text", "sign"]) (sc := defScope sOfHex) (by decide +kernel))
          (fun _ _ _ _ _ => pg_name (i := 1) scOfHex.nd rfl (Or.inl rfl)) (fun _ _ _ _ _ => pts_nil)
          (fun _ _ _ _ _ => pe_cmpR op_in_sign (pv 1) (pe_glob (v := .str hexTab) rfl c1 ⟨_, rfl⟩) (by with_unfolding_all rfl))) pa_nil))))))))
        (pss_one ps_never) pss_nil)
      (pss_one (ps_ret (pe_fromhex (pe_bltn (v := .ty "bytes") (by rfl) m5 (by decide +kernel) rfl) (pa_cons (pv 0) pa_nil)))), ?_⟩
    have hsz : (sgS ks).length = 2 * ks.length := sg_len ks
    have hz := PySem.sizeLine_eq
    refine ⟨_, rfl, _, _, _, _, _, rfl, .ty "str", .base (.str _), kit_ty (a := "str") (r := true) (by decide +kernel), _, rfl, ?_⟩
    refine iteF ?_
    refine ⟨_, rfl, _, rfl, by rw [hsz, hz]; omega, _, _, rfl, rfl, _, rfl, ?_⟩
    have hev : Builtin.bitAnd (((sgS ks).length : Nat) : Int) 1 = 0 := by
      rw [PyProof.Rows.bitAnd_m1, hsz]
      omega
    rw [hev]
    refine iteF ?_
    refine ⟨_, rfl, _, rfl, fun D nD => ?_⟩
    refine lc_it (walk_str (z := sgS ks)) (fun i H' => Same H H' ∧ H' D = some (.lst (List.replicate i (.bl true)))) ⟨same_upd nD, upd_same⟩ (fun _ _ _ _ => trivial) (fun i x H1 H2 hi h y => ?_) (fun H' h => ?_)
    · obtain ⟨rfl, c, hc, rfl⟩ := y
      refine ⟨rfl, yes ?_⟩
      have hcs : c ∈ sg ks := by
        have := Array.mem_of_getElem? hc
        simpa [sgS] using this
      refine ⟨_, rfl, c, hexTab, rfl, rfl, _, h.2, ?_, same_put h.1 nD, ?_⟩
      · rw [List.length_replicate]
        have : (sgS ks).cps.size = 2 * ks.length := hsz
        omega
      · rw [upd_same, decide_eq_true (sg_in hk c hcs), List.replicate_succ']
    · have hall : (List.replicate (sgS ks).cps.size true).all id = true := by simp
      refine ⟨D, List.replicate (sgS ks).cps.size true, rfl, .inl (.inl (by rw [h.2, List.map_replicate])), _, rfl, ?_⟩
      rw [hall]
      refine iteF ?_
      refine ⟨rfl, fun u nu => ⟨_, rfl, upd_same, ks, rfl, hk, by omega, ?_⟩⟩
      exact q _ (same_put h.1 (none_back h.1 nu))
end
end K4

namespace K4
open PySem PySem.Spec PyProof.Rows L2 TL
section
variable {X : Cx} {o : Expr} {to : TE}
def tB0 (r : V → List V → Hp → VK → Prop) (to : TE) : TE := fun σ H Q => to σ H fun x H1 => (∃ b, x = .byt b) ∧ r x [] H1 Q
theorem pe_b0 {id : String} {name : Str} {apos pos : Pos} {r : V → List V → Hp → VK → Prop} (slot : Slot "bytes" name id) (ty : typeOf (.builtin id) = pure (.type "method_descriptor")) (rule : MtR X id r) (ho : PE X o to)
    (hbase : attributeBase o name X.env (eval o X.env) = eval o X.env := by rfl) (hline : (apos.endLine == pos.line) = true := by rfl) : PE X (.Call (.Attribute o name apos) [] [] pos) (tB0 r to) := by
  constructor
  intro pins s σ H Q I h
  refine PySem.Call_method0 hbase hline (thn (ho.run pins s σ H _ I h) fun v s1 ⟨x, H1, I1, r1, ⟨b, eb⟩, q1⟩ => ?_)
  subst eb
  obtain ⟨t, rfl⟩ := _root_.id r1
  exact ⟨"bytes", _, PySem.W.FB.plainAttrs_bytes, slot, ty, PySem.W.typeIs_bytes _ _ _, (fun _ e => nomatch e), Calls.callWith_builtin rfl (PySem.evalArgs_none (rule pins s1 σ H1 _ [] _ [] Q I1 r1 .nil q1))⟩
end
section
variable {P : Program} {w : World} {K : PySem.W.Frag} {mg : Str → Option Value} {base : Heap}
/-! ### _law_hex -/
theorem scHex : FnScope ["_law_numbers_here", "_law_one"] ["_law_numbers_here"] (defScope sHex) := ⟨rfl, rfl, rfl, by decide +kernel, rfl, by decide +kernel, by decide +kernel⟩
theorem tab_at {n : Nat} (h : n < 16) : atI hexTab.cps.toList ((n : Nat) : Int) = some (dg n) := by
  have : ∀ m : Fin 16, hexTab.cps.toList[m.1]? = some (dg m.1) := by decide +kernel
  exact atI_nat (this ⟨n, h⟩)
def two (k : Nat) : Str := ⟨#[dg (k / 16)]⟩ ++ ⟨#[dg (k % 16)]⟩
theorem joinL_nil : ∀ ls : List (List Nat), joinL [] ls = ls.flatten
  | [] => rfl
  | [p] => by simp [joinL]
  | p :: q :: r => by
    show p ++ ([] ++ joinL [] (q :: r)) = _
    rw [joinL_nil (q :: r)]
    rfl
theorem join_two (ks : List Nat) : Txt.join "" (ks.map two) = sgS ks := by
  refine (List.cons.inj (map_tl_inj (l := [_]) (m := [_]) ?_)).1
  rw [List.map_singleton, List.map_singleton, join_eq, tl_join]
  show [joinL [] ((ks.map two).map tl)] = [(sg ks)]
  rw [joinL_nil, List.map_map]
  congr 1
def spHex : Sp := fun vs H Q _ => ∃ (p : Addr) (ks : List Nat), vs = [.ref p] ∧ H p = some (.lst (ks.map fun (k : Nat) => V.int (k : Int))) ∧ (∀ k ∈ ks, k < 256) ∧ ks.length ≤ 100000 ∧ ∀ H', Same H H' → Q (.str (sgS ks)) H'
theorem ok_hex {f : Addr} {fd : FuncData} {j : Nat} (F : Fun K "_law_hex" "_law_hex" sHex f fd) (m1 : mg "int" = none) : FnOk P w K mg base CX0 (j + 1) f fd ["_law_numbers_here"] spHex := by
  refine F.ok scHex (fun vs H Q E h => ?_) (fun cdv A outer s H vs Q E hr h => ?_)
  · obtain ⟨p, ks, rfl, _⟩ := h
    rfl
  · obtain ⟨p, ks, rfl, hp, hk, hl, q⟩ := h
    refine ⟨_, pss_one (ps_ret (pe_join pe_str (pe_lc (own := [("_law_one", 1)]) (g := gName 1) (tt := tYes) rfl scHex.nd (pi_list (pv 0)) (blkOk_by (N := ["_law_numbers_here", "_law_one"]) (sc := defScope sHex) (by decide +kernel))
        (fun _ _ _ _ _ => pg_name (i := 1) scHex.nd rfl (Or.inl rfl)) (fun _ _ _ _ _ => pts_nil)
        (fun _ _ _ _ _ => pe_op op_add_str (pe_ix ix_str pe_str (pe_op op_fdivN (pv 1) pe_int) (fun _ _ => rfl)) (pe_ix ix_str pe_str (pe_op op_modN (pe_callTy call_int1 (by rfl) m1 (by decide +kernel) (pa_cons (pv 1) pa_nil)) pe_int) (fun _ _ => rfl)))))), ?_⟩
    refine ⟨⟨_, rfl⟩, _, rfl, p, rfl, ⟨_, .inl (.inl hp)⟩, fun D nD => ?_⟩
    have hz := PySem.sizeLine_eq
    refine lc_list (K := K) (a := p) (xs := ks.map fun (k : Nat) => V.int (k : Int)) (fun i H' => Same H H' ∧ H' D = some (.lst (((ks.take i).map two).map V.str))) ⟨same_upd nD, upd_same⟩ (fun i H' _ h => .inl (.inl (h.1 _ _ hp))) (fun i x H1 hx h => ?_) (fun H1 h => ?_)
    · obtain ⟨k, hk', rfl⟩ : ∃ k, ks[i]? = some k ∧ x = V.int (k : Int) := by
        rw [List.getElem?_map] at hx
        cases e : ks[i]? with
        | none => (rw [e] at hx); (cases hx)
        | some k => rw [e] at hx; exact ⟨k, rfl, (Option.some.inj hx).symm⟩
      have k0 := hk k (List.mem_of_getElem? hk')
      have e1 : ((k : Nat) : Int).fdiv 16 = ((k / 16 : Nat) : Int) := by
        rw [Int.fdiv_eq_ediv_of_nonneg _ (by decide)]
        rfl
      have e2 : ((k : Nat) : Int).fmod 16 = ((k % 16 : Nat) : Int) := by
        rw [Int.fmod_eq_emod_of_nonneg _ (by decide)]
        rfl
      refine ⟨rfl, yes ?_⟩
      refine ⟨_, rfl, _, _, rfl, rfl, ⟨by decide, by decide⟩, hexTab, _, dg (k / 16), rfl, rfl, (by rw [hz]; decide), (by rw [e1]; exact tab_at (by omega)), ?_⟩
      refine ⟨_, rfl, .inl ⟨_, rfl, _, _, rfl, rfl, (by show (16 : Int) ≠ 0; decide), hexTab, _, dg (k % 16), rfl, rfl, (by rw [hz]; decide), (by rw [e2]; exact tab_at (by omega)), ?_⟩⟩
      refine ⟨_, _, rfl, rfl, (by rw [hz]; show 1 + 1 ≤ 16777216; decide), _, h.2, ?_, same_put h.1 nD, ?_⟩
      · rw [List.length_map, List.length_map, List.length_take]
        omega
      · rw [upd_same, List.take_add_one, hk', List.map_append, List.map_append]
        rfl
    · have e : ks.take (ks.map fun (k : Nat) => V.int (k : Int)).length = ks := by rw [List.length_map, List.take_length]
      rw [e] at h
      have hsum : ((ks.map two).map (·.length)).sum = 2 * ks.length := by
        rw [List.map_map]
        have : ((fun x : Str => x.length) ∘ two) = fun _ => 2 := by
          funext k
          rfl
        rw [this]
        clear this h e hp hk q hl
        induction ks with
        | nil => rfl
        | cons k ks ih =>
          rw [List.map_cons, List.sum_cons, ih, List.length_cons]
          omega
      refine ⟨_, D, ks.map two, rfl, rfl, .inl (.inl (.inl h.2)), ?_, ?_⟩
      · rw [hsum, List.length_map]
        show 2 * ks.length + ks.length * 0 ≤ _
        omega
      · rw [join_two]
        exact q H1 h.1
end
end K4

namespace K4
open PySem PySem.Spec PyProof.Rows L2
/-! ### _law_back -/
theorem scBack : FnScope ["_law_back_here", "_law_found"] ["_law_back_here"] (defScope sBack) := ⟨rfl, rfl, rfl, by decide +kernel, rfl, by decide +kernel, by decide +kernel⟩
section
variable {P : Program} {w : World} {K : PySem.W.Frag} {mg : Str → Option Value} {base : Heap}
def spBack : Sp := fun vs H Q _ => ∃ b : Nat, vs = [.int (b : Int)] ∧ 1 ≤ b ∧ b ≤ 5000 ∧ Q (.int ((Nat.log2 b : Nat) : Int)) H
theorem ok_back {f : Addr} {fd : FuncData} {j : Nat} (F : Fun K "_law_back" "_law_back" sBack f fd) : FnOk P w K mg base CX0 (j + 1) f fd ["_law_back_here"] spBack := by
  refine F.ok scBack (fun vs H Q E h => ?_) (fun cdv A outer s H vs Q E hr h => ?_)
  · obtain ⟨b, rfl, _⟩ := h
    rfl
  · obtain ⟨b, rfl, h1, h2, q⟩ := h
    refine ⟨_, pss_cons (ps_set (i := 1) scBack.nd rfl (.inl rfl) pe_int)
      (pss_cons (ps_while PassesOwn.never (pt_cmpR op_le (pe_op op_shl pe_int (pv 1)) (pv 0) (nomark _))
        (pss_one (ps_set (i := 1) scBack.nd rfl (.inl rfl) (pe_op op_add (pv 1) pe_int))))
      (pss_one (ps_ret (pv 1)))), ?_⟩
    refine ⟨fun m σ H' => ∃ c : Nat, m = 5000 - c ∧ c ≤ 20 ∧ H' = H ∧ σ = [some (.int (b : Int)), some (.int (c : Int))] ∧ 2 ^ c ≤ b, ⟨5000, 0, rfl, by omega, rfl, rfl, by simpa using h1⟩, fun m σ H' hW => ?_⟩
    obtain ⟨c, rfl, hc, rfl, rfl, hle⟩ := hW
    refine ⟨_, rfl, _, _, rfl, rfl, ⟨by omega, by omega, by decide⟩, _, rfl, _, _, rfl, rfl, _, rfl, ?_⟩
    have e2 : (2 : Int) * 2 ^ ((c : Int)).toNat = ((2 ^ (c + 1) : Nat) : Int) := by
      rw [Int.toNat_natCast, Nat.pow_succ, Nat.mul_comm]
      push_cast
      rfl
    rw [e2]
    refine ite2 (fun e => ?_) (fun e => ?_)
    · have e3 : 2 ^ (c + 1) ≤ b := by
        have := of_decide_eq_true e
        omega
      have hc12 : c < 12 := by
        refine Nat.lt_of_not_le fun z => ?_
        have : 2 ^ 13 ≤ 2 ^ (c + 1) := Nat.pow_le_pow_right (by decide) (by omega)
        omega
      refine ⟨fun σ' H'' => ∃ m', m' < 5000 - c ∧ ∃ c : Nat, m' = 5000 - c ∧ c ≤ 20 ∧ H'' = H' ∧ σ' = [some (.int (b : Int)), some (.int (c : Int))] ∧ 2 ^ c ≤ b, fun σ' H'' h => h, ?_⟩
      exact ⟨_, rfl, _, _, rfl, rfl, 5000 - (c + 1), by omega, c + 1, rfl, by omega, rfl, by simp, e3⟩
    · have e3 : ¬ 2 ^ (c + 1) ≤ b := fun z => e (decide_eq_true (by omega))
      have : Nat.log2 b = c := by
        refine (Nat.log2_eq_iff (by omega)).mpr ⟨hle, by omega⟩
      rw [this] at q
      exact ⟨_, rfl, q⟩
end
end K4

namespace K4
open PySem PySem.Spec PyProof.Rows L2
/-! ### _law_told_lengths -/
def toldL : List Int := List.replicate 239 8 ++ List.replicate 34 9
def toldB : List Int := List.replicate 6 4 ++ List.replicate 5 3
theorem rep_flat (n : Nat) (x : V) : (List.replicate n [x]).flatten = List.replicate n x := by
  induction n with
  | zero => rfl
  | succ n ih => rw [List.replicate_succ, List.flatten_cons, ih, List.replicate_succ]; rfl
theorem half {σ : L2.St} {H : Hp} {Q : VK} (x1 x2 : V) (n1 n2 : Nat) (h1 : n1 ≤ 1000) (h2 : n2 ≤ 1000)
    (h : ∀ H' p, Same H H' → H p = none → H' p = some (.lst (List.replicate n1 x1 ++ List.replicate n2 x2)) → Q (.ref p) H') :
    tOp rCat (tOp rRep (tLst (tCons (tC x1) tNil)) (tC (V.int (n1 : Int)))) (tOp rRep (tLst (tCons (tC x2) tNil)) (tC (V.int (n2 : Int)))) σ H Q := by
  have hz := PySem.sizeLine_eq
  refine ⟨by show 1 ≤ sizeLine; rw [hz]; decide, fun a na => ⟨_, _, _, rfl, rfl, upd_same, by omega, by omega, by rw [hz]; simp; omega, fun b nb => ⟨by show 1 ≤ sizeLine; rw [hz]; decide, fun a2 na2 => ⟨_, _, _, rfl, rfl, upd_same, by omega, by omega, by rw [hz]; simp; omega, fun b2 nb2 => ?_⟩⟩⟩⟩
  rw [Int.toNat_natCast, Int.toNat_natCast, rep_flat, rep_flat] at *
  have s1 : Same H (upd H a (.lst [x1])) := same_upd na
  generalize upd H a (.lst [x1]) = H1 at *
  have s2 : Same H1 (upd H1 b (.lst (List.replicate n1 x1))) := same_upd nb
  have e2 : (upd H1 b (.lst (List.replicate n1 x1))) b = some (.lst (List.replicate n1 x1)) := upd_same
  generalize upd H1 b (.lst (List.replicate n1 x1)) = H2 at *
  have s3 : Same H2 (upd H2 a2 (.lst [x2])) := same_upd na2
  generalize upd H2 a2 (.lst [x2]) = H3 at *
  have s4 : Same H3 (upd H3 b2 (.lst (List.replicate n2 x2))) := same_upd nb2
  have e4 : (upd H3 b2 (.lst (List.replicate n2 x2))) b2 = some (.lst (List.replicate n2 x2)) := upd_same
  generalize upd H3 b2 (.lst (List.replicate n2 x2)) = H4 at *
  have s14 := ((s1.trans s2).trans s3).trans s4
  refine ⟨_, _, _, _, rfl, rfl, s4 _ _ (s3 _ _ e2), e4, by rw [List.length_replicate, List.length_replicate, hz]; omega, fun p np => ?_⟩
  exact h _ p (s14.trans (same_upd np)) (none_back s14 np) upd_same
theorem scTold : FnScope [] [] (defScope sTold) := ⟨rfl, rfl, rfl, by decide +kernel, rfl, by decide +kernel, by decide +kernel⟩
section
variable {P : Program} {w : World} {K : PySem.W.Frag} {mg : Str → Option Value} {base : Heap}
def spTold : Sp := fun vs H Q _ => vs = [] ∧ ∀ H' t p q, Same H H' → H' t = some (.tup [.ref p, .ref q]) → H' p = some (.lst (toldL.map V.int)) → H' q = some (.lst (toldB.map V.int)) → H t = none → H p = none → H q = none → Q (.ref t) H'
theorem ok_told {f : Addr} {fd : FuncData} {j : Nat} (F : Fun K "_law_told_lengths" "_law_told_lengths" sTold f fd) : FnOk P w K mg base CX0 (j + 1) f fd [] spTold := by
  refine F.ok scTold (fun vs H Q E h => ?_) (fun cdv A outer s H vs Q E hr h => ?_)
  · obtain ⟨rfl, _⟩ := h
    rfl
  · obtain ⟨rfl, q⟩ := h
    have hz := PySem.sizeLine_eq
    refine ⟨_, pss_one (ps_ret (pe_tup (pa_cons (pe_op op_cat (pe_op op_rep (pe_lst (pa_cons pe_int pa_nil)) pe_int) (pe_op op_rep (pe_lst (pa_cons pe_int pa_nil)) pe_int))
      (pa_cons (pe_op op_cat (pe_op op_rep (pe_lst (pa_cons pe_int pa_nil)) pe_int) (pe_op op_rep (pe_lst (pa_cons pe_int pa_nil)) pe_int)) pa_nil)))), ?_⟩
    refine half (.int 8) (.int 9) 239 34 (by decide) (by decide) fun H1 p s1 np hp => ?_
    refine half (.int 4) (.int 3) 6 5 (by decide) (by decide) fun H2 p2 s2 np2 hp2 => ?_
    refine ⟨by show 2 ≤ sizeLine; rw [hz]; decide, fun t nt => ?_⟩
    have s12 := s1.trans s2
    refine q _ t p p2 (s12.trans (same_upd nt)) upd_same ?_ ?_ (none_back s12 nt) np (none_back s1 np2)
    · have := same_upd (o := .tup [.ref p, .ref p2]) nt _ _ (s2 _ _ hp)
      rw [this]
      simp [toldL]
    · have := same_upd (o := .tup [.ref p, .ref p2]) nt _ _ hp2
      rw [this]
      simp [toldB]
end
end K4

namespace K4
open PySem PySem.Spec PyProof.Rows L2
/-! ### items and _law_cost -/
inductive Itm where
  | b (k : Nat)
  | c (many back : Nat)
def ItmAt (H : Hp) : Itm → V → Prop
  | .b k, v => v = .int (k : Int)
  | .c m r, v => ∃ t, v = .ref t ∧ H t = some (.tup [.int (m : Int), .int (r : Int)])
def ItmOk : Itm → Prop
  | .b k => k < 256
  | .c m r => 3 ≤ m ∧ m ≤ 18 ∧ 1 ≤ r ∧ r ≤ 1024
theorem ItmAt.same {H H' : Hp} {it : Itm} {v : V} (h : ItmAt H it v) (s : Same H H') : ItmAt H' it v := by
  cases it with
  | b k => exact h
  | c m r =>
    obtain ⟨t, e, ht⟩ := h
    exact ⟨t, e, s _ _ ht⟩
def costO (L B : List Int) : Itm → Option Int
  | .b k => if 0 < L.getD k 0 then some (L.getD k 0) else none
  | .c m r => if L.getD (254 + m) 0 = 0 ∨ B.getD (Nat.log2 r) 0 = 0 then none else some (L.getD (254 + m) 0 + B.getD (Nat.log2 r) 0 + (Nat.log2 r : Nat))
def optV : Option Int → V
  | none => .non
  | some i => .int i
theorem at_getD {L : List Int} {k : Nat} (h : k < L.length) : atI (L.map V.int) (k : Int) = some (.int (L.getD k 0)) := by
  refine atI_nat ?_
  rw [List.getElem?_map, List.getElem?_eq_getElem h, List.getD_eq_getElem?_getD, List.getElem?_eq_getElem h]
  rfl
theorem scCost : FnScope ["_law_item", "_law_letters", "_law_backs", "_law_sort"] ["_law_item", "_law_letters", "_law_backs"] (defScope sCost) := ⟨rfl, rfl, rfl, by decide +kernel, rfl, by decide +kernel, by decide +kernel⟩
section
variable {P : Program} {w : World} {K : PySem.W.Frag} {mg : Str → Option Value} {base : Heap}
def spCost : Sp := fun vs H Q _ => ∃ (v : V) (it : Itm) (pL pB : Addr) (L B : List Int), vs = [v, .ref pL, .ref pB] ∧ ItmAt H it v ∧ ItmOk it ∧ H pL = some (.lst (L.map V.int)) ∧ H pB = some (.lst (B.map V.int)) ∧ L.length = 273 ∧ B.length = 11 ∧ Q (optV (costO L B it)) H
theorem ok_cost {f fB : Addr} {fd fdB : FuncData} {j : Nat} (F : Fun K "_law_cost" "_law_cost" sCost f fd) (GB : FnOk P w K mg base CX0 (j + 1) fB fdB ["_law_back_here"] spBack) (bB : Binds K fdB ["_law_back_here"] []) (kB : PySem.W.keepIn K (.ref fB) = true) (gB : mg "_law_back" = some (.ref fB))
    (m1 : mg "isinstance" = none) (m2 : mg "int" = none) : FnOk P w K mg base CX0 (j + 2) f fd ["_law_item", "_law_letters", "_law_backs"] spCost := by
  refine F.ok scCost (fun vs H Q E h => ?_) (fun cdv A outer s H vs Q E hr h => ?_)
  · obtain ⟨v, it, pL, pB, L, B, rfl, _⟩ := h
    rfl
  · obtain ⟨v, it, pL, pB, L, B, rfl, hi, ok, hL, hB, lL, lB, q⟩ := h
    refine ⟨_, pss_cons (ps_if (pt_val (pe_callB call_isi (by rfl) m1 (by decide +kernel) (pa_cons (pv 0) (pa_cons (pe_bltn (v := .ty "int") (by rfl) m2 (by decide +kernel) rfl) pa_nil))))
        (pss_one (ps_ret (pe_ifExp (pt_cmpR op_gt (pe_ix ix_list (pv 1) (pv 0) (fun _ _ => rfl)) pe_int (nomark _)) (pe_ix ix_list (pv 1) (pv 0) (fun _ _ => rfl)) pe_non))) pss_nil)
      (pss_cons (ps_set (i := 3) scCost.nd rfl (.inl rfl) (pe_call GB hr (by rfl) gB kB bB .nil pass0 (pa_cons (pe_ix ix_tup (pv 0) pe_int (fun _ _ => rfl)) pa_nil)))
      (pss_cons (ps_if (PW.pt (pw_or (pt_cmpR op_eq (pe_ix ix_list (pv 1) (pe_op op_add pe_int (pe_ix ix_tup (pv 0) pe_int (fun _ _ => rfl))) (fun _ _ => rfl)) pe_int (nomark _)) (pw_or1 (pt_cmpR op_eq (pe_ix ix_list (pv 2) (pv 3) (fun _ _ => rfl)) pe_int (nomark _))))) (pss_one (ps_ret pe_non)) pss_nil)
      (pss_one (ps_ret (pe_op op_add (pe_op op_add (pe_ix ix_list (pv 1) (pe_op op_add pe_int (pe_ix ix_tup (pv 0) pe_int (fun _ _ => rfl))) (fun _ _ => rfl)) (pe_ix ix_list (pv 2) (pv 3) (fun _ _ => rfl))) (pv 3)))))), ?_⟩
    cases it with
    | b k =>
      have ek : v = .int (k : Int) := hi
      subst ek
      have k0 : k < 256 := ok
      have ea := at_getD (L := L) (k := k) (by omega)
      refine ⟨_, rfl, _, _, _, _, _, rfl, .ty "int", .base (.int _), kit_ty (a := "int") (r := true) (by decide +kernel), _, rfl, iteT ?_⟩
      refine ⟨_, rfl, _, rfl, pL, _, _, _, rfl, rfl, .inl (.inl hL), ea, _, _, rfl, rfl, _, rfl, ?_⟩
      have q : Q (optV (if 0 < L.getD k 0 then some (L.getD k 0) else none)) H := q
      refine ite2 (fun e => ?_) (fun e => ?_)
      · rw [if_pos (of_decide_eq_true e)] at q
        exact ⟨_, rfl, _, rfl, pL, _, _, _, rfl, rfl, .inl (.inl hL), ea, q⟩
      · rw [if_neg (fun z => e (decide_eq_true z))] at q
        exact q
    | c m r =>
      obtain ⟨t, ev, ht⟩ := hi
      subst ev
      obtain ⟨o1, o2, o3, o4⟩ := ok
      have hlog : Nat.log2 r < 11 := (Nat.log2_lt (by omega)).mpr (by omega)
      have ea := at_getD (L := L) (k := 254 + m) (by omega)
      have eb := at_getD (L := B) (k := Nat.log2 r) (by omega)
      have ec : ((254 + m : Nat) : Int) = 254 + (m : Int) := by push_cast; rfl
      rw [ec] at ea
      refine ⟨_, rfl, _, _, .type "tuple", _, false, rfl, .ty "int", .base (.tup ht), kit_ty (a := "tuple") (r := false) (by decide +kernel), _, rfl, iteF ?_⟩
      refine ⟨_, rfl, t, _, 1, _, rfl, rfl, .inl (.inl ht), rfl, r, rfl, o3, by omega, ?_⟩
      have q : Q (optV (if L.getD (254 + m) 0 = 0 ∨ B.getD (Nat.log2 r) 0 = 0 then none else some (L.getD (254 + m) 0 + B.getD (Nat.log2 r) 0 + (Nat.log2 r : Nat)))) H := q
      refine ⟨_, rfl, _, rfl, t, _, 0, _, rfl, rfl, .inl (.inl ht), rfl, _, _, rfl, rfl, pL, _, _, _, rfl, rfl, .inl (.inl hL), ea, rfl, _, rfl, ite2 (fun e => ?_) (fun e => ?_)⟩
      · have e1 : V.int (L.getD (254 + m) 0) = V.int 0 := of_decide_eq_true e
        rw [if_pos (.inl (V.int.inj e1))] at q
        exact q
      · have e1 : ¬ L.getD (254 + m) 0 = 0 := fun z => e (decide_eq_true (congrArg V.int z))
        refine ⟨_, rfl, _, rfl, pB, _, _, _, rfl, rfl, .inl (.inl hB), eb, rfl, _, rfl, ite2 (fun e => ?_) (fun e => ?_)⟩
        · have e2 : V.int (B.getD (Nat.log2 r) 0) = V.int 0 := of_decide_eq_true e
          rw [if_pos (.inr (V.int.inj e2))] at q
          exact q
        · have e2 : ¬ B.getD (Nat.log2 r) 0 = 0 := fun z => e (decide_eq_true (congrArg V.int z))
          rw [if_neg (fun z => z.elim e1 e2)] at q
          exact ⟨_, rfl, _, rfl, t, _, 0, _, rfl, rfl, .inl (.inl ht), rfl, _, _, rfl, rfl, pL, _, _, _, rfl, rfl, .inl (.inl hL), ea, _, rfl, _, rfl, pB, _, _, _, rfl, rfl, .inl (.inl hB), eb, _, _, rfl, rfl, _, rfl, _, _, rfl, rfl, q⟩
end
end K4

namespace K4
open PySem PySem.Spec PyProof.Rows L2
theorem ixL {X : Cx} (K : PySem.W.Frag) (h : X.K = K := by rfl) : IxR X (rIxL K) := by subst h; exact ix_list
/-! ### _law_data -/
abbrev NDa : List Str := ["_law_script", "_law_at", "_law_most", "_law_found", "_law_many", "_law_k", "_law_digits", "_law_begin", "_law_turn"]
theorem scData : FnScope NDa ["_law_script", "_law_at", "_law_most"] (defScope sData) := ⟨rfl, rfl, rfl, by decide +kernel, rfl, by decide +kernel, by decide +kernel⟩
def bys (ks : List Nat) : List V := (ks.map fun (k : Nat) => (k : Int)).map V.int
theorem bys_eq (ks : List Nat) : bys ks = ks.map fun (k : Nat) => V.int (k : Int) := by
  unfold bys
  rw [List.map_map]
  rfl
theorem bys_len (ks : List Nat) : (bys ks).length = ks.length := by
  unfold bys
  rw [List.length_map, List.length_map]
theorem bys_app (a b : List Nat) : bys a ++ bys b = bys (a ++ b) := by
  unfold bys
  rw [List.map_append, List.map_append]
theorem bys_one (k : Nat) : [V.int (k : Int)] = bys [k] := rfl
theorem bys_cut (ks : List Nat) (a b : Nat) : cutV (bys ks) (some (a : Int)) (some (b : Int)) = bys ((ks.drop (min a ks.length)).take (min b ks.length - min a ks.length)) := by
  unfold cutV
  rw [HT.sIx_nat, HT.sIx_nat, bys_len]
  unfold bys
  rw [← List.map_drop, ← List.map_drop, ← List.map_take, ← List.map_take]
theorem bys_to (ks : List Nat) (b : Nat) : cutV (bys ks) none (some (b : Int)) = bys (ks.take b) := by
  unfold cutV
  rw [HT.sIx_nat, HT.sIx_none, bys_len, List.drop_zero, Nat.sub_zero]
  unfold bys
  rw [← List.map_take, ← List.map_take]
  congr 2
  by_cases h : b ≤ ks.length
  · rw [Nat.min_eq_left h]
  · rw [Nat.min_eq_right (by omega), List.take_length, List.take_of_length_le (by omega)]
theorem nat_of {x : Int} (h : 0 ≤ x) : ∃ k : Nat, x = (k : Int) := ⟨x.toNat, by omega⟩
theorem item_in {d1 d2 : Int} (h1 : 0 ≤ d1 ∧ d1 < 256) : ∃ v : Nat, v < 256 ∧ atI [V.int 97, V.int 98, V.int 32, V.int 0, V.int 255, V.int d1, V.int (d1.fmod 4), V.int 200] (d2.fmod 8) = some (.int (v : Int)) := by
  have a1 := fmod_in (a := d1) (l := 4) (by decide)
  have a2 := fmod_in (a := d2) (l := 8) (by decide)
  obtain ⟨k1, rfl⟩ := nat_of h1.1
  obtain ⟨k4, e4⟩ := nat_of a1.1
  rw [e4] at a1 ⊢
  obtain ⟨n, en⟩ := nat_of a2.1
  rw [en] at a2 ⊢
  have hn : n = 0 ∨ n = 1 ∨ n = 2 ∨ n = 3 ∨ n = 4 ∨ n = 5 ∨ n = 6 ∨ n = 7 := by omega
  rcases hn with rfl | rfl | rfl | rfl | rfl | rfl | rfl | rfl
  · exact ⟨97, by decide, rfl⟩
  · exact ⟨98, by decide, rfl⟩
  · exact ⟨32, by decide, rfl⟩
  · exact ⟨0, by decide, rfl⟩
  · exact ⟨255, by decide, rfl⟩
  · exact ⟨k1, by omega, rfl⟩
  · exact ⟨k4, by omega, rfl⟩
  · exact ⟨200, by decide, rfl⟩
section
variable {P : Program} {w : World} {K : PySem.W.Frag} {mg : Str → Option Value} {base : Heap}
def spData (K : PySem.W.Frag) : Sp := fun vs H Q _ => ∃ (p : Addr) (xs : List Int) (a n : Nat), vs = [.ref p, .int (a : Int), .int (n : Int)] ∧ SqL K H p (xs.map V.int) ∧ a ≤ 50000 ∧ n ≤ 1000 ∧
  ∀ H' r ks, Same H H' → H r = none → H' r = some (.lst (bys ks)) → (∀ k ∈ ks, k < 256) → ks.length ≤ n → Q (.ref r) H'
theorem ok_data {f fC fN : Addr} {fd fdC fdN : FuncData} {j : Nat} (F : Fun K "_law_data" "_law_data" sData f fd) (GC : FnOk P w K mg base CX0 (j + 1) fC fdC ["_law_script", "_law_k"] (K4.spCell K)) (bC : Binds K fdC ["_law_script", "_law_k"] []) (kC : PySem.W.keepIn K (.ref fC) = true) (gC : mg "_law_cell_at" = some (.ref fC))
    (GN : FnOk P w K mg base CX0 (j + 1) fN fdN ["_law_cell", "_law_limits"] spNums) (bN : Binds K fdN ["_law_cell", "_law_limits"] []) (kN : PySem.W.keepIn K (.ref fN) = true) (gN : mg "_law_numbers" = some (.ref fN))
    (m1 : mg "len" = none) (m2 : mg "int" = none) (m3 : mg "range" = none) : FnOk P w K mg base CX0 (j + 2) f fd ["_law_script", "_law_at", "_law_most"] (spData K) := by
  refine F.ok scData (fun vs H Q E h => ?_) (fun cdv A outer s H vs Q E hr h => ?_)
  · obtain ⟨p, xs, a, n, rfl, _⟩ := h
    rfl
  · obtain ⟨p, xs, a, n, rfl, hp, ha, hn, q⟩ := h
    refine ⟨_, pss_cons (ps_par (i := 3) (j := 4) rfl scData.nd rfl rfl (by decide) rfl rfl (pa_cons (pe_lst pa_nil) (pa_cons (pe_op op_modN (pe_call GC hr (by rfl) gC kC bC .nil pass0 (pa_cons (pv 0) (pa_cons (pv 1) pa_nil))) (pe_op op_add (pv 2) pe_int)) pa_nil)) (by rfl))
      (pss_cons (ps_for PassesOwn.never rfl (pi_range1 (by rfl) m3 (pa_cons pe_int pa_nil)) (pg_name (i := 5) scData.nd rfl (.inl rfl))
        (pss_cons (ps_set (i := 6) scData.nd rfl (.inr rfl) (pe_call GN hr (by rfl) gN kN bN .nil pass0 (pa_cons (pe_call GC hr (by rfl) gC kC bC .nil pass0 (pa_cons (pv 0) (pa_cons (pe_op op_add (pe_op op_add (pv 1) pe_int) (pv 5)) pa_nil))) (pa_cons (pe_lst (pa_cons pe_int (pa_cons pe_int (pa_cons pe_int (pa_cons pe_int pa_nil))))) pa_nil))))
        (pss_one (ps_if (pt_cmpR op_eq (pe_ix ix_list (pv 6) pe_int (fun _ _ => rfl)) pe_int (nomark _))
          (pss_one (ps_set (i := 3) scData.nd rfl (.inl rfl) (pe_op op_cat (pv 3) (pe_op op_rep (pe_lst (pa_cons (pe_ix ix_list (pv 6) pe_int (fun _ _ => rfl)) pa_nil)) (pe_op op_add pe_int (pe_ix ix_list (pv 6) pe_int (fun _ _ => rfl)))))))
          (pss_one (ps_if (PW.pt (pw_and (pt_cmpR op_lt (pe_ix ix_list (pv 6) pe_int (fun _ _ => rfl)) pe_int (nomark _)) (pw_and1 (pt_cmpR (op_neD hr.units) (pv 3) (pe_lst pa_nil) (nomark _)))))
            (pss_cons (ps_set (i := 7) scData.nd rfl (.inl rfl) (pe_op op_modN (pe_callTy call_int1 (by rfl) m2 (by decide +kernel) (pa_cons (pe_ix ix_list (pv 6) pe_int (fun _ _ => rfl)) pa_nil)) (pe_callB call_len_seq (by rfl) m1 PySem.boot_len (pa_cons (pv 3) pa_nil))))
            (pss_one (ps_set (i := 3) scData.nd rfl (.inl rfl) (pe_op op_cat (pv 3) (pe_slice sl_list (pv 3) (po_some (pv 7)) (po_some (pe_op op_add (pe_op op_add (pv 7) pe_int) (pe_op op_modN (pe_callTy call_int1 (by rfl) m2 (by decide +kernel) (pa_cons (pe_ix ix_list (pv 6) pe_int (fun _ _ => rfl)) pa_nil)) pe_int))))))))
            (pss_one (ps_if (pt_cmpR op_eq (pe_ix ix_list (pv 6) pe_int (fun _ _ => rfl)) pe_int (nomark _))
              (pss_one (ps_set (i := 3) scData.nd rfl (.inl rfl) (pe_op op_cat (pv 3) (pe_lc (own := [("_law_turn", 8)]) (g := gName 8) (tt := tYes) rfl scData.nd (pi_range1 (by rfl) m3 (pa_cons pe_int pa_nil)) (blkOk_by (N := NDa) (sc := defScope sData) (by decide +kernel))
                (fun _ _ _ _ _ => pg_name (i := 8) scData.nd rfl (.inl rfl)) (fun _ _ _ _ _ => pts_nil) (fun _ _ _ _ _ => pe_op op_add pe_int (pe_op op_and (pe_op op_shr (pe_ix (ixL K) (pv 6) pe_int (fun _ _ => rfl)) (pv 8)) pe_int))))))
              (pss_one (ps_expr (pe_bm PySem.F.plainAttrs_list PySem.F.slot_list_append PySem.F.type_list_append mt_append (pv 3) (pa_cons (pe_ix ix_list (pe_lst (pa_cons pe_int (pa_cons pe_int (pa_cons pe_int (pa_cons pe_int (pa_cons pe_int (pa_cons (pe_ix ix_list (pv 6) pe_int (fun _ _ => rfl)) (pa_cons (pe_op op_modN (pe_callTy call_int1 (by rfl) m2 (by decide +kernel) (pa_cons (pe_ix ix_list (pv 6) pe_int (fun _ _ => rfl)) pa_nil)) pe_int) (pa_cons pe_int pa_nil)))))))))
                (pe_op op_modN (pe_callTy call_int1 (by rfl) m2 (by decide +kernel) (pa_cons (pe_ix ix_list (pv 6) pe_int (fun _ _ => rfl)) pa_nil)) pe_int) (fun _ _ => rfl)) pa_nil))))))))))))
      (pss_one (ps_ret (pe_slice sl_list (pv 3) po_none (po_some (pv 4)))))), ?_⟩
    refine ⟨Nat.zero_le _, fun D nD => ?_⟩
    have sm0 : Same H (upd H D (.lst [])) := same_upd nD
    have hD0 : (upd H D (.lst [])) D = some (.lst (bys [])) := upd_same
    generalize upd H D (.lst []) = H0 at *
    refine ⟨_, rfl, _, rfl, p, xs, a, rfl, sm0.seq hp, by omega, fun H1 sm1 => ?_⟩
    refine ⟨_, rfl, _, _, rfl, rfl, _, _, rfl, rfl, (by omega), _, _, rfl, ?_⟩
    have hm := fmod_in (a := cellAt xs a) (l := (n : Int) + 1) (by omega)
    obtain ⟨many, em⟩ := nat_of hm.1
    rw [em] at hm
    have sm01 := sm0.trans sm1
    refine ⟨24, rfl, by decide, by decide, ?_⟩
    refine for_range (lo := 0) (n := 24) (fun i σ H' => ∃ (y5 y6 y7 : Option V) (D : Addr) (ks : List Nat), σ = [some (.ref p), some (.int (a : Int)), some (.int (n : Int)), some (.ref D), some (.int ((cellAt xs a).fmod ((n : Int) + 1))), y5, y6, y7, none] ∧ Same H H' ∧ H D = none ∧ H' D = some (.lst (bys ks)) ∧ (∀ k ∈ ks, k < 256) ∧ ks.length ≤ 40 * i)
      ⟨none, none, none, D, [], rfl, sm01, nD, sm1 _ _ hD0, fun k h => by (cases h), by simp⟩ (fun i σ H' hi h => ?_) (fun σ H' h => ?_)
    · obtain ⟨y5, y6, y7, D, ks0, rfl, sm, nD, hD, hk, hl⟩ := h
      refine ⟨_, rfl, _, rfl, _, _, rfl, rfl, _, rfl, _, _, rfl, rfl, p, xs, a + 1 + i, ?_, sm.seq hp, by omega, fun H5 sm5 => ?_⟩
      · show [V.ref p, V.int ((a : Int) + 1 + (0 + (i : Int)))] = _
        rw [show (a : Int) + 1 + (0 + (i : Int)) = ((a + 1 + i : Nat) : Int) by omega]
      · refine ⟨(by show 4 ≤ sizeLine; decide), fun z nz => ?_⟩
        refine ⟨z, cellAt xs (a + 1 + i), [6, 256, 40, 300], rfl, upd_same, by decide, by decide, fun H6 dg ds sm6 nq hdg hdl hin => ?_⟩
        obtain ⟨d0, d1, d2, d3, rfl⟩ : ∃ d0 d1 d2 d3, ds = [d0, d1, d2, d3] := by
          match ds, hdl with
          | [a, b, c, d], _ => exact ⟨a, b, c, d, rfl⟩
        have hd0 := hin.2 0 d0 6 rfl rfl
        have hd1 := hin.2 1 d1 256 rfl rfl
        have hd2 := hin.2 2 d2 40 rfl rfl
        have hd3 := hin.2 3 d3 300 rfl rfl
        have sm46 : Same H' H6 := (sm5.trans (same_upd nz)).trans sm6
        have sm06 : Same H H6 := sm.trans sm46
        have hD6 := sm46 _ _ hD
        have hdgS : SqL K H6 dg [.int d0, .int d1, .int d2, .int d3] := .inl (.inl hdg)
        clear nq hin hdl hdg hm em
        have hz := PySem.sizeLine_eq
        have fin : ∀ (H9 : Hp) (r : Addr) (ks2 : List Nat) (y7 : Option V), Same H H9 → H9 r = none → (∀ k ∈ ks2, k < 256) → ks2.length ≤ 40 →
            ∃ (y5' y6' y7' : Option V) (D : Addr) (ks : List Nat), [some (.ref p), some (.int (a : Int)), some (.int (n : Int)), some (.ref r), some (.int ((cellAt xs a).fmod ((n : Int) + 1))), some (.int (0 + (i : Int))), some (.ref dg), y7, none] = [some (.ref p), some (.int (a : Int)), some (.int (n : Int)), some (.ref D), some (.int ((cellAt xs a).fmod ((n : Int) + 1))), y5', y6', y7', none] ∧ Same H (upd H9 r (.lst (bys ks0 ++ bys ks2))) ∧ H D = none ∧ (upd H9 r (.lst (bys ks0 ++ bys ks2))) D = some (.lst (bys ks)) ∧ (∀ k ∈ ks, k < 256) ∧ ks.length ≤ 40 * (i + 1) := by
          intro H9 r ks2 y7 sm9 nr h2 hl2
          refine ⟨_, _, y7, r, ks0 ++ ks2, rfl, sm9.trans (same_upd nr), none_back sm9 nr, by rw [upd_same, bys_app], fun k m => ?_, by rw [List.length_append]; omega⟩
          rcases (List.mem_append.mp m) with (m | m)
          · exact hk k m
          · exact h2 k m
        obtain ⟨k1, rfl⟩ := nat_of hd1.1
        refine ⟨_, rfl, dg, _, 0, _, rfl, rfl, hdgS, rfl, rfl, _, rfl, ite2 (fun e => ?_) (fun e => ?_)⟩
        · refine ⟨_, rfl, _, rfl, dg, _, 1, _, rfl, rfl, hdgS, rfl, (by show 1 ≤ sizeLine; rw [hz]; decide), fun z1 nz1 => ?_⟩
          have s1 : Same H6 (upd H6 z1 (.lst [.int (k1 : Int)])) := same_upd nz1
          have e1 : (upd H6 z1 (.lst [.int (k1 : Int)])) z1 = some (.lst [.int (k1 : Int)]) := upd_same
          refine ⟨_, rfl, dg, _, 2, _, rfl, rfl, s1.seq hdgS, rfl, _, _, rfl, rfl, z1, 1 + d2, _, rfl, rfl, e1, by omega, by omega, (by rw [hz]; simp; omega), fun r1 nr1 => ?_⟩
          rw [rep_flat]
          have s2 := same_upd (o := .lst (List.replicate (1 + d2).toNat (V.int (k1 : Int)))) nr1
          have e2 : (upd (upd H6 z1 (.lst [.int (k1 : Int)])) r1 (.lst (List.replicate (1 + d2).toNat (V.int (k1 : Int))))) r1 = some (.lst (List.replicate (1 + d2).toNat (V.int (k1 : Int)))) := upd_same
          have eb : List.replicate (1 + d2).toNat (V.int (k1 : Int)) = bys (List.replicate (1 + d2).toNat k1) := by simp [bys]
          rw [eb] at s2 e2 ⊢
          refine ⟨D, r1, _, _, rfl, rfl, s2 _ _ (s1 _ _ hD6), e2, (by rw [bys_len, bys_len, List.length_replicate, hz]; omega), fun r2 nr2 => ?_⟩
          exact fin _ r2 _ y7 ((sm06.trans s1).trans s2) nr2 (fun k m => by rw [List.eq_of_mem_replicate m]; omega) (by rw [List.length_replicate]; omega)
        · refine ⟨_, rfl, dg, _, 0, _, rfl, rfl, hdgS, rfl, _, _, rfl, rfl, _, rfl, ite2 (fun e3 => ?ltYes) (fun e3 => ?ltNo)⟩
          case' ltYes =>
            refine ⟨_, rfl, Nat.zero_le _, fun z2 nz2 => ?_⟩
            have sm67 : Same H6 (upd H6 z2 (.lst [])) := same_upd nz2
            have hz2 : (upd H6 z2 (.lst [])) z2 = some (.lst []) := upd_same
            generalize upd H6 z2 (.lst []) = H7 at *
            have hD7 := sm67 _ _ hD6
            refine ⟨_, _, .lst (.inl (.inl hD7)) (dp_ints _), .lst (ds := []) (.inl (.inl hz2)) .nil, shaped_intsQ _, shaped_intsQ [], _, rfl, ite2 (fun e4 => ?good) (fun e4 => ?_)⟩
            case good =>
              have hne : ks0 ≠ [] := by
                intro z
                subst z
                cases e4
              have hpos : 0 < ks0.length := List.length_pos_iff.mpr hne
              have hb := fmod_in (a := d3) (l := (ks0.length : Int)) (by omega)
              have hc := fmod_in (a := d2) (l := 20) (by decide)
              obtain ⟨b, eb⟩ := nat_of hb.1
              obtain ⟨c, ec⟩ := nat_of hc.1
              have hdg7 := sm67.seq hdgS
              refine ⟨_, rfl, dg, _, 3, _, rfl, rfl, hdg7, rfl, .inl ⟨_, rfl, _, rfl, D, _, rfl, .inl (.inl (.inl hD7)), _, _, rfl, rfl, (by rw [bys_len]; omega), ?_⟩⟩
              refine ⟨_, rfl, _, rfl, _, rfl, _, rfl, _, rfl, _, _, rfl, rfl, _, rfl, dg, _, 2, _, rfl, rfl, hdg7, rfl, .inl ⟨_, rfl, _, _, rfl, rfl, (by show (20 : Int) ≠ 0; decide), _, _, rfl, rfl, _, rfl, D, _, rfl, .inl (.inl hD7), fun r nr => ?_⟩⟩
              have ecut : cutV (bys ks0) (some (d3.fmod ((bys ks0).length : Int))) (some (d3.fmod ((bys ks0).length : Int) + 3 + d2.fmod 20)) = bys ((ks0.drop (min b ks0.length)).take (min (b + 3 + c) ks0.length - min b ks0.length)) := by
                rw [bys_len, eb, ec]
                exact bys_cut ks0 b (b + 3 + c)
              rw [ecut]
              have s2 := same_upd (o := .lst (bys ((ks0.drop (min b ks0.length)).take (min (b + 3 + c) ks0.length - min b ks0.length)))) nr
              have hlen : ((ks0.drop (min b ks0.length)).take (min (b + 3 + c) ks0.length - min b ks0.length)).length ≤ 40 := by
                rw [List.length_take]
                omega
              refine ⟨D, r, _, _, rfl, rfl, s2 _ _ hD7, upd_same, (by rw [bys_len, bys_len, hz]; omega), fun r2 nr2 => ?_⟩
              exact fin _ r2 _ _ ((sm06.trans sm67).trans s2) nr2 (fun k m => hk k (List.mem_of_mem_drop (List.mem_of_mem_take m))) hlen
          case' ltNo =>
            obtain ⟨H7, eH, sm67, hD7⟩ : ∃ H7, H7 = H6 ∧ Same H6 H7 ∧ H7 D = some (.lst (bys ks0)) := ⟨H6, rfl, Same.refl H6, hD6⟩
            rw [← eH]
          all_goals
            have hdg7 := sm67.seq hdgS
            have sm07 := sm06.trans sm67
            refine ⟨_, rfl, dg, _, 0, _, rfl, rfl, hdg7, rfl, rfl, _, rfl, ite2 (fun e5 => ?_) (fun e5 => ?_)⟩
            · refine ⟨_, rfl, 8, rfl, by decide, by decide, fun C nC => ?_⟩
              have s8 : Same H7 (upd H7 C (.lst [])) := same_upd nC
              refine lc_range (lo := 0) (n := 8) (fun i H' => ∃ ks2 : List Nat, Same H7 H' ∧ H' C = some (.lst (bys ks2)) ∧ ks2.length = i ∧ ∀ k ∈ ks2, k < 256) ⟨[], s8, upd_same, rfl, fun k m => by (cases m)⟩ (fun i8 H8 hi8 h => ?_) (fun H8 h => ?_)
              · obtain ⟨ks2, sm78, hC, hl2, hk2⟩ := h
                refine ⟨rfl, yes ?_⟩
                refine ⟨_, rfl, dg, _, 1, _, rfl, rfl, sm78.seq hdg7, rfl, _, rfl, _, _, rfl, rfl, (by omega), _, _, rfl, rfl, _, _, rfl, rfl, _, hC, ?_, ?_⟩
                · rw [bys_len, hz]
                  omega
                · refine ⟨ks2 ++ [97 + (k1 / 2 ^ i8) % 2], same_put sm78 nC, ?_, by simp [hl2], fun k m => ?_⟩
                  · have ev : (97 : Int) + Builtin.bitAnd ((k1 : Int) / 2 ^ (0 + (i8 : Int)).toNat) 1 = ((97 + (k1 / 2 ^ i8) % 2 : Nat) : Int) := by
                      rw [PyProof.Rows.bitAnd_m1, Int.zero_add, Int.toNat_natCast]
                      push_cast
                      rfl
                    rw [upd_same]
                    show some (HO.lst (bys ks2 ++ [V.int (97 + Builtin.bitAnd ((k1 : Int) / 2 ^ (0 + (i8 : Int)).toNat) 1)])) = _
                    rw [ev, ← bys_app]
                    rfl
                  · rcases (List.mem_append.mp m) with (m | m)
                    · exact hk2 k m
                    · rw [List.mem_singleton.mp m]
                      omega
              · obtain ⟨ks2, sm78, hC, hl2, hk2⟩ := h
                refine ⟨D, C, _, _, rfl, rfl, sm78 _ _ hD7, hC, (by rw [bys_len, bys_len, hz]; omega), fun r2 nr2 => ?_⟩
                exact fin _ r2 _ _ (sm07.trans sm78) nr2 hk2 (by omega)
            · refine ⟨_, rfl, .inl ⟨rfl, _, .inl (.inl hD7)⟩, ?_⟩
              refine ⟨_, rfl, dg, _, 1, _, rfl, rfl, hdg7, rfl, _, rfl, dg, _, 1, _, rfl, rfl, hdg7, rfl, .inl ⟨_, rfl, _, _, rfl, rfl, (by show (4 : Int) ≠ 0; decide), (by show 8 ≤ sizeLine; rw [hz]; decide), fun z3 nz3 => ?_⟩⟩
              obtain ⟨v, hv, ev⟩ := item_in (d1 := (k1 : Int)) (d2 := d2) hd1
              have s3 := same_upd (o := .lst [V.int 97, V.int 98, V.int 32, V.int 0, V.int 255, V.int (k1 : Int), V.int ((k1 : Int).fmod 4), V.int 200]) nz3
              have e3' : (upd H7 z3 (.lst [V.int 97, V.int 98, V.int 32, V.int 0, V.int 255, V.int (k1 : Int), V.int ((k1 : Int).fmod 4), V.int 200])) z3 = some (.lst [V.int 97, V.int 98, V.int 32, V.int 0, V.int 255, V.int (k1 : Int), V.int ((k1 : Int).fmod 4), V.int 200]) := upd_same
              refine ⟨_, rfl, dg, _, 2, _, rfl, rfl, s3.seq hdg7, rfl, .inl ⟨_, rfl, _, _, rfl, rfl, (by show (8 : Int) ≠ 0; decide), z3, _, _, _, rfl, rfl, .inl (.inl e3'), ev, D, _, _, rfl, rfl, s3 _ _ hD7, (by rw [bys_len, hz]; omega), ?_⟩⟩
              refine ⟨_, _, y7, D, ks0 ++ [v], rfl, same_put (sm07.trans s3) nD, nD, by rw [upd_same, ← bys_app]; rfl, fun k m => ?_, by simp; omega⟩
              rcases (List.mem_append.mp m) with (m | m)
              · exact hk k m
              · rw [List.mem_singleton.mp m]
                exact hv
    · obtain ⟨y5, y6, y7, D, ks, rfl, sm, nD, hD, hk, hl⟩ := h
      refine ⟨_, rfl, _, rfl, _, rfl, D, _, rfl, .inl (.inl hD), fun r nr => ?_⟩
      refine q _ r (ks.take many) (sm.trans (same_upd nr)) (none_back sm nr) ?_ (fun k m => hk k (List.mem_of_mem_take m)) ?_
      · rw [upd_same, em, bys_to]
      · rw [List.length_take]
        omega
end
end K4

namespace K4
open PySem PySem.Spec PyProof.Rows L2
/-! ### what a row tells -/
def copyN (every : List Nat) (b : Nat) : Nat → List Nat
  | 0 => every
  | m + 1 => copyN (every ++ [every.getD (every.length - b) 0]) b m
def tells : List Nat → List Itm → Option (List Nat)
  | every, [] => some every
  | every, .b k :: r => tells (every ++ [k]) r
  | every, .c m b :: r => if b ≤ every.length then tells (copyN every b m) r else none
theorem tells_app : ∀ (a b : List Itm) (every : List Nat), tells every (a ++ b) = (tells every a).bind fun e => tells e b
  | [], b, every => rfl
  | .b k :: a, b, every => by
    show tells (every ++ [k]) (a ++ b) = (tells (every ++ [k]) a).bind _
    exact tells_app a b _
  | .c m r :: a, b, every => by
    show (if r ≤ every.length then tells (copyN every r m) (a ++ b) else none) = (if r ≤ every.length then tells (copyN every r m) a else none).bind _
    by_cases h : r ≤ every.length
    · rw [if_pos h, if_pos h]
      exact tells_app a b _
    · rw [if_neg h, if_neg h]
      rfl
theorem copyN_succ (b : Nat) : ∀ (m : Nat) (every : List Nat), copyN every b (m + 1) = copyN every b m ++ [(copyN every b m).getD ((copyN every b m).length - b) 0]
  | 0, every => rfl
  | m + 1, every => by
    show copyN (every ++ [every.getD (every.length - b) 0]) b (m + 1) = _
    rw [copyN_succ b m]
    rfl
theorem copyN_len (b : Nat) : ∀ (m : Nat) (every : List Nat), (copyN every b m).length = every.length + m
  | 0, every => rfl
  | m + 1, every => by
    show (copyN (every ++ _) b m).length = _
    rw [copyN_len b m, List.length_append, List.length_singleton]
    omega
theorem copyN_lt (b : Nat) : ∀ (m : Nat) {every : List Nat}, (∀ k ∈ every, k < 256) → ∀ k ∈ copyN every b m, k < 256
  | 0, every, h => h
  | m + 1, every, h => by
    refine copyN_lt b m (every := every ++ [every.getD (every.length - b) 0]) fun k q => ?_
    rcases (List.mem_append.mp q) with (q | q)
    · exact h k q
    · rw [List.mem_singleton.mp q, List.getD_eq_getElem?_getD]
      cases e : every[every.length - b]? with
      | none => decide
      | some x => exact h x (List.mem_of_getElem? e)
theorem copyN_pre (b : Nat) : ∀ (m : Nat) (every : List Nat), ∃ r, copyN every b m = every ++ r
  | 0, every => ⟨[], by simp [copyN]⟩
  | m + 1, every => by
    obtain ⟨r, e⟩ := copyN_pre b m (every ++ [every.getD (every.length - b) 0])
    exact ⟨[every.getD (every.length - b) 0] ++ r, by show copyN (every ++ _) b m = _; rw [e, List.append_assoc]⟩
abbrev RowAt (H : Hp) : List Itm → List V → Prop := Paired (ItmAt H)
theorem ItmAt.put {H : Hp} {it : Itm} {v : V} {D : Addr} {xs ys : List V} (h : ItmAt H it v) (hD : H D = some (.lst xs)) : ItmAt (upd H D (.lst ys)) it v := by
  cases it with
  | b k => exact h
  | c m r =>
    obtain ⟨t, e, ht⟩ := h
    refine ⟨t, e, ?_⟩
    rw [upd_ne (ne_of ht hD (fun z => nomatch z))]
    exact ht
end K4

namespace K4
open PySem PySem.Spec PyProof.Rows L2
/-! ### _law_items -/
def mlGo (e : List Nat) (h b : Nat) : Nat → Nat → Nat
  | 0, m => m
  | f + 1, m => if e.getD (h + m) 0 = e.getD (h + m - b) 0 then mlGo e h b f (m + 1) else m
def ml (e : List Nat) (h b lim : Nat) : Nat := mlGo e h b lim 0
theorem mlGo_le (e : List Nat) (h b : Nat) : ∀ f m, m ≤ mlGo e h b f m ∧ mlGo e h b f m ≤ m + f
  | 0, m => ⟨Nat.le_refl _, Nat.le_refl _⟩
  | f + 1, m => by
    show m ≤ (if e.getD (h + m) 0 = e.getD (h + m - b) 0 then mlGo e h b f (m + 1) else m) ∧ _ ≤ _
    have := mlGo_le e h b f (m + 1)
    by_cases c : e.getD (h + m) 0 = e.getD (h + m - b) 0
    · rw [if_pos c]
      refine ⟨by omega, ?_⟩
      show (if e.getD (h + m) 0 = e.getD (h + m - b) 0 then mlGo e h b f (m + 1) else m) ≤ _
      rw [if_pos c]
      omega
    · rw [if_neg c]
      refine ⟨Nat.le_refl _, ?_⟩
      show (if e.getD (h + m) 0 = e.getD (h + m - b) 0 then mlGo e h b f (m + 1) else m) ≤ _
      rw [if_neg c]
      omega
def prsB (e : List Nat) (h lim b : Nat) (i : Nat) : List (Int × Int) := (List.range i).map fun o => (-(((3 + o : Nat) : Int)), ((b : Nat) : Int))
def prs (e : List Nat) (h lim : Nat) (i : Nat) : List (Int × Int) := (List.range i).flatMap fun b => prsB e h lim (1 + b) (ml e h (1 + b) lim - 2)
theorem prs_succ (e : List Nat) (h lim i : Nat) : prs e h lim (i + 1) = prs e h lim i ++ prsB e h lim (1 + i) (ml e h (1 + i) lim - 2) := by
  unfold prs
  rw [List.range_succ, List.flatMap_append]
  simp
theorem prsB_succ (e : List Nat) (h lim b i : Nat) : prsB e h lim b (i + 1) = prsB e h lim b i ++ [(-(((3 + i : Nat) : Int)), ((b : Nat) : Int))] := by
  unfold prsB
  rw [List.range_succ, List.map_append]
  rfl
theorem prs_len (e : List Nat) (h lim : Nat) (hl : lim ≤ 18) : ∀ i, (prs e h lim i).length ≤ 16 * i
  | 0 => by simp [prs]
  | i + 1 => by
    rw [prs_succ, List.length_append]
    have h1 := prs_len e h lim hl i
    have h2 : (prsB e h lim (1 + i) (ml e h (1 + i) lim - 2)).length = ml e h (1 + i) lim - 2 := by simp [prsB]
    have h3 := (mlGo_le e h (1 + i) lim 0).2
    have h4 : ml e h (1 + i) lim ≤ 0 + lim := h3
    omega
theorem prs_neg {e : List Nat} {h lim i : Nat} {p : Int × Int} (m : p ∈ prs e h lim i) : p.1 ≤ 0 ∧ 0 ≤ p.2 := by
  obtain ⟨b, _, hb⟩ := List.mem_flatMap.mp m
  obtain ⟨o, _, rfl⟩ := List.mem_map.mp hb
  exact ⟨by show -(((3 + o : Nat) : Int)) ≤ 0; omega, by show (0 : Int) ≤ ((1 + b : Nat) : Int); omega⟩
def PrAt (H : Hp) (p : Int × Int) (v : V) : Prop := ∃ t, v = .ref t ∧ H t = some (.tup [.int p.1, .int p.2])
theorem PrAt.same {H H' : Hp} {p : Int × Int} {v : V} (h : PrAt H p v) (s : Same H H') : PrAt H' p v := by
  obtain ⟨t, e, ht⟩ := h
  exact ⟨t, e, s _ _ ht⟩
theorem PrAt.put {H : Hp} {p : Int × Int} {v : V} {D : Addr} {xs ys : List V} (h : PrAt H p v) (hD : H D = some (.lst xs)) : PrAt (upd H D (.lst ys)) p v := by
  obtain ⟨t, e, ht⟩ := h
  exact ⟨t, e, by rw [upd_ne (ne_of ht hD (fun z => nomatch z))]; exact ht⟩
theorem paired_app {α β : Type} {G : α → β → Prop} : ∀ {l₁ : List α} {l₂ : List β} {m₁ : List α} {m₂ : List β}, Paired G l₁ l₂ → Paired G m₁ m₂ → Paired G (l₁ ++ m₁) (l₂ ++ m₂)
  | _, _, _, _, .nil, h => h
  | _, _, _, _, .cons a t, h => .cons a (paired_app t h)
theorem paired_of {α β : Type} {G : α → β → Prop} {k : β → α} (hk : ∀ a b, G a b → k b = a) : ∀ {l₁ : List α} {l₂ : List β}, Paired G l₁ l₂ → l₂.map k = l₁
  | _, _, .nil => rfl
  | _, _, .cons a t => by rw [List.map_cons, hk _ _ a, paired_of hk t]
def prOf (H : Hp) : V → Int × Int
  | .ref t => match H t with
    | some (.tup [.int a, .int b]) => (a, b)
    | _ => (0, 0)
  | _ => (0, 0)
theorem prOf_at {H : Hp} {p : Int × Int} {v : V} (h : PrAt H p v) : prOf H v = p := by
  obtain ⟨t, rfl, ht⟩ := h
  unfold prOf
  simp only [ht]
theorem at_of' {ks : List Nat} {i : Int} {k : Nat} (e : i = (k : Int)) (h : k < ks.length) : atI (bys ks) i = some (.int ((ks.getD k 0 : Nat) : Int)) := by
  subst e
  rw [bys_eq]
  refine atI_nat ?_
  rw [List.getElem?_map, List.getElem?_eq_getElem h, List.getD_eq_getElem?_getD, List.getElem?_eq_getElem h]
  rfl
abbrev NIt : List Str := ["_law_every", "_law_lead", "_law_place", "_law_end", "_law_found", "_law_here", "_law_back_here", "_law_many", "_law_one"]
theorem scItems : FnScope NIt ["_law_every", "_law_lead", "_law_place", "_law_end"] (defScope sItems) := ⟨rfl, rfl, rfl, by decide +kernel, rfl, by decide +kernel, by decide +kernel⟩
section
variable {P : Program} {w : World} {K : PySem.W.Frag} {mg : Str → Option Value} {base : Heap}
/-- the items that can stand at a place: a byte, then copies in their turn -/
structure IsItems (every : List Nat) (here lim : Nat) (its : List Itm) : Prop where
  ex : ∃ cs : List (Int × Int), its = .b (every.getD here 0) :: cs.map (fun p => .c (-p.1).toNat p.2.toNat) ∧ SrtO.Srtd SrtO.lexB cs ∧ cs.Perm (prs every here lim (min 1024 here))
def spItems : Sp := fun vs H Q _ => ∃ (pe : Addr) (every : List Nat) (lead place en : Nat), vs = [.ref pe, .int (lead : Int), .int (place : Int), .int (en : Int)] ∧ H pe = some (.lst (bys every)) ∧ place < en ∧ lead + en = every.length ∧ every.length ≤ 1000 ∧
  ∀ H' r us its, Same H H' → H r = none → H' r = some (.lst us) → RowAt H' its us → IsItems every (lead + place) (min 18 (en - place)) its → Q (.ref r) H'
theorem ok_items {f : Addr} {fd : FuncData} {j : Nat} (F : Fun K "_law_items" "_law_items" sItems f fd) (m1 : mg "range" = none) (m2 : mg "min" = none) (m3 : mg "sorted" = none) :
    FnOk P w K mg base CX0 (j + 1) f fd ["_law_every", "_law_lead", "_law_place", "_law_end"] spItems := by
  refine F.ok scItems (fun vs H Q E h => ?_) (fun cdv A outer s H vs Q E hr h => ?_)
  · obtain ⟨pe, every, lead, place, en, rfl, _⟩ := h
    rfl
  · obtain ⟨pe, every, lead, place, en, rfl, hpe, hlt, hle, hl, q⟩ := h
    have hz := PySem.sizeLine_eq
    refine ⟨_, pss_cons (ps_par (i := 4) (j := 5) rfl scItems.nd rfl rfl (by decide) rfl rfl (pa_cons (pe_lst pa_nil) (pa_cons (pe_op op_add (pv 1) (pv 2)) pa_nil)) (by rfl))
      (pss_cons (ps_for PassesOwn.never rfl (pi_range2 (by rfl) m1 (pa_cons pe_int (pa_cons (pe_op op_add (pe_callB (call_min2 rfl) (by rfl) m2 (by decide +kernel) (pa_cons pe_int (pa_cons (pv 5) pa_nil))) pe_int) pa_nil))) (pg_name (i := 6) scItems.nd rfl (.inr rfl))
        (pss_cons (ps_set (i := 7) scItems.nd rfl (.inl rfl) pe_int)
        (pss_cons (ps_while PassesOwn.never (PW.pt (pw_and (pt_cmpR op_lt (pv 7) (pe_callB (call_min2 rfl) (by rfl) m2 (by decide +kernel) (pa_cons pe_int (pa_cons (pe_op op_sub (pv 3) (pv 2)) pa_nil))) (nomark _))
            (pw_and1 (pt_cmpR op_eq (pe_ix ix_list (pv 0) (pe_op op_add (pv 5) (pv 7)) (fun _ _ => rfl)) (pe_ix ix_list (pv 0) (pe_op op_sub (pe_op op_add (pv 5) (pv 7)) (pv 6)) (fun _ _ => rfl)) (nomark _)))))
          (pss_one (ps_set (i := 7) scItems.nd rfl (.inl rfl) (pe_op op_add (pv 7) pe_int))))
        (pss_one (ps_expr (pe_bm PySem.F.plainAttrs_list PySem.F.slot_list_extend PySem.F.type_list_extend mt_extend (pv 4) (pa_cons (pe_lc (own := [("_law_one", 8)]) (g := gName 8) (tt := tYes) rfl scItems.nd (pi_range2 (by rfl) m1 (pa_cons pe_int (pa_cons (pe_op op_add (pv 7) pe_int) pa_nil))) (blkOk_by (N := NIt) (sc := defScope sItems) (by decide +kernel))
            (fun _ _ _ _ _ => pg_name (i := 8) scItems.nd rfl (.inl rfl)) (fun _ _ _ _ _ => pts_nil) (fun _ _ _ _ _ => pe_tup (pa_cons (pe_un un_neg (pv 8)) (pa_cons (pv 6) pa_nil)))) pa_nil)))))))
      (pss_one (ps_ret (pe_op op_cat (pe_lst (pa_cons (pe_ix ix_list (pv 0) (pv 5) (fun _ _ => rfl)) pa_nil)) (pe_lc (own := [("_law_one", 8), ("_law_back_here", 6)]) (g := gTup K 2 (gCons (gName 8) (gCons (gName 6) gNil))) (tt := tYes) rfl scItems.nd (pi_list (pe_callB cr_sortedPO (by rfl) m3 (by decide +kernel) (pa_cons (pv 4) pa_nil))) (blkOk_by (N := NIt) (sc := defScope sItems) (by decide +kernel))
            (fun _ _ _ _ _ => pg_tup rfl (pgs_cons (pg_name (i := 8) scItems.nd rfl (.inl rfl)) (pgs_cons (pg_name (i := 6) scItems.nd rfl (.inl rfl)) pgs_nil))) (fun _ _ _ _ _ => pts_nil) (fun _ _ _ _ _ => pe_tup (pa_cons (pe_un un_neg (pv 8)) (pa_cons (pv 6) pa_nil)))))))), ?_⟩
    refine ⟨Nat.zero_le _, fun D nD => ?_⟩
    have s0 : Same H (upd H D (.lst [])) := same_upd nD
    have hD0 : (upd H D (.lst [])) D = some (.lst []) := upd_same
    generalize upd H D (.lst []) = H0 at *
    refine ⟨_, rfl, _, rfl, _, _, rfl, rfl, _, _, rfl, ?_⟩
    have eh : (lead : Int) + (place : Int) = ((lead + place : Nat) : Int) := by push_cast; rfl
    have hB : (if (lead : Int) + (place : Int) < 1024 then (lead : Int) + (place : Int) else 1024) = ((min 1024 (lead + place) : Nat) : Int) := by
      split <;> omega
    have hlim : (if (en : Int) - (place : Int) < 18 then (en : Int) - (place : Int) else 18) = ((min 18 (en - place) : Nat) : Int) := by
      split <;> omega
    refine ⟨_, rfl, _, _, rfl, _, _, rfl, rfl, _, _, rfl, ⟨by decide, by decide, (by split <;> omega), (by split <;> omega)⟩, ?_⟩
    have hn : ((if (lead : Int) + (place : Int) < 1024 then (lead : Int) + (place : Int) else 1024) + 1 - 1).toNat = min 1024 (lead + place) := by omega
    refine for_range (lo := 1) (n := ((if (lead : Int) + (place : Int) < 1024 then (lead : Int) + (place : Int) else 1024) + 1 - 1).toNat) (fun i σ H' => ∃ (y6 y7 : Option V) (us : List V), σ = [some (.ref pe), some (.int (lead : Int)), some (.int (place : Int)), some (.int (en : Int)), some (.ref D), some (.int ((lead : Int) + (place : Int))), y6, y7, none] ∧ Same H H' ∧ H' D = some (.lst us) ∧ Paired (PrAt H') (prs every (lead + place) (min 18 (en - place)) i) us)
      ⟨none, none, [], rfl, s0, hD0, .nil⟩ (fun i σ H' hi h => ?_) (fun σ H' h => ?_)
    · obtain ⟨y6, y7, us, rfl, sm, hD, hpr⟩ := h
      rw [hn] at hi
      have hpe' := sm _ _ hpe
      refine ⟨fun m σ H'' => ∃ c : Nat, m = 100 - c ∧ c ≤ min 18 (en - place) ∧ H'' = H' ∧ σ = [some (.ref pe), some (.int (lead : Int)), some (.int (place : Int)), some (.int (en : Int)), some (.ref D), some (.int ((lead : Int) + (place : Int))), some (.int (1 + (i : Int))), some (.int (c : Int)), none] ∧ mlGo every (lead + place) (1 + i) (min 18 (en - place)) 0 = mlGo every (lead + place) (1 + i) (min 18 (en - place) - c) c, ⟨100, 0, rfl, Nat.zero_le _, rfl, rfl, rfl⟩, fun m σ Hw hW => ?_⟩
      obtain ⟨c, rfl, hc, rfl, rfl, hml⟩ := hW
      refine ⟨_, rfl, _, rfl, _, rfl, _, _, rfl, rfl, _, _, rfl, _, _, rfl, rfl, _, rfl, ite2 (fun e1 => ?in1) (fun e1 => ?out2)⟩
      case' in1 =>
        have hcl : c < min 18 (en - place) := by
          have e1' : (c : Int) < (if (en : Int) - (place : Int) < 18 then (en : Int) - (place : Int) else 18) := of_decide_eq_true e1
          rw [hlim] at e1'
          omega
        have hgo : min 18 (en - place) - c = (min 18 (en - place) - (c + 1)) + 1 := by omega
        rw [hgo] at hml
        refine ⟨_, rfl, _, rfl, _, rfl, _, _, rfl, rfl, pe, _, _, _, rfl, rfl, .inl (.inl hpe'), at_of' (k := lead + place + c) (by push_cast; rfl) (by omega), ?_⟩
        refine ⟨_, rfl, _, rfl, _, rfl, _, _, rfl, rfl, _, rfl, _, _, rfl, rfl, pe, _, _, _, rfl, rfl, .inl (.inl hpe'), at_of' (k := lead + place + c - (1 + i)) (by omega) (by omega), rfl, _, rfl, ite2 (fun e2 => ?go) (fun e2 => ?out1)⟩
        case go =>
          have e2' : every.getD (lead + place + c) 0 = every.getD (lead + place + c - (1 + i)) 0 := by
            have := V.int.inj (of_decide_eq_true e2)
            omega
          refine ⟨fun σ' H'' => ∃ m', m' < 100 - c ∧ ∃ c : Nat, m' = 100 - c ∧ c ≤ min 18 (en - place) ∧ H'' = Hw ∧ σ' = [some (.ref pe), some (.int (lead : Int)), some (.int (place : Int)), some (.int (en : Int)), some (.ref D), some (.int ((lead : Int) + (place : Int))), some (.int (1 + (i : Int))), some (.int (c : Int)), none] ∧ mlGo every (lead + place) (1 + i) (min 18 (en - place)) 0 = mlGo every (lead + place) (1 + i) (min 18 (en - place) - c) c, fun σ' H'' h => h, ?_⟩
          refine ⟨_, rfl, _, _, rfl, rfl, 100 - (c + 1), by omega, c + 1, rfl, by omega, rfl, by simp, ?_⟩
          rw [hml]
          show (if every.getD (lead + place + c) 0 = every.getD (lead + place + c - (1 + i)) 0 then _ else _) = _
          rw [if_pos e2']
        case' out1 =>
          have hmc : ml every (lead + place) (1 + i) (min 18 (en - place)) = c := by
            have e2' : ¬ every.getD (lead + place + c) 0 = every.getD (lead + place + c - (1 + i)) 0 := fun z => e2 (decide_eq_true (by rw [z]))
            show mlGo _ _ _ _ _ = c
            rw [hml]
            show (if every.getD (lead + place + c) 0 = every.getD (lead + place + c - (1 + i)) 0 then _ else _) = _
            rw [if_neg e2']
      case' out2 =>
        have hmc : ml every (lead + place) (1 + i) (min 18 (en - place)) = c := by
          have e1' : ¬ (c : Int) < (if (en : Int) - (place : Int) < 18 then (en : Int) - (place : Int) else 18) := fun z => e1 (decide_eq_true z)
          rw [hlim] at e1'
          show mlGo _ _ _ _ _ = c
          rw [hml, show min 18 (en - place) - c = 0 by omega]
          rfl
        refine iteF ?_
      all_goals
        refine ⟨_, rfl, .inl ⟨rfl, _, .inl (.inl hD)⟩, ?_⟩
        refine ⟨_, rfl, _, _, rfl, rfl, _, _, rfl, ⟨by decide, by decide, by omega, by omega⟩, fun C nC => ?_⟩
        refine lc_range (lo := 3) (n := ((c : Int) + 1 - 3).toNat) (fun k H'' => ∃ us2, Same Hw H'' ∧ H'' C = some (.lst us2) ∧ Paired (PrAt H'') (prsB every (lead + place) (min 18 (en - place)) (1 + i) k) us2) ⟨[], same_upd nC, upd_same, .nil⟩ (fun k H1 hk h => ?_) (fun H1 h => ?_)
        · obtain ⟨us2, sm2, hC, hp2⟩ := h
          have hu2 := hp2.length
          have hu3 : (prsB every (lead + place) (min 18 (en - place)) (1 + i) k).length = k := by simp [prsB]
          refine ⟨rfl, yes ?_⟩
          refine ⟨_, rfl, _, rfl, _, rfl, (by show 2 ≤ sizeLine; rw [hz]; decide), fun t nt => ?_⟩
          have st := same_upd (o := .tup [.int (-(3 + (k : Int))), .int (1 + (i : Int))]) nt
          have ht : PrAt (upd H1 t (.tup [.int (-(3 + (k : Int))), .int (1 + (i : Int))])) (-(((3 + k : Nat) : Int)), ((1 + i : Nat) : Int)) (.ref t) := ⟨t, rfl, by rw [upd_same]; push_cast; rfl⟩
          refine ⟨us2, st _ _ hC, (by rw [hz]; omega), us2 ++ [.ref t], same_put (sm2.trans st) nC, upd_same, ?_⟩
          rw [prsB_succ]
          exact ((hp2.mono fun p v h => (h.same st).put (ys := us2 ++ [.ref t]) (st _ _ hC)).snoc (ht.put (st _ _ hC)))
        · obtain ⟨us2, sm2, hC, hp2⟩ := h
          have e3 : ((c : Int) + 1 - 3).toNat = ml every (lead + place) (1 + i) (min 18 (en - place)) - 2 := by rw [hmc]; omega
          rw [e3] at hp2
          have hu2 := hp2.length
          have hu3 : (prsB every (lead + place) (min 18 (en - place)) (1 + i) (ml every (lead + place) (1 + i) (min 18 (en - place)) - 2)).length ≤ 16 := by
            simp [prsB]
            omega
          have hlp := prs_len every (lead + place) (min 18 (en - place)) (by omega) i
          have hus := hpr.length
          refine ⟨D, C, _, _, rfl, rfl, sm2 _ _ hD, hC, ?_, ?_⟩
          · rw [hz]
            omega
          · refine ⟨_, _, us ++ us2, rfl, same_put (sm.trans sm2) nD, upd_same, ?_⟩
            rw [prs_succ]
            exact paired_app (hpr.mono fun p v h => (h.same sm2).put (sm2 _ _ hD)) (hp2.mono fun p v h => h.put (sm2 _ _ hD))
    · obtain ⟨y6, y7, us, rfl, sm, hD, hpr⟩ := h
      rw [hn] at hpr
      have hpe' := sm _ _ hpe
      refine ⟨_, rfl, _, rfl, pe, _, _, _, rfl, rfl, .inl (.inl hpe'), at_of' (k := lead + place) (by push_cast; rfl) (by omega), (by show 1 ≤ sizeLine; rw [hz]; decide), fun z nz => ?_⟩
      have sz := same_upd (o := .lst [.int ((every.getD (lead + place) 0 : Nat) : Int)]) nz
      have hzz : (upd H' z (.lst [.int ((every.getD (lead + place) 0 : Nat) : Int)])) z = some (.lst [.int ((every.getD (lead + place) 0 : Nat) : Int)]) := upd_same
      have hpr1 := hpr.mono fun p v h => h.same sz
      have hD1 := sz _ _ hD
      have sm1 := sm.trans sz
      generalize upd H' z (.lst [.int ((every.getD (lead + place) 0 : Nat) : Int)]) = H1 at *
      refine ⟨_, rfl, D, us, prOf H1, rfl, .inl (.inl hD1), ?_, fun ys p hsrt hstb np => ?_⟩
      · intro x hx
        obtain ⟨pr, t, e, ht⟩ := hpr1.right x hx
        have := prOf_at (H := H1) ⟨t, e, ht⟩
        exact ⟨t, e, by rw [this]; exact ht⟩
      · have sp := same_upd (o := .lst ys) np
        have hp0 : (upd H1 p (.lst ys)) p = some (.lst ys) := upd_same
        have hz2 := sp _ _ hzz
        have hys : ∀ x ∈ ys, ∃ pr, PrAt (upd H1 p (.lst ys)) pr x ∧ prOf H1 x = pr ∧ pr.1 ≤ 0 ∧ 0 ≤ pr.2 := by
          intro x hx
          obtain ⟨jj, hj⟩ := List.mem_iff_getElem?.mp (hstb.perm.mem_iff.mp hx)
          have hm : us.map (prOf H1) = prs every (lead + place) (min 18 (en - place)) (min 1024 (lead + place)) := paired_of (fun a b h => prOf_at h) hpr1
          obtain ⟨pr, hpa⟩ := hpr1.right x (hstb.perm.mem_iff.mp hx)
          have e := prOf_at hpa
          refine ⟨pr, hpa.same sp, e, prs_neg (i := min 1024 (lead + place)) (e := every) (h := lead + place) (lim := min 18 (en - place)) ?_⟩
          rw [← hm, ← e]
          exact List.mem_map.mpr ⟨x, hstb.perm.mem_iff.mp hx, rfl⟩
        have hperm : (ys.map (prOf H1)).Perm (prs every (lead + place) (min 18 (en - place)) (min 1024 (lead + place))) := by
          rw [← paired_of (fun a b h => prOf_at h) hpr1]
          exact hstb.perm.map _
        have hyl : ys.length ≤ 16 * 1024 := by
          have h1 := hperm.length_eq
          rw [List.length_map] at h1
          have h2 := prs_len every (lead + place) (min 18 (en - place)) (by omega) (min 1024 (lead + place))
          omega
        have sm2 := sm1.trans sp
        generalize upd H1 p (.lst ys) = H2 at *
        refine ⟨p, rfl, ⟨_, .inl (.inl hp0)⟩, fun C nC => ?_⟩
        refine lc_list (K := K) (a := p) (xs := ys) (fun i H'' => ∃ us3, Same H2 H'' ∧ H'' C = some (.lst us3) ∧ Paired (ItmAt H'') (((ys.map (prOf H1)).take i).map fun q => Itm.c (-q.1).toNat q.2.toNat) us3) ⟨[], same_upd nC, upd_same, .nil⟩ (fun i H'' _ h => .inl (.inl (h.choose_spec.1 _ _ hp0))) (fun i x H3 hx h => ?_) (fun H3 h => ?_)
        · obtain ⟨us3, s3, hC, hi3⟩ := h
          have hil : ys.length > i := (List.getElem?_eq_some_iff.mp hx).1
          obtain ⟨pr, ⟨t0, rfl, ht0⟩, epr, hn1, hn2⟩ := hys x (List.mem_of_getElem? hx)
          have hl3 := hi3.length
          rw [List.length_map, List.length_take, List.length_map] at hl3
          refine ⟨t0, _, rfl, .inl (.inl (s3 _ _ ht0)), rfl, _, _, rfl, _, _, rfl, rfl, rfl, yes ?_⟩
          refine ⟨_, rfl, _, rfl, _, rfl, (by show 2 ≤ sizeLine; rw [hz]; decide), fun t nt => ?_⟩
          have st := same_upd (o := .tup [.int (-pr.1), .int pr.2]) nt
          have ht : ItmAt (upd H3 t (.tup [.int (-pr.1), .int pr.2])) (.c (-pr.1).toNat pr.2.toNat) (.ref t) := ⟨t, rfl, by rw [upd_same, Int.toNat_of_nonneg (by omega), Int.toNat_of_nonneg hn2]⟩
          refine ⟨us3, st _ _ hC, (by rw [hz]; omega), us3 ++ [.ref t], same_put (s3.trans st) nC, upd_same, ?_⟩
          have etk : (ys.map (prOf H1)).take (i + 1) = (ys.map (prOf H1)).take i ++ [pr] := by
            rw [List.take_add_one, List.getElem?_map, hx]
            show _ ++ [prOf H1 (.ref t0)] = _
            rw [epr]
          rw [etk, List.map_append]
          exact (hi3.mono fun it v h => (h.same st).put (st _ _ hC)).snoc (ht.put (st _ _ hC))
        · obtain ⟨us3, s3, hC, hi3⟩ := h
          have etk : (ys.map (prOf H1)).take ys.length = ys.map (prOf H1) := List.take_of_length_le (by rw [List.length_map]; exact Nat.le_refl _)
          rw [etk] at hi3
          have hl3 := hi3.length
          rw [List.length_map, List.length_map] at hl3
          refine ⟨z, C, _, _, rfl, rfl, s3 _ _ hz2, hC, (by rw [hz, ← hl3]; show 1 + ys.length ≤ _; omega), fun r nr => ?_⟩
          have sr := same_upd (o := .lst ([V.int ((every.getD (lead + place) 0 : Nat) : Int)] ++ us3)) nr
          refine q _ r _ (.b (every.getD (lead + place) 0) :: (ys.map (prOf H1)).map fun q => Itm.c (-q.1).toNat q.2.toNat) ((sm2.trans s3).trans sr) (none_back (sm2.trans s3) nr) upd_same (.cons rfl (hi3.mono fun it v h => h.same sr)) ⟨⟨ys.map (prOf H1), rfl, SrtO.srtd_map hsrt, hperm⟩⟩
end
end K4

namespace K4
open PySem PySem.Spec PyProof.Rows L2
theorem back_at {ks : List Nat} {b : Nat} (h1 : 1 ≤ b) (h2 : b ≤ ks.length) : atI (bys ks) (-(b : Int)) = some (.int ((ks.getD (ks.length - b) 0 : Nat) : Int)) := by
  unfold atI ixN
  rw [if_neg (by omega), bys_len, if_pos (by omega)]
  show (bys ks)[(-(b : Int) + (ks.length : Int)).toNat]? = _
  have e : (-(b : Int) + (ks.length : Int)).toNat = ks.length - b := by omega
  have hi : ks.length > ks.length - b := by omega
  rw [e, bys_eq, List.getElem?_map, List.getElem?_eq_getElem hi, List.getD_eq_getElem?_getD, List.getElem?_eq_getElem hi]
  rfl
theorem back_at' {ks : List Nat} {b : Nat} {bv : Int} (e : bv = (b : Int)) (h1 : 1 ≤ b) (h2 : b ≤ ks.length) : atI (bys ks) (-bv) = some (.int ((ks.getD (ks.length - b) 0 : Nat) : Int)) := by
  subst e
  exact back_at h1 h2
end K4

namespace K4
open PySem PySem.Spec PyProof.Rows L2
/-! ### _law_told_by -/
abbrev NTb : List Str := ["_law_row", "_law_lead", "_law_every", "_law_item", "_law_turn"]
theorem scToldBy : FnScope NTb ["_law_row", "_law_lead"] (defScope sToldBy) := ⟨rfl, rfl, rfl, by decide +kernel, rfl, by decide +kernel, by decide +kernel⟩
def optL (H : Hp) (v : V) : Option (List Nat) → Prop
  | none => v = .non
  | some e => ∃ r, v = .ref r ∧ H r = some (.lst (bys e))
section
variable {P : Program} {w : World} {K : PySem.W.Frag} {mg : Str → Option Value} {base : Heap}
def spToldBy : Sp := fun vs H Q _ => ∃ (pr pl : Addr) (us : List V) (its : List Itm) (lead : List Nat), vs = [.ref pr, .ref pl] ∧ H pr = some (.lst us) ∧ RowAt H its us ∧ (∀ it ∈ its, ItmOk it) ∧ its.length ≤ 1000 ∧ H pl = some (.lst (bys lead)) ∧ lead.length ≤ 1000 ∧
  ∀ H' v, Same H H' → optL H' v (tells lead its) → (∀ r, v = .ref r → H r = none) → Q v H'
theorem ok_toldBy {f : Addr} {fd : FuncData} {j : Nat} (F : Fun K "_law_told_by" "_law_told_by" sToldBy f fd) (m1 : mg "range" = none) (m2 : mg "isinstance" = none) (m3 : mg "int" = none) (m4 : mg "list" = none) (m5 : mg "len" = none) :
    FnOk P w K mg base CX0 (j + 1) f fd ["_law_row", "_law_lead"] spToldBy := by
  refine F.ok scToldBy (fun vs H Q E h => ?_) (fun cdv A outer s H vs Q E hr h => ?_)
  · obtain ⟨pr, pl, us, its, lead, rfl, _⟩ := h
    rfl
  · obtain ⟨pr, pl, us, its, lead, rfl, hpr, hrow, hok, hl, hpl, hll, q⟩ := h
    have hz := PySem.sizeLine_eq
    refine ⟨_, pss_cons (ps_set (i := 2) scToldBy.nd rfl (.inl rfl) (pe_callTy call_list_of (by rfl) m4 (by decide +kernel) (pa_cons (pv 1) pa_nil)))
      (pss_cons (ps_for PassesOwn.never rfl (pi_list (pv 0)) (pg_name (i := 3) scToldBy.nd rfl (.inl rfl))
        (pss_one (ps_if (pt_val (pe_callB call_isi (by rfl) m2 (by decide +kernel) (pa_cons (pv 3) (pa_cons (pe_bltn (v := .ty "int") (by rfl) m3 (by decide +kernel) rfl) pa_nil))))
          (pss_one (ps_expr (pe_bm PySem.F.plainAttrs_list PySem.F.slot_list_append PySem.F.type_list_append mt_append (pv 2) (pa_cons (pv 3) pa_nil))))
          (pss_one (ps_if (pt_cmpR op_gt (pe_ix ix_tup (pv 3) pe_int (fun _ _ => rfl)) (pe_callB call_len_seq (by rfl) m5 PySem.boot_len (pa_cons (pv 2) pa_nil)) (nomark _))
            (pss_one (ps_ret pe_non))
            (pss_one (ps_for PassesOwn.never rfl (pi_range1 (by rfl) m1 (pa_cons (pe_ix ix_tup (pv 3) pe_int (fun _ _ => rfl)) pa_nil)) (pg_name (i := 4) scToldBy.nd rfl (.inl rfl))
              (pss_one (ps_expr (pe_bm PySem.F.plainAttrs_list PySem.F.slot_list_append PySem.F.type_list_append mt_append (pv 2) (pa_cons (pe_ix ix_list (pv 2) (pe_un un_neg (pe_ix ix_tup (pv 3) pe_int (fun _ _ => rfl))) (fun _ _ => rfl)) pa_nil)))))))))))
      (pss_one (ps_ret (pv 2)))), ?_⟩
    refine ⟨_, rfl, pl, _, rfl, .inl (.inl (.inl hpl)), fun E0 nE => ?_⟩
    have s0 := same_upd (o := .lst (bys lead)) nE
    have hE0 : (upd H E0 (.lst (bys lead))) E0 = some (.lst (bys lead)) := upd_same
    generalize upd H E0 (.lst (bys lead)) = H0 at *
    refine ⟨_, rfl, pr, rfl, ⟨_, .inl (.inl (s0 _ _ hpr))⟩, ?_⟩
    have hlen := hrow.length
    refine for_list (K := K) (a := pr) (xs := us) (fun i σ H' => ∃ (y3 y4 : Option V) (every : List Nat), σ = [some (.ref pr), some (.ref pl), some (.ref E0), y3, y4] ∧ Same H H' ∧ H' E0 = some (.lst (bys every)) ∧ tells lead its = tells every (its.drop i) ∧ every.length ≤ lead.length + 18 * i)
      ⟨_, _, lead, rfl, s0, hE0, rfl, by omega⟩ (fun i σ H' _ h => ?_) (fun i x σ H' hx h => ?_) (fun σ H' h => ?_)
    · obtain ⟨_, _, _, _, sm, _⟩ := h
      exact .inl (.inl (sm _ _ hpr))
    · obtain ⟨y3, y4, every, rfl, sm, hE, htl, hel⟩ := h
      have hi : i < us.length := (List.getElem?_eq_some_iff.mp hx).1
      have hia : i < its.length := by omega
      obtain ⟨x', hx', hat⟩ := paired_get hrow (List.getElem?_eq_getElem hia)
      have exx : x' = x := Option.some.inj (hx'.symm.trans hx)
      subst exx
      have hok' := hok its[i] (List.getElem_mem hia)
      rw [List.drop_eq_getElem_cons hia] at htl
      have hat' := hat.same sm
      generalize its[i] = it at *
      cases it with
      | b k =>
        obtain rfl : x' = .int (k : Int) := hat
        refine ⟨_, rfl, _, _, _, _, _, rfl, .ty "int", .base (.int _), kit_ty (a := "int") (r := true) (by decide +kernel), _, rfl, iteT ?_⟩
        refine ⟨_, rfl, .inl ⟨rfl, _, .inl (.inl hE)⟩, _, rfl, E0, _, _, rfl, rfl, hE, (by rw [bys_len, hz]; omega), _, _, every ++ [k], rfl, same_put sm nE, (by rw [upd_same, ← bys_app]; rfl), htl, by simp; omega⟩
      | c m r =>
        obtain ⟨t, rfl, ht⟩ := hat'
        obtain ⟨o1, o2, o3, o4⟩ := hok'
        refine ⟨_, rfl, _, _, .type "tuple", _, false, rfl, .ty "int", .base (.tup ht), kit_ty (a := "tuple") (r := false) (by decide +kernel), _, rfl, iteF ?_⟩
        refine ⟨_, rfl, t, _, 1, _, rfl, rfl, .inl (.inl ht), rfl, _, rfl, E0, _, rfl, .inl (.inl (.inl hE)), _, _, rfl, rfl, _, rfl, ite2 (fun e1 => ?_) (fun e1 => ?_)⟩
        · have hgt : ¬ r ≤ every.length := by
            have := of_decide_eq_true e1
            rw [bys_len] at this
            omega
          refine q H' .non sm ?_ (fun r z => by cases z)
          rw [htl]
          show optL H' .non (if r ≤ every.length then _ else none)
          rw [if_neg hgt]
          rfl
        · have hle : r ≤ every.length := by
            have : ¬ ((bys every).length : Int) < (r : Int) := fun z => e1 (decide_eq_true z)
            rw [bys_len] at this
            omega
          refine ⟨_, rfl, t, _, 0, _, rfl, rfl, .inl (.inl ht), rfl, _, rfl, (by omega), (by omega), ?_⟩
          refine for_range (lo := 0) (n := ((m : Nat) : Int).toNat) (fun c σ H'' => ∃ (y4 : Option V), σ = [some (.ref pr), some (.ref pl), some (.ref E0), some (.ref t), y4] ∧ (∀ b, b ≠ E0 → H'' b = H' b) ∧ H'' E0 = some (.lst (bys (copyN every r c))))
            ⟨_, rfl, fun b h => rfl, hE⟩ (fun c σ H9 hc h => ?_) (fun σ H9 h => ?_)
          · obtain ⟨y4, rfl, heq, hE9⟩ := h
            have ht9 : H9 t = some (.tup [.int (m : Int), .int (r : Int)]) := by
              rw [heq t (ne_of ht hE (fun z => nomatch z))]
              exact ht
            refine ⟨_, rfl, .inl ⟨rfl, _, .inl (.inl hE9)⟩, _, rfl, _, rfl, t, _, 1, _, rfl, rfl, .inl (.inl ht9), rfl, _, rfl, E0, _, _, _, rfl, rfl, .inl (.inl hE9), back_at o3 (by rw [copyN_len]; omega), E0, _, _, rfl, rfl, hE9, (by rw [bys_len, copyN_len, hz]; omega), _, rfl, fun b h => ?_, ?_⟩
            · rw [upd_ne h]
              exact heq b h
            · rw [upd_same, copyN_succ, ← bys_app]
              rfl
          · obtain ⟨y4, rfl, heq, hE9⟩ := h
            rw [Int.toNat_natCast] at hE9
            have htl' : tells lead its = tells (copyN every r m) (its.drop (i + 1)) := by
              rw [htl]
              show (if r ≤ every.length then _ else none) = _
              rw [if_pos hle]
            refine ⟨_, _, copyN every r m, rfl, fun b x e => ?_, hE9, htl', by rw [copyN_len]; omega⟩
            rw [heq b (ne_of_none e nE)]
            exact sm _ _ e
    · obtain ⟨y3, y4, every, rfl, sm, hE, htl, hel⟩ := h
      rw [← hlen, List.drop_length] at htl
      exact ⟨_, rfl, q H' _ sm (by rw [htl]; exact ⟨E0, rfl, hE⟩) (fun r z => by cases z; exact nE)⟩
end
end K4

namespace K4
open PySem PySem.Spec PyProof.Rows L2
/-! ### the search, as a table -/
def lexL (p q : Int × Int) : Bool := !SrtO.lexB q p
theorem lexL_iff {p q : Int × Int} : lexL p q = true ↔ p.1 < q.1 ∨ (p.1 = q.1 ∧ p.2 ≤ q.2) := by
  unfold lexL
  rw [Bool.not_eq_true', ← Bool.not_eq_true, SrtO.lexB_iff]
  omega
def itmP (p : Int × Int) : Itm := .c (-p.1).toNat p.2.toNat
def itemsF (e : List Nat) (h lim : Nat) : List Itm := .b (e.getD h 0) :: ((prs e h lim (min 1024 h)).mergeSort lexL).map itmP
theorem IsItems.eq {e : List Nat} {h lim : Nat} {its : List Itm} (I : IsItems e h lim its) : its = itemsF e h lim := by
  obtain ⟨cs, rfl, hs, hp⟩ := I.ex
  have hm : ((prs e h lim (min 1024 h)).mergeSort lexL).Pairwise fun a b => lexL a b = true := List.pairwise_mergeSort (fun a b c h1 h2 => by
    rw [lexL_iff] at *
    omega) (fun a b => by
    rw [Bool.or_eq_true, lexL_iff, lexL_iff]
    omega) _
  have e : cs = (prs e h lim (min 1024 h)).mergeSort lexL := by
    refine List.Perm.eq_of_pairwise (le := fun a b => lexL a b = true) (fun a b _ _ h1 h2 => ?_) (hs.imp fun {a b} h => by unfold lexL; rw [h]; rfl) hm (hp.trans (List.mergeSort_perm _ _).symm)
    rw [lexL_iff] at h1 h2
    obtain ⟨a1, a2⟩ := a
    obtain ⟨b1, b2⟩ := b
    simp at h1 h2 ⊢
    omega
  rw [e]
  rfl
def lenI : Itm → Nat
  | .b _ => 1
  | .c m _ => m
theorem mem_prs {e : List Nat} {h lim i : Nat} {p : Int × Int} (m : p ∈ prs e h lim i) : ∃ o b : Nat, p = (-((3 + o : Nat) : Int), ((1 + b : Nat) : Int)) ∧ b < i ∧ 3 + o ≤ lim := by
  obtain ⟨b, hb0, hb⟩ := List.mem_flatMap.mp m
  obtain ⟨o, ho, rfl⟩ := List.mem_map.mp hb
  have h1 := List.mem_range.mp ho
  have h2 := (mlGo_le e h (1 + b) lim 0).2
  have h3 : ml e h (1 + b) lim ≤ 0 + lim := h2
  exact ⟨o, b, rfl, List.mem_range.mp hb0, by omega⟩
theorem itemsF_ok {e : List Nat} {h lim : Nat} (hk : ∀ k ∈ e, k < 256) (hl1 : 1 ≤ lim) (hl : lim ≤ 18) {it : Itm} (m : it ∈ itemsF e h lim) : ItmOk it ∧ 1 ≤ lenI it ∧ lenI it ≤ lim := by
  rcases (List.mem_cons.mp m) with (rfl | m)
  · refine ⟨?_, Nat.le_refl _, hl1⟩
    show e.getD h 0 < 256
    rw [List.getD_eq_getElem?_getD]
    cases q : e[h]? with
    | none => decide
    | some x => exact hk x (List.mem_of_getElem? q)
  · obtain ⟨p, hp, rfl⟩ := List.mem_map.mp m
    obtain ⟨o, b, rfl, hb, ho⟩ := mem_prs ((List.mergeSort_perm _ _).mem_iff.mp hp)
    have e1 : (-(-((3 + o : Nat) : Int))).toNat = 3 + o := by omega
    have e2 : ((1 + b : Nat) : Int).toNat = 1 + b := by omega
    show ItmOk (.c (-(-((3 + o : Nat) : Int))).toNat ((1 + b : Nat) : Int).toNat) ∧ 1 ≤ (-(-((3 + o : Nat) : Int))).toNat ∧ (-(-((3 + o : Nat) : Int))).toNat ≤ lim
    rw [e1, e2]
    exact ⟨⟨by omega, by omega, by omega, by omega⟩, by omega, ho⟩
abbrev Cell2 := Option Int × Option Itm
def stepS (L B : List Int) (cs : Nat → Option Int) (place : Nat) (acc : Cell2) (it : Itm) : Cell2 :=
  match costO L B it, cs (place + lenI it) with
  | some a, some b => match acc.1 with
    | none => (some (a + b), some it)
    | some c => if a + b < c then (some (a + b), some it) else acc
  | _, _ => acc
def tab (e : List Nat) (lead en : Nat) (L B : List Int) : Nat → Nat → Cell2
  | 0 => fun p => if p = en then (some 0, none) else (none, none)
  | n + 1 => fun p => if p = en - (n + 1) then (itemsF e (lead + p) (min 18 (en - p))).foldl (stepS L B (fun q => (tab e lead en L B n q).1) p) (none, none) else tab e lead en L B n p
def rowS (T : Nat → Cell2) (en : Nat) : Nat → Nat → List Itm
  | 0, _ => []
  | f + 1, p => if p < en then (match (T p).2 with
    | some it => it :: rowS T en f (p + lenI it)
    | none => []) else []
end K4

namespace K4
open PySem PySem.Spec PyProof.Rows L2
theorem fold_first {L B : List Int} {cs : Nat → Option Int} {p : Nat} {its : List Itm} (h : (its.foldl (stepS L B cs p) (none, none)).1 ≠ none) :
    ∃ it ∈ its, (its.foldl (stepS L B cs p) (none, none)).2 = some it ∧ cs (p + lenI it) ≠ none := by
  have key : ∀ (l : List Itm) (acc : Cell2), (∀ x ∈ l, x ∈ its) → (acc.1 ≠ none → ∃ it ∈ its, acc.2 = some it ∧ cs (p + lenI it) ≠ none) →
      (l.foldl (stepS L B cs p) acc).1 ≠ none → ∃ it ∈ its, (l.foldl (stepS L B cs p) acc).2 = some it ∧ cs (p + lenI it) ≠ none := by
    intro l
    induction l with
    | nil => exact fun acc _ hA h => hA h
    | cons x l ih =>
      intro acc hm hA h
      refine ih _ (fun y m => hm y (by simp [m])) (fun hx => ?_) h
      have hx0 := hm x (by simp)
      unfold stepS at hx ⊢
      cases h1 : costO L B x with
      | none =>
        simp only [h1] at hx ⊢
        exact hA hx
      | some a =>
        cases h2 : cs (p + lenI x) with
        | none =>
          simp only [h1, h2] at hx ⊢
          exact hA hx
        | some r =>
          cases h3 : acc.1 with
          | none =>
            simp only [h1, h2, h3] at hx ⊢
            exact ⟨x, hx0, rfl, by rw [h2]; exact fun z => by cases z⟩
          | some c =>
            simp only [h1, h2, h3] at hx ⊢
            by_cases h4 : a + r < c
            · rw [if_pos h4]
              exact ⟨x, hx0, rfl, by rw [h2]; exact fun z => by cases z⟩
            · rw [if_neg h4]
              exact hA (by rw [h3]; exact fun z => by cases z)
  exact key its (none, none) (fun x m => m) (fun z => absurd rfl z) h
theorem tab_first {e : List Nat} {lead en : Nat} {L B : List Int} (hk : ∀ k ∈ e, k < 256) : ∀ {n p : Nat}, n ≤ en → en - n ≤ p → p < en → (tab e lead en L B n p).1 ≠ none →
    ∃ it, (tab e lead en L B n p).2 = some it ∧ 1 ≤ lenI it ∧ p + lenI it ≤ en ∧ (tab e lead en L B n (p + lenI it)).1 ≠ none
  | 0, p, _, h1, h2, _ => by omega
  | n + 1, p, hn, h1, h2, h3 => by
    by_cases ep : p = en - (n + 1)
    · have et : tab e lead en L B (n + 1) p = (itemsF e (lead + p) (min 18 (en - p))).foldl (stepS L B (fun q => (tab e lead en L B n q).1) p) (none, none) := by
        show (if p = en - (n + 1) then _ else _) = _
        rw [if_pos ep]
      rw [et] at h3 ⊢
      obtain ⟨it, hm, h4, h5⟩ := fold_first h3
      obtain ⟨_, h6, h7⟩ := itemsF_ok hk (by omega) (by omega) hm
      refine ⟨it, h4, h6, by omega, ?_⟩
      show (if p + lenI it = en - (n + 1) then _ else tab e lead en L B n (p + lenI it) : Cell2).1 ≠ none
      rw [if_neg (by omega)]
      exact h5
    · have et : tab e lead en L B (n + 1) p = tab e lead en L B n p := by
        show (if p = en - (n + 1) then _ else _) = _
        rw [if_neg ep]
      rw [et] at h3 ⊢
      obtain ⟨it, h4, h5, h6, h7⟩ := tab_first hk (n := n) (by omega) (by omega) h2 h3
      refine ⟨it, h4, h5, h6, ?_⟩
      show (if p + lenI it = en - (n + 1) then _ else tab e lead en L B n (p + lenI it) : Cell2).1 ≠ none
      rw [if_neg (by omega)]
      exact h7
end K4

namespace K4
open PySem PySem.Spec PyProof.Rows L2
abbrev NSr : List Str := ["_law_every", "_law_lead", "_law_begin", "_law_end", "_law_letters", "_law_backs", "_law_costs", "_law_first", "_law_place", "_law_item", "_law_cost_here", "_law_rest", "_law_row"]
theorem putK_len {kvs : List (Key × V)} {k : Key} {v : V} : (putK kvs k v).length ≤ kvs.length + 1 := by
  unfold putK
  split
  · rw [List.length_map]
    omega
  · simp
/-- the dict of costs, the dict of firsts: right from place lo to hi -/
def CostD (H : Hp) (a : Addr) (T : Nat → Cell2) (lo hi : Nat) : Prop := ∃ kvs : List (Key × V), H a = some (.dK kvs) ∧ kvs.length ≤ hi + 1 - lo ∧ ∀ p, lo ≤ p → p ≤ hi → valV kvs (Sum.inl (p : Int)) = some (optV (T p).1)
def FirstD (H : Hp) (a : Addr) (T : Nat → Cell2) (lo hi : Nat) : Prop := ∃ kvs : List (Key × V), H a = some (.dK kvs) ∧ kvs.length ≤ hi - lo ∧ ∀ p it, lo ≤ p → p < hi → (T p).2 = some it → ∃ v, valV kvs (Sum.inl (p : Int)) = some v ∧ ItmAt H it v ∧ ItmOk it
theorem CostD.get {H : Hp} {a : Addr} {T : Nat → Cell2} {lo hi q : Nat} {y : Int} (h : CostD H a T lo hi) (h1 : lo ≤ q) (h2 : q ≤ hi) (e : y = (q : Int)) : DGet H a (.int y) (some (optV (T q).1)) := by
  obtain ⟨kvs, hk, _, hv⟩ := h
  subst e
  rw [← hv q h1 h2]
  exact DGet.k (k := Sum.inl (q : Int)) hk
theorem CostD.same {H H' : Hp} {a : Addr} {T : Nat → Cell2} {lo hi : Nat} (h : CostD H a T lo hi) (s : Same H H') : CostD H' a T lo hi := by
  obtain ⟨kvs, hk, h2, hv⟩ := h
  exact ⟨kvs, s _ _ hk, h2, hv⟩
theorem FirstD.same {H H' : Hp} {a : Addr} {T : Nat → Cell2} {lo hi : Nat} (h : FirstD H a T lo hi) (s : Same H H') : FirstD H' a T lo hi := by
  obtain ⟨kvs, hk, h2, hv⟩ := h
  refine ⟨kvs, s _ _ hk, h2, fun p it q1 q2 e => ?_⟩
  obtain ⟨v, e1, e2, e3⟩ := hv p it q1 q2 e
  exact ⟨v, e1, e2.same s, e3⟩
theorem ItmAt.putD {H : Hp} {it : Itm} {v : V} {D : Addr} {xs ys : List (Key × V)} (h : ItmAt H it v) (hD : H D = some (.dK xs)) : ItmAt (upd H D (.dK ys)) it v := by
  cases it with
  | b k => exact h
  | c m r =>
    obtain ⟨t, e, ht⟩ := h
    refine ⟨t, e, ?_⟩
    rw [upd_ne (ne_of ht hD (fun z => nomatch z))]
    exact ht
theorem FirstD.other {H : Hp} {a d : Addr} {T : Nat → Cell2} {lo hi : Nat} {xs ys : List (Key × V)} (h : FirstD H a T lo hi) (hd : H d = some (.dK xs)) (ne : a ≠ d) : FirstD (upd H d (.dK ys)) a T lo hi := by
  obtain ⟨kvs, hk, h2, hv⟩ := h
  refine ⟨kvs, by rw [upd_ne ne]; exact hk, h2, fun p it q1 q2 e => ?_⟩
  obtain ⟨v, e1, e2, e3⟩ := hv p it q1 q2 e
  exact ⟨v, e1, e2.putD hd, e3⟩
theorem CostD.other {H : Hp} {a d : Addr} {T : Nat → Cell2} {lo hi : Nat} {o : HO} (h : CostD H a T lo hi) (ne : a ≠ d) : CostD (upd H d o) a T lo hi := by
  obtain ⟨kvs, hk, h2, hv⟩ := h
  exact ⟨kvs, by rw [upd_ne ne]; exact hk, h2, hv⟩
def upT (T : Nat → Cell2) (p : Nat) (c : Cell2) : Nat → Cell2 := fun q => if q = p then c else T q
theorem putK_same {kvs : List (Key × V)} {k : Key} {v x : V} (h : valV kvs k = some x) : (putK kvs k v).length = kvs.length := by
  unfold putK
  rw [valV_any, h]
  show (kvs.map _).length = _
  rw [List.length_map]
theorem CostD.put {H : Hp} {a : Addr} {T : Nat → Cell2} {lo hi p : Nat} (c : Cell2) (h : CostD H a T lo hi) (hp : lo = p ∨ lo = p + 1) (hph : p ≤ hi) :
    ∃ kvs : List (Key × V), H a = some (.dK kvs) ∧ kvs.length ≤ hi + 1 ∧ CostD (upd H a (.dK (putK kvs (Sum.inl (p : Int)) (optV c.1)))) a (upT T p c) p hi := by
  obtain ⟨kvs, h1, h2, h3⟩ := h
  refine ⟨kvs, h1, by omega, putK kvs (Sum.inl (p : Int)) (optV c.1), upd_same, ?_, fun q q1 q2 => ?_⟩
  · rcases hp with rfl | rfl
    · rw [putK_same (h3 lo (Nat.le_refl _) hph)]
      exact h2
    · have := putK_len (kvs := kvs) (k := Sum.inl (p : Int)) (v := optV c.1)
      omega
  · rw [valV_put]
    unfold upT
    by_cases e : q = p
    · subst e
      rw [if_pos rfl, if_pos rfl]
    · rw [if_neg (fun z => e (by have := Sum.inl.inj z; omega)), if_neg e]
      exact h3 q (by omega) q2
theorem FirstD.up {H : Hp} {a : Addr} {T : Nat → Cell2} {lo hi p : Nat} (h : FirstD H a T lo hi) (hp : lo = p + 1) : FirstD H a (upT T p (none, none)) p hi := by
  obtain ⟨kvs, h1, h2, h3⟩ := h
  refine ⟨kvs, h1, by omega, fun q it q1 q2 e => ?_⟩
  unfold upT at e
  by_cases eq : q = p
  · rw [if_pos eq] at e
    cases e
  · rw [if_neg eq] at e
    exact h3 q it (by omega) q2 e
def FirstP (H : Hp) (a : Addr) (T : Nat → Cell2) (p hi : Nat) (acc : Cell2) : Prop := ∃ kvs : List (Key × V), H a = some (.dK kvs) ∧ kvs.length ≤ hi - p ∧ (acc.2 = none → kvs.length + 1 ≤ hi - p) ∧ ∀ q it, p ≤ q → q < hi → (upT T p acc q).2 = some it → ∃ v, valV kvs (Sum.inl (q : Int)) = some v ∧ ItmAt H it v ∧ ItmOk it
theorem FirstD.start {H : Hp} {a : Addr} {T : Nat → Cell2} {lo hi p : Nat} (h : FirstD H a T lo hi) (hp : lo = p + 1) (hph : p < hi) : FirstP H a T p hi (none, none) := by
  obtain ⟨kvs, h1, h2, h3⟩ := h
  refine ⟨kvs, h1, by omega, fun _ => by omega, fun q it q1 q2 e => ?_⟩
  unfold upT at e
  by_cases eq : q = p
  · rw [if_pos eq] at e
    cases e
  · rw [if_neg eq] at e
    exact h3 q it (by omega) q2 e
theorem FirstP.same {H H' : Hp} {a : Addr} {T : Nat → Cell2} {p hi : Nat} {acc : Cell2} (h : FirstP H a T p hi acc) (s : Same H H') : FirstP H' a T p hi acc := by
  obtain ⟨kvs, hk, h2, h4, hv⟩ := h
  refine ⟨kvs, s _ _ hk, h2, h4, fun q it q1 q2 e => ?_⟩
  obtain ⟨v, e1, e2, e3⟩ := hv q it q1 q2 e
  exact ⟨v, e1, e2.same s, e3⟩
theorem FirstP.other {H : Hp} {a d : Addr} {T : Nat → Cell2} {p hi : Nat} {acc : Cell2} {xs ys : List (Key × V)} (h : FirstP H a T p hi acc) (hd : H d = some (.dK xs)) (ne : a ≠ d) : FirstP (upd H d (.dK ys)) a T p hi acc := by
  obtain ⟨kvs, hk, h2, h4, hv⟩ := h
  refine ⟨kvs, by rw [upd_ne ne]; exact hk, h2, h4, fun q it q1 q2 e => ?_⟩
  obtain ⟨v, e1, e2, e3⟩ := hv q it q1 q2 e
  exact ⟨v, e1, e2.putD hd, e3⟩
theorem FirstP.put {H : Hp} {a : Addr} {T : Nat → Cell2} {p hi : Nat} {acc : Cell2} {it : Itm} {v : V} (c : Option Int) (h : FirstP H a T p hi acc) (hph : p < hi) (hv : ItmAt H it v) (ok : ItmOk it) :
    ∃ kvs : List (Key × V), H a = some (.dK kvs) ∧ kvs.length ≤ hi ∧ FirstP (upd H a (.dK (putK kvs (Sum.inl (p : Int)) v))) a T p hi (c, some it) := by
  obtain ⟨kvs, h1, h2, h4, h3⟩ := h
  refine ⟨kvs, h1, by omega, putK kvs (Sum.inl (p : Int)) v, upd_same, ?_, (fun z => by cases z), fun q it' q1 q2 e => ?_⟩
  · cases ea : acc.2 with
    | none =>
      have := putK_len (kvs := kvs) (k := Sum.inl (p : Int)) (v := v)
      have := h4 ea
      omega
    | some i0 =>
      obtain ⟨x, hx, _⟩ := h3 p i0 (Nat.le_refl _) hph (by unfold upT; rw [if_pos rfl]; exact ea)
      rw [putK_same hx]
      exact h2
  · rw [valV_put]
    unfold upT at e
    by_cases eq : q = p
    · rw [if_pos eq] at e
      cases e
      exact ⟨v, by rw [if_pos (by rw [eq])], hv.putD h1, ok⟩
    · rw [if_neg eq] at e
      obtain ⟨v', e1, e2, e3⟩ := h3 q it' q1 q2 (by unfold upT; rw [if_neg eq]; exact e)
      exact ⟨v', by rw [if_neg (fun z => eq (by have := Sum.inl.inj z; omega))]; exact e1, e2.putD h1, e3⟩
theorem upT_twice {T : Nat → Cell2} {p : Nat} {x y : Cell2} : upT (upT T p x) p y = upT T p y := by
  funext q
  unfold upT
  by_cases e : q = p
  · rw [if_pos e, if_pos e]
  · rw [if_neg e, if_neg e, if_neg e]
theorem FirstP.done {H : Hp} {a : Addr} {T : Nat → Cell2} {p hi : Nat} {acc : Cell2} (h : FirstP H a T p hi acc) : FirstD H a (upT T p acc) p hi := by
  obtain ⟨kvs, h1, h2, _, h3⟩ := h
  exact ⟨kvs, h1, h2, h3⟩
theorem FirstD.get {H : Hp} {a : Addr} {T : Nat → Cell2} {lo hi q : Nat} {it : Itm} (h : FirstD H a T lo hi) (h1 : lo ≤ q) (h2 : q < hi) (e : (T q).2 = some it) : ∃ v, DGet H a (.int (q : Int)) (some v) ∧ ItmAt H it v ∧ ItmOk it := by
  obtain ⟨kvs, hk, _, hv⟩ := h
  obtain ⟨v, e1, e2, e3⟩ := hv q it h1 h2 e
  exact ⟨v, by rw [← e1]; exact DGet.k (k := Sum.inl (q : Int)) hk, e2, e3⟩
theorem FirstD.otherL {H : Hp} {a d : Addr} {T : Nat → Cell2} {lo hi : Nat} {xs ys : List V} (h : FirstD H a T lo hi) (hd : H d = some (.lst xs)) (ne : a ≠ d) : FirstD (upd H d (.lst ys)) a T lo hi := by
  obtain ⟨kvs, hk, h2, hv⟩ := h
  refine ⟨kvs, by rw [upd_ne ne]; exact hk, h2, fun p it q1 q2 e => ?_⟩
  obtain ⟨v, e1, e2, e3⟩ := hv p it q1 q2 e
  exact ⟨v, e1, e2.put hd, e3⟩
theorem scSearch : FnScope NSr ["_law_every", "_law_lead", "_law_begin", "_law_end", "_law_letters", "_law_backs"] (defScope sSearch) := ⟨rfl, rfl, rfl, by decide +kernel, rfl, by decide +kernel, by decide +kernel⟩
section
variable {P : Program} {w : World} {K : PySem.W.Frag} {mg : Str → Option Value} {base : Heap}
def spSearch : Sp := fun vs H Q _ => ∃ (pe pL pB : Addr) (every : List Nat) (lead b en : Nat) (L B : List Int), vs = [.ref pe, .int (lead : Int), .int (b : Int), .int (en : Int), .ref pL, .ref pB] ∧ H pe = some (.lst (bys every)) ∧ (∀ k ∈ every, k < 256) ∧ b ≤ en ∧ lead + en = every.length ∧ every.length ≤ 1000 ∧
  H pL = some (.lst (L.map V.int)) ∧ H pB = some (.lst (B.map V.int)) ∧ L.length = 273 ∧ B.length = 11 ∧
  ∀ H' t pc pr us, Same H H' → H' t = some (.tup [.ref pc, .ref pr]) → H' pc = some (.lst ((List.range (en - b + 1)).map fun i => optV (tab every lead en L B (en - b) (b + i)).1)) → H' pr = some (.lst us) →
    RowAt H' (if (tab every lead en L B (en - b) b).1 = none then [] else rowS (tab every lead en L B (en - b)) en (en - b) b) us → H t = none → H pc = none → H pr = none → Q (.ref t) H'
theorem ok_search {f fC fI : Addr} {fd fdC fdI : FuncData} {j : Nat} (F : Fun K "_law_searched" "_law_searched" sSearch f fd)
    (GC : FnOk P w K mg base CX0 (j + 2) fC fdC ["_law_item", "_law_letters", "_law_backs"] spCost) (bC : Binds K fdC ["_law_item", "_law_letters", "_law_backs"] []) (kC : PySem.W.keepIn K (.ref fC) = true) (gC : mg "_law_cost" = some (.ref fC))
    (GI : FnOk P w K mg base CX0 (j + 2) fI fdI ["_law_every", "_law_lead", "_law_place", "_law_end"] spItems) (bI : Binds K fdI ["_law_every", "_law_lead", "_law_place", "_law_end"] []) (kI : PySem.W.keepIn K (.ref fI) = true) (gI : mg "_law_items" = some (.ref fI))
    (m1 : mg "range" = none) (m2 : mg "isinstance" = none) (m3 : mg "int" = none) :
    FnOk P w K mg base CX0 (j + 3) f fd ["_law_every", "_law_lead", "_law_begin", "_law_end", "_law_letters", "_law_backs"] spSearch := by
  refine F.ok scSearch (fun vs H Q E h => ?_) (fun cdv A outer s H vs Q E hr h => ?_)
  · obtain ⟨pe, pL, pB, every, lead, b, en, L, B, rfl, _⟩ := h
    rfl
  · obtain ⟨pe, pL, pB, every, lead, b, en, L, B, rfl, hpe, hby, hbe, hle, hl, hL, hB, lL, lB, q⟩ := h
    have hz := PySem.sizeLine_eq
    refine ⟨_, pss_cons (ps_asg (pe_tup (pa_cons (pe_disp (pps_cons (pv 3) pe_int pps_nil) (by rfl) (by rfl) (fun z => by cases z) (by decide)) (pa_cons pe_dnewK pa_nil)))
        (pg_tup (by rfl) (pgs_cons (pg_name (i := 6) scSearch.nd rfl (.inr rfl)) (pgs_cons (pg_name (i := 7) scSearch.nd rfl (.inl rfl)) pgs_nil))))
      (pss_cons (ps_for PassesOwn.never rfl (pi_range3 (by rfl) m1 (pa_cons (pe_op op_sub (pv 3) pe_int) (pa_cons (pe_op op_sub (pv 2) pe_int) (pa_cons (pe_un un_neg pe_int) pa_nil)))) (pg_name (i := 8) scSearch.nd rfl (.inl rfl))
        (pss_cons (ps_dput (hu_of hr) (pv 6) (pv 8) pe_non rfl)
        (pss_one (ps_for PassesOwn.never rfl (pi_list (pe_call GI hr (by rfl) gI kI bI .nil pass0 (pa_cons (pv 0) (pa_cons (pv 1) (pa_cons (pv 8) (pa_cons (pv 3) pa_nil)))))) (pg_name (i := 9) scSearch.nd rfl (.inl rfl))
          (pss_cons (ps_par (i := 10) (j := 11) rfl scSearch.nd rfl rfl (by decide) rfl rfl (pa_cons (pe_call GC hr (by rfl) gC kC bC .nil pass0 (pa_cons (pv 9) (pa_cons (pv 4) (pa_cons (pv 5) pa_nil))))
              (pa_cons (pe_dget (hu_of hr) (pv 6) (pe_op op_add (pv 8) (pe_ifExp (pt_val (pe_callB call_isi (by rfl) m2 (by decide +kernel) (pa_cons (pv 9) (pa_cons (pe_bltn (v := .ty "int") (by rfl) m3 (by decide +kernel) rfl) pa_nil)))) pe_int (pe_ix ix_tup (pv 9) pe_int (fun _ _ => rfl)))) (fun _ _ => rfl)) pa_nil)) (by rfl))
          (pss_one (ps_if (PW.pt (pw_and (pt_cmpR op_notN (pv 10) pe_non (nomark _)) (pw_and (pt_cmpR op_notN (pv 11) pe_non (nomark _)) (pw_and1 (PW.pt (pw_or (pt_cmpR op_isN (pe_dget (hu_of hr) (pv 6) (pv 8) (fun _ _ => rfl)) pe_non (nomark _)) (pw_or1 (pt_cmpR op_lt (pe_op op_add (pv 10) (pv 11)) (pe_dget (hu_of hr) (pv 6) (pv 8) (fun _ _ => rfl)) (nomark _)))))))))
            (pss_one (ps_asg (pe_tup (pa_cons (pe_op op_add (pv 10) (pv 11)) (pa_cons (pv 9) pa_nil))) (pg_tup (by rfl) (pgs_cons (pg_sub (pv 6) (pv 8) (set_dict (hu_of hr))) (pgs_cons (pg_sub (pv 7) (pv 8) (set_dict (hu_of hr))) pgs_nil)))))
            pss_nil)))))))
      (pss_cons (ps_par (i := 12) (j := 8) rfl scSearch.nd rfl rfl (by decide) rfl rfl (pa_cons (pe_lst pa_nil) (pa_cons (pv 2) pa_nil)) (by rfl))
      (pss_cons (ps_while PassesOwn.never (PW.pt (pw_and (pt_cmpR op_lt (pv 8) (pv 3) (nomark _)) (pw_and1 (pt_cmpR op_notN (pe_dget (hu_of hr) (pv 6) (pv 2) (fun _ _ => rfl)) pe_non (nomark _)))))
        (pss_cons (ps_expr (pe_bm PySem.F.plainAttrs_list PySem.F.slot_list_append PySem.F.type_list_append mt_append (pv 12) (pa_cons (pe_dget (hu_of hr) (pv 7) (pv 8) (fun _ _ => rfl)) pa_nil)))
        (pss_one (ps_set (i := 8) scSearch.nd rfl (.inl rfl) (pe_op op_add (pv 8) (pe_ifExp (pt_val (pe_callB call_isi (by rfl) m2 (by decide +kernel) (pa_cons (pe_dget (hu_of hr) (pv 7) (pv 8) (fun _ _ => rfl)) (pa_cons (pe_bltn (v := .ty "int") (by rfl) m3 (by decide +kernel) rfl) pa_nil)))) pe_int (pe_ix ix_tup (pe_dget (hu_of hr) (pv 7) (pv 8) (fun _ _ => rfl)) pe_int (fun _ _ => rfl))))))))
      (pss_one (ps_ret (pe_tup (pa_cons (pe_lc (own := [("_law_place", 8)]) (g := gName 8) (tt := tYes) rfl scSearch.nd (pi_range2 (by rfl) m1 (pa_cons (pv 2) (pa_cons (pe_op op_add (pv 3) pe_int) pa_nil))) (blkOk_by (N := NSr) (sc := defScope sSearch) (by decide +kernel))
          (fun _ _ _ _ _ => pg_name (i := 8) scSearch.nd rfl (.inl rfl)) (fun _ _ _ _ _ => pts_nil) (fun _ _ _ _ _ => pe_dget (hu_of hr) (pv 6) (pv 8) (fun _ _ => rfl))) (pa_cons (pv 12) pa_nil)))))))), ?_⟩
    refine fun dc ndc => ⟨_, rfl, upd_same, [(Sum.inl (en : Int), .int 0)], rfl, (by show 1 ≤ 15; decide), fun df ndf => ⟨by show 2 ≤ sizeLine; rw [hz]; decide, fun t0 nt0 => ⟨t0, _, rfl, .inl (.inl upd_same), rfl, _, _, rfl, _, _, rfl, rfl, ?_⟩⟩⟩
    have s1 := same_upd (o := .dK []) ndc
    have hdc1 : (upd (upd H dc (.dK [])) dc (.dK (mergeK [] [(Sum.inl (en : Int), V.int 0)]))) dc = some (.dK [(Sum.inl (en : Int), V.int 0)]) := by
      rw [upd_same]
      rfl
    have s2 : Same H (upd (upd H dc (.dK [])) dc (.dK (mergeK [] [(Sum.inl (en : Int), V.int 0)]))) := same_put s1 ndc
    generalize upd (upd H dc (.dK [])) dc (.dK (mergeK [] [(Sum.inl (en : Int), V.int 0)])) = H1 at *
    have ndfH := none_back s2 ndf
    have s3 := same_upd (o := .dK []) ndf
    have hdf2 : (upd H1 df (.dK [])) df = some (.dK []) := upd_same
    have hdc2 := s3 _ _ hdc1
    have hne : dc ≠ df := fun z => by rw [← z, hdc1] at ndf; cases ndf
    have s13 := s2.trans s3
    generalize upd H1 df (.dK []) = H2 at *
    have s4 := same_upd (o := .tup [.ref dc, .ref df]) nt0
    have hdc3 := s4 _ _ hdc2
    have hdf3 := s4 _ _ hdf2
    have s14 := s13.trans s4
    generalize upd H2 t0 (.tup [.ref dc, .ref df]) = H3 at *
    clear s1 s2 s3 s4 hdc1 hdc2 hdf2 nt0 ndf s13
    refine ⟨_, rfl, _, _, rfl, rfl, _, rfl, _, _, rfl, rfl, _, rfl, _, _, _, _, rfl, RgC.neg (by omega) (by omega) (by omega) (by omega), ?_⟩
    have hn : ((en : Int) - 1 - ((b : Int) - 1)).toNat = en - b := by omega
    refine for_rangeC (lo := (en : Int) - 1) (c := -1) (n := ((en : Int) - 1 - ((b : Int) - 1)).toNat) (fun i σ H' => ∃ (y8 y9 y10 y11 : Option V), σ = [some (.ref pe), some (.int (lead : Int)), some (.int (b : Int)), some (.int (en : Int)), some (.ref pL), some (.ref pB), some (.ref dc), some (.ref df), y8, y9, y10, y11, none] ∧ Same H H' ∧ CostD H' dc (tab every lead en L B i) (en - i) en ∧ FirstD H' df (tab every lead en L B i) (en - i) en)
      ⟨_, _, _, _, rfl, s14, ⟨_, hdc3, (by show 1 ≤ _; omega), fun p h1 h2 => ?_⟩, ⟨[], hdf3, Nat.zero_le _, fun p it h1 h2 => ?_⟩⟩ (fun i σ H' hi h => ?_) (fun σ H' h => ?_)
    · have : p = en := by omega
      subst this
      rw [valV_pos (by rfl)]
      show some (V.int 0) = some (optV (if p = p then (some 0, none) else (none, none) : Cell2).1)
      rw [if_pos rfl]
      rfl
    · omega
    · obtain ⟨y8, y9, y10, y11, rfl, sm, hC, hF⟩ := h
      rw [hn] at hi
      have hin : i < en - b := hi
      obtain ⟨p, hp⟩ : ∃ p : Nat, p = en - (i + 1) := ⟨_, rfl⟩
      have ep : (en : Int) - 1 + (i : Nat) * -1 = (p : Int) := by omega
      obtain ⟨kvs, hk1, hk2, hC2⟩ := hC.put (p := p) (none, none) (.inr (by omega)) (by omega)
      have hF2 := hF.start (p := p) (by omega) (by omega)
      refine ⟨_, rfl, _, rfl, dc, _, rfl, DPut.k (k := Sum.inl ((en : Int) - 1 + (i : Nat) * -1)) hk1 (by rw [hz]; omega), ?_⟩
      rw [ep]
      have hC3 : CostD (upd H' dc (.dK (putK kvs (Sum.inl (p : Int)) .non))) dc (upT (tab every lead en L B i) p (none, none)) p en := hC2
      have hF3 : FirstP (upd H' dc (.dK (putK kvs (Sum.inl (p : Int)) .non))) df (tab every lead en L B i) p en (none, none) := hF2.other hk1 (Ne.symm hne)
      have sm3 : Same H (upd H' dc (.dK (putK kvs (Sum.inl (p : Int)) .non))) := same_put sm ndc
      clear hC2 hF2 hC hF hk2
      generalize upd H' dc (.dK (putK kvs (Sum.inl (p : Int)) .non)) = H4 at *
      refine ⟨_, rfl, _, rfl, _, rfl, _, rfl, pe, every, lead, p, en, rfl, sm3 _ _ hpe, by omega, hle, hl, fun H5 r us its s5 nr hr5 hrow hI => ?_⟩
      have hits := hI.eq
      have hokI : ∀ it ∈ its, ItmOk it ∧ 1 ≤ lenI it ∧ lenI it ≤ min 18 (en - p) := fun it m => itemsF_ok hby (by omega) (by omega) (by rw [← hits]; exact m)
      have sm5 := sm3.trans s5
      have hC5 := hC3.same s5
      have hF5 := hF3.same s5
      have hrdc : r ≠ dc := fun z => by
        obtain ⟨kk, hkk, _⟩ := hC3
        rw [z, hkk] at nr
        cases nr
      have hrdf : r ≠ df := fun z => by
        obtain ⟨kk, hkk, _⟩ := hF3
        rw [z, hkk] at nr
        cases nr
      have hlen := hrow.length
      refine ⟨r, rfl, ⟨_, .inl (.inl hr5)⟩, ?_⟩
      refine for_list (K := K) (a := r) (xs := us) (fun k σ Hk => ∃ (y9 y10 y11 : Option V) (acc : Cell2), σ = [some (.ref pe), some (.int (lead : Int)), some (.int (b : Int)), some (.int (en : Int)), some (.ref pL), some (.ref pB), some (.ref dc), some (.ref df), some (.int (p : Int)), y9, y10, y11, none] ∧ Same H Hk ∧ Hk r = some (.lst us) ∧ RowAt Hk its us ∧ CostD Hk dc (upT (tab every lead en L B i) p acc) p en ∧ FirstP Hk df (tab every lead en L B i) p en acc ∧ acc = (its.take k).foldl (stepS L B (fun q => (tab every lead en L B i q).1) p) (none, none))
        ⟨_, _, _, (none, none), rfl, sm5, hr5, hrow, hC5, hF5, rfl⟩ (fun k σ Hk _ h => ?_) (fun k x σ Hk hx h => ?_) (fun σ Hk h => ?_)
      · obtain ⟨_, _, _, _, _, _, hrk, _⟩ := h
        exact .inl (.inl hrk)
      · obtain ⟨y9, y10, y11, acc, rfl, smk, hrk, hrowk, hCk, hFk, eacc⟩ := h
        have hk0 : k < us.length := (List.getElem?_eq_some_iff.mp hx).1
        have hki : k < its.length := by omega
        obtain ⟨x', hx', hat⟩ := paired_get hrowk (List.getElem?_eq_getElem hki)
        have exx : x' = x := Option.some.inj (hx'.symm.trans hx)
        subst exx
        obtain ⟨ok1, ok2, ok3⟩ := hokI its[k] (List.getElem_mem hki)
        have efold : (its.take (k + 1)).foldl (stepS L B (fun q => (tab every lead en L B i q).1) p) (none, none) = stepS L B (fun q => (tab every lead en L B i q).1) p acc its[k] := by
          rw [List.take_add_one, List.getElem?_eq_getElem hki, List.foldl_append, ← eacc]
          rfl
        generalize its[k] = it at *
        have hget : ∀ y : Int, y = ((p + lenI it : Nat) : Int) → DGet Hk dc (.int y) (some (optV (tab every lead en L B i (p + lenI it)).1)) := fun y ey => by
          have := hCk.get (q := p + lenI it) (by omega) (by omega) ey
          have e2 : upT (tab every lead en L B i) p acc (p + lenI it) = tab every lead en L B i (p + lenI it) := by
            unfold upT
            rw [if_neg (by omega)]
          rw [e2] at this
          exact this
        have hgetp : ∀ y : Int, y = (p : Int) → DGet Hk dc (.int y) (some (optV acc.1)) := fun y ey => by
          have := hCk.get (q := p) (Nat.le_refl _) (by omega) ey
          have e2 : upT (tab every lead en L B i) p acc p = acc := by
            unfold upT
            rw [if_pos rfl]
          rw [e2] at this
          exact this
        refine ⟨_, rfl, _, rfl, _, rfl, x', it, pL, pB, L, B, rfl, hat, ok1, smk _ _ hL, smk _ _ hB, lL, lB, ?_⟩
        refine ⟨_, rfl, _, rfl, ?_⟩
        have estep : stepS L B (fun q => (tab every lead en L B i q).1) p acc it = (match costO L B it, (tab every lead en L B i (p + lenI it)).1 with
          | some a, some b => match acc.1 with
            | none => (some (a + b), some it)
            | some c => if a + b < c then (some (a + b), some it) else acc
          | _, _ => acc) := rfl
        rw [estep] at efold
        clear estep
        have hat2 := hat
        generalize costO L B it = Av at *
        generalize hR : (tab every lead en L B i (p + lenI it)).1 = Rv at *
        cases it with
        | b kk =>
          obtain rfl : x' = .int (kk : Int) := hat
          refine ⟨_, rfl, _, _, _, _, _, rfl, .ty "int", .base (.int _), kit_ty (a := "int") (r := true) (by decide +kernel), _, rfl, iteT ?_⟩
          refine ⟨_, _, rfl, rfl, dc, _, rfl, hget _ (by show _ = ((p + 1 : Nat) : Int); push_cast; rfl), _, _, rfl, ?_⟩
          cases Av with
          | none =>
            refine ⟨_, rfl, rfl, _, rfl, ite2 (fun e => ?_) (fun e => ?_)⟩
            · simp [optV] at e
            · exact ⟨_, _, _, acc, rfl, smk, hrk, hrowk, hCk, hFk, efold.symm⟩
          | some a =>
            cases Rv with
            | none =>
              refine ⟨_, rfl, rfl, _, rfl, ite2 (fun e => ⟨_, rfl, rfl, _, rfl, ite2 (fun e2 => ?_) (fun e2 => ?_)⟩) (fun e => ?_)⟩
              · simp [optV] at e2
              · exact ⟨_, _, _, acc, rfl, smk, hrk, hrowk, hCk, hFk, efold.symm⟩
              · simp [optV] at e
            | some rv =>
              refine ⟨_, rfl, rfl, _, rfl, ite2 (fun e => ⟨_, rfl, rfl, _, rfl, ite2 (fun e2 => ?_) (fun e2 => ?_)⟩) (fun e => ?_)⟩
              · cases hac : acc.1 with
                | none =>
                  rw [hac] at efold
                  have hgp : DGet Hk dc (.int (p : Int)) (some .non) := by
                    have := hgetp _ rfl
                    rw [hac] at this
                    exact this
                  refine ⟨_, rfl, _, rfl, dc, _, rfl, hgp, rfl, _, rfl, iteT ?_⟩
                  refine ⟨_, rfl, _, rfl, _, _, rfl, rfl, _, rfl, (by show 2 ≤ sizeLine; rw [hz]; decide), fun t1 nt1 => ?_⟩
                  have st := same_upd (o := .tup [.int (a + rv), .int (kk : Int)]) nt1
                  obtain ⟨kc, hc1, hc2, hc3⟩ := (hCk.same st).put (p := p) (some (a + rv), some (.b kk)) (.inl rfl) (by omega)
                  rw [upT_twice] at hc3
                  obtain ⟨kf, hf1, hf2, hf3⟩ := ((hFk.same st).other (ys := putK kc (Sum.inl (p : Int)) (optV (some (a + rv)))) hc1 (Ne.symm hne)).put (some (a + rv)) (by omega) ((hat2.same st).putD hc1) ok1
                  refine ⟨t1, _, rfl, .inl (.inl upd_same), rfl, _, _, rfl, _, rfl, _, rfl, dc, _, rfl, DPut.k (k := Sum.inl (p : Int)) hc1 (by rw [hz]; omega), _, _, rfl, _, rfl, _, rfl, df, _, rfl, DPut.k (k := Sum.inl (p : Int)) hf1 (by rw [hz]; omega), rfl, ?_⟩
                  refine ⟨_, _, _, (some (a + rv), some (.b kk)), rfl, same_put (same_put (smk.trans st) ndc) ndfH, ?_, hrowk.mono (fun it v h => ((h.same st).putD hc1).putD hf1), hc3.other hne, hf3, efold.symm⟩
                  rw [upd_ne hrdf, upd_ne hrdc]
                  exact st _ _ hrk

                | some c0 =>
                  rw [hac] at efold
                  have hgp : DGet Hk dc (.int (p : Int)) (some (.int c0)) := by
                    have := hgetp _ rfl
                    rw [hac] at this
                    exact this
                  refine ⟨_, rfl, _, rfl, dc, _, rfl, hgp, rfl, _, rfl, iteF ?_⟩
                  refine ⟨_, rfl, _, rfl, _, _, rfl, rfl, _, rfl, _, rfl, dc, _, rfl, hgp, _, _, rfl, rfl, _, rfl, ite2 (fun e4 => ?_) (fun e4 => ?_)⟩
                  · have e5 : a + rv < c0 := of_decide_eq_true e4
                    refine ⟨_, rfl, _, rfl, _, _, rfl, rfl, _, rfl, (by show 2 ≤ sizeLine; rw [hz]; decide), fun t1 nt1 => ?_⟩
                    have st := same_upd (o := .tup [.int (a + rv), .int (kk : Int)]) nt1
                    obtain ⟨kc, hc1, hc2, hc3⟩ := (hCk.same st).put (p := p) (some (a + rv), some (.b kk)) (.inl rfl) (by omega)
                    rw [upT_twice] at hc3
                    obtain ⟨kf, hf1, hf2, hf3⟩ := ((hFk.same st).other (ys := putK kc (Sum.inl (p : Int)) (optV (some (a + rv)))) hc1 (Ne.symm hne)).put (some (a + rv)) (by omega) ((hat2.same st).putD hc1) ok1
                    refine ⟨t1, _, rfl, .inl (.inl upd_same), rfl, _, _, rfl, _, rfl, _, rfl, dc, _, rfl, DPut.k (k := Sum.inl (p : Int)) hc1 (by rw [hz]; omega), _, _, rfl, _, rfl, _, rfl, df, _, rfl, DPut.k (k := Sum.inl (p : Int)) hf1 (by rw [hz]; omega), rfl, ?_⟩
                    refine ⟨_, _, _, (some (a + rv), some (.b kk)), rfl, same_put (same_put (smk.trans st) ndc) ndfH, ?_, hrowk.mono (fun it v h => ((h.same st).putD hc1).putD hf1), hc3.other hne, hf3, (efold.trans (if_pos e5)).symm⟩
                    rw [upd_ne hrdf, upd_ne hrdc]
                    exact st _ _ hrk

                  · have e5 : ¬ a + rv < c0 := fun z => e4 (decide_eq_true z)
                    exact ⟨_, _, _, acc, rfl, smk, hrk, hrowk, hCk, hFk, (efold.trans (if_neg e5)).symm⟩
              · simp [optV] at e2
              · simp [optV] at e
        | c mm rr =>
          obtain ⟨tt, ett, htt⟩ := hat
          subst ett
          refine ⟨_, rfl, _, _, .type "tuple", _, false, rfl, .ty "int", .base (.tup htt), kit_ty (a := "tuple") (r := false) (by decide +kernel), _, rfl, iteF ?_⟩
          refine ⟨_, rfl, tt, _, 0, _, rfl, rfl, .inl (.inl htt), rfl, _, _, rfl, rfl, dc, _, rfl, hget _ (by show _ = ((p + mm : Nat) : Int); push_cast; rfl), _, _, rfl, ?_⟩
          cases Av with
          | none =>
            refine ⟨_, rfl, rfl, _, rfl, ite2 (fun e => ?_) (fun e => ?_)⟩
            · simp [optV] at e
            · exact ⟨_, _, _, acc, rfl, smk, hrk, hrowk, hCk, hFk, efold.symm⟩
          | some a =>
            cases Rv with
            | none =>
              refine ⟨_, rfl, rfl, _, rfl, ite2 (fun e => ⟨_, rfl, rfl, _, rfl, ite2 (fun e2 => ?_) (fun e2 => ?_)⟩) (fun e => ?_)⟩
              · simp [optV] at e2
              · exact ⟨_, _, _, acc, rfl, smk, hrk, hrowk, hCk, hFk, efold.symm⟩
              · simp [optV] at e
            | some rv =>
              refine ⟨_, rfl, rfl, _, rfl, ite2 (fun e => ⟨_, rfl, rfl, _, rfl, ite2 (fun e2 => ?_) (fun e2 => ?_)⟩) (fun e => ?_)⟩
              · cases hac : acc.1 with
                | none =>
                  rw [hac] at efold
                  have hgp : DGet Hk dc (.int (p : Int)) (some .non) := by
                    have := hgetp _ rfl
                    rw [hac] at this
                    exact this
                  refine ⟨_, rfl, _, rfl, dc, _, rfl, hgp, rfl, _, rfl, iteT ?_⟩
                  refine ⟨_, rfl, _, rfl, _, _, rfl, rfl, _, rfl, (by show 2 ≤ sizeLine; rw [hz]; decide), fun t1 nt1 => ?_⟩
                  have st := same_upd (o := .tup [.int (a + rv), .ref tt]) nt1
                  obtain ⟨kc, hc1, hc2, hc3⟩ := (hCk.same st).put (p := p) (some (a + rv), some (.c mm rr)) (.inl rfl) (by omega)
                  rw [upT_twice] at hc3
                  obtain ⟨kf, hf1, hf2, hf3⟩ := ((hFk.same st).other (ys := putK kc (Sum.inl (p : Int)) (optV (some (a + rv)))) hc1 (Ne.symm hne)).put (some (a + rv)) (by omega) ((hat2.same st).putD hc1) ok1
                  refine ⟨t1, _, rfl, .inl (.inl upd_same), rfl, _, _, rfl, _, rfl, _, rfl, dc, _, rfl, DPut.k (k := Sum.inl (p : Int)) hc1 (by rw [hz]; omega), _, _, rfl, _, rfl, _, rfl, df, _, rfl, DPut.k (k := Sum.inl (p : Int)) hf1 (by rw [hz]; omega), rfl, ?_⟩
                  refine ⟨_, _, _, (some (a + rv), some (.c mm rr)), rfl, same_put (same_put (smk.trans st) ndc) ndfH, ?_, hrowk.mono (fun it v h => ((h.same st).putD hc1).putD hf1), hc3.other hne, hf3, efold.symm⟩
                  rw [upd_ne hrdf, upd_ne hrdc]
                  exact st _ _ hrk

                | some c0 =>
                  rw [hac] at efold
                  have hgp : DGet Hk dc (.int (p : Int)) (some (.int c0)) := by
                    have := hgetp _ rfl
                    rw [hac] at this
                    exact this
                  refine ⟨_, rfl, _, rfl, dc, _, rfl, hgp, rfl, _, rfl, iteF ?_⟩
                  refine ⟨_, rfl, _, rfl, _, _, rfl, rfl, _, rfl, _, rfl, dc, _, rfl, hgp, _, _, rfl, rfl, _, rfl, ite2 (fun e4 => ?_) (fun e4 => ?_)⟩
                  · have e5 : a + rv < c0 := of_decide_eq_true e4
                    refine ⟨_, rfl, _, rfl, _, _, rfl, rfl, _, rfl, (by show 2 ≤ sizeLine; rw [hz]; decide), fun t1 nt1 => ?_⟩
                    have st := same_upd (o := .tup [.int (a + rv), .ref tt]) nt1
                    obtain ⟨kc, hc1, hc2, hc3⟩ := (hCk.same st).put (p := p) (some (a + rv), some (.c mm rr)) (.inl rfl) (by omega)
                    rw [upT_twice] at hc3
                    obtain ⟨kf, hf1, hf2, hf3⟩ := ((hFk.same st).other (ys := putK kc (Sum.inl (p : Int)) (optV (some (a + rv)))) hc1 (Ne.symm hne)).put (some (a + rv)) (by omega) ((hat2.same st).putD hc1) ok1
                    refine ⟨t1, _, rfl, .inl (.inl upd_same), rfl, _, _, rfl, _, rfl, _, rfl, dc, _, rfl, DPut.k (k := Sum.inl (p : Int)) hc1 (by rw [hz]; omega), _, _, rfl, _, rfl, _, rfl, df, _, rfl, DPut.k (k := Sum.inl (p : Int)) hf1 (by rw [hz]; omega), rfl, ?_⟩
                    refine ⟨_, _, _, (some (a + rv), some (.c mm rr)), rfl, same_put (same_put (smk.trans st) ndc) ndfH, ?_, hrowk.mono (fun it v h => ((h.same st).putD hc1).putD hf1), hc3.other hne, hf3, (efold.trans (if_pos e5)).symm⟩
                    rw [upd_ne hrdf, upd_ne hrdc]
                    exact st _ _ hrk

                  · have e5 : ¬ a + rv < c0 := fun z => e4 (decide_eq_true z)
                    exact ⟨_, _, _, acc, rfl, smk, hrk, hrowk, hCk, hFk, (efold.trans (if_neg e5)).symm⟩
              · simp [optV] at e2
              · simp [optV] at e
      · obtain ⟨y9, y10, y11, acc, rfl, smk, hrk, hrowk, hCk, hFk, eacc⟩ := h
        have eT : upT (tab every lead en L B i) p acc = tab every lead en L B (i + 1) := by
          rw [← hlen, List.take_length, hits] at eacc
          funext q
          show (if q = p then acc else tab every lead en L B i q) = (if q = en - (i + 1) then (itemsF every (lead + q) (min 18 (en - q))).foldl (stepS L B (fun q' => (tab every lead en L B i q').1) q) (none, none) else tab every lead en L B i q)
          by_cases e : q = p
          · rw [if_pos e, if_pos (by omega), eacc, e]
          · rw [if_neg e, if_neg (by omega)]
        have hFk := hFk.done
        rw [eT] at hCk hFk
        have e1 : en - (i + 1) = p := hp.symm
        exact ⟨_, _, _, _, rfl, smk, by rw [e1]; exact hCk, by rw [e1]; exact hFk⟩
    · obtain ⟨y8, y9, y10, y11, rfl, sm, hC, hF⟩ := h
      rw [hn] at hC hF
      have eb : en - (en - b) = b := by omega
      rw [eb] at hC hF
      have htf : ∀ p, b ≤ p → p < en → (tab every lead en L B (en - b) p).1 ≠ none → ∃ it, (tab every lead en L B (en - b) p).2 = some it ∧ 1 ≤ lenI it ∧ p + lenI it ≤ en ∧ (tab every lead en L B (en - b) (p + lenI it)).1 ≠ none := fun p h1 h2 h3 => tab_first hby (by omega) (by omega) h2 h3
      generalize tab every lead en L B (en - b) = T at *
      refine ⟨Nat.zero_le _, fun D nD => ?_⟩
      have sD := same_upd (o := .lst []) nD
      have hD : (upd H' D (.lst [])) D = some (.lst []) := upd_same
      have nDH := none_back sm nD
      have hDc : dc ≠ D := fun z => by
        obtain ⟨kk, hkk, _⟩ := hC
        rw [← z, hkk] at nD
        cases nD
      have hDf : df ≠ D := fun z => by
        obtain ⟨kk, hkk, _⟩ := hF
        rw [← z, hkk] at nD
        cases nD
      have hC1 := hC.same sD
      have hF1 := hF.same sD
      have sm1 := sm.trans sD
      generalize upd H' D (.lst []) = H5 at *
      refine ⟨_, rfl, _, _, rfl, ?_⟩
      refine ⟨fun m σ Hw => ∃ (pl fu : Nat) (y9 y10 y11 : Option V) (us : List V) (dn : List Itm), m = en - pl ∧ b ≤ pl ∧ pl ≤ en ∧ σ = [some (.ref pe), some (.int (lead : Int)), some (.int (b : Int)), some (.int (en : Int)), some (.ref pL), some (.ref pB), some (.ref dc), some (.ref df), some (.int (pl : Int)), y9, y10, y11, some (.ref D)] ∧ Same H Hw ∧ Hw D = some (.lst us) ∧ RowAt Hw dn us ∧ CostD Hw dc T b en ∧ FirstD Hw df T b en ∧ en - pl ≤ fu ∧ dn.length ≤ pl - b ∧ ((T b).1 ≠ none → dn ++ rowS T en fu pl = rowS T en (en - b) b ∧ (T pl).1 ≠ none) ∧ ((T b).1 = none → dn = []),
        ⟨en - b, b, en - b, _, _, _, [], [], rfl, Nat.le_refl _, hbe, rfl, sm1, hD, .nil, hC1, hF1, Nat.le_refl _, Nat.zero_le _, fun h => ⟨rfl, h⟩, fun _ => rfl⟩, fun m σ Hw hW => ?_⟩
      obtain ⟨pl, fu, y9, y10, y11, us, dn, rfl, hp1, hp2, rfl, smw, hDw, hrw, hCw, hFw, hfu, hdl, hgo, hno⟩ := hW
      have hul := hrw.length
      refine ⟨_, rfl, _, rfl, _, _, rfl, rfl, _, rfl, ite2 (fun e1 => ⟨_, rfl, _, rfl, dc, _, rfl, hCw.get (q := b) (Nat.le_refl _) hbe rfl, rfl, _, rfl, ite2 (fun e2 => ?go) (fun e2 => ?out1)⟩) (fun e1 => ?out2)⟩
      case go =>
        have hlt : pl < en := by
          have := of_decide_eq_true e1
          omega
        have hb0 : (T b).1 ≠ none := fun z => by rw [z] at e2; simp [optV] at e2
        obtain ⟨hrow, hpl⟩ := hgo hb0
        obtain ⟨it, hit, hl1, hl2, hl3⟩ := htf pl hp1 hlt hpl
        have hFw' := hFw
        obtain ⟨kvf, hkf, _, hvf⟩ := hFw'
        obtain ⟨v, ev, hat, hok⟩ := hvf pl it hp1 hlt hit
        have hg : DGet Hw df (.int (pl : Int)) (some v) := by
          rw [← ev]
          exact DGet.k (k := Sum.inl (pl : Int)) hkf
        obtain ⟨f2, rfl⟩ : ∃ f2, fu = f2 + 1 := ⟨fu - 1, by omega⟩
        have hrs : rowS T en (f2 + 1) pl = it :: rowS T en f2 (pl + lenI it) := by
          show (if pl < en then (match (T pl).2 with
            | some it => it :: rowS T en f2 (pl + lenI it)
            | none => []) else []) = _
          rw [if_pos hlt, hit]
        rw [hrs] at hrow
        refine ⟨fun σ' H'' => ∃ m', m' < en - pl ∧ ∃ (pl fu : Nat) (y9 y10 y11 : Option V) (us : List V) (dn : List Itm), m' = en - pl ∧ b ≤ pl ∧ pl ≤ en ∧ σ' = [some (.ref pe), some (.int (lead : Int)), some (.int (b : Int)), some (.int (en : Int)), some (.ref pL), some (.ref pB), some (.ref dc), some (.ref df), some (.int (pl : Int)), y9, y10, y11, some (.ref D)] ∧ Same H H'' ∧ H'' D = some (.lst us) ∧ RowAt H'' dn us ∧ CostD H'' dc T b en ∧ FirstD H'' df T b en ∧ en - pl ≤ fu ∧ dn.length ≤ pl - b ∧ ((T b).1 ≠ none → dn ++ rowS T en fu pl = rowS T en (en - b) b ∧ (T pl).1 ≠ none) ∧ ((T b).1 = none → dn = []), fun σ' H'' h => h, ?_⟩
        refine ⟨_, rfl, .inl ⟨rfl, _, .inl (.inl hDw)⟩, _, rfl, _, rfl, df, _, rfl, hg, D, _, _, rfl, rfl, hDw, (by rw [hz]; omega), ?_⟩
        have smx : Same H (upd Hw D (.lst (us ++ [v]))) := same_put smw nDH
        have hDx : (upd Hw D (.lst (us ++ [v]))) D = some (.lst (us ++ [v])) := upd_same
        have hCx : CostD (upd Hw D (.lst (us ++ [v]))) dc T b en := hCw.other hDc
        have hFx : FirstD (upd Hw D (.lst (us ++ [v]))) df T b en := hFw.otherL hDw hDf
        have hrx : RowAt (upd Hw D (.lst (us ++ [v]))) (dn ++ [it]) (us ++ [v]) := (hrw.mono fun it v h => h.put hDw).snoc (hat.put hDw)
        have hgx : DGet (upd Hw D (.lst (us ++ [v]))) df (.int (pl : Int)) (some v) := by
          rw [← ev]
          exact DGet.k (k := Sum.inl (pl : Int)) (by rw [upd_ne hDf]; exact hkf)
        have hatx := hat.put (ys := us ++ [v]) hDw
        generalize upd Hw D (.lst (us ++ [v])) = Hx at *
        have hfin : dn ++ [it] ++ rowS T en f2 (pl + lenI it) = rowS T en (en - b) b := by rw [List.append_assoc]; exact hrow
        cases it with
        | b kk =>
          obtain rfl : v = .int (kk : Int) := hatx
          refine ⟨_, rfl, _, rfl, _, rfl, df, _, rfl, hgx, _, _, _, _, _, rfl, .ty "int", .base (.int _), kit_ty (a := "int") (r := true) (by decide +kernel), _, rfl, iteT ?_⟩
          exact ⟨_, _, rfl, rfl, en - (pl + 1), by omega, pl + 1, f2, _, _, _, _, _, rfl, by omega, hl2, by push_cast; rfl, smx, hDx, hrx, hCx, hFx, by omega, by simp; omega, fun _ => ⟨hfin, hl3⟩, fun z => absurd z hb0⟩
        | c mm rr =>
          obtain ⟨tt, ett, htt⟩ := hatx
          have hm1 : 1 ≤ mm := hl1
          have hm2 : pl + mm ≤ en := hl2
          subst ett
          refine ⟨_, rfl, _, rfl, _, rfl, df, _, rfl, hgx, _, _, .type "tuple", _, false, rfl, .ty "int", .base (.tup htt), kit_ty (a := "tuple") (r := false) (by decide +kernel), _, rfl, iteF ?_⟩
          exact ⟨_, rfl, _, rfl, df, _, rfl, hgx, tt, _, 0, _, rfl, rfl, .inl (.inl htt), rfl, _, _, rfl, rfl, en - (pl + mm), by omega, pl + mm, f2, _, _, _, _, _, rfl, by omega, hl2, by push_cast; rfl, smx, hDx, hrx, hCx, hFx, by omega, by simp; omega, fun _ => ⟨hfin, hl3⟩, fun z => absurd z hb0⟩
      case' out1 =>
        have hend : dn = if (T b).1 = none then [] else rowS T en (en - b) b := by
          have hb0 : (T b).1 = none := by
            cases q : (T b).1 with
            | none => rfl
            | some x =>
              rw [q] at e2
              simp [optV] at e2
          rw [if_pos hb0]
          exact hno hb0
      case' out2 =>
        have hend : dn = if (T b).1 = none then [] else rowS T en (en - b) b := by
          have hpe : ¬ pl < en := fun z => e1 (decide_eq_true (by omega))
          have hnil : rowS T en fu pl = [] := by
            cases fu with
            | zero => rfl
            | succ f2 =>
              show (if pl < en then _ else []) = _
              rw [if_neg hpe]
          by_cases hb0 : (T b).1 = none
          · rw [if_pos hb0]
            exact hno hb0
          · rw [if_neg hb0, ← (hgo hb0).1, hnil, List.append_nil]
        refine iteF ?_
      all_goals
        refine ⟨_, rfl, _, rfl, _, _, rfl, rfl, _, _, rfl, ⟨by omega, by omega, by omega, by omega⟩, fun C nC => ?_⟩
        have hnn : ((en : Int) + 1 - (b : Int)).toNat = en - b + 1 := by omega
        refine lc_range (lo := (b : Int)) (n := ((en : Int) + 1 - (b : Int)).toNat) (fun i H'' => Same Hw H'' ∧ H'' C = some (.lst ((List.range i).map fun i => optV (T (b + i)).1))) ⟨same_upd nC, upd_same⟩ (fun i H'' hi h => ?_) (fun H'' h => ?_)
        · refine ⟨rfl, yes ?_⟩
          refine ⟨_, rfl, _, rfl, dc, _, rfl, (hCw.same h.1).get (q := b + i) (by omega) (by omega) (by push_cast; rfl), _, h.2, ?_, same_put h.1 nC, ?_⟩
          · rw [List.length_map, List.length_range, hz]
            omega
          · rw [upd_same, List.range_succ, List.map_append]
            rfl
        · obtain ⟨s6, hCC⟩ := h
          rw [hnn] at hCC
          have nCH := none_back smw nC
          have s7 := smw.trans s6
          refine ⟨_, rfl, by show 2 ≤ sizeLine; rw [hz]; decide, fun t nt => ?_⟩
          have st := same_upd (o := .tup [.ref C, .ref D]) nt
          refine q _ t C D us (s7.trans st) upd_same (st _ _ hCC) (st _ _ (s6 _ _ hDw)) (by rw [← hend]; exact hrw.mono fun it v h => (h.same s6).same st) (none_back s7 nt) nCH nDH
end
end K4

namespace K4
open PySem PySem.Spec PyProof.Rows L2
/-! ### _law_none_better -/
def badItem (cs : List (Option Int)) (L B : List Int) (p : Nat) (it : Itm) : Bool :=
  match costO L B it, cs.getD (p + lenI it) none with
  | some a, some r => match cs.getD p none with
    | none => true
    | some c => decide (a + r < c)
  | _, _ => false
def nonNeg : Option Int → Bool
  | none => true
  | some c => decide (0 ≤ c)
def noneBetter (e : List Nat) (lead : Nat) (cs : List (Option Int)) (L B : List Int) : Bool :=
  decide (cs.length = e.length - lead + 1) && (decide (cs.getD (cs.length - 1) none = some 0) && (cs.all nonNeg &&
    (List.range (e.length - lead)).all fun p => (itemsF e (lead + p) (min 18 (e.length - lead - p))).all fun it => !badItem cs L B p it))
abbrev NNb : List Str := ["_law_every", "_law_lead", "_law_costs", "_law_letters", "_law_backs", "_law_many", "_law_place", "_law_item", "_law_cost_here", "_law_rest", "_law_one"]
theorem scBetter : FnScope NNb ["_law_every", "_law_lead", "_law_costs", "_law_letters", "_law_backs"] (defScope sBetter) := ⟨rfl, rfl, rfl, by decide +kernel, rfl, by decide +kernel, by decide +kernel⟩
theorem opt_last {cs : List (Option Int)} (h : 1 ≤ cs.length) : atI (cs.map optV) (-1) = some (optV (cs.getD (cs.length - 1) none)) := by
  unfold atI ixN
  rw [if_neg (by omega), List.length_map, if_pos (by omega)]
  show (cs.map optV)[(-1 + (cs.length : Int)).toNat]? = _
  have e : (-1 + (cs.length : Int)).toNat = cs.length - 1 := by omega
  have hi : cs.length > cs.length - 1 := by omega
  rw [e, List.getElem?_map, List.getElem?_eq_getElem hi, List.getD_eq_getElem?_getD, List.getElem?_eq_getElem hi]
  rfl
theorem not_better {e : List Nat} {lead : Nat} {cs : List (Option Int)} {L B : List Int} {p : Nat} {it : Itm} (hp : p < e.length - lead) (hm : it ∈ itemsF e (lead + p) (min 18 (e.length - lead - p))) (hb : badItem cs L B p it = true) : noneBetter e lead cs L B = false := by
  cases q : noneBetter e lead cs L B with
  | false => rfl
  | true =>
    unfold noneBetter at q
    rw [Bool.and_eq_true, Bool.and_eq_true, Bool.and_eq_true] at q
    have h1 := List.all_eq_true.mp q.2.2.2 p (List.mem_range.mpr hp)
    have h2 := List.all_eq_true.mp h1 it hm
    rw [hb] at h2
    cases h2
theorem opt_at {cs : List (Option Int)} {i : Int} {k : Nat} (e : i = (k : Int)) (h : k < cs.length) : atI (cs.map optV) i = some (optV (cs.getD k none)) := by
  subst e
  refine atI_nat ?_
  rw [List.getElem?_map, List.getElem?_eq_getElem h, List.getD_eq_getElem?_getD, List.getElem?_eq_getElem h]
  rfl
section
variable {P : Program} {w : World} {K : PySem.W.Frag} {mg : Str → Option Value} {base : Heap}
def spBetter : Sp := fun vs H Q _ => ∃ (pe pc pL pB : Addr) (every : List Nat) (lead : Nat) (cs : List (Option Int)) (L B : List Int), vs = [.ref pe, .int (lead : Int), .ref pc, .ref pL, .ref pB] ∧ H pe = some (.lst (bys every)) ∧ (∀ k ∈ every, k < 256) ∧ lead ≤ every.length ∧ every.length ≤ 1000 ∧
  H pc = some (.lst (cs.map optV)) ∧ cs.length ≤ 2000 ∧ H pL = some (.lst (L.map V.int)) ∧ H pB = some (.lst (B.map V.int)) ∧ L.length = 273 ∧ B.length = 11 ∧ ∀ H', Same H H' → Q (.bl (noneBetter every lead cs L B)) H'
theorem ok_better {f fC fI : Addr} {fd fdC fdI : FuncData} {j : Nat} (F : Fun K "_law_none_better" "_law_none_better" sBetter f fd)
    (GC : FnOk P w K mg base CX0 (j + 2) fC fdC ["_law_item", "_law_letters", "_law_backs"] spCost) (bC : Binds K fdC ["_law_item", "_law_letters", "_law_backs"] []) (kC : PySem.W.keepIn K (.ref fC) = true) (gC : mg "_law_cost" = some (.ref fC))
    (GI : FnOk P w K mg base CX0 (j + 2) fI fdI ["_law_every", "_law_lead", "_law_place", "_law_end"] spItems) (bI : Binds K fdI ["_law_every", "_law_lead", "_law_place", "_law_end"] []) (kI : PySem.W.keepIn K (.ref fI) = true) (gI : mg "_law_items" = some (.ref fI))
    (m1 : mg "range" = none) (m2 : mg "isinstance" = none) (m3 : mg "int" = none) (m4 : mg "len" = none) (m5 : mg "all" = none) :
    FnOk P w K mg base CX0 (j + 3) f fd ["_law_every", "_law_lead", "_law_costs", "_law_letters", "_law_backs"] spBetter := by
  refine F.ok scBetter (fun vs H Q E h => ?_) (fun cdv A outer s H vs Q E hr h => ?_)
  · obtain ⟨pe, pc, pL, pB, every, lead, cs, L, B, rfl, _⟩ := h
    rfl
  · obtain ⟨pe, pc, pL, pB, every, lead, cs, L, B, rfl, hpe, hby, hle, hl, hpc, hcl, hL, hB, lL, lB, q⟩ := h
    have hz := PySem.sizeLine_eq
    refine ⟨_, pss_cons (ps_set (i := 5) scBetter.nd rfl (.inl rfl) (pe_op op_sub (pe_callB call_len_seq (by rfl) m4 PySem.boot_len (pa_cons (pv 0) pa_nil)) (pv 1)))
      (pss_cons (ps_if (PW.pt (pw_or (pt_cmpR op_ne (pe_callB call_len_seq (by rfl) m4 PySem.boot_len (pa_cons (pv 2) pa_nil)) (pe_op op_add (pv 5) pe_int) (nomark _))
          (pw_or (pt_cmpR op_ne (pe_ix ix_list (pv 2) (pe_un un_neg pe_int) (fun _ _ => rfl)) pe_int (nomark _))
          (pw_or1 (pt_not (pt_val (pe_callB (cr_all rfl) (by rfl) m5 (by decide +kernel) (pa_cons (pe_lc (own := [("_law_one", 10)]) (g := gName 10) (tt := tYes) rfl scBetter.nd (pi_list (pv 2)) (blkOk_by (N := NNb) (sc := defScope sBetter) (by decide +kernel))
            (fun _ _ _ _ _ => pg_name (i := 10) scBetter.nd rfl (.inl rfl)) (fun _ _ _ _ _ => pts_nil) (fun _ _ _ _ _ => pe_or (pe_cmpR op_isN (pv 10) pe_non (nomark _)) (pe_one (pe_cmpR op_ge (pv 10) pe_int (nomark _))))) pa_nil))))))))
        (pss_one (ps_ret pe_bl)) pss_nil)
      (pss_cons (ps_for PassesOwn.never rfl (pi_range1 (by rfl) m1 (pa_cons (pv 5) pa_nil)) (pg_name (i := 6) scBetter.nd rfl (.inl rfl))
        (pss_one (ps_for PassesOwn.never rfl (pi_list (pe_call GI hr (by rfl) gI kI bI .nil pass0 (pa_cons (pv 0) (pa_cons (pv 1) (pa_cons (pv 6) (pa_cons (pv 5) pa_nil)))))) (pg_name (i := 7) scBetter.nd rfl (.inl rfl))
          (pss_cons (ps_par (i := 8) (j := 9) rfl scBetter.nd rfl rfl (by decide) rfl rfl (pa_cons (pe_call GC hr (by rfl) gC kC bC .nil pass0 (pa_cons (pv 7) (pa_cons (pv 3) (pa_cons (pv 4) pa_nil))))
              (pa_cons (pe_ix ix_list (pv 2) (pe_op op_add (pv 6) (pe_ifExp (pt_val (pe_callB call_isi (by rfl) m2 (by decide +kernel) (pa_cons (pv 7) (pa_cons (pe_bltn (v := .ty "int") (by rfl) m3 (by decide +kernel) rfl) pa_nil)))) pe_int (pe_ix ix_tup (pv 7) pe_int (fun _ _ => rfl)))) (fun _ _ => rfl)) pa_nil)) (by rfl))
          (pss_one (ps_if (PW.pt (pw_and (pt_cmpR op_notN (pv 8) pe_non (nomark _)) (pw_and (pt_cmpR op_notN (pv 9) pe_non (nomark _)) (pw_and1 (PW.pt (pw_or (pt_cmpR op_isN (pe_ix ix_list (pv 2) (pv 6) (fun _ _ => rfl)) pe_non (nomark _)) (pw_or1 (pt_cmpR op_lt (pe_op op_add (pv 8) (pv 9)) (pe_ix ix_list (pv 2) (pv 6) (fun _ _ => rfl)) (nomark _)))))))))
            (pss_one (ps_ret pe_bl)) pss_nil))))))
      (pss_one (ps_ret pe_bl)))), ?_⟩
    have hmany : ((bys every).length : Int) - (lead : Int) = ((every.length - lead : Nat) : Int) := by
      rw [bys_len]
      omega
    have bad : noneBetter every lead cs L B = false → ∀ H', Same H H' → Q (.bl false) H' := fun e H' sm => by
      have := q H' sm
      rw [e] at this
      exact this
    refine ⟨_, rfl, pe, _, rfl, .inl (.inl (.inl hpe)), _, rfl, _, _, rfl, rfl, ?_⟩
    refine ⟨_, rfl, pc, _, rfl, .inl (.inl (.inl hpc)), _, rfl, _, _, rfl, rfl, rfl, _, rfl, ite2 (fun e1 => ?_) (fun e1 => ?_)⟩
    · refine bad ?_ _ (Same.refl H)
      have hne : ¬ cs.length = every.length - lead + 1 := fun z => by
        rw [hmany, List.length_map, z] at e1
        simp at e1
      unfold noneBetter
      rw [decide_eq_false hne]
      rfl
    · have hlen : cs.length = every.length - lead + 1 := by
        rw [hmany, List.length_map] at e1
        simp at e1
        omega
      refine ⟨_, rfl, 1, rfl, pc, _, -1, optV (cs.getD (cs.length - 1) none), rfl, rfl, .inl (.inl hpc), opt_last (by omega), (by cases cs.getD (cs.length - 1) none <;> rfl), _, rfl, ite2 (fun e2 => ?_) (fun e2 => ?_)⟩
      · refine bad ?_ _ (Same.refl H)
        have hne : ¬ cs.getD (cs.length - 1) none = some 0 := fun z => by
          rw [z] at e2
          simp [optV] at e2
        unfold noneBetter
        rw [decide_eq_false hne, decide_eq_true hlen]
        rfl
      · have hlast : cs.getD (cs.length - 1) none = some 0 := by
          cases z : cs.getD (cs.length - 1) none with
          | none =>
            rw [z] at e2
            simp [optV] at e2
          | some x =>
            rw [z] at e2
            have : x = 0 := by simpa [optV] using e2
            rw [this]
        refine ⟨_, rfl, pc, rfl, ⟨_, .inl (.inl hpc)⟩, fun C nC => ?_⟩
        refine lc_list (K := K) (a := pc) (xs := cs.map optV) (fun i H' => Same H H' ∧ H' C = some (.lst ((cs.take i).map fun o => .bl (nonNeg o)))) ⟨same_upd nC, upd_same⟩ (fun i H' _ h => .inl (.inl (h.1 _ _ hpc))) (fun i x H' hx h => ?_) (fun H' h => ?_)
        · obtain ⟨o, ho, rfl⟩ : ∃ o, cs[i]? = some o ∧ x = optV o := by
            rw [List.getElem?_map] at hx
            cases e : cs[i]? with
            | none => (rw [e] at hx); (cases hx)
            | some k => rw [e] at hx; exact ⟨k, rfl, (Option.some.inj hx).symm⟩
          have fin : ∃ acc, H' C = some (.lst acc) ∧ acc.length < sizeLine ∧ Same H (upd H' C (.lst (acc ++ [.bl (nonNeg o)]))) ∧ (upd H' C (.lst (acc ++ [.bl (nonNeg o)]))) C = some (.lst ((cs.take (i + 1)).map fun o => .bl (nonNeg o))) := by
            refine ⟨_, h.2, ?_, same_put h.1 nC, ?_⟩
            · rw [List.length_map, List.length_take, hz]
              omega
            · rw [upd_same, List.take_add_one, ho]
              simp
          refine ⟨rfl, yes ?_⟩
          cases o with
          | none => exact ⟨_, rfl, rfl, _, rfl, iteT fin⟩
          | some c => exact ⟨_, rfl, rfl, _, rfl, iteF ⟨_, rfl, _, _, rfl, rfl, fin⟩⟩
        · obtain ⟨sm, hC⟩ := h
          have etk : cs.take (cs.map optV).length = cs := by rw [List.length_map, List.take_length]
          rw [etk] at hC
          refine ⟨C, cs.map nonNeg, rfl, .inl (.inl (by rw [hC, List.map_map]; rfl)), _, rfl, ite2 (fun e3 => ?_) (fun e3 => ?_)⟩
          · refine bad ?_ _ sm
            have hall : cs.all nonNeg = false := by
              cases z : cs.all nonNeg with
              | false => rfl
              | true =>
                rw [List.all_map] at e3
                have : cs.all (id ∘ nonNeg) = true := z
                rw [this] at e3
                cases e3
            unfold noneBetter
            rw [hall]
            simp
          · have hall : cs.all nonNeg = true := by
              cases z : cs.all nonNeg with
              | true => rfl
              | false =>
                rw [List.all_map] at e3
                have : cs.all (id ∘ nonNeg) = false := z
                rw [this] at e3
                exact absurd rfl e3
            have hn : (((bys every).length : Int) - (lead : Int)).toNat = every.length - lead := by
              rw [hmany]
              rfl
            refine ⟨_, rfl, _, rfl, (by omega), (by omega), ?_⟩
            refine for_range (lo := 0) (n := (((bys every).length : Int) - (lead : Int)).toNat) (fun i σ H' => ∃ (y6 y7 y8 y9 : Option V), σ = [some (.ref pe), some (.int (lead : Int)), some (.ref pc), some (.ref pL), some (.ref pB), some (.int (((bys every).length : Int) - (lead : Int))), y6, y7, y8, y9, none] ∧ Same H H' ∧ ∀ p, p < i → ((itemsF every (lead + p) (min 18 (every.length - lead - p))).all fun it => !badItem cs L B p it) = true)
              ⟨_, _, _, _, rfl, sm, fun p h => by omega⟩ (fun i σ H1 hi h => ?_) (fun σ H1 h => ?_)
            · obtain ⟨y6, y7, y8, y9, rfl, sm1, hp⟩ := h
              rw [hn] at hi
              refine ⟨_, rfl, _, rfl, _, rfl, _, rfl, pe, every, lead, i, every.length - lead, ?_, sm1 _ _ hpe, hi, by omega, hl, fun H5 r us its s5 nr hr5 hrow hI => ?_⟩
              · show [V.ref pe, V.int (lead : Int), V.int (0 + (i : Int)), V.int (((bys every).length : Int) - (lead : Int))] = _
                rw [hmany, Int.zero_add]
              have hits := hI.eq
              have sm5 := sm1.trans s5
              have hrl := hrow.length
              refine ⟨r, rfl, ⟨_, .inl (.inl hr5)⟩, ?_⟩
              refine for_list (K := K) (a := r) (xs := us) (fun k σ Hk => ∃ (y7 y8 y9 : Option V), σ = [some (.ref pe), some (.int (lead : Int)), some (.ref pc), some (.ref pL), some (.ref pB), some (.int (((bys every).length : Int) - (lead : Int))), some (.int (0 + (i : Int))), y7, y8, y9, none] ∧ Same H Hk ∧ Hk r = some (.lst us) ∧ RowAt Hk its us ∧ ∀ it ∈ its.take k, badItem cs L B i it = false)
                ⟨_, _, _, rfl, sm5, hr5, hrow, fun it m => by simp at m⟩ (fun k σ Hk _ h => ?_) (fun k x σ Hk hx h => ?_) (fun σ Hk h => ?_)
              · obtain ⟨_, _, _, _, _, hrk, _⟩ := h
                exact .inl (.inl hrk)
              · obtain ⟨y7, y8, y9, rfl, smk, hrk, hrowk, hgood⟩ := h
                have hk0 : k < us.length := (List.getElem?_eq_some_iff.mp hx).1
                have hki : k < its.length := by omega
                obtain ⟨x', hx', hat⟩ := paired_get hrowk (List.getElem?_eq_getElem hki)
                have exx : x' = x := Option.some.inj (hx'.symm.trans hx)
                subst exx
                have hmem : its[k] ∈ itemsF every (lead + i) (min 18 (every.length - lead - i)) := by
                  rw [← hits]
                  exact List.getElem_mem hki
                obtain ⟨ok1, ok2, ok3⟩ := itemsF_ok hby (by omega) (by omega) hmem
                have step : badItem cs L B i its[k] = false → ∀ it ∈ its.take (k + 1), badItem cs L B i it = false := fun hb it m => by
                  rw [List.take_add_one, List.getElem?_eq_getElem hki] at m
                  rcases (List.mem_append.mp m) with (m | m)
                  · exact hgood it m
                  · have : it = its[k] := by simpa using m
                    rw [this]
                    exact hb
                generalize its[k] = it at *
                have hpck := smk _ _ hpc
                have hip : atI (cs.map optV) (0 + (i : Int)) = some (optV (cs.getD i none)) := opt_at (by omega) (by omega)
                have hget : ∀ y : Int, y = ((i + lenI it : Nat) : Int) → atI (cs.map optV) y = some (optV (cs.getD (i + lenI it) none)) := fun y ey => opt_at ey (by omega)
                have ebad : badItem cs L B i it = (match costO L B it, cs.getD (i + lenI it) none with
                  | some a, some r => match cs.getD i none with
                    | none => true
                    | some c => decide (a + r < c)
                  | _, _ => false) := rfl
                refine ⟨_, rfl, _, rfl, _, rfl, x', it, pL, pB, L, B, rfl, hat, ok1, smk _ _ hL, smk _ _ hB, lL, lB, ?_⟩
                refine ⟨_, rfl, _, rfl, ?_⟩
                generalize costO L B it = Av at *
                generalize cs.getD (i + lenI it) none = Rv at *
                cases it with
                | b kk =>
                  obtain rfl : x' = .int (kk : Int) := hat
                  refine ⟨_, rfl, _, _, _, _, _, rfl, .ty "int", .base (.int _), kit_ty (a := "int") (r := true) (by decide +kernel), _, rfl, iteT ?_⟩
                  refine ⟨_, _, rfl, rfl, pc, _, _, _, rfl, rfl, .inl (.inl hpck), hget _ (by show _ = ((i + 1 : Nat) : Int); omega), _, _, rfl, ?_⟩
                  cases Av with
                  | none =>
                    refine ⟨_, rfl, rfl, _, rfl, ite2 (fun e => ?_) (fun e => ?_)⟩
                    · simp [optV] at e
                    · exact ⟨_, _, _, rfl, smk, hrk, hrowk, step ebad⟩
                  | some a =>
                    cases Rv with
                    | none =>
                      refine ⟨_, rfl, rfl, _, rfl, ite2 (fun e => ⟨_, rfl, rfl, _, rfl, ite2 (fun e2 => ?_) (fun e2 => ?_)⟩) (fun e => ?_)⟩
                      · simp [optV] at e2
                      · exact ⟨_, _, _, rfl, smk, hrk, hrowk, step ebad⟩
                      · simp [optV] at e
                    | some rv =>
                      refine ⟨_, rfl, rfl, _, rfl, ite2 (fun e => ⟨_, rfl, rfl, _, rfl, ite2 (fun e2 => ?_) (fun e2 => ?_)⟩) (fun e => ?_)⟩
                      · cases hac : cs.getD i none with
                        | none =>
                          rw [hac] at hip ebad
                          refine ⟨_, rfl, _, rfl, pc, _, _, _, rfl, rfl, .inl (.inl hpck), hip, rfl, _, rfl, iteT ?_⟩
                          exact bad (not_better hi hmem ebad) _ smk
                        | some c0 =>
                          rw [hac] at hip ebad
                          refine ⟨_, rfl, _, rfl, pc, _, _, _, rfl, rfl, .inl (.inl hpck), hip, rfl, _, rfl, iteF ?_⟩
                          refine ⟨_, rfl, _, rfl, _, _, rfl, rfl, _, rfl, _, rfl, pc, _, _, _, rfl, rfl, .inl (.inl hpck), hip, _, _, rfl, rfl, _, rfl, ite2 (fun e4 => ?_) (fun e4 => ?_)⟩
                          · exact bad (not_better hi hmem (ebad.trans (decide_eq_true (of_decide_eq_true e4)))) _ smk
                          · exact ⟨_, _, _, rfl, smk, hrk, hrowk, step (ebad.trans (decide_eq_false (fun z => e4 (decide_eq_true z))))⟩
                      · simp [optV] at e2
                      · simp [optV] at e
                | c mm rr =>
                  obtain ⟨tt, ett, htt⟩ := hat
                  subst ett
                  refine ⟨_, rfl, _, _, .type "tuple", _, false, rfl, .ty "int", .base (.tup htt), kit_ty (a := "tuple") (r := false) (by decide +kernel), _, rfl, iteF ?_⟩
                  refine ⟨_, rfl, tt, _, 0, _, rfl, rfl, .inl (.inl htt), rfl, _, _, rfl, rfl, pc, _, _, _, rfl, rfl, .inl (.inl hpck), hget _ (by show _ = ((i + mm : Nat) : Int); omega), _, _, rfl, ?_⟩
                  cases Av with
                  | none =>
                    refine ⟨_, rfl, rfl, _, rfl, ite2 (fun e => ?_) (fun e => ?_)⟩
                    · simp [optV] at e
                    · exact ⟨_, _, _, rfl, smk, hrk, hrowk, step ebad⟩
                  | some a =>
                    cases Rv with
                    | none =>
                      refine ⟨_, rfl, rfl, _, rfl, ite2 (fun e => ⟨_, rfl, rfl, _, rfl, ite2 (fun e2 => ?_) (fun e2 => ?_)⟩) (fun e => ?_)⟩
                      · simp [optV] at e2
                      · exact ⟨_, _, _, rfl, smk, hrk, hrowk, step ebad⟩
                      · simp [optV] at e
                    | some rv =>
                      refine ⟨_, rfl, rfl, _, rfl, ite2 (fun e => ⟨_, rfl, rfl, _, rfl, ite2 (fun e2 => ?_) (fun e2 => ?_)⟩) (fun e => ?_)⟩
                      · cases hac : cs.getD i none with
                        | none =>
                          rw [hac] at hip ebad
                          refine ⟨_, rfl, _, rfl, pc, _, _, _, rfl, rfl, .inl (.inl hpck), hip, rfl, _, rfl, iteT ?_⟩
                          exact bad (not_better hi hmem ebad) _ smk
                        | some c0 =>
                          rw [hac] at hip ebad
                          refine ⟨_, rfl, _, rfl, pc, _, _, _, rfl, rfl, .inl (.inl hpck), hip, rfl, _, rfl, iteF ?_⟩
                          refine ⟨_, rfl, _, rfl, _, _, rfl, rfl, _, rfl, _, rfl, pc, _, _, _, rfl, rfl, .inl (.inl hpck), hip, _, _, rfl, rfl, _, rfl, ite2 (fun e4 => ?_) (fun e4 => ?_)⟩
                          · exact bad (not_better hi hmem (ebad.trans (decide_eq_true (of_decide_eq_true e4)))) _ smk
                          · exact ⟨_, _, _, rfl, smk, hrk, hrowk, step (ebad.trans (decide_eq_false (fun z => e4 (decide_eq_true z))))⟩
                      · simp [optV] at e2
                      · simp [optV] at e
              · obtain ⟨y7, y8, y9, rfl, smk, hrk, hrowk, hgood⟩ := h
                refine ⟨_, _, _, _, rfl, smk, fun p hpi => ?_⟩
                by_cases ep : p = i
                · subst ep
                  rw [← hits, List.all_eq_true]
                  intro it m
                  have : its.take us.length = its := by rw [← hrl, List.take_length]
                  rw [this] at hgood
                  rw [hgood it m]
                  rfl
                · exact hp p (by omega)
            · obtain ⟨y6, y7, y8, y9, rfl, sm1, hp⟩ := h
              rw [hn] at hp
              have hfin : noneBetter every lead cs L B = true := by
                unfold noneBetter
                rw [decide_eq_true hlen, decide_eq_true hlast, hall, Bool.true_and, Bool.true_and, Bool.true_and, List.all_eq_true]
                exact fun p m => hp p (List.mem_range.mp m)
              have := q H1 sm1
              rw [hfin] at this
              exact this
end
end K4

namespace K4
open PySem PySem.Spec PyProof.Rows L2
/-! ### prices: good lengths, drawn out runs -/
def usedL (xs : List Int) : List Int := xs.filter fun x => decide (0 < x)
def goodP (xs : List Int) : Bool := if (usedL xs).length < 2 then decide (usedL xs = []) || decide (usedL xs = [1]) else decide (((usedL xs).map fun x => (1 : Int) * 2 ^ (12 - x).toNat).sum = 4096)
theorem used_succ {xs : List Int} {i : Nat} {x : Int} (h : xs[i]? = some x) : usedL (xs.take (i + 1)) = usedL (xs.take i) ++ (if 0 < x then [x] else []) := by
  rw [List.take_add_one, h]
  unfold usedL
  rw [List.filter_append]
  congr 1
  by_cases q : 0 < x <;> simp [q]
theorem used_le (xs : List Int) : (usedL xs).length ≤ xs.length := List.length_filter_le _ _
theorem same_tupK {K : PySem.W.Frag} {H H' : Hp} {a : Addr} {xs : List V} (e : Same H H') (h : SqT K H a xs) : SqT K H' a xs := by
  rcases h with (h | ⟨o, h⟩) | h
  · exact .inl (.inl (e _ _ h))
  · exact .inl (.inr ⟨o, e _ _ h⟩)
  · exact .inr h
theorem iteC {A B : Prop} {c : Bool} (hc : c = true) (h : A) : if c = true then A else B := by
  rw [if_pos hc]
  exact h
theorem scAreGood : FnScope ["lengths", "used", "length"] ["lengths"] (defScope sAreGood) := ⟨rfl, rfl, rfl, by decide +kernel, rfl, by decide +kernel, by decide +kernel⟩
theorem scAreP : FnScope ["lengths", "many"] ["lengths", "many"] (defScope sAreP) := ⟨rfl, rfl, rfl, by decide +kernel, rfl, by decide +kernel, by decide +kernel⟩
theorem scBackOf : FnScope ["back"] ["back"] (defScope sBackOf) := ⟨rfl, rfl, rfl, by decide +kernel, rfl, by decide +kernel, by decide +kernel⟩
theorem scPInit : FnScope ["self", "letters", "backs"] ["self", "letters", "backs"] (defScope sPInit) := ⟨rfl, rfl, rfl, by decide +kernel, rfl, by decide +kernel, by decide +kernel⟩
theorem scPLet : FnScope ["self"] ["self"] (defScope sPLet) := ⟨rfl, rfl, rfl, by decide +kernel, rfl, by decide +kernel, by decide +kernel⟩
theorem scPBk : FnScope ["self"] ["self"] (defScope sPBk) := ⟨rfl, rfl, rfl, by decide +kernel, rfl, by decide +kernel, by decide +kernel⟩
section
variable {P : Program} {w : World} {K : PySem.W.Frag} {mg : Str → Option Value} {base : Heap}
def spAreGood : Sp := fun vs H Q _ => ∃ (p : Addr) (xs : List Int), vs = [.ref p] ∧ H p = some (.lst (xs.map V.int)) ∧ xs.length ≤ 1000 ∧ (∀ x ∈ xs, x ≤ 12) ∧ ∀ H', Same H H' → Q (.bl (goodP xs)) H'
theorem ok_areGood {f : Addr} {fd : FuncData} {j : Nat} {t12 : Tok} (F : Fun K "are_good" "are_good" sAreGood f fd) (m1 : mg "sum" = none) (m2 : mg "len" = none) (cL : mg "LONGEST" = some (.int 12 t12)) : FnOk P w K mg base CX0 (j + 1) f fd ["lengths"] spAreGood := by
  refine F.ok scAreGood (fun vs H Q E h => ?_) (fun cdv A outer s H vs Q E hr h => ?_)
  · obtain ⟨p, xs, rfl, _⟩ := h
    rfl
  · obtain ⟨p, xs, rfl, hp, hl, h12, q⟩ := h
    refine ⟨_, pss_cons (ps_setLc (i := 1) (own := [("length", 2)]) (g := gName 2) rfl scAreGood.nd rfl rfl (sw_true rfl rfl rfl (by decide +kernel))
          (pi_list (pv 0)) (blkOk_by (N := ["lengths", "used", "length"]) (sc := defScope sAreGood) (by decide +kernel))
          (fun _ _ _ _ _ => pg_name (i := 2) scAreGood.nd rfl (.inl rfl)) (fun _ _ _ _ _ => pts_one (pt_cmpR op_gt (pv 2) pe_int (nomark _))) (fun _ _ _ _ _ => pv 2))
      (pss_cons (ps_if (pt_cmpR op_lt (pe_callB call_len_seq (by rfl) m2 PySem.boot_len (pa_cons (pv 1) pa_nil)) pe_int (nomark _))
        (pss_one (ps_ret (pe_or (pe_cmpR (op_eqD hr.units) (pv 1) (pe_lst pa_nil) (nomark _)) (pe_one (pe_cmpR (op_eqD hr.units) (pv 1) (pe_lst (pa_cons pe_int pa_nil)) (nomark _)))))) pss_nil)
      (pss_one (ps_ret (pe_cmpR op_eq (pe_callB (cr_sum rfl) (by rfl) m1 (by decide +kernel) (pa_cons (pe_lc (own := [("length", 2)]) (g := gName 2) (tt := tYes) rfl scAreGood.nd (pi_list (pv 1)) (blkOk_by (N := ["lengths", "used", "length"]) (sc := defScope sAreGood) (by decide +kernel))
          (fun _ _ _ _ _ => pg_name (i := 2) scAreGood.nd rfl (.inl rfl)) (fun _ _ _ _ _ => pts_nil) (fun _ _ _ _ _ => pe_op op_shl pe_int (pe_op op_sub (pe_glob (v := .int 12) rfl cL ⟨_, rfl⟩) (pv 2)))) pa_nil)) (pe_op op_shl pe_int (pe_glob (v := .int 12) rfl cL ⟨_, rfl⟩)) (nomark _))))), ?_⟩
    refine ⟨_, rfl, p, rfl, ⟨_, .inl (.inl hp)⟩, fun D nD => ?_⟩
    refine lc_list (K := K) (a := p) (xs := xs.map V.int) (fun i H' => Same H H' ∧ H' D = some (.lst ((usedL (xs.take i)).map V.int))) ⟨same_upd nD, upd_same⟩ (fun i H' _ h => .inl (.inl (h.1 _ _ hp))) (fun i x H1 hx h => ?_) (fun H1 h => ?_)
    · obtain ⟨x, rfl, hx'⟩ := int_of hx
      refine ⟨rfl, _, rfl, _, _, rfl, rfl, _, rfl, ?_⟩
      rw [used_succ hx']
      refine ite2 (fun e => ?_) (fun e => ?_)
      · rw [if_pos (show 0 < x from of_decide_eq_true e)]
        refine ⟨_, rfl, _, h.2, ?_, same_put h.1 nD, ?_⟩
        · rw [List.length_map]
          have := used_le (xs.take i)
          rw [List.length_take] at this
          exact small1000 (by omega)
        · rw [upd_same, List.map_append]
          rfl
      · rw [if_neg (show ¬ 0 < x from fun z => e (decide_eq_true z)), List.append_nil]
        exact h
    · have e : (xs.take (xs.map V.int).length) = xs := by rw [List.length_map, List.take_length]
      rw [e] at h
      obtain ⟨sm1, hD⟩ := h
      have hul := used_le xs
      have hq : ∀ H', Same H H' → ∀ b, b = goodP xs → Q (.bl b) H' := fun H' sm b hb => by rw [hb]; exact q H' sm
      unfold goodP at hq
      have hpos : ∀ x ∈ usedL xs, 0 < x ∧ x ≤ 12 := fun x hx => ⟨of_decide_eq_true (List.mem_filter.mp hx).2, h12 x (List.mem_filter.mp hx).1⟩
      generalize usedL xs = us at *
      refine ⟨_, rfl, D, _, rfl, .inl (.inl (.inl hD)), _, _, rfl, rfl, _, rfl, ite2 (fun e => ?_) (fun e => ?_)⟩
      · have hlt : us.length < 2 := by
          have := of_decide_eq_true e
          rw [List.length_map] at this
          omega
        refine ⟨_, rfl, Nat.zero_le _, fun z nz => ?_⟩
        have sm2 : Same H1 (upd H1 z (.lst [])) := same_upd nz
        have hz : (upd H1 z (.lst [])) z = some (.lst []) := upd_same
        generalize upd H1 z (.lst []) = H2 at *
        refine ⟨_, _, .lst (.inl (.inl (sm2 _ _ hD))) (dp_ints us), .lst (ds := []) (.inl (.inl hz)) .nil, shaped_intsQ us, shaped_intsQ [], _, rfl, ?_⟩
        rw [show PyData.eqv (.list (us.map .int)) (.list []) = decide (us = []) from eqv_ints us []]
        refine ite2 (fun e => ?_) (fun e => ?_)
        · exact hq _ (sm1.trans sm2) _ (by rw [if_pos hlt, e]; rfl)
        · have e0 : decide (us = []) = false := by simpa using e
          refine ⟨_, rfl, (by show 1 ≤ sizeLine; decide), fun z2 nz2 => ?_⟩
          have sm3 : Same H2 (upd H2 z2 (.lst [.int 1])) := same_upd nz2
          have hz2 : (upd H2 z2 (.lst [.int 1])) z2 = some (.lst [.int 1]) := upd_same
          generalize upd H2 z2 (.lst [.int 1]) = H3 at *
          refine ⟨_, _, .lst (.inl (.inl (sm3 _ _ (sm2 _ _ hD)))) (dp_ints us), .lst (ds := [.int 1]) (.inl (.inl hz2)) (.cons (.int 1) .nil), shaped_intsQ us, shaped_intsQ [1], ?_⟩
          rw [show PyData.eqv (.list (us.map .int)) (.list [.int 1]) = decide (us = [1]) from eqv_ints us [1]]
          exact hq _ ((sm1.trans sm2).trans sm3) _ (by rw [if_pos hlt, e0]; rfl)
      · have hge : ¬ us.length < 2 := fun z => e (decide_eq_true (by rw [List.length_map]; omega))
        refine ⟨_, rfl, D, rfl, ⟨_, .inl (.inl hD)⟩, fun D2 nD2 => ?_⟩
        refine lc_list (K := K) (a := D) (xs := us.map V.int) (fun i H' => Same H1 H' ∧ H' D2 = some (.lst (((us.take i).map fun x => (1 : Int) * 2 ^ (12 - x).toNat).map V.int))) ⟨same_upd nD2, upd_same⟩ (fun i H' _ h => .inl (.inl (h.1 _ _ hD))) (fun i x H5 hx h => ?_) (fun H4 h => ?_)
        · obtain ⟨x, rfl, hx'⟩ := int_of hx
          have hb := hpos x (List.mem_of_getElem? hx')
          refine ⟨rfl, yes ?_⟩
          refine ⟨_, rfl, _, _, rfl, rfl, _, _, rfl, rfl, ⟨by omega, by omega, by decide⟩, _, h.2, ?_, same_put h.1 nD2, ?_⟩
          · rw [List.length_map, List.length_map, List.length_take]
            exact small1000 (by omega)
          · rw [upd_same, List.take_add_one, hx', List.map_append, List.map_append]
            rfl
        · have e : (us.take (us.map V.int).length) = us := by rw [List.length_map, List.take_length]
          rw [e] at h
          refine ⟨D2, _, rfl, .inl (.inl h.2), _, _, rfl, rfl, ⟨by decide, by decide, by decide⟩, rfl, ?_⟩
          refine hq _ (sm1.trans h.1) _ ?_
          rw [if_neg hge, decide_eq_decide]
          exact ⟨fun h => V.int.inj h, fun h => congrArg V.int h⟩
/-- of what is good -/
def PrL (n : Nat) (xs : List Int) : Prop := xs.length = n ∧ (∀ x ∈ xs, 0 ≤ x ∧ x ≤ 12) ∧ goodP xs = true
def spAreP : Sp := fun vs H Q _ => ∃ (p : Addr) (xs : List Int) (n : Nat), vs = [.ref p, .int (n : Int)] ∧ H p = some (.lst (xs.map V.int)) ∧ n ≤ 1000 ∧ PrL n xs ∧ ∀ H', Same H H' → Q (.bl true) H'
theorem ok_areP {f fN fG : Addr} {fd fdN fdG : FuncData} {j : Nat} {t12 : Tok} (F : Fun K "are_prices" "are_prices" sAreP f fd)
    (GN : FnOk P w K mg base CX0 (j + 3) fN fdN ["told", "least", "most"] spAreNum) (bN : Binds K fdN ["told", "least", "most"] []) (kN : PySem.W.keepIn K (.ref fN) = true) (gN : mg "are_numbers" = some (.ref fN))
    (GG : FnOk P w K mg base CX0 (j + 3) fG fdG ["lengths"] spAreGood) (bG : Binds K fdG ["lengths"] []) (kG : PySem.W.keepIn K (.ref fG) = true) (gG : mg "are_good" = some (.ref fG))
    (m2 : mg "len" = none) (cL : mg "LONGEST" = some (.int 12 t12)) : FnOk P w K mg base CX0 (j + 4) f fd ["lengths", "many"] spAreP := by
  refine F.ok scAreP (fun vs H Q E h => ?_) (fun cdv A outer s H vs Q E hr h => ?_)
  · obtain ⟨p, xs, n, rfl, _⟩ := h
    rfl
  · obtain ⟨p, xs, n, rfl, hp, hn, ⟨hl, hx, hg⟩, q⟩ := h
    refine ⟨_, pss_one (ps_ret (pe_and (pe_call GN hr (by rfl) gN kN bN .nil pass0 (pa_cons (pv 0) (pa_cons pe_int (pa_cons (pe_glob (v := .int 12) rfl cL ⟨_, rfl⟩) pa_nil))))
      (pe_and (pe_cmpR op_eq (pe_callB call_len_seq (by rfl) m2 PySem.boot_len (pa_cons (pv 0) pa_nil)) (pv 1) (nomark _)) (pe_one (pe_call GG hr (by rfl) gG kG bG .nil pass0 (pa_cons (pv 0) pa_nil)))))), ?_⟩
    refine ⟨_, rfl, p, xs, 0, 12, rfl, hp, by omega, fun H1 s1 => ⟨_, rfl, ?_⟩⟩
    refine iteC (List.all_eq_true.mpr fun x m => decide_eq_true (hx x m)) ?_
    refine ⟨_, rfl, p, _, rfl, .inl (.inl (.inl (s1 _ _ hp))), _, rfl, rfl, _, rfl, ite2 (fun e => ?_) (fun e => ?_)⟩
    · refine ⟨_, rfl, p, xs, rfl, s1 _ _ hp, by omega, fun x m => (hx x m).2, fun H2 s2 => ?_⟩
      have q' := q H2 (s1.trans s2)
      rw [← hg] at q'
      exact q'
    · exact absurd (decide_eq_true (show V.int ((xs.map V.int).length : Int) = V.int (n : Int) by rw [List.length_map, hl])) e
/-! ### back_of -/
def spBackOf : Sp := fun vs H Q _ => ∃ b : Nat, vs = [.int (b : Int)] ∧ 1 ≤ b ∧ b ≤ 5000 ∧ Q (.int ((Nat.log2 b : Nat) : Int)) H
theorem ok_backOf {f : Addr} {fd : FuncData} {j : Nat} (F : Fun K "back_of" "back_of" sBackOf f fd) : FnOk P w K mg base CX0 (j + 1) f fd ["back"] spBackOf := by
  refine F.ok scBackOf (fun vs H Q E h => ?_) (fun cdv A outer s H vs Q E hr h => ?_)
  · obtain ⟨b, rfl, _⟩ := h
    rfl
  · obtain ⟨b, rfl, h1, h2, q⟩ := h
    refine ⟨_, pss_one (ps_ret (pe_op op_sub (pe_bits (pv 0)) pe_int)), ?_⟩
    refine ⟨_, rfl, _, rfl, _, _, rfl, rfl, ?_⟩
    have e : ((Builtin.Int.intBits (b : Int) : Nat) : Int) - 1 = ((Nat.log2 b : Nat) : Int) := by
      unfold Builtin.Int.intBits
      rw [if_neg (by simp; omega), Int.natAbs_natCast]
      push_cast
      omega
    show Q (.int (((Builtin.Int.intBits (b : Int) : Nat) : Int) - 1)) H
    rw [e]
    exact q
end
end K4

namespace K4
open PySem PySem.Spec PyProof.Rows L2
/-! ### Prices -/
def prF (p q : Addr) : List (Str × V) := [(("_letters" : Str), V.ref p), (("_backs" : Str), V.ref q)]
theorem lkH {k : Str} {v : V} {r : List (Str × V)} : List.lookup k ((k, v) :: r) = some v := by
  rw [List.lookup, beq_self_eq_true]
theorem lkP {k g : Str} {v : V} {r : List (Str × V)} (h : (k == g) = false) : List.lookup k ((g, v) :: r) = List.lookup k r := by
  rw [List.lookup, h]
theorem prF_l (p q : Addr) : (prF p q).lookup ("_letters" : Str) = some (.ref p) := lkH
theorem prF_b (p q : Addr) : (prF p q).lookup ("_backs" : Str) = some (.ref q) := (lkP (by decide +kernel)).trans lkH
theorem prF_m (p q : Addr) : (prF p q).lookup ("letters" : Str) = none := (lkP (by decide +kernel)).trans ((lkP (by decide +kernel)).trans rfl)
theorem prF_n (p q : Addr) : (prF p q).lookup ("backs" : Str) = none := (lkP (by decide +kernel)).trans ((lkP (by decide +kernel)).trans rfl)
theorem prF_put (p q : Addr) : putF "_backs" (.ref q) (putF "_letters" (.ref p) []) = prF p q := (if_neg (by decide +kernel)).trans rfl
def PcAt (C : Addr) (H : Hp) (a : Addr) (L B : List Int) : Prop := ∃ dx p q, H a = some (.ins C dx (prF p q)) ∧ H p = some (.lst (L.map V.int)) ∧ H q = some (.lst (B.map V.int))
theorem PcAt.same {C a : Addr} {H H' : Hp} {L B : List Int} (h : PcAt C H a L B) (s : Same H H') : PcAt C H' a L B := by
  obtain ⟨dx, p, q, h1, h2, h3⟩ := h
  exact ⟨dx, p, q, s _ _ h1, s _ _ h2, s _ _ h3⟩
/-- what the written part says of Prices -/
structure PrTxt (K : PySem.W.Frag) (mg : Str → Option Value) (C fI fL fB : Addr) : Prop where
  cl : Cls K C
  nL : NoAttr K C "_letters"
  nB : NoAttr K C "_backs"
  gC : mg "Prices" = some (.ref C)
  made : Mk K C fI
  mL : Meth K C "letters" fL
  mB : Meth K C "backs" fB
  ity : ∀ {H : Hp} {a dx : Addr} {fs : List (Str × V)}, H a = some (.ins C dx fs) → TyOf K H (.ref a) (.ref C)
  isC : PySem.W.kitOne K (.ref C) (.ref C) = some true
section
variable {P : Program} {w : World} {K : PySem.W.Frag} {mg : Str → Option Value} {base : Heap} {C fI fL fB : Addr}
def spPInit (C : Addr) : Sp := fun vs H Q _ => ∃ (a dx pl pb : Addr) (L B : List Int), vs = [.ref a, .ref pl, .ref pb] ∧ H a = some (.ins C dx []) ∧ H pl = some (.lst (L.map V.int)) ∧ H pb = some (.lst (B.map V.int)) ∧ PrL 273 L ∧ PrL 11 B ∧
  ∀ H', (∀ b o, b ≠ a → H b = some o → H' b = some o) → PcAt C H' a L B → Q .non H'
theorem ok_pInit (T : PrTxt K mg C fI fL fB) {fP : Addr} {fd fdP : FuncData} {j : Nat} {t1 t2 : Tok} (F : Fun K "__init__" "Prices.__init__" sPInit fI fd)
    (GP : FnOk P w K mg base CX0 (j + 4) fP fdP ["lengths", "many"] spAreP) (bP : Binds K fdP ["lengths", "many"] []) (kP : PySem.W.keepIn K (.ref fP) = true) (gP : mg "are_prices" = some (.ref fP))
    (m4 : mg "list" = none) (c1 : mg "LETTERS" = some (.int 273 t1)) (c2 : mg "BACKS" = some (.int 11 t2)) : FnOk P w K mg base CX0 (j + 5) fI fd ["self", "letters", "backs"] (spPInit C) := by
  refine F.ok scPInit (fun vs H Q E h => ?_) (fun cdv A outer s H vs Q E hr h => ?_)
  · obtain ⟨a, dx, pl, pb, L, B, rfl, _⟩ := h
    rfl
  · obtain ⟨a, dx, pl, pb, L, B, rfl, ha, hL, hB, gl, gb, q⟩ := h
    refine ⟨_, pss_cons (ps_if (PW.pt (pw_or (pt_not (pt_val (pe_call GP hr (by rfl) gP kP bP .nil pass0 (pa_cons (pv 1) (pa_cons (pe_glob (v := .int 273) rfl c1 ⟨_, rfl⟩) pa_nil)))))
        (pw_or1 (pt_not (pt_val (pe_call GP hr (by rfl) gP kP bP .nil pass0 (pa_cons (pv 2) (pa_cons (pe_glob (v := .int 11) rfl c2 ⟨_, rfl⟩) pa_nil)))))))) (pss_one ps_never) pss_nil)
      (pss_cons (ps_fld (pv 0) (pe_callTy call_list_of (by rfl) m4 (by decide +kernel) (pa_cons (pv 1) pa_nil)) rfl)
      (pss_one (ps_fld (pv 0) (pe_callTy call_list_of (by rfl) m4 (by decide +kernel) (pa_cons (pv 2) pa_nil)) rfl))), ?_⟩
    refine ⟨_, rfl, pl, L, 273, rfl, hL, by decide, gl, fun H1 s1 => ⟨_, rfl, iteF ?_⟩⟩
    refine ⟨_, rfl, pb, B, 11, rfl, s1 _ _ hB, by decide, gb, fun H2 s2 => ⟨_, rfl, iteF ?_⟩⟩
    have s12 := s1.trans s2
    refine ⟨_, rfl, pl, _, rfl, .inl (.inl (.inl (s12 _ _ hL))), fun p np => ?_⟩
    have s3 := s12.trans (same_upd (o := .lst (L.map V.int)) np)
    refine ⟨_, rfl, a, C, dx, _, rfl, s3 _ _ ha, T.cl, T.nL, (by show 0 < 1000; decide), ?_⟩
    have nap : a ≠ p := ne_of_none (s12 _ _ ha) np
    have npa : p ≠ a := Ne.symm nap
    have h4 : (upd (upd H2 p (.lst (L.map V.int))) a (.ins C dx (putF "_letters" (.ref p) []))) pb = some (.lst (B.map V.int)) := by
      rw [upd_ne (fun z => by rw [z, ha] at hB; cases hB)]
      exact s3 _ _ hB
    refine ⟨_, rfl, pb, _, rfl, .inl (.inl (.inl h4)), fun q' nq => ?_⟩
    have hpa : (upd (upd H2 p (.lst (L.map V.int))) a (.ins C dx (putF "_letters" (.ref p) []))) a = some (.ins C dx (putF "_letters" (.ref p) [])) := upd_same
    have hpp : (upd (upd H2 p (.lst (L.map V.int))) a (.ins C dx (putF "_letters" (.ref p) []))) p = some (.lst (L.map V.int)) := by
      rw [upd_ne npa]
      exact upd_same
    have naq : a ≠ q' := ne_of_none hpa nq
    have npq : p ≠ q' := ne_of_none hpp nq
    refine ⟨_, rfl, a, C, dx, _, rfl, (by rw [upd_ne naq]; exact hpa), T.cl, T.nB, (by show 1 < 1000; decide), ?_⟩
    refine q _ (fun b o hb e => ?_) ⟨dx, p, q', ?_, ?_, ?_⟩
    · have eb := s3 _ _ e
      have e5 : (upd (upd H2 p (.lst (L.map V.int))) a (.ins C dx (putF "_letters" (.ref p) []))) b = some o := by
        rw [upd_ne hb]
        exact eb
      rw [upd_ne hb, upd_ne (ne_of_none e5 nq)]
      exact e5
    · rw [upd_same, prF_put]
    · rw [upd_ne npa, upd_ne npq]
      exact hpp
    · rw [upd_ne (Ne.symm naq)]
      exact upd_same
def spPLet (C : Addr) : Sp := fun vs H Q _ => ∃ (a : Addr) (L B : List Int), vs = [.ref a] ∧ PcAt C H a L B ∧ ∀ H' p, Same H H' → H p = none → H' p = some (.lst (L.map V.int)) → Q (.ref p) H'
theorem ok_pLet (T : PrTxt K mg C fI fL fB) {fd : FuncData} {j : Nat} (F : Fun K "letters" "Prices.letters" sPLet fL fd) (m4 : mg "list" = none) : FnOk P w K mg base CX0 (j + 1) fL fd ["self"] (spPLet C) := by
  refine F.ok scPLet (fun vs H Q E h => ?_) (fun cdv A outer s H vs Q E hr h => ?_)
  · obtain ⟨a, L, B, rfl, _⟩ := h
    rfl
  · obtain ⟨a, L, B, rfl, ⟨dx, p, r, ha, hp, hr'⟩, q⟩ := h
    refine ⟨_, pss_one (ps_ret (pe_callTy call_list_of (by rfl) m4 (by decide +kernel) (pa_cons (pe_fld (pv 0) rfl) pa_nil))), ?_⟩
    refine ⟨_, rfl, a, C, dx, _, _, rfl, ha, T.cl, T.nL, prF_l p r, p, _, rfl, .inl (.inl (.inl hp)), fun z nz => ?_⟩
    exact q _ z (same_upd nz) nz upd_same
def spPBk (C : Addr) : Sp := fun vs H Q _ => ∃ (a : Addr) (L B : List Int), vs = [.ref a] ∧ PcAt C H a L B ∧ ∀ H' p, Same H H' → H p = none → H' p = some (.lst (B.map V.int)) → Q (.ref p) H'
theorem ok_pBk (T : PrTxt K mg C fI fL fB) {fd : FuncData} {j : Nat} (F : Fun K "backs" "Prices.backs" sPBk fB fd) (m4 : mg "list" = none) : FnOk P w K mg base CX0 (j + 1) fB fd ["self"] (spPBk C) := by
  refine F.ok scPBk (fun vs H Q E h => ?_) (fun cdv A outer s H vs Q E hr h => ?_)
  · obtain ⟨a, L, B, rfl, _⟩ := h
    rfl
  · obtain ⟨a, L, B, rfl, ⟨dx, p, r, ha, hp, hr'⟩, q⟩ := h
    refine ⟨_, pss_one (ps_ret (pe_callTy call_list_of (by rfl) m4 (by decide +kernel) (pa_cons (pe_fld (pv 0) rfl) pa_nil))), ?_⟩
    refine ⟨_, rfl, a, C, dx, _, _, rfl, ha, T.cl, T.nB, prF_b p r, r, _, rfl, .inl (.inl (.inl hr')), fun z nz => ?_⟩
    exact q _ z (same_upd nz) nz upd_same
theorem told_good : PrL 273 toldL ∧ PrL 11 toldB := by
  refine ⟨⟨by decide +kernel, ?_, by decide +kernel⟩, ⟨by decide +kernel, ?_, by decide +kernel⟩⟩
  · intro x hx
    rcases List.mem_append.mp hx with h | h
    · rw [(List.mem_replicate.mp h).2]; decide
    · rw [(List.mem_replicate.mp h).2]; decide
  · intro x hx
    rcases List.mem_append.mp hx with h | h
    · rw [(List.mem_replicate.mp h).2]; decide
    · rw [(List.mem_replicate.mp h).2]; decide
end
end K4

/-! ### set(xs) of a list of ints -/
namespace SLX
open PySem PySem.Spec PyProof.Rows L2
abbrev nSet (w : World) : Obj := { cls := .type "set", dict := none, data := .set #[] 0 (.fresh 0 0 (!w.params.followText "set-order")) }
section
variable {P : Program} {w : World} {A : Around} {E : Value → Shared → Prop} {s : Shared}
set_option maxHeartbeats 4100000 in
theorem set_ints {l : Addr} {items : Array Value} (ns : List Int) {Q : Value → Shared → Prop} (hh : A.handled = none) (hl : s.heap.IsList l items) (hit : IntsAre items.toList ns) (hb : ns.length + 1 < scanBound)
    (h : ∀ (h' : Heap) (tk c : Nat), SetR w h' s.heap.objs.size (fun j => decide (j ∈ ns)) c → c ≤ ns.length → (∀ b o, s.heap.get? b = some o → h'.get? b = some o) → Q (.ref s.heap.objs.size) { s with heap := h', toks := tk }) :
    wpAny (model P w) A (call (.type "set") [.ref l]) Q E s := by
  have sz : items.size = ns.length := (Array.length_toList ▸ IntsAre.length hit : items.size = ns.length)
  obtain ⟨c, tl, hmro⟩ := F.called_set.mro
  have hmade := F.called_set.made; have hsub := F.called_set.sub
  refine wpAny_call (codeAny_of_tree ?_)
  show wpAny (model P w) _ (callAny (.type "set") _) _ _ _
  refine wpAny_pure ⟨Code.quiet_builtin _ (by decide +kernel), codeAny_builtin F.entry_type_call ?_⟩; rw [Around.under_plain (weight_type_call_type "set" [.ref l] []) rfl]
  have h1 := F.called_set.notType; have h2 := F.called_set.canCreate; have hct := F.typeCall_set_1 (.ref l)
  repeat (any_goals (first | assumption | wp_step))
  refine codeAny_mono (code_set_led1 (.ref l) (E := E) (Q₁ := fun obj s₁ => obj = .ref s.heap.objs.size ∧ s₁ = { s with heap := s.heap.push (nSet w) }) ⟨rfl, rfl⟩) fun r s₁ hr => ?_
  cases r with
  | error e => exact hr
  | ok fl =>
    cases fl with
    | ret obj =>
      obtain ⟨rfl, rfl⟩ := hr
      have hS : (s.heap.push (nSet w)).get? s.heap.objs.size = some (nSet w) := Heap.get?_push_size _ rfl
      have hT : Shared.TypeIs { s with heap := s.heap.push (nSet w) } (.ref s.heap.objs.size) "set" := ⟨_, hS, rfl⟩
      have hli := F.called_set.init.lookup; have hbi := F.called_set.init.bind (.ref s.heap.objs.size)
      repeat (any_goals (first | assumption | wp_step))
      refine codeAny_mono (codeAny_call_builtin (R := wants (fun r s₂ => r = .none ∧ ∃ h' tk c, s₂ = { s with heap := h', toks := tk } ∧ SetR w h' s.heap.objs.size (fun j => decide (j ∈ ns)) c ∧ c ≤ ns.length ∧ (∀ b o, s.heap.get? b = some o → h'.get? b = some o)) E) F.called_set.init.plain F.entry_set_init (check_set_init_1 hT ?_)) fun r₂ s₂ hr₂ => ?_
      · obtain ⟨ol, hol, hcl, nl, hdl⟩ := hl
        obtain ⟨ocls, odict, odata, oslots⟩ := ol
        (simp only at hcl hdl); (subst hcl; subst hdl)
        have hol' : (s.heap.push (nSet w)).get? l = some { cls := .type "list", dict := odict, data := .seq items nl, slots := oslots } := Heap.get?_push_of_some _ hol
        have hsls := F.sub_list_set; have hslf := F.sub_list_frozenset
        have hne : (Value.type "list" == Value.type "dict") = false := by decide
        have hl1 : (s.heap.push (nSet w)).IsList l items := ⟨_, hol', rfl, nl, rfl⟩
        unfold Builtin.«set.__init__» noKeywords Builtin.Frozenset.updateFrom
        generalize hPI : pyIter = PI
        wp_walk
        subst hPI
        refine wpAny_pyIter_list hl1 (wpAny_bind (wpAny_runValue ?_))
        have hlS : l < s.heap.objs.size := Heap.lt_size hol
        have hz1 : (s.heap.push (nSet w)).objs.size = s.heap.objs.size + 1 := Heap.size_push ..
        have hneI : l ≠ (s.heap.push (nSet w)).objs.size := by (rw [Heap.size_push]); (exact Nat.ne_of_lt (Nat.lt_succ_of_lt hlS))
        have hSf : s.heap.objs.size ∉ [(s.heap.push (nSet w)).objs.size, l] := fun m => by
          rcases List.mem_cons.mp m with z | m
          · (rw [hz1] at z); (exact Nat.ne_of_lt (Nat.lt_succ_self _) z)
          · exact Nat.ne_of_gt hlS (List.mem_singleton.mp m)
        have hval : ∀ (i : Nat) (v : Value), items[i]? = some v → ∃ k t, ns[i]? = some k ∧ v = .int k t := fun i v hv => by
          have hi : i < ns.length := sz ▸ (Array.getElem?_eq_some_iff.mp hv).1
          obtain ⟨t, e⟩ := PyProof.Rows.IntsAre.int_at hit i v (by rw [Array.getElem?_toList]; exact hv)
          exact ⟨ns[i], t, List.getElem?_eq_getElem hi, by rw [e, List.getD_eq_getElem?_getD, List.getElem?_eq_getElem hi] <;> rfl⟩
        have hh3 : A.in1.in1.in1.handled = none := hh
        refine set_update_ints ((Walks.list hh3 _ l hneI items).toS) s.heap.objs.size hSf ns sz hb hval (items.size - 0) 0 _ (by omega) (Nat.zero_le _) ⟨⟨_, Heap.get?_push_size _ rfl, rfl, rfl⟩, (hl1.push _)⟩ ⟨0, Nat.le_refl 0, setR_new_at (Heap.get?_push_of_some _ hS)⟩ fun s' c' hm hc' hS' => ?_
        obtain ⟨h', g2, d', tk', os'⟩ := s'
        (have eg : g2 = s.gens := hm.gens); (have ed : d' = s.drawn := hm.drawn); (have eo : os' = s.os := hm.os); (subst eg; subst ed; subst eo)
        show wpAny (model P w) _ _ _ _ _
        refine wpAny_pure ?_
        show wpAny (model P w) _ (ret Value.none) _ _ _
        refine wpAny_pure ⟨rfl, h', tk', c', rfl, hS', sz ▸ hc', fun b o e => ?_⟩
        have hb0 : b < s.heap.objs.size := Heap.lt_size e
        refine hm.heap b o (fun m => ?_) (Heap.get?_push_of_some _ (Heap.get?_push_of_some _ e))
        rcases List.mem_cons.mp m with z | m
        · exact Nat.ne_of_lt hb0 z
        · (have z := List.mem_singleton.mp m); (rw [hz1] at z); (exact Nat.ne_of_lt (Nat.lt_succ_of_lt hb0) z)
      · cases r₂ with
        | error e => exact hr₂
        | ok fl₂ => cases fl₂ with
          | ret r =>
            obtain ⟨rfl, h', tk, c', rfl, hS', hc', hk'⟩ := hr₂
            (repeat (any_goals (first | assumption | wp_step))); (exact h _ _ _ hS' hc' hk')
          | next => exact hr₂.elim
          | brk => exact hr₂.elim
          | cont => exact hr₂.elim
    | next => exact hr.elim
    | brk => exact hr.elim
    | cont => exact hr.elim
end
/-- set(xs) -/
def rSetI (K : PySem.W.Frag) (w : World) : List V → Hp → VK → Prop := fun xs H Q => ∃ (a : Addr) (ns : List Int), xs = [V.ref a] ∧ SqL K H a (ns.map V.int) ∧ ns.length + 1 < scanBound ∧ ∀ p n, H p = none → n ≤ ns.length → Q (.ref p) (upd H p (SetO w p (fun j => decide (j ∈ ns)) n))
theorem cr_setI {X : Cx} (hc : X.calm = true) : CallR X (.type "set") (rSetI X.K X.w) := by
  intro pins s σ H xs us Q I r h
  obtain ⟨a, ns, rfl, hs, hb, q⟩ := h
  rw [Vals.ref1 r]
  obtain ⟨its, rv, pl, hz⟩ := I.list hs
  refine set_ints ns (I.ok.hd hc) pl.isList (ints_of_vals rv) hb fun h' tk c R hcl k => ?_
  exact ⟨.ref s.heap.objs.size, upd H s.heap.objs.size (SetO X.w s.heap.objs.size (fun j => decide (j ∈ ns)) c), I.laid (t' := tk) k (Nat.le_refl _) (setO_new R), rfl, q _ c (I.hok.fresh (Nat.le_refl _)) hcl⟩
end SLX

namespace K4
open PySem PySem.Spec PyProof.Rows L2
/-! ### drawn good lengths: pure -/
def fK (x : Int) : Int := 1 * 2 ^ (12 - x).toNat
def krS (ls : List Int) : Int := (ls.map fK).sum
theorem fK_half {x : Int} (h : x < 12) : fK x = 2 * fK (x + 1) := by
  unfold fK
  have e : (12 - x).toNat = (12 - (x + 1)).toNat + 1 := by omega
  rw [e, Int.pow_succ]
  omega
theorem fK_top {x : Int} (h : 12 ≤ x) : fK x = 1 := by
  unfold fK
  have e : (12 - x).toNat = 0 := by omega
  rw [e]
  rfl
theorem krS_app (a b : List Int) : krS (a ++ b) = krS a + krS b := by
  unfold krS
  rw [List.map_append, List.sum_append]
theorem krS_set : ∀ (ls : List Int) (j : Nat) (x y : Int), ls[j]? = some x → krS (ls.set j y) = krS ls - fK x + fK y
  | [], _, _, _, h => by cases h
  | a :: r, 0, x, y, h => by
    obtain rfl : a = x := Option.some.inj h
    show ((y :: r).map fK).sum = ((a :: r).map fK).sum - fK a + fK y
    simp only [List.map_cons, List.sum_cons]
    omega
  | a :: r, j + 1, x, y, h => by
    have ih := krS_set r j x y h
    unfold krS at ih ⊢
    show ((a :: r.set j y).map fK).sum = ((a :: r).map fK).sum - fK x + fK y
    simp only [List.map_cons, List.sum_cons]
    omega
theorem krS_all {ls : List Int} (h : ∀ x ∈ ls, 12 ≤ x) : krS ls = ls.length := by
  induction ls with
  | nil => rfl
  | cons a r ih =>
    have e1 := fK_top (h a (List.mem_cons_self ..))
    have e2 := ih fun x m => h x (List.mem_cons_of_mem _ m)
    unfold krS at e2 ⊢
    simp only [List.map_cons, List.sum_cons, List.length_cons]
    push_cast
    omega
/-- leaves of a tree -/
structure LvOk (ls : List Int) : Prop where
  pos : 0 < ls.length
  kr : krS ls = 4096
  le : ∀ x ∈ ls, 0 ≤ x ∧ x ≤ 12
  one : 2 ≤ ls.length → ∀ x ∈ ls, 1 ≤ x
theorem lv_start : LvOk [0] := ⟨by decide, by decide +kernel, by decide, fun h => by simp at h⟩
theorem lv_split {ls : List Int} {j : Nat} {x : Int} (h : LvOk ls) (hx : ls[j]? = some x) (h12 : x < 12) : LvOk (ls.set j (x + 1) ++ [x + 1]) := by
  have h0 := (h.le x (List.mem_of_getElem? hx)).1
  refine ⟨by simp, ?_, ?_, ?_⟩
  · rw [krS_app, krS_set ls j x _ hx, h.kr]
    have := fK_half h12
    have e : krS [x + 1] = fK (x + 1) := by unfold krS; simp
    omega
  · intro y m
    rcases List.mem_append.mp m with m | m
    · rcases List.mem_or_eq_of_mem_set m with m | m
      · exact h.le y m
      · subst m; omega
    · rw [List.mem_singleton.mp m]; omega
  · intro h2 y m
    rcases List.mem_append.mp m with m | m
    · rcases List.mem_or_eq_of_mem_set m with q | q
      · by_cases hl : 2 ≤ ls.length
        · exact h.one hl y q
        · have hl1 : ls.length = 1 := by have := h.pos; omega
          match ls, hl1, hx, m with
          | [a], _, hx, m =>
            have hj : j = 0 := by
              have := (List.getElem?_eq_some_iff.mp hx).1
              simp at this
              omega
            subst hj
            have hm : y ∈ [x + 1] := m
            rw [List.mem_singleton.mp hm]
            omega
      · subst q; omega
    · rw [List.mem_singleton.mp m]; omega
theorem lv_min {ls : List Int} {m : Int} (h : LvOk ls) (hl : ls.length ≤ 1000) (hm : ∀ y ∈ ls, m ≤ y) : m < 12 := by
  refine Decidable.byContradiction fun z => ?_
  have e := krS_all (ls := ls) fun x mx => by have := hm x mx; omega
  rw [h.kr] at e
  omega
def mx1 (x : Int) : Int := if x > 1 then x else 1
theorem used_set : ∀ (L : List Int) (s : Nat) (v : Int), L[s]? = some 0 → 0 < v → (usedL (L.set s v)).Perm (v :: usedL L)
  | [], _, _, h, _ => by cases h
  | a :: r, 0, v, h, hv => by
    obtain rfl : a = 0 := Option.some.inj h
    show (usedL (v :: r)).Perm (v :: usedL (0 :: r))
    unfold usedL
    rw [List.filter_cons, if_pos (by simpa using hv), List.filter_cons, if_neg (by simp)]
  | a :: r, s + 1, v, h, hv => by
    have ih := used_set r s v h hv
    show (usedL (a :: r.set s v)).Perm (v :: usedL (a :: r))
    unfold usedL at ih ⊢
    rw [List.filter_cons, List.filter_cons]
    by_cases ha : 0 < a
    · rw [if_pos (by simpa using ha), if_pos (by simpa using ha)]
      exact (ih.cons a).trans (List.Perm.swap v a _)
    · rw [if_neg (by simpa using ha), if_neg (by simpa using ha)]
      exact ih
theorem sum_perm : ∀ {a b : List Int}, a.Perm b → a.sum = b.sum := by
  intro a b h
  induction h with
  | nil => rfl
  | cons x _ ih => simp only [List.sum_cons]; omega
  | swap x y l => simp only [List.sum_cons]; omega
  | trans _ _ h1 h2 => exact h1.trans h2
/-- what such lengths end in -/
theorem good_of {L ls : List Int} (h : LvOk ls) (hp : (usedL L).Perm (ls.map mx1)) : goodP L = true := by
  unfold goodP
  by_cases h1 : (usedL L).length < 2
  · rw [if_pos h1]
    have hl : ls.length = 1 := by
      have e := hp.length_eq
      rw [List.length_map] at e
      have := h.pos
      omega
    match ls, hl with
    | [a], _ =>
      have ka := h.kr
      have la := h.le a (List.mem_singleton_self a)
      have a0 : a = 0 := by
        refine Decidable.byContradiction fun z => ?_
        have e : krS [a] = fK a := by unfold krS; simp
        rw [e] at ka
        have e2 : (12 - a).toNat ≤ 11 := by omega
        have e3 : fK a ≤ 2048 := by
          unfold fK
          rw [Int.one_mul]
          exact_mod_cast Nat.pow_le_pow_right (n := 2) (by decide) e2
        omega
      subst a0
      have hp' : (usedL L).Perm [1] := hp
      rw [List.perm_singleton.mp hp']
      rfl
  · rw [if_neg h1]
    have h2 : 2 ≤ ls.length := by
      have e := hp.length_eq
      rw [List.length_map] at e
      omega
    have em : ls.map mx1 = ls := by
      conv => rhs; rw [← List.map_id ls]
      refine List.map_congr_left fun x m => ?_
      have := h.one h2 x m
      show (if x > 1 then x else 1) = x
      split <;> omega
    rw [em] at hp
    have e := sum_perm (hp.map fK)
    have e2 : ((usedL L).map fK).sum = 4096 := e.trans h.kr
    exact decide_eq_true e2
end K4

namespace K4
open PySem PySem.Spec PyProof.Rows L2
abbrev NPr : List Str := ["_law_script", "_law_at", "_law_data_here", "_law_cell", "_law_some", "_law_leaves", "_law_spot", "_law_letters", "_law_letter", "_law_leaf", "_law_backs", "_law_k"]
theorem scPrc : FnScope NPr ["_law_script", "_law_at", "_law_data_here"] (defScope sPrices) := ⟨rfl, rfl, rfl, by decide +kernel, rfl, by decide +kernel, by decide +kernel⟩
/-- what stands between two statements, said once however the first one ends -/
theorem seq_mid {ts tr : TS} {D : Ends} {σ : L2.St} {H : Hp} (Mid : L2.St → Hp → Prop) (ht : ∀ N : L2.St → Hp → Prop, (∀ σ' H', Mid σ' H' → N σ' H') → ts { D with nx := N } σ H) (hr : ∀ σ' H', Mid σ' H' → tr D σ' H') : tSeq ts tr D σ H := ht _ hr
theorem ixN_natK {n j : Nat} (hj : j < n) : ixN n (j : Int) = some j := by
  unfold ixN
  rw [if_pos (by omega), if_pos (by omega)]
  simp
theorem ints_to (ns : List Int) (b : Nat) : cutV (ns.map V.int) none (some (b : Int)) = (ns.take b).map V.int := by
  unfold cutV
  rw [HT.sIx_nat, HT.sIx_none, List.length_map, List.drop_zero, Nat.sub_zero, ← List.map_take]
  congr 1
  by_cases h : b ≤ ns.length
  · rw [Nat.min_eq_left h]
  · rw [Nat.min_eq_right (by omega), List.take_length, List.take_of_length_le (by omega)]
theorem flat_ints (ns : List Int) : (ns.map V.int).all flatV = true := by
  rw [List.all_eq_true]
  intro x m
  obtain ⟨k, _, rfl⟩ := List.mem_map.mp m
  rfl
theorem inV_ints (x : Int) (ns : List Int) : inV (.int x) (ns.map V.int) = decide (x ∈ ns) := by
  unfold inV
  rw [List.any_map]
  induction ns with
  | nil => rfl
  | cons a r ih =>
    rw [List.any_cons, ih]
    show ((a == x) || decide (x ∈ r)) = _
    by_cases e : a = x
    · subst e
      simp
    · have e' : ¬ x = a := fun z => e z.symm
      simp [e, e']
theorem first_ix : ∀ (ls : List Int) (m : Int), m ∈ ls → ∃ j : Nat, ls[j]? = some m ∧ ∀ (i : Nat) (x : Int), i < j → ls[i]? = some x → x ≠ m
  | [], _, h => by cases h
  | a :: r, m, h => by
    by_cases e : a = m
    · exact ⟨0, by rw [e]; rfl, fun i x hi => by omega⟩
    · obtain ⟨j, h1, h2⟩ := first_ix r m (by rcases List.mem_cons.mp h with h | h; exact absurd h.symm e; exact h)
      refine ⟨j + 1, h1, fun i x hi hx => ?_⟩
      cases i with
      | zero =>
        obtain rfl : a = x := Option.some.inj hx
        exact e
      | succ i => exact h2 i x (by omega) hx
section
variable {P : Program} {w : World} {K : PySem.W.Frag} {mg : Str → Option Value} {base : Heap}
def spPrc (K : PySem.W.Frag) : Sp := fun vs H Q _ => ∃ (p pd : Addr) (xs : List Int) (a : Nat) (ks : List Nat), vs = [.ref p, .int (a : Int), .ref pd] ∧ SqL K H p (xs.map V.int) ∧ a ≤ 40000 ∧ H pd = some (.lst (bys ks)) ∧ (∀ k ∈ ks, k < 256) ∧ ks.length ≤ 42 ∧
  ∀ H' t pL pB L B, Same H H' → H' t = some (.tup [.ref pL, .ref pB]) → H' pL = some (.lst (L.map V.int)) → H' pB = some (.lst (B.map V.int)) → PrL 273 L → PrL 11 B → H t = none → H pL = none → H pB = none → Q (.ref t) H'
set_option maxHeartbeats 8000000 in
theorem ok_prices {f fC fT : Addr} {fd fdC fdT : FuncData} {j : Nat} (F : Fun K "_law_prices" "_law_prices" sPrices f fd)
    (GC : FnOk P w K mg base CX0 (j + 1) fC fdC ["_law_script", "_law_k"] (K4.spCell K)) (bC : Binds K fdC ["_law_script", "_law_k"] []) (kC : PySem.W.keepIn K (.ref fC) = true) (gC : mg "_law_cell_at" = some (.ref fC))
    (GT : FnOk P w K mg base CX0 (j + 1) fT fdT [] spTold) (bT : Binds K fdT [] []) (kT : PySem.W.keepIn K (.ref fT) = true) (gT : mg "_law_told_lengths" = some (.ref fT))
    (m1 : mg "sorted" = none) (m2 : mg "set" = none) (m3 : mg "range" = none) (m4 : mg "len" = none) (m5 : mg "int" = none) (m6 : mg "min" = none) (m7 : mg "zip" = none) (m8 : mg "max" = none) :
    FnOk P w K mg base CX0 (j + 2) f fd ["_law_script", "_law_at", "_law_data_here"] (spPrc K) := by
  refine F.ok scPrc (fun vs H Q E h => ?_) (fun cdv A outer s H vs Q E hr h => ?_)
  · obtain ⟨p, pd, xs, a, ks, rfl, _⟩ := h
    rfl
  · obtain ⟨p, pd, xs, a, ks, rfl, hp, ha, hpd, hk, hkl, q⟩ := h
    have hz := PySem.sizeLine_eq
    refine ⟨_, pss_cons (ps_set (i := 3) scPrc.nd rfl (.inr rfl) (pe_call GC hr (by rfl) gC kC bC .nil pass0 (pa_cons (pv 0) (pa_cons (pv 1) pa_nil))))
      (pss_cons (ps_if (pt_cmpR op_eq (pe_op op_modN (pv 3) pe_int) pe_int (nomark _)) (pss_one (ps_ret (pe_call0 GT hr (by rfl) gT kT bT .nil pass0))) pss_nil)
      (pss_cons (ps_set (i := 4) scPrc.nd rfl (.inl rfl) (pe_callB (cr_sortedSet rfl) (by rfl) m1 (by decide +kernel) (pa_cons (pe_callTy (SLX.cr_setI rfl) (by rfl) m2 (by decide +kernel) (pa_cons (pe_op op_cat (pe_op op_cat (pv 2) (pe_lst (pa_cons pe_int pa_nil)))
          (pe_lc (own := [("_law_k", 11)]) (g := gName 11) (tt := tYes) rfl scPrc.nd (pi_range1 (by rfl) m3 (pa_cons (pe_op op_modN (pe_op op_fdivN (pv 3) pe_int) pe_int) pa_nil)) (blkOk_by (N := NPr) (sc := defScope sPrices) (by decide +kernel))
            (fun _ _ _ _ _ => pg_name (i := 11) scPrc.nd rfl (.inl rfl)) (fun _ _ _ _ _ => pts_nil) (fun _ _ _ _ _ => pe_op op_add pe_int (pe_op op_modN (pe_op op_fdivN (pv 3) (pe_op op_add pe_int (pv 11))) pe_int)))) pa_nil)) pa_nil)))
      (pss_cons (ps_if (PW.pt (pw_and (pt_cmpR op_eq (pe_op op_modN (pv 3) pe_int) pe_int (nomark _)) (pw_and1 (pt_cmpR op_gt (pe_callB call_len_seq (by rfl) m4 PySem.boot_len (pa_cons (pv 4) pa_nil)) pe_int (nomark _)))))
        (pss_cons (ps_set (i := 4) scPrc.nd rfl (.inl rfl) (pe_slice sl_list (pv 4) po_none (po_some (pe_op op_add pe_int (pe_op op_modN (pe_op op_fdivN (pv 3) pe_int) (pe_callB call_len_seq (by rfl) m4 PySem.boot_len (pa_cons (pv 4) pa_nil)))))))
        (pss_one (ps_set (i := 4) scPrc.nd rfl (.inl rfl) (pe_op op_cat (pv 4) (pe_op op_rep (pe_lst (pa_cons pe_int pa_nil)) (pe_callTy call_int1 (by rfl) m5 (by decide +kernel) (pa_cons (pe_cmpR op_notIn_seq pe_int (pv 4) rfl) pa_nil)))))))
        pss_nil)
      (pss_cons (ps_set (i := 5) scPrc.nd rfl (.inl rfl) (pe_lst (pa_cons pe_int pa_nil)))
      (pss_cons (ps_while PassesOwn.never (pt_cmpR op_lt (pe_callB call_len_seq (by rfl) m4 PySem.boot_len (pa_cons (pv 5) pa_nil)) (pe_callB call_len_seq (by rfl) m4 PySem.boot_len (pa_cons (pv 4) pa_nil)) (nomark _))
        (pss_cons (ps_set (i := 6) scPrc.nd rfl (.inl rfl) (pe_op op_modN (pe_call GC hr (by rfl) gC kC bC .nil pass0 (pa_cons (pv 0) (pa_cons (pe_op op_add (pe_op op_add (pv 1) pe_int) (pe_callB call_len_seq (by rfl) m4 PySem.boot_len (pa_cons (pv 5) pa_nil))) pa_nil))) (pe_callB call_len_seq (by rfl) m4 PySem.boot_len (pa_cons (pv 5) pa_nil))))
        (pss_cons (ps_set (i := 6) scPrc.nd rfl (.inl rfl) (pe_ifExp (pt_cmpR op_lt (pe_ix ix_list (pv 5) (pv 6) (fun _ _ => rfl)) pe_int (nomark _)) (pv 6) (pe_bm PySem.F.plainAttrs_list PySem.F.slot_list_index PySem.F.type_list_index mt_index (pv 5) (pa_cons (pe_callB (cr_min rfl) (by rfl) m6 (by decide +kernel) (pa_cons (pv 5) pa_nil)) pa_nil))))
        (pss_cons (ps_asg (pe_op op_add (pe_ix ix_list (pv 5) (pv 6) (fun _ _ => rfl)) pe_int) (pg_sub (pv 5) (pv 6) set_list))
        (pss_one (ps_expr (pe_bm PySem.F.plainAttrs_list PySem.F.slot_list_append PySem.F.type_list_append mt_append (pv 5) (pa_cons (pe_ix ix_list (pv 5) (pv 6) (fun _ _ => rfl)) pa_nil))))))))
      (pss_cons (ps_set (i := 7) scPrc.nd rfl (.inl rfl) (pe_op op_rep (pe_lst (pa_cons pe_int pa_nil)) pe_int))
      (pss_cons (ps_for PassesOwn.never rfl (pi_zip (by rfl) m7 (pa_cons (pv 4) (pa_cons (pv 5) pa_nil))) (pg_tup (by rfl) (pgs_cons (pg_name (i := 8) scPrc.nd rfl (.inl rfl)) (pgs_cons (pg_name (i := 9) scPrc.nd rfl (.inl rfl)) pgs_nil)))
        (pss_one (ps_asg (pe_callB (call_max2 rfl) (by rfl) m8 (by decide +kernel) (pa_cons pe_int (pa_cons (pv 9) pa_nil))) (pg_sub (pv 7) (pv 8) set_list))))
      (pss_cons (ps_set (i := 10) scPrc.nd rfl (.inl rfl) (pe_ix ix_list (pe_lst (pa_cons (pe_op op_rep (pe_lst (pa_cons pe_int pa_nil)) pe_int) (pa_cons (pe_op op_cat (pe_lst (pa_cons pe_int (pa_cons pe_int pa_nil))) (pe_op op_rep (pe_lst (pa_cons pe_int pa_nil)) pe_int))
          (pa_cons (pe_op op_cat (pe_lst (pa_cons pe_int (pa_cons pe_int (pa_cons pe_int (pa_cons pe_int pa_nil))))) (pe_op op_rep (pe_lst (pa_cons pe_int pa_nil)) pe_int)) (pa_cons (pe_op op_cat (pe_op op_rep (pe_lst (pa_cons pe_int pa_nil)) pe_int) (pe_op op_rep (pe_lst (pa_cons pe_int pa_nil)) pe_int)) pa_nil)))))
          (pe_op op_modN (pe_op op_fdivN (pv 3) pe_int) pe_int) (fun _ _ => rfl)))
      (pss_cons (ps_set (i := 10) scPrc.nd rfl (.inl rfl) (pe_ifExp (pt_cmpR op_eq (pe_op op_modN (pe_op op_fdivN (pv 3) pe_int) pe_int) pe_int (nomark _)) (pe_lst (pa_cons pe_int (pa_cons pe_int (pa_cons pe_int (pa_cons pe_int (pa_cons pe_int (pa_cons pe_int (pa_cons pe_int (pa_cons pe_int (pa_cons pe_int (pa_cons pe_int (pa_cons pe_int pa_nil)))))))))))) (pv 10)))
      (pss_one (ps_ret (pe_tup (pa_cons (pv 7) (pa_cons (pv 10) pa_nil)))))))))))))), ?_⟩
    refine ⟨_, rfl, _, rfl, p, xs, a, rfl, hp, by omega, fun H1 s1 => ?_⟩
    generalize cellAt xs a = c
    have hpd1 := s1 _ _ hpd
    refine ⟨_, rfl, _, _, rfl, rfl, (by show (3 : Int) ≠ 0; decide), rfl, _, rfl, ite2 (fun e => ?_) (fun e => ?_)⟩
    · exact ⟨rfl, fun H2 t pL pB s2 ht hL hB nt nL nB => q H2 t pL pB toldL toldB (s1.trans s2) ht hL hB told_good.1 told_good.2 (none_back s1 nt) (none_back s1 nL) (none_back s1 nB)⟩
    clear e
    refine ⟨_, rfl, (by show 1 ≤ sizeLine; omega), fun z nz => ?_⟩
    have s2 := s1.trans (same_upd (o := .lst [.int 256]) nz)
    have hz2 : (upd H1 z (.lst [.int 256])) z = some (.lst [.int 256]) := upd_same
    have hpd2 : (upd H1 z (.lst [.int 256])) pd = some (.lst (bys ks)) := same_upd nz _ _ hpd1
    generalize upd H1 z (.lst [.int 256]) = H2 at *
    refine ⟨pd, z, _, _, rfl, rfl, hpd2, hz2, (by rw [bys_len]; simp; omega), fun r nr => ?_⟩
    have s3 := s2.trans (same_upd (o := .lst (bys ks ++ [.int 256])) nr)
    have hr3 : (upd H2 r (.lst (bys ks ++ [.int 256]))) r = some (.lst (bys ks ++ [.int 256])) := upd_same
    generalize upd H2 r (.lst (bys ks ++ [.int 256])) = H3 at *
    have hm6 := fmod_in (a := c.fdiv 7) (l := 6) (by decide)
    refine ⟨_, rfl, _, _, rfl, rfl, ⟨by decide, by decide⟩, _, _, rfl, rfl, (by show (6 : Int) ≠ 0; decide), _, rfl, by omega, by omega, fun C nC => ?_⟩
    refine lc_range (lo := 0) (n := ((c.fdiv 7).fmod 6).toNat) (fun i H' => ∃ es : List Int, Same H3 H' ∧ H' C = some (.lst (es.map V.int)) ∧ es.length = i ∧ ∀ e ∈ es, 257 ≤ e ∧ e < 273) ⟨[], same_upd nC, upd_same, rfl, fun k m => by (cases m)⟩ (fun i H4 hi h => ?_) (fun H4 h => ?_)
    · obtain ⟨es, s34, hC, hl, he⟩ := h
      have hm := fmod_in (a := c.fdiv (3 + (0 + (i : Int)))) (l := 16) (by decide)
      refine ⟨rfl, yes ?_⟩
      refine ⟨_, rfl, _, rfl, _, _, rfl, rfl, _, _, rfl, rfl, ⟨by omega, by omega⟩, _, _, rfl, rfl, (by show (16 : Int) ≠ 0; decide), _, _, rfl, rfl, _, hC, (by rw [List.length_map, hz]; omega), ?_⟩
      refine ⟨es ++ [257 + (c.fdiv (3 + (0 + (i : Int)))).fmod 16], same_put s34 nC, (by rw [upd_same, List.map_append]; rfl), by simp [hl], fun k m => ?_⟩
      rcases List.mem_append.mp m with m | m
      · exact he k m
      · rw [List.mem_singleton.mp m]
        omega
    obtain ⟨es, s34, hC, hl, he⟩ := h
    have s4 := s3.trans s34
    have hr4 := s34 _ _ hr3
    refine ⟨r, C, _, _, rfl, rfl, hr4, hC, (by rw [List.length_append, bys_len, List.length_map]; simp; omega), fun r2 nr2 => ?_⟩
    have eA : bys ks ++ [V.int 256] ++ es.map V.int = (ks.map (fun k : Nat => (k : Int)) ++ [256] ++ es).map V.int := by
      unfold bys
      rw [List.map_append, List.map_append]
      rfl
    rw [eA]
    have hA : ∀ k ∈ ks.map (fun k : Nat => (k : Int)) ++ [256] ++ es, 0 ≤ k ∧ k < 273 := fun k m => by
      rcases List.mem_append.mp m with m | m
      · rcases List.mem_append.mp m with m | m
        · obtain ⟨k', m', rfl⟩ := List.mem_map.mp m
          have := hk k' m'
          show (0 : Int) ≤ (k' : Int) ∧ (k' : Int) < 273
          omega
        · rw [List.mem_singleton.mp m]
          decide
      · have := he k m
        omega
    have hA256 : (256 : Int) ∈ ks.map (fun k : Nat => (k : Int)) ++ [256] ++ es := List.mem_append_left _ (List.mem_append_right _ (List.mem_singleton_self _))
    have hAl : (ks.map (fun k : Nat => (k : Int)) ++ [256] ++ es).length ≤ 48 := by
      rw [List.length_append, List.length_append, List.length_map]
      simp
      omega
    generalize ks.map (fun k : Nat => (k : Int)) ++ [256] ++ es = As at *
    refine ⟨r2, As, rfl, .inl (.inl upd_same), (by have : scanBound = 4096 := rfl; omega), fun pS n npS hn => ?_⟩
    refine ⟨pS, _, n, rfl, upd_same, by omega, fun ns ps pw mem len nps => ?_⟩
    have s5 := s4.trans (same_upd (o := .lst (As.map V.int)) nr2)
    generalize upd H4 r2 (.lst (As.map V.int)) = H5 at *
    have s7 := (s5.trans (same_upd npS)).trans (same_upd (o := .lst (ns.map V.int)) nps)
    have hps : (upd (upd H5 pS (SetO (cxOf CX0 P w K mg base NPr "_law_prices" (defScope sPrices) f cdv A outer s H E).nox.w pS (fun j => decide (j ∈ As)) n)) ps (.lst (ns.map V.int))) ps = some (.lst (ns.map V.int)) := upd_same
    generalize upd (upd H5 pS (SetO (cxOf CX0 P w K mg base NPr "_law_prices" (defScope sPrices) f cdv A outer s H E).nox.w pS (fun j => decide (j ∈ As)) n)) ps (.lst (ns.map V.int)) = H7 at *
    have hn1 : ∀ k ∈ ns, 0 ≤ k ∧ k < 273 := fun k m => hA k (of_decide_eq_true ((mem k).mp m))
    have hn2 : 0 < ns.length := List.length_pos_of_mem ((mem 256).mpr (decide_eq_true hA256))
    have hnd : ns.Nodup := pw.imp fun h => Int.ne_of_lt h
    have hn3 : ns.length ≤ 48 := by omega
    clear s2 s3 s34 s4 s5 hz2 hpd2 hr3 hr4 hC eA hA hA256 hAl npS nps nr2 nC nr nz hl he mem len hn pw hpd1 hm6
    obtain ⟨M1, hM1⟩ : ∃ M : L2.St → Hp → Prop, M = (fun σ' H' => ∃ (ps : Addr) (so : List Int), σ' = [some (.ref p), some (.int (a : Int)), some (.ref pd), some (.int c), some (.ref ps), none, none, none, none, none, none, none] ∧ Same H H' ∧ H' ps = some (.lst (so.map V.int)) ∧ (∀ k ∈ so, 0 ≤ k ∧ k < 273) ∧ so.Nodup ∧ 0 < so.length ∧ so.length ≤ 49) := ⟨_, rfl⟩
    dsimp only [gName]
    with_reducible refine seq_mid M1 (fun N hN => ?_) (fun σ8 H8 h => ?_)
    · subst hM1
      have no : N [some (.ref p), some (.int (a : Int)), some (.ref pd), some (.int c), some (.ref ps), none, none, none, none, none, none, none] H7 := hN _ _ ⟨ps, ns, rfl, s7, hps, hn1, hnd, hn2, by omega⟩
      refine ⟨_, rfl, _, _, rfl, rfl, (by show (3 : Int) ≠ 0; decide), rfl, _, rfl, ite2 (fun e => ⟨_, rfl, ps, _, rfl, .inl (.inl (.inl hps)), _, _, rfl, rfl, _, rfl, ite2 (fun e2 => ?_) (fun e2 => no)⟩) (fun e => no)⟩
      have hm := fmod_in (a := c.fdiv 50) (l := ((ns.map V.int).length : Int)) (by rw [List.length_map]; omega)
      obtain ⟨b, eb⟩ := nat_of hm.1
      rw [eb] at hm
      refine ⟨_, rfl, _, rfl, _, _, rfl, rfl, ⟨by decide, by decide⟩, _, rfl, ps, _, rfl, .inl (.inl (.inl hps)), _, _, rfl, rfl, (by rw [List.length_map]; omega), _, _, rfl, rfl, _, rfl, ps, _, rfl, .inl (.inl hps), fun r nr => ?_⟩
      have ecut : cutV (ns.map V.int) none (some (1 + (c.fdiv 50).fmod ((ns.map V.int).length : Int))) = (ns.take (b + 1)).map V.int := by
        rw [eb, show (1 : Int) + (b : Int) = ((b + 1 : Nat) : Int) by omega]
        exact ints_to ns (b + 1)
      rw [ecut]
      have s8 := s7.trans (same_upd (o := .lst ((ns.take (b + 1)).map V.int)) nr)
      have hr8 : (upd H7 r (.lst ((ns.take (b + 1)).map V.int))) r = some (.lst ((ns.take (b + 1)).map V.int)) := upd_same
      generalize upd H7 r (.lst ((ns.take (b + 1)).map V.int)) = H8 at *
      have hm1 : ∀ k ∈ ns.take (b + 1), 0 ≤ k ∧ k < 273 := fun k m => hn1 k (List.mem_of_mem_take m)
      have hmd : (ns.take (b + 1)).Nodup := hnd.sublist (List.take_sublist ..)
      have hml : (ns.take (b + 1)).length ≤ 48 ∧ 0 < (ns.take (b + 1)).length := by
        rw [List.length_take]
        omega
      generalize ns.take (b + 1) = ms at *
      refine ⟨_, rfl, (by show 1 ≤ sizeLine; omega), fun z nz => ?_⟩
      have s9 := s8.trans (same_upd (o := .lst [.int 256]) nz)
      have hr9 : (upd H8 z (.lst [.int 256])) r = some (.lst (ms.map V.int)) := same_upd nz _ _ hr8
      have hz9 : (upd H8 z (.lst [.int 256])) z = some (.lst [.int 256]) := upd_same
      generalize upd H8 z (.lst [.int 256]) = H9 at *
      refine ⟨_, rfl, r, _, rfl, .inl (.inl (.inl hr9)), rfl, flat_ints ms, .inr ⟨_, rfl, ?_⟩⟩
      rw [inV_ints]
      have two : ∀ (y : Int), y = 0 ∨ (y = 1 ∧ 256 ∉ ms) → ∀ H10 r10, Same H9 H10 → H10 r10 = some (.lst ((ms ++ List.replicate y.toNat 256).map V.int)) → N [some (.ref p), some (.int (a : Int)), some (.ref pd), some (.int c), some (.ref r10), none, none, none, none, none, none, none] H10 := fun y hy H10 r10 s10 h10 => hN _ _ ⟨r10, _, rfl, s9.trans s10, h10, fun k m => ?_, ?_, ?_, ?_⟩
      · by_cases h256 : (256 : Int) ∈ ms
        · rw [show decide ((256 : Int) ∈ ms) = true from decide_eq_true h256]
          refine ⟨z, 0, _, rfl, rfl, hz9, by decide, by decide, by simp, fun r1 nr1 => ?_⟩
          refine ⟨r, r1, _, _, rfl, rfl, same_upd nr1 _ _ hr9, upd_same, (by rw [List.length_map]; simp; omega), fun r10 nr10 => ?_⟩
          exact two 0 (.inl rfl) _ r10 ((same_upd nr1).trans (same_upd nr10)) (by rw [upd_same]; simp)
        · rw [show decide ((256 : Int) ∈ ms) = false from decide_eq_false h256]
          refine ⟨z, 1, _, rfl, rfl, hz9, by decide, by decide, (by rw [hz]; simp), fun r1 nr1 => ?_⟩
          refine ⟨r, r1, _, _, rfl, rfl, same_upd nr1 _ _ hr9, upd_same, (by rw [List.length_map]; simp; omega), fun r10 nr10 => ?_⟩
          exact two 1 (.inr ⟨rfl, h256⟩) _ r10 ((same_upd nr1).trans (same_upd nr10)) (by rw [upd_same, List.map_append]; rfl)
      · rcases List.mem_append.mp m with m | m
        · exact hm1 k m
        · rw [List.eq_of_mem_replicate m]
          decide
      · rcases hy with rfl | ⟨rfl, h⟩
        · simpa using hmd
        · refine List.nodup_append.mpr ⟨hmd, by simp, fun x hx y hy e => ?_⟩
          subst e
          rw [List.eq_of_mem_replicate hy] at hx
          exact h hx
      · rw [List.length_append]
        omega
      · rw [List.length_append, List.length_replicate]
        omega
    · subst hM1
      obtain ⟨ps, so, rfl, s8, hps8, ho1, hod, ho2, ho3⟩ := h
      clear hps hn1 hn2 hn3 hnd s7
      refine ⟨(by show 1 ≤ sizeLine; omega), fun pl npl => ?_⟩
      have npl0 := none_back s8 npl
      have neps : ps ≠ pl := ne_of_none hps8 npl
      have s9 := s8.trans (same_upd (o := .lst [.int 0]) npl)
      have hpl9 : (upd H8 pl (.lst [.int 0])) pl = some (.lst (([0] : List Int).map V.int)) := upd_same
      have hps9 : (upd H8 pl (.lst [.int 0])) ps = some (.lst (so.map V.int)) := same_upd npl _ _ hps8
      generalize upd H8 pl (.lst [.int 0]) = H9 at *
      obtain ⟨M2, hM2⟩ : ∃ M : L2.St → Hp → Prop, M = (fun σ' H' => ∃ (y6 : Option V) (ls : List Int), σ' = [some (.ref p), some (.int (a : Int)), some (.ref pd), some (.int c), some (.ref ps), some (.ref pl), y6, none, none, none, none, none] ∧ Same H H' ∧ H' ps = some (.lst (so.map V.int)) ∧ H' pl = some (.lst (ls.map V.int)) ∧ LvOk ls ∧ ls.length = so.length) := ⟨_, rfl⟩
      dsimp only [gName]
      with_reducible refine seq_mid M2 (fun N hN => ?_) (fun σa Ha h => ?_)
      · subst hM2
        refine ⟨fun m σ H' => ∃ (y6 : Option V) (ls : List Int), σ = [some (.ref p), some (.int (a : Int)), some (.ref pd), some (.int c), some (.ref ps), some (.ref pl), y6, none, none, none, none, none] ∧ Same H H' ∧ H' ps = some (.lst (so.map V.int)) ∧ H' pl = some (.lst (ls.map V.int)) ∧ LvOk ls ∧ ls.length ≤ so.length ∧ m = so.length - ls.length,
          ⟨_, none, [0], rfl, s9, hps9, hpl9, lv_start, ho2, rfl⟩, fun m σ Hw hW => ?_⟩
        obtain ⟨y6, ls, rfl, sw, hpsw, hplw, lv, hle, rfl⟩ := hW
        have el : (ls.map V.int).length = ls.length := List.length_map ..
        have eo : (so.map V.int).length = so.length := List.length_map ..
        have hlp := lv.pos
        refine ⟨_, rfl, pl, _, rfl, .inl (.inl (.inl hplw)), _, rfl, ps, _, rfl, .inl (.inl (.inl hpsw)), _, _, rfl, rfl, _, rfl, ite2 (fun e => ?_) (fun e => ?_)⟩
        · have hlt : ls.length < so.length := by
            have := of_decide_eq_true e
            omega
          refine ⟨_, fun _ _ h => h, ?_⟩
          refine ⟨_, rfl, _, rfl, _, _, rfl, rfl, _, rfl, pl, _, rfl, .inl (.inl (.inl hplw)), _, _, rfl, rfl, p, xs, a + 1 + ls.length, ?_, sw.seq hp, by omega, fun H10 s10 => ?_⟩
          · show [V.ref p, V.int ((a : Int) + 1 + ((ls.map V.int).length : Int))] = _
            rw [el]
            congr 3
          have hpl10 := s10 _ _ hplw
          have hps10 := s10 _ _ hpsw
          have sw10 := sw.trans s10
          have hm := fmod_in (a := cellAt xs (a + 1 + ls.length)) (l := ((ls.map V.int).length : Int)) (by omega)
          obtain ⟨j0, ej⟩ := nat_of hm.1
          rw [ej] at hm
          refine ⟨_, rfl, pl, _, rfl, .inl (.inl (.inl hpl10)), _, _, rfl, rfl, (by omega), ?_⟩
          have hj0 : j0 < ls.length := by omega
          have at_ : ∀ k : Nat, k < ls.length → ∃ x, ls[k]? = some x ∧ atI (ls.map V.int) (k : Int) = some (.int x) := fun k hk => ⟨ls[k], List.getElem?_eq_getElem hk, atI_nat (by rw [List.getElem?_map, List.getElem?_eq_getElem hk]; rfl)⟩
          obtain ⟨M3, hM3⟩ : ∃ M : L2.St → Hp → Prop, M = (fun σ' H' => ∃ (k : Nat) (x : Int), σ' = [some (.ref p), some (.int (a : Int)), some (.ref pd), some (.int c), some (.ref ps), some (.ref pl), some (.int (k : Int)), none, none, none, none, none] ∧ H10 = H' ∧ ls[k]? = some x ∧ x < 12) := ⟨_, rfl⟩
          dsimp only [gName]
          rw [ej]
          with_reducible refine seq_mid M3 (fun N2 hN2 => ?_) (fun σb Hb h => ?_)
          · subst hM3
            obtain ⟨x0, hx0, hx0'⟩ := at_ j0 hj0
            refine ⟨_, rfl, _, rfl, pl, _, _, _, rfl, rfl, .inl (.inl hpl10), hx0', _, _, rfl, rfl, _, rfl, ite2 (fun e5 => ?_) (fun e5 => ?_)⟩
            · exact ⟨_, rfl, hN2 _ _ ⟨j0, x0, rfl, rfl, hx0, of_decide_eq_true e5⟩⟩
            · refine ⟨_, rfl, .inl ⟨rfl, _, .inl (.inl hpl10)⟩, _, rfl, pl, ls, rfl, .inl (.inl hpl10), hlp, fun mm hmm hmin => ?_⟩
              obtain ⟨jj, hj1, hj2⟩ := first_ix ls mm hmm
              refine ⟨pl, _, .int mm, jj, .int mm, rfl, rfl, .inl (.inl hpl10), rfl, flat_ints ls, (by rw [List.getElem?_map, hj1]; rfl), (by show (mm == mm) = true; simp), fun i z' hi hz' => ?_, ?_⟩
              · rw [List.getElem?_map] at hz'
                obtain ⟨x', hx', rfl⟩ := Option.map_eq_some_iff.mp hz'
                have := hj2 i x' hi hx'
                show (x' == mm) = false
                simpa using this
              · exact hN2 _ _ ⟨jj, mm, rfl, rfl, hj1, lv_min lv (by omega) hmin⟩
          · subst hM3
            obtain ⟨k, x, rfl, rfl, hkx, hx12⟩ := h
            have hkl' : k < ls.length := (List.getElem?_eq_some_iff.mp hkx).1
            have hat : atI (ls.map V.int) (k : Int) = some (.int x) := atI_nat (by rw [List.getElem?_map, hkx]; rfl)
            refine ⟨_, rfl, _, rfl, pl, _, _, _, rfl, rfl, .inl (.inl hpl10), hat, _, _, rfl, rfl, _, rfl, _, rfl, pl, _, _, k, rfl, rfl, hpl10, ixN_natK (by omega), ?_⟩
            have lv2 := lv_split lv hkx hx12
            have e11 : (upd H10 pl (.lst ((ls.map V.int).set k (.int (x + 1))))) pl = some (.lst ((ls.set k (x + 1)).map V.int)) := by
              rw [upd_same, List.map_set]
            have ps11 : (upd H10 pl (.lst ((ls.map V.int).set k (.int (x + 1))))) ps = some (.lst (so.map V.int)) := by
              rw [upd_ne neps]
              exact hps10
            have s11 : Same H (upd H10 pl (.lst ((ls.map V.int).set k (.int (x + 1))))) := same_put sw10 npl0
            generalize upd H10 pl (.lst ((ls.map V.int).set k (.int (x + 1)))) = H11 at *
            have hat2 : atI ((ls.set k (x + 1)).map V.int) (k : Int) = some (.int (x + 1)) := atI_nat (by rw [List.getElem?_map, List.getElem?_set_self hkl']; rfl)
            refine ⟨_, rfl, .inl ⟨rfl, _, .inl (.inl e11)⟩, _, rfl, _, rfl, pl, _, _, _, rfl, rfl, .inl (.inl e11), hat2, pl, _, _, rfl, rfl, e11, (by rw [List.length_map, List.length_set]; omega), ?_⟩
            refine ⟨so.length - (ls.length + 1), by omega, _, ls.set k (x + 1) ++ [x + 1], rfl, same_put s11 npl0, ?_, ?_, lv2, ?_, ?_⟩
            · rw [upd_ne neps]
              exact ps11
            · rw [upd_same, List.map_append]
              rfl
            · rw [List.length_append, List.length_set]
              show ls.length + 1 ≤ _
              omega
            · rw [List.length_append, List.length_set]
              rfl
        · refine hN _ _ ⟨y6, ls, rfl, sw, hpsw, hplw, lv, ?_⟩
          have : ¬ ((ls.map V.int).length : Int) < ((so.map V.int).length : Int) := fun z => e (decide_eq_true z)
          omega
      · subst hM2
        obtain ⟨y6, ls, rfl, sa, hpsa, hpla, lv, hle⟩ := h
        clear s8 hps8 npl s9 hpl9 hps9
        refine ⟨(by show 1 ≤ sizeLine; omega), fun z nz => ?_⟩
        have sz := same_upd (o := .lst [.int 0]) nz
        have hz1 : (upd Ha z (.lst [.int 0])) z = some (.lst [.int 0]) := upd_same
        generalize upd Ha z (.lst [.int 0]) = Hb at *
        refine ⟨z, 273, _, rfl, rfl, hz1, by decide, by decide, (by rw [hz]; simp), fun pL npL => ?_⟩
        rw [rep_flat]
        have sL := same_upd (o := .lst (List.replicate (273 : Int).toNat (.int 0))) npL
        have hL1 : (upd Hb pL (.lst (List.replicate (273 : Int).toNat (.int 0)))) pL = some (.lst ((List.replicate 273 (0 : Int)).map V.int)) := by
          rw [upd_same, List.map_replicate]
          rfl
        have npL0 := none_back (sa.trans sz) npL
        have neL1 : ps ≠ pL := ne_of_none (sz _ _ hpsa) npL
        have neL2 : pl ≠ pL := ne_of_none (sz _ _ hpla) npL
        have sb := (sa.trans sz).trans sL
        have hpsb := sL _ _ (sz _ _ hpsa)
        have hplb := sL _ _ (sz _ _ hpla)
        generalize upd Hb pL (.lst (List.replicate (273 : Int).toNat (.int 0))) = Hc at *
        refine ⟨_, rfl, _, rfl, ps, pl, _, _, rfl, .inl (.inl hpsb), .inl (.inl hplb), ?_⟩
        refine RZ.for_zipL (K := K) (a := ps) (b := pl) (xs := so.map V.int) (ys := ls.map V.int) (by rw [List.length_map, List.length_map]; omega) (fun i σ H' => ∃ (y8 y9 : Option V) (L : List Int), σ = [some (.ref p), some (.int (a : Int)), some (.ref pd), some (.int c), some (.ref ps), some (.ref pl), y6, some (.ref pL), y8, y9, none, none] ∧ Same H H' ∧ H' ps = some (.lst (so.map V.int)) ∧ H' pl = some (.lst (ls.map V.int)) ∧ H' pL = some (.lst (L.map V.int)) ∧ L.length = 273 ∧ (∀ x ∈ L, 0 ≤ x ∧ x ≤ 12) ∧ (usedL L).Perm ((ls.take i).map mx1) ∧ ∀ (j : Nat) (k : Int), i ≤ j → so[j]? = some k → L[k.toNat]? = some 0)
          ⟨none, none, List.replicate 273 0, rfl, sb, hpsb, hplb, hL1, List.length_replicate .., fun x m => by rw [List.eq_of_mem_replicate m]; decide, ?_, fun j k _ hk => ?_⟩ (fun i σ H' h => ?_) (fun i x y T σ H' hx hy h nT => ?_) (fun σ H' h => ?_)
        · have : usedL (List.replicate 273 (0 : Int)) = [] := by decide +kernel
          rw [this]
          exact List.Perm.refl _
        · have := ho1 k (List.mem_of_getElem? hk)
          rw [List.getElem?_replicate, if_pos (by omega)]
        · obtain ⟨y8, y9, L, _, _, h1, h2, _⟩ := h
          exact ⟨.inl (.inl h1), .inl (.inl h2)⟩
        · obtain ⟨y8, y9, L, rfl, sc, h1, h2, h3, lL, bL, pm, zr⟩ := h
          rw [List.getElem?_map] at hx hy
          obtain ⟨k, hk', rfl⟩ := Option.map_eq_some_iff.mp hx
          obtain ⟨v, hv, rfl⟩ := Option.map_eq_some_iff.mp hy
          have kr := ho1 k (List.mem_of_getElem? hk')
          have vr := lv.le v (List.mem_of_getElem? hv)
          have hk0 := zr i k (Nat.le_refl _) hk'
          have sT := same_upd (o := .tup [.int k, .int v]) nT
          have hT : (upd H' T (.tup [.int k, .int v])) T = some (.tup [.int k, .int v]) := upd_same
          have h1' := sT _ _ h1
          have h2' := sT _ _ h2
          have h3' := sT _ _ h3
          have sd := sc.trans sT
          generalize upd H' T (.tup [.int k, .int v]) = Hd at *
          refine ⟨T, _, rfl, .inl (.inl hT), rfl, _, _, rfl, _, _, rfl, rfl, ?_⟩
          refine ⟨_, rfl, _, _, rfl, _, rfl, _, rfl, pL, _, _, k.toNat, rfl, rfl, h3', ?_, ?_⟩
          · rw [List.length_map, show k = ((k.toNat : Nat) : Int) by omega]
            exact ixN_natK (by omega)
          have em : (if v > 1 then v else 1) = mx1 v := rfl
          rw [em]
          have hm0 : 0 < mx1 v ∧ mx1 v ≤ 12 := by
            unfold mx1
            split <;> omega
          refine ⟨_, _, L.set k.toNat (mx1 v), rfl, same_put sd npL0, ?_, ?_, ?_, ?_, ?_, ?_, ?_⟩
          · rw [upd_ne neL1]
            exact h1'
          · rw [upd_ne neL2]
            exact h2'
          · rw [upd_same, List.map_set]
          · rw [List.length_set]
            exact lL
          · intro x m
            rcases List.mem_or_eq_of_mem_set m with m | m
            · exact bL x m
            · subst m
              omega
          · refine (used_set L k.toNat (mx1 v) hk0 hm0.1).trans ?_
            rw [List.take_add_one, hv, List.map_append]
            exact (pm.cons (mx1 v)).trans (List.perm_append_singleton (mx1 v) _).symm
          · intro j k2 hj hk2
            have k2r := ho1 k2 (List.mem_of_getElem? hk2)
            have nek : k.toNat ≠ k2.toNat := fun z => by
              have ek : k = k2 := by omega
              subst ek
              have i1 := (List.getElem?_eq_some_iff.mp hk')
              have i2 := (List.getElem?_eq_some_iff.mp hk2)
              obtain ⟨q1, q2⟩ := i1
              obtain ⟨q3, q4⟩ := i2
              exact List.pairwise_iff_getElem.mp hod i j q1 q3 (by omega) (q2.trans q4.symm)
            rw [List.getElem?_set_ne nek]
            exact zr j k2 (by omega) hk2
        · obtain ⟨y8, y9, L, rfl, sc, h1, h2, h3, lL, bL, pm, zr⟩ := h
          rw [List.length_map, ← hle, List.take_length] at pm
          have gL : PrL 273 L := ⟨lL, bL, good_of lv pm⟩
          clear pm zr h1 h2 bL lL sb hpsb hplb hL1 sL sz
          obtain ⟨M4, hM4⟩ : ∃ M : L2.St → Hp → Prop, M = (fun σ' H2 => ∃ (pB : Addr) (B : List Int), σ' = [some (.ref p), some (.int (a : Int)), some (.ref pd), some (.int c), some (.ref ps), some (.ref pl), y6, some (.ref pL), y8, y9, some (.ref pB), none] ∧ Same H' H2 ∧ H2 pB = some (.lst (B.map V.int)) ∧ PrL 11 B ∧ H' pB = none) := ⟨_, rfl⟩
          with_reducible refine seq_mid M4 (fun N hN => ?_) (fun σ5 H5 h => ?_)
          · subst hM4
            have hi := fmod_in (a := c.fdiv 3) (l := 4) (by decide)
            obtain ⟨i4, e4⟩ := nat_of hi.1
            rw [e4] at hi
            refine ⟨(by show 1 ≤ sizeLine; omega), fun z1 n1 => ?_⟩
            have t1 := same_upd (o := .lst [.int 0]) n1
            have a1 : (upd H' z1 (.lst [.int 0])) z1 = some (.lst [.int 0]) := upd_same
            generalize upd H' z1 (.lst [.int 0]) = J1 at *
            refine ⟨z1, 11, _, rfl, rfl, a1, by decide, by decide, (by rw [hz]; simp), fun b1 m1 => ?_⟩
            have t2 := t1.trans (same_upd (o := .lst (List.replicate (11 : Int).toNat [.int 0]).flatten) m1)
            have a2 : (upd J1 b1 (.lst (List.replicate (11 : Int).toNat [.int 0]).flatten)) b1 = some (.lst (([0, 0, 0, 0, 0, 0, 0, 0, 0, 0, 0] : List Int).map V.int)) := upd_same
            have nb1 := none_back t1 m1
            generalize upd J1 b1 (.lst (List.replicate (11 : Int).toNat [.int 0]).flatten) = J2 at *
            refine ⟨(by show 2 ≤ sizeLine; omega), fun z2 n2 => ?_⟩
            have t3 := same_upd (o := .lst [.int 1, .int 1]) n2
            have a3 : (upd J2 z2 (.lst [.int 1, .int 1])) z2 = some (.lst [.int 1, .int 1]) := upd_same
            generalize upd J2 z2 (.lst [.int 1, .int 1]) = J3 at *
            refine ⟨(by show 1 ≤ sizeLine; omega), fun z3 n3 => ?_⟩
            have t4 := same_upd (o := .lst [.int 0]) n3
            have a4 : (upd J3 z3 (.lst [.int 0])) z3 = some (.lst [.int 0]) := upd_same
            generalize upd J3 z3 (.lst [.int 0]) = J4 at *
            refine ⟨z3, 9, _, rfl, rfl, a4, by decide, by decide, (by rw [hz]; simp), fun z4 n4 => ?_⟩
            have t5 := same_upd (o := .lst (List.replicate (9 : Int).toNat [.int 0]).flatten) n4
            have a5 : (upd J4 z4 (.lst (List.replicate (9 : Int).toNat [.int 0]).flatten)) z4 = some (.lst (List.replicate (9 : Int).toNat [.int 0]).flatten) := upd_same
            generalize upd J4 z4 (.lst (List.replicate (9 : Int).toNat [.int 0]).flatten) = J5 at *
            refine ⟨z2, z4, _, _, rfl, rfl, t5 _ _ (t4 _ _ a3), a5, (by rw [hz]; decide), fun b2 m2 => ?_⟩
            have u2 := ((t2.trans t3).trans t4).trans t5
            have nb2 := none_back u2 m2
            have t6 := u2.trans (same_upd (o := .lst ([.int 1, .int 1] ++ (List.replicate (9 : Int).toNat [.int 0]).flatten)) m2)
            have v1 := (((t3.trans t4).trans t5).trans (same_upd (o := .lst ([.int 1, .int 1] ++ (List.replicate (9 : Int).toNat [.int 0]).flatten)) m2)) _ _ a2
            have a6 : (upd J5 b2 (.lst ([.int 1, .int 1] ++ (List.replicate (9 : Int).toNat [.int 0]).flatten))) b2 = some (.lst (([1, 1, 0, 0, 0, 0, 0, 0, 0, 0, 0] : List Int).map V.int)) := upd_same
            generalize upd J5 b2 (.lst ([.int 1, .int 1] ++ (List.replicate (9 : Int).toNat [.int 0]).flatten)) = J6 at *
            clear t1 t2 t3 t4 t5 u2 a1 a2 a3 a4 a5 n1 m1 n2 n3 n4 m2
            refine ⟨(by show 4 ≤ sizeLine; omega), fun z5 n5 => ?_⟩
            have t1 := same_upd (o := .lst [.int 2, .int 0, .int 2, .int 1]) n5
            have a1 : (upd J6 z5 (.lst [.int 2, .int 0, .int 2, .int 1])) z5 = some (.lst [.int 2, .int 0, .int 2, .int 1]) := upd_same
            generalize upd J6 z5 (.lst [.int 2, .int 0, .int 2, .int 1]) = J7 at *
            refine ⟨(by show 1 ≤ sizeLine; omega), fun z6 n6 => ?_⟩
            have t2 := same_upd (o := .lst [.int 0]) n6
            have a2 : (upd J7 z6 (.lst [.int 0])) z6 = some (.lst [.int 0]) := upd_same
            generalize upd J7 z6 (.lst [.int 0]) = J8 at *
            refine ⟨z6, 7, _, rfl, rfl, a2, by decide, by decide, (by rw [hz]; simp), fun z7 n7 => ?_⟩
            have t3 := same_upd (o := .lst (List.replicate (7 : Int).toNat [.int 0]).flatten) n7
            have a3 : (upd J8 z7 (.lst (List.replicate (7 : Int).toNat [.int 0]).flatten)) z7 = some (.lst (List.replicate (7 : Int).toNat [.int 0]).flatten) := upd_same
            generalize upd J8 z7 (.lst (List.replicate (7 : Int).toNat [.int 0]).flatten) = J9 at *
            refine ⟨z5, z7, _, _, rfl, rfl, t3 _ _ (t2 _ _ a1), a3, (by rw [hz]; decide), fun b3 m3 => ?_⟩
            have u3 := (t1.trans t2).trans t3
            have nb3 := none_back (t6.trans u3) m3
            have t4 := u3.trans (same_upd (o := .lst ([.int 2, .int 0, .int 2, .int 1] ++ (List.replicate (7 : Int).toNat [.int 0]).flatten)) m3)
            have a4 : (upd J9 b3 (.lst ([.int 2, .int 0, .int 2, .int 1] ++ (List.replicate (7 : Int).toNat [.int 0]).flatten))) b3 = some (.lst (([2, 0, 2, 1, 0, 0, 0, 0, 0, 0, 0] : List Int).map V.int)) := upd_same
            have v1' := t4 _ _ v1
            have v2' := t4 _ _ a6
            have t7 := t6.trans t4
            generalize upd J9 b3 (.lst ([.int 2, .int 0, .int 2, .int 1] ++ (List.replicate (7 : Int).toNat [.int 0]).flatten)) = J10 at *
            clear t1 t2 t3 t4 u3 a1 a2 a3 n5 n6 n7 m3 v1 a6 t6
            refine ⟨(by show 1 ≤ sizeLine; omega), fun z8 n8 => ?_⟩
            have t1 := same_upd (o := .lst [.int 4]) n8
            have a1 : (upd J10 z8 (.lst [.int 4])) z8 = some (.lst [.int 4]) := upd_same
            generalize upd J10 z8 (.lst [.int 4]) = J11 at *
            refine ⟨z8, 6, _, rfl, rfl, a1, by decide, by decide, (by rw [hz]; simp), fun z9 n9 => ?_⟩
            have t2 := same_upd (o := .lst (List.replicate (6 : Int).toNat [.int 4]).flatten) n9
            have a2 : (upd J11 z9 (.lst (List.replicate (6 : Int).toNat [.int 4]).flatten)) z9 = some (.lst (List.replicate (6 : Int).toNat [.int 4]).flatten) := upd_same
            generalize upd J11 z9 (.lst (List.replicate (6 : Int).toNat [.int 4]).flatten) = J12 at *
            refine ⟨(by show 1 ≤ sizeLine; omega), fun z10 n10 => ?_⟩
            have t3 := same_upd (o := .lst [.int 3]) n10
            have a3 : (upd J12 z10 (.lst [.int 3])) z10 = some (.lst [.int 3]) := upd_same
            generalize upd J12 z10 (.lst [.int 3]) = J13 at *
            refine ⟨z10, 5, _, rfl, rfl, a3, by decide, by decide, (by rw [hz]; simp), fun z11 n11 => ?_⟩
            have t4 := same_upd (o := .lst (List.replicate (5 : Int).toNat [.int 3]).flatten) n11
            have a5 : (upd J13 z11 (.lst (List.replicate (5 : Int).toNat [.int 3]).flatten)) z11 = some (.lst (List.replicate (5 : Int).toNat [.int 3]).flatten) := upd_same
            generalize upd J13 z11 (.lst (List.replicate (5 : Int).toNat [.int 3]).flatten) = J14 at *
            refine ⟨z9, z11, _, _, rfl, rfl, t4 _ _ (t3 _ _ a2), a5, (by rw [hz]; decide), fun b4 m4' => ?_⟩
            have u4 := ((t1.trans t2).trans t3).trans t4
            have nb4 := none_back (t7.trans u4) m4'
            have t5 := u4.trans (same_upd (o := .lst ((List.replicate (6 : Int).toNat [.int 4]).flatten ++ (List.replicate (5 : Int).toNat [.int 3]).flatten)) m4')
            have a6 : (upd J14 b4 (.lst ((List.replicate (6 : Int).toNat [.int 4]).flatten ++ (List.replicate (5 : Int).toNat [.int 3]).flatten))) b4 = some (.lst (toldB.map V.int)) := upd_same
            have w1 := t5 _ _ v1'
            have w2 := t5 _ _ v2'
            have w3 := t5 _ _ a4
            have t8 := t7.trans t5
            generalize upd J14 b4 (.lst ((List.replicate (6 : Int).toNat [.int 4]).flatten ++ (List.replicate (5 : Int).toNat [.int 3]).flatten)) = J15 at *
            clear t1 t2 t3 t4 u4 a1 a2 a3 a5 n8 n9 n10 n11 m4' v1' v2' a4 t7 t5
            refine ⟨(by show 4 ≤ sizeLine; omega), fun zz nz => ?_⟩
            have t1 := same_upd (o := .lst [.ref b1, .ref b2, .ref b3, .ref b4]) nz
            have a1 : (upd J15 zz (.lst [.ref b1, .ref b2, .ref b3, .ref b4])) zz = some (.lst [.ref b1, .ref b2, .ref b3, .ref b4]) := upd_same
            have x1 := t1 _ _ w1
            have x2 := t1 _ _ w2
            have x3 := t1 _ _ w3
            have x4 := t1 _ _ a6
            have t9 := t8.trans t1
            generalize upd J15 zz (.lst [.ref b1, .ref b2, .ref b3, .ref b4]) = J16 at *
            refine ⟨_, rfl, _, _, rfl, rfl, ⟨by decide, by decide⟩, _, _, rfl, rfl, (by show (4 : Int) ≠ 0; decide), zz, [.ref b1, .ref b2, .ref b3, .ref b4], (c.fdiv 3).fmod 4, ?_⟩
            rw [e4]
            have hn : i4 = 0 ∨ i4 = 1 ∨ i4 = 2 ∨ i4 = 3 := by omega
            rcases hn with rfl | rfl | rfl | rfl
            · exact ⟨_, rfl, congrArg V.int e4, .inl (.inl a1), rfl, hN _ _ ⟨b1, _, rfl, t9, x1, ⟨rfl, by decide, by decide +kernel⟩, nb1⟩⟩
            · exact ⟨_, rfl, congrArg V.int e4, .inl (.inl a1), rfl, hN _ _ ⟨b2, _, rfl, t9, x2, ⟨rfl, by decide, by decide +kernel⟩, nb2⟩⟩
            · exact ⟨_, rfl, congrArg V.int e4, .inl (.inl a1), rfl, hN _ _ ⟨b3, _, rfl, t9, x3, ⟨rfl, by decide, by decide +kernel⟩, nb3⟩⟩
            · exact ⟨_, rfl, congrArg V.int e4, .inl (.inl a1), rfl, hN _ _ ⟨b4, _, rfl, t9, x4, told_good.2, nb4⟩⟩
          · subst hM4
            obtain ⟨pB, B, rfl, s5, hB5, gB, nB5⟩ := h
            obtain ⟨M5, hM5⟩ : ∃ M : L2.St → Hp → Prop, M = (fun σ' H2 => ∃ (pB : Addr) (B : List Int), σ' = [some (.ref p), some (.int (a : Int)), some (.ref pd), some (.int c), some (.ref ps), some (.ref pl), y6, some (.ref pL), y8, y9, some (.ref pB), none] ∧ Same H' H2 ∧ H2 pB = some (.lst (B.map V.int)) ∧ PrL 11 B ∧ H' pB = none) := ⟨_, rfl⟩
            with_reducible refine seq_mid M5 (fun N hN => ?_) (fun σ6 H6 h => ?_)
            · subst hM5
              refine ⟨_, rfl, _, _, rfl, rfl, ⟨by decide, by decide⟩, _, _, rfl, rfl, (by show (3 : Int) ≠ 0; decide), rfl, _, rfl, ite2 (fun e => ?_) (fun e => ?_)⟩
              · refine ⟨(by show 11 ≤ sizeLine; omega), fun z1 n1 => ?_⟩
                exact hN _ _ ⟨z1, [5, 5, 4, 1, 3, 3, 3, 0, 0, 0, 0], rfl, s5.trans (same_upd n1), upd_same, ⟨rfl, by decide, by decide +kernel⟩, none_back s5 n1⟩
              · exact ⟨_, rfl, hN _ _ ⟨pB, B, rfl, s5, hB5, gB, nB5⟩⟩
            · subst hM5
              obtain ⟨pB2, B2, rfl, s6, hB6, gB2, nB6⟩ := h
              refine ⟨_, rfl, _, rfl, (by show 2 ≤ sizeLine; omega), fun t nt => ?_⟩
              have st := same_upd (o := .tup [.ref pL, .ref pB2]) nt
              exact q _ t pL pB2 L B2 ((sc.trans s6).trans st) upd_same (st _ _ (s6 _ _ h3)) (st _ _ hB6) gL gB2 (none_back (sc.trans s6) nt) npL0 (none_back sc nB6)
end
end K4

namespace L2
open PySem PySem.Spec PyProof.Rows
/-! ### o.m(e, .., k = v, ..) -/
def tMethN (C : Addr) (m : Str) (n l : Nat) (sp : Sp) (gV : List V → List V → List V) (E : XK) (ta : TE) (t tk : TA) : TE := fun σ H Q => ta σ H fun x H1 => ∃ a dx fs, x = .ref a ∧ H1 a = some (.ins C dx fs) ∧ fs.lookup m = none ∧
  t σ H1 fun vs H2 => tk σ H2 fun zs H3 => vs.length + 1 = n ∧ zs.length = l ∧ sp (gV (.ref a :: vs) zs) H3 Q E
theorem pe_methN {X : Cx} {CX : CXT} {k n : Nat} {C f : Addr} {fd : FuncData} {ps ks : List Str} {m : Str} {sp : Sp} {E : XK} {o e : Expr} {es : List Expr} {kws : List Keyword} {apos pos : Pos} {ta : TE} {t tk : TA} {g : List Value → List Value → List Value} {gV : List V → List V → List V} {pl : Sem Bool}
    (he : PE X o ta) (c : Cls X.K C) (hm : Meth X.K C m f) (F : FnOk X.prog X.w X.K X.mg X.base CX k f fd ps sp) (hr : Room k X.A) (hb : KBn X.K fd ps n ks g gV) (hx : Passes CX X E) (ha : PA X (e :: es) t) (hkw : PK X kws tk)
    (hall : (backToKw pos (keywordEach kws X.env)).all (·.1.isSome) = true := by rfl) (hks : (backToKw pos (keywordEach kws X.env)).filterMap (·.1) = ks := by rfl)
    (hst : starEach (e :: es) X.env = (false, eval e X.env) :: starEach es X.env := by rfl)
    (hpl : ((backTo pos (starEach (e :: es) X.env)).any (·.1) || (backToKw pos (keywordEach kws X.env)).any (·.1.isNone)) = false := by rfl)
    (ht : eval (.Call (.Attribute o m apos) (e :: es) kws pos) X.env = (do
      let ov ← eval o X.env
      standAt apos.atName
      let (f, first) ← holding [ov] (getMethod ov m pl)
      callWith pos f first (backTo pos (starEach (e :: es) X.env)) (backToKw pos (keywordEach kws X.env))) := by rfl) :
    PE X (.Call (.Attribute o m apos) (e :: es) kws pos) (tMethN C m n ks.length sp gV E ta t tk) := by
  refine ⟨fun pins s σ H Q I h => ?_⟩
  refine PySem.W.methodCall_KW (pl := pl) (thn (he.run pins s σ H _ I h) fun u s1 ⟨x, H1, I1, rx, a, dx, fs, ex, ea, l, q⟩ => ?_) ht
  subst ex
  obtain rfl : u = Value.ref a := rx
  refine getmeth_ok I1 ea c hm l ?_
  refine PySem.W.callWith_KW (first := [.ref a]) (h₀ := X.base) I.ok.mod.kin hm.kp hall (thn (ha.run pos pins s1 σ H1 _ I1 q) fun us s2 ⟨vs, H2, I2, r, q2⟩ => ?_) hpl hst
  refine thn (hkw.run pos pins s2 σ H2 _ I2 q2) fun ws s3 ⟨zs, H3, I3, rz, l1, l2, q3⟩ => ⟨I3.kIn, ?_⟩
  rw [hks]
  exact run_fnN (us := .ref a :: us) (vs := .ref a :: vs) F hr hb hx I3 (.cons rfl r) rz (by rw [List.length_cons]; exact l1) l2 q3
end L2

namespace K4
open PySem PySem.Spec PyProof.Rows L2
/-! ### items of any kind -/
inductive Any where
  | num (n : Int)
  | tup (l : List Int)
  | lst (l : List Int)
def AnyAt (H : Hp) : Any → V → Prop
  | .num n, v => v = .int n
  | .tup l, v => ∃ t, v = .ref t ∧ H t = some (.tup (l.map V.int))
  | .lst l, v => ∃ t, v = .ref t ∧ H t = some (.lst (l.map V.int))
theorem AnyAt.same {H H' : Hp} {x : Any} {v : V} (h : AnyAt H x v) (s : Same H H') : AnyAt H' x v := by
  cases x with
  | num n => exact h
  | tup l =>
    obtain ⟨t, e, ht⟩ := h
    exact ⟨t, e, s _ _ ht⟩
  | lst l =>
    obtain ⟨t, e, ht⟩ := h
    exact ⟨t, e, s _ _ ht⟩
def stepA (size : Int) : Any → Option Int
  | .num n => if 0 ≤ n ∧ n ≤ 255 then some (size + 1) else none
  | .tup [m, b] => if 3 ≤ m ∧ m ≤ 18 ∧ 1 ≤ b ∧ b ≤ 1024 ∧ b ≤ size then some (size + m) else none
  | _ => none
def firstBad (size : Int) (i : Nat) : List Any → Option Nat
  | [] => none
  | x :: r => match stepA size x with
    | some s => firstBad s (i + 1) r
    | none => some i
theorem firstBad_yes {size s : Int} {i : Nat} {x : Any} {r : List Any} (h : stepA size x = some s) : firstBad size i (x :: r) = firstBad s (i + 1) r := by
  show (match stepA size x with
    | some s => firstBad s (i + 1) r
    | none => some i) = _
  rw [h]
theorem firstBad_no {size : Int} {i : Nat} {x : Any} {r : List Any} (h : stepA size x = none) : firstBad size i (x :: r) = some i := by
  show (match stepA size x with
    | some s => firstBad s (i + 1) r
    | none => some i) = _
  rw [h]
theorem stepA_ne {size : Int} : ∀ {l : List Int}, l.length ≠ 2 → stepA size (.tup l) = none
  | [], _ => rfl
  | [_], _ => rfl
  | [_, _], h => absurd rfl h
  | _ :: _ :: _ :: _, _ => rfl
def optN : Option Nat → V
  | none => .non
  | some i => .int (i : Int)
end K4

namespace K4
open PySem PySem.Spec PyProof.Rows L2
/-! ### items of rows: is_item, copy_behind, item_bits, are_bytes -/
def itemB : Any → Bool
  | .num n => decide (0 ≤ n ∧ n ≤ 255)
  | .tup [m, b] => decide (3 ≤ m ∧ m ≤ 18) && decide (1 ≤ b ∧ b ≤ 1024)
  | _ => false
theorem itemB_ne : ∀ {l : List Int}, l.length ≠ 2 → itemB (.tup l) = false
  | [], _ => rfl
  | [_], _ => rfl
  | [_, _], h => absurd rfl h
  | _ :: _ :: _ :: _, _ => rfl
theorem scIsItem : FnScope ["item", "many", "back"] ["item"] (defScope sIsItem) := ⟨rfl, rfl, rfl, by decide +kernel, rfl, by decide +kernel, by decide +kernel⟩
theorem scCopyB : FnScope ["whole", "item", "many", "back", "_"] ["whole", "item"] (defScope sCopyB) := ⟨rfl, rfl, rfl, by decide +kernel, rfl, by decide +kernel, by decide +kernel⟩
theorem scItemB : FnScope ["item", "letters", "backs", "many", "back", "letter", "length"] ["item", "letters", "backs"] (defScope sItemB) := ⟨rfl, rfl, rfl, by decide +kernel, rfl, by decide +kernel, by decide +kernel⟩
theorem scAreBytes : FnScope ["told", "most"] ["told", "most"] (defScope sAreBytes) := ⟨rfl, rfl, rfl, by decide +kernel, rfl, by decide +kernel, by decide +kernel⟩
section
variable {P : Program} {w : World} {K : PySem.W.Frag} {mg : Str → Option Value} {base : Heap}
def spIsItem : Sp := fun vs H Q _ => ∃ (v : V) (x : Any), vs = [v] ∧ AnyAt H x v ∧ Q (.bl (itemB x)) H
theorem ok_isItem {f fN : Addr} {fd fdN : FuncData} {j : Nat} {t1 t2 t3 : Tok} (F : Fun K "is_item" "is_item" sIsItem f fd)
    (GN : FnOk P w K mg base CX0 (j + 2) fN fdN ["told", "least", "most"] spIsNum) (bN : Binds K fdN ["told", "least", "most"] []) (kN : PySem.W.keepIn K (.ref fN) = true) (gN : mg "is_number" = some (.ref fN))
    (m1 : mg "isinstance" = none) (m2 : mg "tuple" = none) (m3 : mg "len" = none) (c1 : mg "FEWEST_COPIED" = some (.int 3 t1)) (c2 : mg "MOST_COPIED" = some (.int 18 t2)) (c3 : mg "FARTHEST" = some (.int 1024 t3)) : FnOk P w K mg base CX0 (j + 3) f fd ["item"] spIsItem := by
  refine F.ok scIsItem (fun vs H Q E h => ?_) (fun cdv A outer s H vs Q E hr h => ?_)
  · obtain ⟨v, x, rfl, _⟩ := h
    rfl
  · obtain ⟨v, x, rfl, hx, q⟩ := h
    refine ⟨_, pss_cons (ps_if (pt_not (pt_val (pe_callB call_isi (by rfl) m1 (by decide +kernel) (pa_cons (pv 0) (pa_cons (pe_bltn (v := .ty "tuple") (by rfl) m2 (by decide +kernel) rfl) pa_nil)))))
        (pss_one (ps_ret (pe_call GN hr (by rfl) gN kN bN .nil pass0 (pa_cons (pv 0) (pa_cons pe_int (pa_cons pe_int pa_nil)))))) pss_nil)
      (pss_cons (ps_if (pt_cmpR op_ne (pe_callB call_len_seq (by rfl) m3 PySem.boot_len (pa_cons (pv 0) pa_nil)) pe_int (nomark _)) (pss_one (ps_ret pe_bl)) pss_nil)
      (pss_cons (ps_asg (pv 0) (pg_tup (by rfl) (pgs_cons (pg_name (i := 1) scIsItem.nd rfl (.inl rfl)) (pgs_cons (pg_name (i := 2) scIsItem.nd rfl (.inl rfl)) pgs_nil))))
      (pss_one (ps_ret (pe_and (pe_call GN hr (by rfl) gN kN bN .nil pass0 (pa_cons (pv 1) (pa_cons (pe_glob (v := .int 3) rfl c1 ⟨_, rfl⟩) (pa_cons (pe_glob (v := .int 18) rfl c2 ⟨_, rfl⟩) pa_nil))))
        (pe_one (pe_call GN hr (by rfl) gN kN bN .nil pass0 (pa_cons (pv 2) (pa_cons pe_int (pa_cons (pe_glob (v := .int 1024) rfl c3 ⟨_, rfl⟩) pa_nil)))))))))), ?_⟩
    cases x with
    | num n =>
      obtain rfl : v = .int n := hx
      exact ⟨_, rfl, _, _, _, _, _, rfl, .ty "tuple", .base (.int _), kit_ty (a := "int") (r := false) (by decide +kernel), _, rfl, iteT ⟨_, rfl, .int n, 0, 255, rfl, .inl ⟨n, rfl, q⟩⟩⟩
    | lst l =>
      obtain ⟨t, rfl, ht⟩ := hx
      exact ⟨_, rfl, _, _, _, _, _, rfl, .ty "tuple", .base (.lst ht), kit_ty (a := "list") (r := false) (by decide +kernel), _, rfl, iteT ⟨_, rfl, .ref t, 0, 255, rfl, .inr (.inl ⟨t, _, rfl, ht, q⟩)⟩⟩
    | tup l =>
      obtain ⟨t, rfl, ht⟩ := hx
      refine ⟨_, rfl, _, _, .type "tuple", _, _, rfl, .ty "tuple", .base (.tup ht), kit_ty (a := "tuple") (r := true) (by decide +kernel), _, rfl, iteF ?_⟩
      refine ⟨_, rfl, t, _, rfl, .inr (.inl (.inl ht)), rfl, _, rfl, ite2 (fun e => ?_) (fun e => ?_)⟩
      · have hne : l.length ≠ 2 := fun z => by
          have e' : (!decide (V.int ((l.map V.int).length : Int) = V.int 2)) = true := e
          rw [List.length_map, z] at e'
          simp at e'
        rw [itemB_ne hne] at q
        exact q
      · have hl : l.length = 2 := by
          have e' : ¬ (!decide (V.int ((l.map V.int).length : Int) = V.int 2)) = true := e
          rw [List.length_map] at e'
          have e2 : V.int (l.length : Int) = V.int 2 := by simpa using e'
          have := V.int.inj e2
          omega
        match l, hl with
        | [m, b], _ =>
          refine ⟨_, rfl, t, _, rfl, .inl (.inl ht), rfl, _, _, rfl, _, _, rfl, rfl, ?_⟩
          refine ⟨_, rfl, .int m, 3, 18, rfl, .inl ⟨m, rfl, _, rfl, ?_⟩⟩
          have q : Q (.bl (decide (3 ≤ m ∧ m ≤ 18) && decide (1 ≤ b ∧ b ≤ 1024))) H := q
          by_cases hm : 3 ≤ m ∧ m ≤ 18
          · rw [if_pos (decide_eq_true hm)]
            rw [decide_eq_true hm, Bool.true_and] at q
            exact ⟨_, rfl, .int b, 1, 1024, rfl, .inl ⟨b, rfl, q⟩⟩
          · rw [if_neg (by simpa using hm)]
            rw [decide_eq_false hm, Bool.false_and] at q
            exact q
def spCopyB : Sp := fun vs H Q _ => ∃ (W t : Addr) (every : List Nat) (m b : Nat), vs = [.ref W, .ref t] ∧ H W = some (.lst (bys every)) ∧ H t = some (.tup [.int (m : Int), .int (b : Int)]) ∧ 1 ≤ b ∧ b ≤ every.length ∧ m ≤ 18 ∧ every.length ≤ 100000 ∧
  ∀ H', (∀ a, a ≠ W → H' a = H a) → H' W = some (.lst (bys (copyN every b m))) → Q .non H'
theorem ok_copyB {f : Addr} {fd : FuncData} {j : Nat} (F : Fun K "copy_behind" "copy_behind" sCopyB f fd) (m3 : mg "range" = none) : FnOk P w K mg base CX0 (j + 1) f fd ["whole", "item"] spCopyB := by
  refine F.ok scCopyB (fun vs H Q E h => ?_) (fun cdv A outer s H vs Q E hr h => ?_)
  · obtain ⟨W, t, every, m, b, rfl, _⟩ := h
    rfl
  · obtain ⟨W, t, every, m, b, rfl, hW, ht, b1, b2, hm, hl, q⟩ := h
    have hz := PySem.sizeLine_eq
    refine ⟨_, pss_cons (ps_asg (pv 1) (pg_tup (by rfl) (pgs_cons (pg_name (i := 2) scCopyB.nd rfl (.inl rfl)) (pgs_cons (pg_name (i := 3) scCopyB.nd rfl (.inl rfl)) pgs_nil))))
      (pss_one (ps_for PassesOwn.never rfl (pi_range1 (by rfl) m3 (pa_cons (pv 2) pa_nil)) (pg_name (i := 4) scCopyB.nd rfl (.inl rfl))
        (pss_one (ps_expr (pe_bm PySem.F.plainAttrs_list PySem.F.slot_list_append PySem.F.type_list_append mt_append (pv 0) (pa_cons (pe_ix ix_list (pv 0) (pe_un un_neg (pv 3)) (fun _ _ => rfl)) pa_nil)))))), ?_⟩
    refine ⟨_, rfl, t, _, rfl, .inl (.inl ht), rfl, _, _, rfl, _, _, rfl, rfl, ?_⟩
    refine ⟨_, rfl, m, rfl, (by omega), (by omega), ?_⟩
    refine for_range (lo := 0) (n := (m : Int).toNat) (fun i σ H' => ∃ y : Option V, σ = [some (.ref W), some (.ref t), some (.int (m : Int)), some (.int (b : Int)), y] ∧ (∀ a, a ≠ W → H' a = H a) ∧ H' W = some (.lst (bys (copyN every b i)))) ⟨_, rfl, fun a h => rfl, hW⟩ (fun i σ H' hi h => ?_) (fun σ H' h => ?_)
    · obtain ⟨y, rfl, heq, hE⟩ := h
      refine ⟨_, rfl, .inl ⟨rfl, _, .inl (.inl hE)⟩, _, rfl, _, rfl, _, rfl, W, _, _, _, rfl, rfl, .inl (.inl hE), back_at b1 (by rw [copyN_len]; omega), W, _, _, rfl, rfl, hE, (by rw [bys_len, copyN_len, hz]; omega), _, rfl, fun a h => ?_, ?_⟩
      · rw [upd_ne h]
        exact heq a h
      · rw [upd_same, copyN_succ, ← bys_app]
        rfl
    · obtain ⟨y, rfl, heq, hE⟩ := h
      rw [Int.toNat_natCast] at hE
      exact q H' heq hE
def spItemB : Sp := fun vs H Q _ => ∃ (v : V) (it : Itm) (pL pB : Addr) (L B : List Int), vs = [v, .ref pL, .ref pB] ∧ ItmAt H it v ∧ ItmOk it ∧ H pL = some (.lst (L.map V.int)) ∧ H pB = some (.lst (B.map V.int)) ∧ PrL 273 L ∧ PrL 11 B ∧ Q (optV (costO L B it)) H
theorem ok_itemB {f fB : Addr} {fd fdB : FuncData} {j : Nat} {t1 : Tok} (F : Fun K "item_bits" "item_bits" sItemB f fd) (GB : FnOk P w K mg base CX0 (j + 1) fB fdB ["back"] spBackOf) (bB : Binds K fdB ["back"] []) (kB : PySem.W.keepIn K (.ref fB) = true) (gB : mg "back_of" = some (.ref fB))
    (m1 : mg "isinstance" = none) (m2 : mg "tuple" = none) (c1 : mg "AHEAD_OF_COPIES" = some (.int 254 t1)) : FnOk P w K mg base CX0 (j + 2) f fd ["item", "letters", "backs"] spItemB := by
  refine F.ok scItemB (fun vs H Q E h => ?_) (fun cdv A outer s H vs Q E hr h => ?_)
  · obtain ⟨v, it, pL, pB, L, B, rfl, _⟩ := h
    rfl
  · obtain ⟨v, it, pL, pB, L, B, rfl, hi, ok, hL, hB, ⟨lL, nL, _⟩, ⟨lB, nB, _⟩, q⟩ := h
    refine ⟨_, pss_cons (ps_if (pt_not (pt_val (pe_callB call_isi (by rfl) m1 (by decide +kernel) (pa_cons (pv 0) (pa_cons (pe_bltn (v := .ty "tuple") (by rfl) m2 (by decide +kernel) rfl) pa_nil)))))
        (pss_one (ps_ret (pe_orT (pe_ix ix_list (pv 1) (pv 0) (fun _ _ => rfl)) (pe_one pe_non)))) pss_nil)
      (pss_cons (ps_asg (pv 0) (pg_tup (by rfl) (pgs_cons (pg_name (i := 3) scItemB.nd rfl (.inl rfl)) (pgs_cons (pg_name (i := 4) scItemB.nd rfl (.inl rfl)) pgs_nil))))
      (pss_cons (ps_set (i := 5) scItemB.nd rfl (.inl rfl) (pe_ix ix_list (pv 1) (pe_op op_add (pe_glob (v := .int 254) rfl c1 ⟨_, rfl⟩) (pv 3)) (fun _ _ => rfl)))
      (pss_cons (ps_set (i := 6) scItemB.nd rfl (.inl rfl) (pe_ix ix_list (pv 2) (pe_call GB hr (by rfl) gB kB bB .nil pass0 (pa_cons (pv 4) pa_nil)) (fun _ _ => rfl)))
      (pss_cons (ps_if (PW.pt (pw_or (pt_cmpR op_eq (pv 5) pe_int (nomark _)) (pw_or1 (pt_cmpR op_eq (pv 6) pe_int (nomark _))))) (pss_one (ps_ret pe_non)) pss_nil)
      (pss_one (ps_ret (pe_op op_add (pe_op op_add (pv 5) (pv 6)) (pe_call GB hr (by rfl) gB kB bB .nil pass0 (pa_cons (pv 4) pa_nil))))))))), ?_⟩
    cases it with
    | b k =>
      have ek : v = .int (k : Int) := hi
      subst ek
      have k0 : k < 256 := ok
      have ea := at_getD (L := L) (k := k) (by omega)
      have hnn : 0 ≤ L.getD k 0 := by
        rw [List.getD_eq_getElem?_getD]
        cases e : L[k]? with
        | none => exact Int.le_refl 0
        | some x => exact (nL x (List.mem_of_getElem? e)).1
      refine ⟨_, rfl, _, _, _, _, _, rfl, .ty "tuple", .base (.int _), kit_ty (a := "int") (r := false) (by decide +kernel), _, rfl, iteT ?_⟩
      have q : Q (optV (if 0 < L.getD k 0 then some (L.getD k 0) else none)) H := q
      refine ⟨_, rfl, _, rfl, pL, _, _, _, rfl, rfl, .inl (.inl hL), ea, _, rfl, ite2 (fun e => ?_) (fun e => ?_)⟩
      · rw [if_pos (by have : L.getD k 0 ≠ 0 := by simpa using e
                       omega)] at q
        exact q
      · rw [if_neg (by have : L.getD k 0 = 0 := by simpa using e
                       omega)] at q
        exact q
    | c m r =>
      obtain ⟨t, ev, ht⟩ := hi
      subst ev
      obtain ⟨o1, o2, o3, o4⟩ := ok
      have hlog : Nat.log2 r < 11 := (Nat.log2_lt (by omega)).mpr (by omega)
      have ea := at_getD (L := L) (k := 254 + m) (by omega)
      have eb := at_getD (L := B) (k := Nat.log2 r) (by omega)
      have ec : ((254 + m : Nat) : Int) = 254 + (m : Int) := by push_cast; rfl
      rw [ec] at ea
      refine ⟨_, rfl, _, _, .type "tuple", _, _, rfl, .ty "tuple", .base (.tup ht), kit_ty (a := "tuple") (r := true) (by decide +kernel), _, rfl, iteF ?_⟩
      refine ⟨_, rfl, t, _, rfl, .inl (.inl ht), rfl, _, _, rfl, _, _, rfl, rfl, ?_⟩
      refine ⟨_, rfl, _, rfl, _, _, rfl, rfl, pL, _, _, _, rfl, rfl, .inl (.inl hL), ea, ?_⟩
      refine ⟨_, rfl, _, rfl, r, rfl, o3, by omega, pB, _, _, _, rfl, rfl, .inl (.inl hB), eb, ?_⟩
      have q : Q (optV (if L.getD (254 + m) 0 = 0 ∨ B.getD (Nat.log2 r) 0 = 0 then none else some (L.getD (254 + m) 0 + B.getD (Nat.log2 r) 0 + (Nat.log2 r : Nat)))) H := q
      refine ⟨_, rfl, rfl, _, rfl, ite2 (fun e => ?_) (fun e => ?_)⟩
      · have e1 : V.int (L.getD (254 + m) 0) = V.int 0 := of_decide_eq_true e
        rw [if_pos (.inl (V.int.inj e1))] at q
        exact q
      · have e1 : ¬ L.getD (254 + m) 0 = 0 := fun z => e (decide_eq_true (congrArg V.int z))
        refine ⟨_, rfl, rfl, _, rfl, ite2 (fun e => ?_) (fun e => ?_)⟩
        · have e2 : V.int (B.getD (Nat.log2 r) 0) = V.int 0 := of_decide_eq_true e
          rw [if_pos (.inr (V.int.inj e2))] at q
          exact q
        · have e2 : ¬ B.getD (Nat.log2 r) 0 = 0 := fun z => e (decide_eq_true (congrArg V.int z))
          rw [if_neg (fun z => z.elim e1 e2)] at q
          exact ⟨_, rfl, _, rfl, _, _, rfl, rfl, _, rfl, r, rfl, o3, by omega, _, _, rfl, rfl, q⟩
def spAreBytes : Sp := fun vs H Q _ => ∃ (b : Array UInt8) (n : Nat), vs = [.byt b, .int (n : Int)] ∧ b.size ≤ 1000000 ∧ Q (.bl (decide (b.size ≤ n))) H
theorem ok_areBytes {f : Addr} {fd : FuncData} {j : Nat} (F : Fun K "are_bytes" "are_bytes" sAreBytes f fd) (m1 : mg "isinstance" = none) (m2 : mg "bytes" = none) (m3 : mg "len" = none) : FnOk P w K mg base CX0 (j + 1) f fd ["told", "most"] spAreBytes := by
  refine F.ok scAreBytes (fun vs H Q E h => ?_) (fun cdv A outer s H vs Q E hr h => ?_)
  · obtain ⟨b, n, rfl, _⟩ := h
    rfl
  · obtain ⟨b, n, rfl, hb, q⟩ := h
    have hz := PySem.sizeLine_eq
    refine ⟨_, pss_one (ps_ret (pe_and (pe_callB call_isi (by rfl) m1 (by decide +kernel) (pa_cons (pv 0) (pa_cons (pe_bltn (v := .ty "bytes") (by rfl) m2 (by decide +kernel) rfl) pa_nil)))
      (pe_one (pe_cmpR op_le (pe_callB call_len (by rfl) m3 PySem.boot_len (pa_cons (pv 0) pa_nil)) (pv 1) (nomark _))))), ?_⟩
    refine ⟨_, rfl, _, _, _, _, _, rfl, .ty "bytes", .byt _, kit_ty (a := "bytes") (r := true) (by decide +kernel), _, rfl, iteT ?_⟩
    refine ⟨_, rfl, _, b.size, rfl, ⟨by omega, rfl⟩, _, rfl, _, _, rfl, rfl, ?_⟩
    have e : decide (((b.size : Nat) : Int) ≤ (n : Int)) = decide (b.size ≤ n) := by simp
    show Q (.bl (decide (((b.size : Nat) : Int) ≤ (n : Int)))) H
    rw [e]
    exact q
end
end K4

/-! ### own exceptions that say super().__init__(f"..{x}") and then self.x = x -/
namespace SX
open PySem PySem.W PySem.Calls PyProof.Rows PySem.HandSPX
def sxA (f : Str) (p1 p2 : Pos) : Arguments := { posonlyargs := [], args := [⟨"self", none, p1⟩, ⟨f, none, p2⟩], vararg := none, kwonlyargs := [], kw_defaults := [], kwarg := none, defaults := [] }
def sxB (f pre : Str) (k : Nat) (q : Nat → Pos) : List Stmt :=
  [.Expr (.Call (.Attribute (.Call (.Name "super" (q 0)) [] [] (q 1)) "__init__" (q 2)) [.JoinedStr [.Constant (.str pre) k (q 3), .FormattedValue (.Name f (q 4)) (-1) none (q 5)] (q 6)] [] (q 7)) (q 8),
   .Assign [.Attribute (.Name "self" (q 9)) f (q 10)] (.Name f (q 11)) (q 12)]
def sxS (f : Str) : Scope := { kind := .function, names := [("self", .local), (f, .local), ("__class__", .free), ("super", .globalImplicit)], isGenerator := false, isCoroutine := false, more := [] }
/-- the call's places stand so that nothing of its row is asked -/
def SxPos (q : Nat → Pos) : Prop := ∀ (env : Env) (o : Expr) (es : List Expr) (pe : Pos), ∃ pl : Sem Bool, eval (.Call (.Attribute o "__init__" (q 2)) [.JoinedStr es pe] [] (q 7)) env = (do
  let ov ← attributeBase o "__init__" env (eval o env)
  standAt (q 2).atName
  let (g, first) ← holding [ov] (getMethod ov "__init__" pl)
  callWith (q 7) g first (backTo (q 7) (starEach [.JoinedStr es pe] env)) [])
/-- what the written part says of such a class -/
structure SxTxt (prog : Program) (K : Frag) (mg : Str → Option Value) (C fI : Addr) (cn f pre qual : Str) : Prop where
  gC : mg cn = some (.ref C)
  cls : ∃ nm q N bs bm sn sub ab col dd k0 k1 k2 k3 k5, K.lookup C = some (excClassObj nm q C N bs bm true sn sub ab col dd k0 k1 k2 k3 k5 "ValueError.__new__") ∧ refsVE bm = true ∧ alongIn K "__init__" bm = some (some (.builtin "ValueError.__init__"))
  sa : findIn K (.ref C) "__setattr__" = some (some (.builtin "object.__setattr__"))
  ga : findIn K (.ref C) "__getattribute__" = some (some (.builtin "BaseException.__getattribute__"))
  gg : findIn K (.ref C) "__getattr__" = some none
  noN : findIn K (.ref C) f = some none
  iC : findIn K (.ref C) "__init__" = some (some (.ref fI))
  tI : typeIn K (.ref fI) = some (.type "function")
  kC : keepIn K (.ref C) = true
  exC : subIn K (.ref C) (.type "BaseException") = some true
  veC : subIn K (.ref C) (.type "ValueError") = some true
  seC : subIn K (.ref C) (.ref C) = some true
  tyC : typeIn K (.ref C) = some (.type "type")
  hdC : hasDictIn K C = true
  op : nsIn K cStatics "thirdparty.any" = some none
  sup : mg "super" = none
  top : (prog.main.scope.names.lookup ("super" : Str)).isSome = false
  fn : ∃ (oc : Value) (od : Option Addr) (doc pm : Value) (an : Option Addr) (ct : Value) (osl : Array (Option Value)) (p1 p2 : Pos) (k : Nat) (q : Nat → Pos) (cda cc : Addr) (ccl : Value) (cdd : Option Addr) (vs : Array Value) (ccs : Array (Option Value)) (file : Str) (tf : Tok) (cl : Value) (cld : Option Addr) (csl : Array (Option Value)),
    K.lookup fI = some ⟨oc, od, .func (ksFn "__init__" qual (sxA f p1 p2) (sxB f pre k q) (sxS f) .none .none doc pm an (.ref cda) ct cc), osl⟩ ∧ codeIn K (.ref cda) qual = true ∧
    K.lookup cda = some ⟨ccl, cdd, .fields vs, ccs⟩ ∧ vs[2]? = some (.str file tf) ∧ ((prog.main.file : Str) == file) = true ∧ K.lookup cc = some ⟨cl, cld, .cell (some (.ref C)), csl⟩ ∧ SxPos q
  fBind : ∀ (doc pm : Value) (an : Option Addr) (cdv ct : Value) (cc : Addr) (p1 p2 : Pos) (k : Nat) (q : Nat → Pos) (a v : Value), bindArgs (ksFn "__init__" qual (sxA f p1 p2) (sxB f pre k q) (sxS f) .none .none doc pm an cdv ct cc) ⟨[a, v], []⟩ = pure [(("self" : Str), a), (f, v)]
  preS : pre.length ≤ 1000
  fSelf : (("self" : Str) == f) = false
  fDbg : (f == ("__debug__" : Str)) = false
  fLoc : (sxS f).names.lookup f = some .local
  fSup : (sxS f).names.lookup ("super" : Str) = some .globalImplicit
  fCls : (sxS f).names.lookup ("__class__" : Str) = some .free
/-- what such an __init__ leaves of a new exception at x -/
structure SxEnd (h h' : Heap) (x C dx : Addr) (f : Str) (v : Value) : Prop where
  keep : ∀ b o, b ≠ x → h.get? b = some o → h'.get? b = some o
  obj : ∃ t1, h'.get? x = some { cls := .ref C, dict := some dx, data := .fields #[.ref t1, .none, .none, .none, .bool false, .none] }
  dbig : h.objs.size ≤ dx
  dne : dx ≠ x
  ns : h'.Ns1 dx (fun y => if y = f then some v else none)
theorem boot_super : bootBuiltins "super" = some (.type "super") := by decide +kernel
theorem drop_first (C : Addr) (l : List Value) : ((Value.ref C :: l).dropWhile fun y => y != .ref C).drop 1 = l := by simp [List.dropWhile_cons]
section
variable {prog : Program} {w : World} {A : Around} {E : Value → Shared → Prop} {R : Result → Shared → Prop} {K : Frag} {mg : Str → Option Value} {C fI : Addr} {cn f pre qual : Str}
/-- a built-in __init__ that is bound to x, called -/
theorem call_mw {h : Heap} {g : Array GenState} {d : Drawn} {t : Nat} {os : OsState} {u x t0 : Addr} {rest : List Value} {Q : Value → Shared → Prop} {nm q : Str} {N : Addr} {bs bm : List Value} {hdct : Bool} {sn : List Str} {sub : List Value} {ab : Bool} {col : Option Bool} {dd : Option Addr} {k0 k1 k2 k3 k5 : Option Value}
    (hC : h.get? C = some (excClassObj nm q C N bs bm hdct sn sub ab col dd k0 k1 k2 k3 k5 "ValueError.__new__")) (hx : h.get? x = some (excO C t0)) (hu : h.get? u = some (kxs_mw "ValueError.__init__" x)) (hr : rest.length ≤ sizeLine)
    (hq : ∀ h' t1, (∀ b o, b ≠ x → h.get? b = some o → h'.get? b = some o) → h'.get? x = some (excO C t1) → Q .none ⟨h', g, d, t, os⟩) : wpAny (model prog w) A (call (.ref u) rest) Q E ⟨h, g, d, t, os⟩ := by
  refine' wpAny_call (codeAny_of_tree _)
  show wpAny (model prog w) A.in1 (callAny (.ref u) ⟨rest, []⟩) _ _ _
  (simp only [callAny]); (refine wpAny_bind (wpAny_load hu ?_))
  have c1 : (Value.type "method-wrapper" == Value.type "method" || Value.type "method-wrapper" == Value.type "builtin_function_or_method" || Value.type "method-wrapper" == Value.type "method-wrapper") = true := by decide
  simp only [kxs_mw, c1, if_true]
  refine W.KFB.if_so (by decide) (wpAny_bind (check_bound_init F.excBase_ValueError.toExcCallFacts hC hx rfl ?_))
  refine wpAny_bind (wpAny_pure (wpAny_pure ⟨plainId_quiet F.excBase_ValueError.init.plain _, codeAny_builtin F.excBase_ValueError.initEntry ?_⟩))
  exact exc_init_tree (cls := .ref C) (t0 := t0) (dv := none) (c2 := .none) (c3 := .none) (b4 := .bool false) hx hr fun h' k hx' _ => hq h' _ k hx'
abbrev sxE (f pre qual : Str) (p1 p2 : Pos) (kk : Nat) (q : Nat → Pos) (doc pm : Value) (an : Option Addr) (cda : Addr) (ct : Value) (cc L fI : Addr) : Env :=
  callEnv (ksFn "__init__" qual (sxA f p1 p2) (sxB f pre kk q) (sxS f) .none .none doc pm an (.ref cda) ct cc) L fI
/-- from the bound __init__'s call on -/
theorem sx_rest (T : SxTxt prog K mg C fI cn f pre qual) {s : Shared} {x t0 u cda cc : Addr} {v : Value} {oc : Value} {od : Option Addr} {doc pm ct : Value} {an : Option Addr} {osl : Array (Option Value)} {p1 p2 : Pos} {kk : Nat} {q : Nat → Pos} {nm qn : Str} {N : Addr} {bs bm : List Value} {sn : List Str} {sub : List Value} {ab : Bool} {col : Option Bool} {dd : Option Addr} {k0 k1 k2 k3 k5 : Option Value}
    {h₀ h₂ h₃ : Heap} {y : Str} {tk tk2 : Nat}
    (ho : K.lookup fI = some ⟨oc, od, .func (ksFn "__init__" qual (sxA f p1 p2) (sxB f pre kk q) (sxS f) .none .none doc pm an (.ref cda) ct cc), osl⟩)
    (hcl : clsIn K C = some { name := nm, bases := bs, mro := .ref C :: bm, ns := N, qualname := qn, hasDict := true, slotNames := sn, subclasses := sub, abstract := ab, collection := col, hasDel := false })
    (hC : K.lookup C = some (excClassObj nm qn C N bs bm true sn sub ab col dd k0 k1 k2 k3 k5 "ValueError.__new__")) (hbm : refsVE bm = true) (X : K.In s.heap) (hx : s.heap.get? x = some (excO C t0)) (hnx : K.lookup x = none)
    (k : ∀ b o, s.heap.get? b = some o → h₀.get? b = some o) (k2' : ∀ b o, h₀.get? b = some o → h₂.get? b = some o) (k3' : ∀ b o, h₂.get? b = some o → h₃.get? b = some o)
    (hu : h₃.get? u = some (kxs_mw "ValueError.__init__" x)) (hns : h₃.Ns s.heap.objs.size fun y => List.lookup y [(("self" : Str), Value.ref x), (f, v)].reverse)
    (vself : List.lookup ("self" : Str) ([(("self" : Str), Value.ref x), (f, v)].reverse) = some (.ref x)) (vfld : List.lookup f ([(("self" : Str), Value.ref x), (f, v)].reverse) = some v)
    (hq : ∀ h' tk dx, SxEnd s.heap h' x C dx f v → R (.ok (.ret .none)) { s with heap := h', toks := tk }) :
    wpAny (model prog w) (A.deeper (sxE f pre qual p1 p2 kk q doc pm an cda ct cc s.heap.objs.size fI)) (call (.ref u) [.str y tk])
      (fun _ s' => PySem.wpAt (model prog w) (A.deeper (sxE f pre qual p1 p2 kk q doc pm an cda ct cc s.heap.objs.size fI)) (.func (sxB f pre kk q) (sxE f pre qual p1 p2 kk q doc pm an cda ct cc s.heap.objs.size fI))
        (execs [.Assign [.Attribute (.Name "self" (q 9)) f (q 10)] (.Name f (q 11)) (q 12)] (sxE f pre qual p1 p2 kk q doc pm an cda ct cc s.heap.objs.size fI))
        (fun fl s' => R (Except.ok (Flow.ret (match fl with | Flow.ret v => v | _ => Value.none))) s')
        (fun e s' => wpAny (model prog w) (A.deeper (sxE f pre qual p1 p2 kk q doc pm an cda ct cc s.heap.objs.size fI)) (leaving (sxE f pre qual p1 p2 kk q doc pm an cda ct cc s.heap.objs.size fI) e) (fun _ s'' => R (.error e) s'') (fun e' s'' => R (.error e') s'') s') s')
      (fun e s' => wpAny (model prog w) (A.deeper (sxE f pre qual p1 p2 kk q doc pm an cda ct cc s.heap.objs.size fI)) (leaving (sxE f pre qual p1 p2 kk q doc pm an cda ct cc s.heap.objs.size fI) e) (fun _ s'' => R (.error e) s'') (fun e' s'' => R (.error e') s'') s')
      { s with heap := h₃, toks := tk2 } := by
  have X₃ : K.In h₃ := ((X.keeps k).keeps k2').keeps k3'
  have hx₃ := k3' _ _ (k2' _ _ (k _ _ hx))
  refine call_mw (X₃ _ _ hC) hx₃ hu (by rw [sizeLine_eq]; show 1 ≤ 16777216; decide) fun h' t1 k' hx' => ?_
  have X' : K.In h' := fun a o e => by
    by_cases ha : a = x
    · rw [ha, hnx] at e; cases e
    · exact k' a o ha (X₃ a o e)
  have hxL : s.heap.objs.size ≠ x := Nat.ne_of_gt (Heap.lt_size hx)
  have hns' := hns.at fun o e => k' _ o hxL e
  refine wpAt_of_wpAny (wpAny_execs_cons (plainObj_wpAny_Assign_Attribute ?_))
  refine wpAny_Name (wpAny_loadName_local rfl T.fLoc hns' vfld (wpAny_Name (wpAny_loadName_local rfl rfl hns' vself ?_) (by decide))) T.fDbg
  refine set_plain X' (ox := excO C t1) (od := none) ⟨hx', rfl, rfl, trivial⟩ T.sa (exc_osa X' hx' hcl (show refsVE (.ref C :: bm) = true from hbm) rfl T.noN (fun h₅ tk₅ dx k₅ dn dne hx₅ hn₅ => ?_))
  obtain ⟨oL, _, _, hL, _⟩ := hns'
  have z : s.heap.objs.size < h'.objs.size := Heap.lt_size hL
  refine wpAny_execs_nil (hq h₅ tk₅ dx ⟨fun b o hb e => k₅ b o hb (k' b o hb (k3' _ _ (k2' _ _ (k b o e)))), ⟨_, hx₅⟩, Nat.le_of_lt (Nat.lt_of_lt_of_le z dn), dne, hn₅⟩)
theorem sx_init (T : SxTxt prog K mg C fI cn f pre qual) {s : Shared} {x t0 : Addr} {v : Value} (X : K.In s.heap) (hlim : s.heap.NoLimit) (G : s.heap.Ns mainGlobals mg) (B : ∃ mb, s.heap.Ns builtinsNs mb ∧ ∀ y : Str, y ≠ "__name__" → mb y = bootBuiltins y)
    (hx : s.heap.get? x = some (excO C t0)) (hnx : K.lookup x = none) (hroom : A.depth < recursionLimit) (hv : (∃ (i : Int) (t : Tok), v = .int i t ∧ i.natAbs.log2 < 1920) ∨ v = .none)
    (hq : ∀ h' tk dx, SxEnd s.heap h' x C dx f v → R (.ok (.ret .none)) { s with heap := h', toks := tk }) :
    codeAny (model prog w) A (.call (.ref fI) ⟨[.ref x, v], []⟩) R s := by
  obtain ⟨oc, od, doc, pm, an, ct, osl, p1, p2, kk, q, cda, cc, ccl, cdd, vs, ccs, file, tf, cl, cld, csl, ho, hcd, hcode, hvs, hfile, hcell, hpos⟩ := T.fn
  obtain ⟨nm, qn, N, bs, bm, sn, sub, ab, col, dd, k0, k1, k2, k3, k5, hC, hbm, hal⟩ := T.cls
  obtain ⟨mb, Bn, Bb⟩ := B
  have hcl : clsIn K C = some { name := nm, bases := bs, mro := .ref C :: bm, ns := N, qualname := qn, hasDict := true, slotNames := sn, subclasses := sub, abstract := ab, collection := col, hasDel := false } := by unfold clsIn; rw [hC] <;> rfl
  have hxC : x ≠ C := fun z => by rw [z, hC] at hnx; cases hnx
  refine ks_codeAny_call_defAt (fd := ksFn "__init__" qual (sxA f p1 p2) (sxB f pre kk q) (sxS f) .none .none doc pm an (.ref cda) ct cc) (body := sxB f pre kk q) (binds := [("self", .ref x), (f, v)]) hroom (X _ _ ho) rfl hlim (codeRec_of X hcd) rfl (BindsTo.of_eq ?_) ?_ ?_ (fun h₀ hns k => ?_) rfl rfl rfl
  · exact T.fBind _ _ _ _ _ _ _ _ _ _ _ _
  · intro y hy
    rcases List.mem_cons.mp hy with rfl | hy
    · exact fun z => by cases z
    rcases List.mem_cons.mp hy with rfl | hy
    · exact fun z => by cases z
    rcases List.mem_cons.mp hy with rfl | hy
    · exact fun z => by cases z
    rcases List.mem_cons.mp hy with rfl | hy
    · exact fun z => by cases z
    · cases hy
  · intro y hy
    rcases List.mem_cons.mp hy with rfl | hy
    · rfl
    rcases List.mem_cons.mp hy with rfl | hy
    · exact T.fLoc
    · cases hy
  have hxL : s.heap.objs.size ≠ x := Nat.ne_of_gt (Heap.lt_size hx)
  have X₁ : K.In h₀ := X.keeps k
  have hx₁ := k _ _ hx
  have vself : List.lookup ("self" : Str) ([(("self" : Str), Value.ref x), (f, v)].reverse) = some (.ref x) := by
    show List.lookup ("self" : Str) [(f, v), (("self" : Str), Value.ref x)] = some (.ref x)
    rw [List.lookup, T.fSelf] <;> rfl
  have vfld : List.lookup f ([(("self" : Str), Value.ref x), (f, v)].reverse) = some v := by
    show List.lookup f [(f, v), (("self" : Str), Value.ref x)] = some v
    rw [List.lookup, beq_self_eq_true]
  obtain ⟨pl, hpl⟩ := hpos (callEnv (ksFn "__init__" qual (sxA f p1 p2) (sxB f pre kk q) (sxS f) .none .none doc pm an (.ref cda) ct cc) s.heap.objs.size fI) (.Call (.Name "super" (q 0)) [] [] (q 1)) [.Constant (.str pre) kk (q 3), .FormattedValue (.Name f (q 4)) (-1) none (q 5)] (q 6)
  refine ks_wpAt_execs_cons (ks_wpAt_Expr_any (ks_wpAt_MethodCall ?_ hpl))
  refine ks_wpAt_super_base T.fSup T.fCls (by decide) rfl (k _ _ (X _ _ ho)) rfl rfl rfl (k _ _ (X _ _ hcode)) rfl hvs hfile T.top ?_
  refine ks_loadName_global rfl T.fSup (loadGlobal_builtin (mg := mg) (mb := mb) (G.keeps k) T.sup (Bn.keeps k) ((Bb _ (by decide)).trans boot_super) ⟨rfl, ?_⟩)
  refine wpAny_loadName_free rfl T.fCls (c := cc) (v := .ref C) rfl ⟨_, k _ _ (X _ _ hcell), rfl⟩ ?_
  refine wpAny_loadName_local rfl rfl hns vself ?_
  refine ks_wpAny_isType_cls (X₁ _ _ hC) rfl ⟨rfl, ?_⟩
  refine ks_wpAny_call_super (X₁ _ _ hC) rfl hx₁ rfl (fun c e => by cases e) (looks_subIn X₁ T.seC) (fun h₂ e₂ k₂ => ?_)
  have X₂ : K.In h₂ := X₁.keeps k₂
  have hx₂ := k₂ _ _ hx₁
  have I₂ : InstAt h₂ x (excO C t0) C none := ⟨hx₂, rfl, rfl, trivial⟩
  refine kxs_getMethod kxs_ValueError e₂ (looks_opaque X₂ T.op) (l₀ := .ref C :: bm) ((looks_clsIn X₂ hcl).andThen .now) (drop_first C bm) X₂ hal (I₂.type.andThen (looks_subIn X₂ T.veC)) hxC rfl ?_
  have e₃ : (h₂.push (kxs_mw "ValueError.__init__" x)).get? h₂.objs.size = some (kxs_mw "ValueError.__init__" x) := Heap.get?_push_at rfl rfl
  have k₃ : ∀ b o, h₂.get? b = some o → (h₂.push (kxs_mw "ValueError.__init__" x)).get? b = some o := fun b o e => Heap.get?_push_of_some _ e
  have hns₃ := (hns.keeps k₂).keeps k₃
  generalize h₂.push (kxs_mw "ValueError.__init__" x) = h₃ at e₃ k₃ hns₃ ⊢
  refine kxs_callWith (i := "ValueError.__init__") (x := x) rfl (evalArgs_plain ?_)
  have hlen : ∀ i : Int, i.natAbs.log2 < 1920 → (Str.empty ++ pre ++ Str.ofString (toString i)).length ≤ sizeLine := fun i hi => by
    have e := int_text_length_le (k := 1920) (by decide) hi
    have := T.preS
    rw [strLen_append, strLen_append, PySem.ofString_length, sizeLine_eq]
    show 0 + pre.length + (toString i).length ≤ 16777216
    omega
  have hpre : (Str.empty ++ pre).length ≤ sizeLine := by
    have := T.preS
    rw [strLen_append, sizeLine_eq]
    show 0 + pre.length ≤ 16777216
    omega
  rcases hv with ⟨i, ti, rfl, hi⟩ | rfl
  · refine Calls.spliced_cons (wpAny_JoinedStr (v₁ := .Constant (.str pre) kk (q 3)) (v₂ := .FormattedValue (.Name f (q 4)) (-1) none (q 5)) (rest := []) (pos := q 6) (wpAny_Constant_str ⟨pre, _, rfl, hpre, ?_⟩))
    refine wpAny_FormattedValue_plain (wpAny_Name (wpAny_loadName_local rfl T.fLoc hns₃ vfld (wpAny_formatField_int hi ⟨_, _, rfl, hlen i hi, hlen i hi, ?_⟩)) T.fDbg)
    refine Calls.spliced_nil ⟨e₃, ?_⟩
    exact sx_rest T ho hcl hC hbm X hx hnx k k₂ k₃ e₃ hns₃ vself vfld hq
  · refine Calls.spliced_cons (wpAny_JoinedStr (v₁ := .Constant (.str pre) kk (q 3)) (v₂ := .FormattedValue (.Name f (q 4)) (-1) none (q 5)) (rest := []) (pos := q 6) (wpAny_Constant_str ⟨pre, _, rfl, hpre, ?_⟩))
    have hn4 : (Str.empty ++ pre ++ Str.ofString "None").length ≤ sizeLine := by
      have := T.preS
      rw [strLen_append, strLen_append, sizeLine_eq]
      show 0 + pre.length + 4 ≤ 16777216
      omega
    refine wpAny_FormattedValue_plain (wpAny_Name (wpAny_loadName_local rfl T.fLoc hns₃ vfld (wpAny_formatField_none ⟨_, _, rfl, hn4, hn4, ?_⟩)) T.fDbg)
    exact Calls.spliced_nil ⟨e₃, sx_rest T ho hcl hC hbm X hx hnx k k₂ k₃ e₃ hns₃ vself vfld hq⟩
/-- a made one: e new, its dict d new -/
structure SxMade (h h' : Heap) (e C d : Addr) (f : Str) (v : Value) : Prop where
  keep : ∀ b o, h.get? b = some o → h'.get? b = some o
  new : h.objs.size ≤ e
  obj : ∃ oe fs, h'.get? e = some oe ∧ oe.cls = .ref C ∧ oe.dict = some d ∧ oe.data = .fields fs ∧ fs[1]? = some .none ∧ fs[2]? = some .none
  dbig : h.objs.size ≤ d
  dne : d ≠ e
  ns : h'.Ns1 d (fun y => if y = f then some v else none)
theorem sx_made (T : SxTxt prog K mg C fI cn f pre qual) {s : Shared} {v : Value} (X : K.In s.heap) (hlim : s.heap.NoLimit) (G : s.heap.Ns mainGlobals mg) (B : ∃ mb, s.heap.Ns builtinsNs mb ∧ ∀ y : Str, y ≠ "__name__" → mb y = bootBuiltins y)
    (hroom : A.depth + 1 < recursionLimit) (hv : (∃ (i : Int) (t : Tok), v = .int i t ∧ i.natAbs.log2 < 1920) ∨ v = .none)
    (hq : ∀ h' tk e d, SxMade s.heap h' e C d f v → R (.ok (.ret (.ref e))) { s with heap := h', toks := tk }) : codeAny (model prog w) A (.call (.ref C) ⟨[v], []⟩) R s := by
  obtain ⟨nm, qn, N, bs, bm, sn, sub, ab, col, dd, k0, k1, k2, k3, k5, hC, hbm, hal⟩ := T.cls
  obtain ⟨hp, g, dr, tk, os⟩ := s
  obtain ⟨mb, Bn, Bb⟩ := B
  have kp : ∀ b o, hp.get? b = some o → ((hp.push (kdv_tup [v])).push (excO C hp.objs.size)).get? b = some o := fun b o z => Heap.get?_push_of_some _ (Heap.get?_push_of_some _ z)
  have atE : ((hp.push (kdv_tup [v])).push (excO C hp.objs.size)).get? (hp.objs.size + 1) = some (excO C hp.objs.size) := by heap_get
  have notK : K.lookup (hp.objs.size + 1) = none := by
    cases z : K.lookup (hp.objs.size + 1) with
    | none => rfl
    | some o => exact absurd (Nat.lt_of_succ_lt (Heap.lt_size (X _ _ z))) (Nat.lt_irrefl _)
  have hone : ([v] : List Value).length ≤ sizeLine := by
    rw [sizeLine_eq]
    show 1 ≤ 16777216
    decide
  refine call_own F.excBase_ValueError (fun Y => refsVE_contains Y bm hbm) (X _ _ hC) (looks_findIn X T.iC) (fun self => bind_fn X self T.tI) hone (sx_init (s := ⟨(hp.push (kdv_tup [v])).push (excO C hp.objs.size), g, dr, tk, os⟩) T (X.keeps kp) (hlim.keeps kp) (G.keeps kp) ⟨mb, Bn.keeps kp, Bb⟩ atE notK ?_ hv fun h' tk' dx M => ?_)
  · show A.depth + 1 < recursionLimit
    exact hroom
  · have z : hp.objs.size + 1 + 1 ≤ dx := by
      have zz := M.dbig
      rw [Heap.size_push, Heap.size_push] at zz
      exact zz
    obtain ⟨t1, ho⟩ := M.obj
    exact ⟨rfl, hq h' tk' (hp.objs.size + 1) dx ⟨fun b o zb => M.keep b o (Nat.ne_of_lt (Nat.lt_succ_of_lt (Heap.lt_size zb))) (kp b o zb), Nat.le_succ _, ⟨_, _, ho, rfl, rfl, rfl, rfl, rfl⟩, (by show hp.objs.size ≤ dx; omega), M.dne, M.ns⟩⟩
end
end SX
namespace L2
open PySem PySem.Spec PyProof.Rows
section
variable {X : Cx} {C fI : Addr} {cn f pre qual : Str}
/-- C(e), C with such an __init__: an int or None -/
def tMkSx (C : Addr) (f : Str) (ta : TA) : St → Hp → XK → Prop := fun σ H Q => ta σ H fun vs H1 => ∃ v, vs = [v] ∧ ((∃ i : Int, v = .int i ∧ i.natAbs.log2 < 1920) ∨ v = .non) ∧ ∀ d, H1 d = none → Q (.ref C) (some d) (upd H1 d (.xd [(f, v)]))
theorem relO_sx {f : Str} {v : V} {u : Value} (r : RelV v u) (g : Str) : RelO (List.lookup g [(f, v)]) (if g = f then some u else none) := by
  by_cases hg : g = f
  · rw [if_pos hg, hg, List.lookup, beq_self_eq_true]
    exact r
  · have e : (g == f) = false := by simpa using hg
    rw [if_neg hg, List.lookup, e]
    trivial
theorem pmk_sx {a : Expr} {ta : TA} {p pos : Pos} {k : Nat} (T : SX.SxTxt X.prog X.K X.mg C fI cn f pre qual) (hr : Room k X.A) (ha : PA X [a] ta) (hg : Gl X cn) (hdb : (cn == ("__debug__" : Str)) = false := by decide)
    (he : starEach (a :: []) X.env = (false, eval a X.env) :: starEach [] X.env := by rfl) (hpl : (backTo pos (starEach [] X.env)).any (·.1) = false := by rfl) : L2N.PMk X (.Call (.Name cn p) [a] [] pos) (tMkSx C f ta) := by
  intro pins s σ H Q I h
  refine wpAny_Call_Name_kw (ld_glob I hg T.gC ?_ hdb)
  refine PySem.W.callWith_K (h₀ := X.base) I.ok.mod.kin T.kC (thn (ha.run pos pins s σ H _ I h) fun us s1 ⟨vs, H1, I1, r1, v, ev, hv, q1⟩ => ?_) he hpl
  subst ev
  refine ⟨I1.kIn, ?_⟩
  cases r1 with
  | @cons _ u _ us' rv rn =>
    cases rn
    show wpAny (model X.prog X.w) X.A (call (.ref C) [u]) _ _ _
    have hu : (∃ (i : Int) (t : Tok), u = .int i t ∧ i.natAbs.log2 < 1920) ∨ u = .none := by
      rcases hv with ⟨i, rfl, hi⟩ | rfl
      · obtain ⟨t, rfl⟩ := rv
        exact .inl ⟨i, t, rfl, hi⟩
      · exact .inr rv
    have hlim := I1.nolimit
    have hG := I1.mod.glob.keeps I1.bk
    obtain ⟨mb, hB, hBb⟩ := I1.mod.blt
    obtain ⟨hp, g, dr, tk, os⟩ := s1
    refine wpAny_call (SX.sx_made T I1.kIn hlim hG ⟨mb, hB.keeps I1.bk, hBb⟩ (by have := hr.dp; omega) hu fun h' tk' e d M => ?_)
    show L2N.MkP X pins σ Q (.ref e) ⟨h', g, dr, tk', os⟩
    obtain ⟨oe, fv, hoe, hc, hd, hdat, h1, h2⟩ := M.obj
    obtain ⟨Gh, gg, ge'⟩ := restrict h' fun b => decide (b ≠ e)
    have gk : ∀ b, b ≠ e → Gh.get? b = h'.get? b := fun b hb => gg b (decide_eq_true hb)
    have ge : Gh.get? e = none := ge' e (by simp)
    have J : Inv X pins σ (upd H1 d (.xd [(f, v)])) ⟨Gh, g, dr, tk', os⟩ := I1.laid (t' := tk') (fun b o z => (gk b (Nat.ne_of_lt (Nat.lt_of_lt_of_le (Heap.lt_size z) M.new))).trans (M.keep b o z)) M.dbig ⟨_, M.ns.at (fun o z => (gk d M.dne).trans z), fun y => relO_sx rv y⟩
    refine ⟨e, oe, fv, ⟨Gh, g, dr, tk', os⟩, _, .ref C, some d, rfl, J, fun b o z => ?_, ge, hoe, ⟨hc, hd, fun vs z => (by rw [hdat] at z; cases z; exact h2)⟩, hdat, h1, ?_, rfl, I1.bare, raises_own T.exC T.tyC, q1 d (I1.hok.fresh M.dbig)⟩
    · by_cases hb : b = e
      · rw [hb] at z
        have z' : Gh.get? e = some o := z
        rw [ge] at z'
        cases z'
      · exact (gk b hb).symm.trans z
    · rw [upd_ne (Ne.symm M.dne)]
      exact I1.hok.fresh M.new
/-- raise C(e) -/
def tRaiseSx (C : Addr) (f : Str) (W : WX) (ta : TA) : TS := fun _ σ H => tMkSx C f ta σ H fun cls d H' => W cls d σ H'
theorem ps_raiseSx {a : Expr} {ta : TA} {W : WX} {p pos pos2 : Pos} {k : Nat} (hc : X.calm = true) (T : SX.SxTxt X.prog X.K X.mg C fI cn f pre qual) (hr : Room k X.A) (tk : L2N.Takes X W) (ha : PA X [a] ta) (hg : Gl X cn) (hdb : (cn == ("__debug__" : Str)) = false := by decide)
    (he : starEach (a :: []) X.env = (false, eval a X.env) :: starEach [] X.env := by rfl) (hpl : (backTo pos (starEach [] X.env)).any (·.1) = false := by rfl) :
    PS X (.Raise (some (.Call (.Name cn p) [a] [] pos)) none pos2) (tRaiseSx C f W ta) := L2N.ps_raise hc tk (pmk_sx T hr ha hg hdb he hpl)
/-- a def that may raise, its exception's context being None -/
theorem okN {P : Program} {w : World} {K : PySem.W.Frag} {mg : Str → Option Value} {base : Heap} {x qual : Str} {st : Stmt} {f : Addr} {fd : FuncData} {N ps : List Str} {k : Nat} {sp : Sp} (F : Fun K x qual st f fd) (S : FnScope N ps (defScope st)) (len : ∀ vs H Q E, sp vs H Q E → vs.length = ps.length)
    (body : ∀ (cdv : Value) (A : Around) (outer : List Env) (s : Shared) (H : Hp) (vs : List V) (Q : VK) (E : XK), Room k (A.deeper (envOfC qual (defScope st) s.heap.objs.size f cdv)) → sp vs H Q E →
      ∃ t, PSs (cxOf (L2N.CX P w) P w K mg base N qual (defScope st) f cdv A outer s H E) (defBody st) t ∧ t { nx := fun _ H' => Q .non H', rt := Q } (start N vs) H) : FnOk P w K mg base (L2N.CX P w) (k + 1) f fd ps sp := by
  obtain ⟨oc, od, kV, doc, pm, an, cdv, ct, osl, rfl, lk, hcd⟩ := F.ex
  exact fn_of lk hcd S len fun A outer s H vs Q E => body cdv A outer s H vs Q E
/-- a def called while an exception is handled -/
theorem okH {P : Program} {w : World} {K : PySem.W.Frag} {mg : Str → Option Value} {base : Heap} {x qual : Str} {st : Stmt} {f : Addr} {fd : FuncData} {N ps : List Str} {k : Nat} {sp : Sp} (F : Fun K x qual st f fd) (S : FnScope N ps (defScope st)) (len : ∀ vs H Q E, sp vs H Q E → vs.length = ps.length)
    (body : ∀ (cdv : Value) (A : Around) (outer : List Env) (s : Shared) (H : Hp) (vs : List V) (Q : VK) (E : XK) (p : Addr × Obj), L2H.Hot1 A p → L2H.RoomH k (A.deeper (envOfC qual (defScope st) s.heap.objs.size f cdv)) → sp vs H Q E →
      ∃ t, PSs (L2H.cxH CX0 P w K mg base N qual (defScope st) f cdv A outer s H E p) (defBody st) t ∧ t { nx := fun _ H' => Q .non H', rt := Q } (start N vs) H) : L2H.FnH P w K mg base CX0 (k + 1) f fd ps sp := by
  obtain ⟨oc, od, kV, doc, pm, an, cdv, ct, osl, rfl, lk, hcd⟩ := F.ex
  exact L2H.fn_ofH lk hcd S len fun A outer s H vs Q E p => body cdv A outer s H vs Q E p
/-- x.f, x the exception that the suite holds -/
def tSxF (C : Addr) (f : Str) (a : Addr) (cls : Value) (d : Option Addr) (te : TE) : TE := fun σ H Q => te σ H fun x H1 => x = .ref a ∧ cls = .ref C ∧ ∃ (dd : Addr) (v : V), d = some dd ∧ H1 dd = some (.xd [(f, v)]) ∧ Q v H1
theorem pe_sxF {prog : Program} {a : Addr} {oe : Obj} {cls : Value} {d : Option Addr} {pn : List (Addr × Obj)} {e : Expr} {te : TE} {pos : Pos} (T : SX.SxTxt prog X.K X.mg C fI cn f pre qual) (hz : Zc cls d oe) (hf : ∃ vs, oe.data = .fields vs) (he : PE (X.suite a ((a, oe) :: pn)) e te)
    (hb : attributeBase e f X.env (eval e X.env) = eval e X.env := by rfl) : PE (X.suite a ((a, oe) :: pn)) (.Attribute e f pos) (tSxF C f a cls d te) := by
  refine ⟨fun pins s σ H Q I h => ?_⟩
  refine attr_of hb (thn (he.run pins s σ H _ I h) fun u s1 ⟨x, H1, I1, rx, ex, ec, dd, v, ed, ea, q⟩ => ?_)
  subst ex
  obtain rfl : u = Value.ref a := rx
  subst ec
  subst ed
  obtain ⟨ha, _⟩ := I1.pin (a, oe) (List.mem_append_left _ List.mem_cons_self)
  obtain ⟨vs, hd⟩ := hf
  have hx : ObjOk X.prog X.w H1 s1.heap dd (.xd [(f, v)]) := I1.hok dd _ ea
  obtain ⟨mA, hns, hr⟩ := hx
  obtain ⟨od, ho, hl⟩ := lookIn_ns hns
  have l : List.lookup f [(f, v)] = some v := by rw [List.lookup, beq_self_eq_true]
  obtain ⟨u, hu, ru⟩ := RelO.some_of (v := v) (o := mA f) (by rw [← l]; exact hr f)
  have J : PySem.W.InstAt s1.heap a oe C (some od) := ⟨ha, hz.1, by unfold PySem.W.notCls; rw [hd] <;> rfl, by rw [hz.2]; exact ho⟩
  exact HandSPX.exc_get I1.kIn J T.ga T.gg T.exC (PySem.W.findObj_own T.hdC T.noN rfl (by rw [hl, hu])) (handed_of ru) ⟨v, H1, I1.tok _, ru, q⟩
end
end L2

namespace K4
open PySem PySem.Spec PyProof.Rows L2
/-! ### bytes_behind, told -/
def asIt : Any → Itm
  | .num n => .b n.toNat
  | .tup [m, b] => .c m.toNat b.toNat
  | _ => .b 0
theorem step_bad {size : Int} : ∀ {x : Any}, itemB x = false → stepA size x = none
  | .num n, h => if_neg (of_decide_eq_false h)
  | .lst _, _ => rfl
  | .tup [], _ => rfl
  | .tup [_], _ => rfl
  | .tup (_ :: _ :: _ :: _), _ => rfl
  | .tup [m, b], h => by
    have h' : (decide (3 ≤ m ∧ m ≤ 18) && decide (1 ≤ b ∧ b ≤ 1024)) = false := h
    refine if_neg fun z => ?_
    rw [decide_eq_true (show 3 ≤ m ∧ m ≤ 18 by omega), decide_eq_true (show 1 ≤ b ∧ b ≤ 1024 by omega)] at h'
    cases h'
theorem log_small {n : Nat} (h : n ≤ 100000) : ((n : Int)).natAbs.log2 < 1920 := by
  rw [Int.natAbs_natCast]
  by_cases hn : n = 0
  · subst hn; decide
  · exact (Nat.log2_lt hn).mpr (Nat.lt_of_le_of_lt h (by decide +kernel))
theorem bi_byB {ks : List Nat} (h : ∀ k ∈ ks, k < 256) : (bi (byB ks)).map V.int = bys ks := by
  unfold bys byB
  congr 1
  show (List.map Nat.toUInt8 ks).toArray.toList.map (fun c => (c.toNat : Int)) = ks.map fun (k : Nat) => (k : Int)
  rw [List.map_map]
  refine List.map_congr_left fun k m => ?_
  show ((k.toUInt8.toNat : Nat) : Int) = k
  have := h k m
  have e : k.toUInt8.toNat = k := by
    rw [Nat.toUInt8_eq, UInt8.toNat_ofNat']
    exact Nat.mod_eq_of_lt this
  rw [e]
theorem byB_of (ks : List Nat) : byteArr (ks.map fun (k : Nat) => (k : Int)) = byB ks := by
  unfold byteArr byB
  rw [List.map_map]
  rfl
theorem byB_size (ks : List Nat) : (byB ks).size = ks.length := by
  unfold byB
  simp
abbrev NBh : List Str := ["items", "ahead", "whole", "at", "item"]
theorem scBehind : FnScope NBh ["items", "ahead"] (defScope sBehind) := ⟨rfl, rfl, rfl, by decide +kernel, rfl, by decide +kernel, by decide +kernel⟩
section
variable {P : Program} {w : World} {K : PySem.W.Frag} {mg : Str → Option Value} {base : Heap} {CI fE : Addr}
abbrev BadIt (P : Program) (K : PySem.W.Frag) (mg : Str → Option Value) (CI fE : Addr) : Prop := SX.SxTxt P K mg CI fE "BadItems" "at" "no row of items, seen at " "BadItems.__init__"
def spBehind (C : Addr) : Sp := fun vs H Q E => ∃ (pr : Addr) (us : List V) (any : List Any) (lead : List Nat), vs = [.ref pr, .byt (byB lead)] ∧ H pr = some (.lst us) ∧ Paired (AnyAt H) any us ∧ (∀ k ∈ lead, k < 256) ∧ lead.length ≤ 5000 ∧ any.length ≤ 1000 ∧
  (∀ n : Nat, firstBad (lead.length : Int) 0 any = some n → ∀ H' d, Same H H' → H' d = some (.xd [("at", .int (n : Int))]) → E (.ref C) (some d) H') ∧
  (firstBad (lead.length : Int) 0 any = none → ∀ H' due, Same H H' → tells lead (any.map asIt) = some (lead ++ due) → (∀ k ∈ due, k < 256) → due.length ≤ 18 * any.length → Q (.byt (byB due)) H')
theorem ok_behind (T : BadIt P K mg CI fE) {f fI fC : Addr} {fd fdI fdC : FuncData} {j : Nat} (F : Fun K "bytes_behind" "bytes_behind" sBehind f fd)
    (GI : FnOk P w K mg base CX0 (j + 3) fI fdI ["item"] spIsItem) (bI : Binds K fdI ["item"] []) (kI : PySem.W.keepIn K (.ref fI) = true) (gI : mg "is_item" = some (.ref fI))
    (GC : FnOk P w K mg base CX0 (j + 3) fC fdC ["whole", "item"] spCopyB) (bC : Binds K fdC ["whole", "item"] []) (kC : PySem.W.keepIn K (.ref fC) = true) (gC : mg "copy_behind" = some (.ref fC))
    (m1 : mg "isinstance" = none) (m2 : mg "list" = none) (m3 : mg "enumerate" = none) (m4 : mg "tuple" = none) (m5 : mg "len" = none) (m6 : mg "bytes" = none) : FnOk P w K mg base (L2N.CX P w) (j + 4) f fd ["items", "ahead"] (spBehind CI) := by
  refine okN F scBehind (fun vs H Q E h => ?_) (fun cdv A outer s H vs Q E hr h => ?_)
  · obtain ⟨pr, us, any, lead, rfl, _⟩ := h
    rfl
  · obtain ⟨pr, us, any, lead, rfl, hpr, hany, hk0, hl0, hl1, qE, q⟩ := h
    have hz := PySem.sizeLine_eq
    refine ⟨_, pss_cons (ps_if (pt_not (pt_val (pe_callB call_isi (by rfl) m1 (by decide +kernel) (pa_cons (pv 0) (pa_cons (pe_bltn (v := .ty "list") (by rfl) m2 (by decide +kernel) rfl) pa_nil))))) (pss_one ps_never) pss_nil)
      (pss_cons (ps_set (i := 2) scBehind.nd rfl (.inl rfl) (pe_listOfB rfl (by rfl) m2 (pv 1)))
      (pss_cons (ps_for (passes_of rfl) rfl (pi_enum (by rfl) m3 (pa_cons (pv 0) pa_nil)) (pg_tup rfl (pgs_cons (pg_name (i := 3) scBehind.nd rfl (.inl rfl)) (pgs_cons (pg_name (i := 4) scBehind.nd rfl (.inl rfl)) pgs_nil)))
        (pss_cons (ps_if (pt_not (pt_val (pe_call GI hr (by rfl) gI kI bI .nil pass0 (pa_cons (pv 4) pa_nil)))) (pss_one (ps_raiseSx rfl T hr (L2N.takes_of rfl rfl rfl rfl) (pa_cons (pv 3) pa_nil) (by rfl))) pss_nil)
        (pss_one (ps_if (pt_not (pt_val (pe_callB call_isi (by rfl) m1 (by decide +kernel) (pa_cons (pv 4) (pa_cons (pe_bltn (v := .ty "tuple") (by rfl) m4 (by decide +kernel) rfl) pa_nil)))))
          (pss_one (ps_expr (pe_bm PySem.F.plainAttrs_list PySem.F.slot_list_append PySem.F.type_list_append mt_append (pv 2) (pa_cons (pv 4) pa_nil))))
          (pss_one (ps_if (pt_cmpR op_gt (pe_ix ix_tup (pv 4) pe_int (fun _ _ => rfl)) (pe_callB call_len_seq (by rfl) m5 PySem.boot_len (pa_cons (pv 2) pa_nil)) (nomark _)) (pss_one (ps_raiseSx rfl T hr (L2N.takes_of rfl rfl rfl rfl) (pa_cons (pv 3) pa_nil) (by rfl)))
            (pss_one (ps_expr (pe_call GC hr (by rfl) gC kC bC .nil pass0 (pa_cons (pv 2) (pa_cons (pv 4) pa_nil)))))))))))
      (pss_one (ps_ret (pe_bytesOf rfl (by rfl) m6 (pe_slice sl_list (pv 2) (po_some (pe_callB call_len (by rfl) m5 PySem.boot_len (pa_cons (pv 1) pa_nil))) po_none)))))), ?_⟩
    refine ⟨_, rfl, _, _, .type "list", _, _, rfl, .ty "list", .base (.lst hpr), kit_ty (a := "list") (r := true) (by decide +kernel), _, rfl, iteF ?_⟩
    refine ⟨_, rfl, _, rfl, (by rw [byB_size, hz]; omega), fun W nW => ?_⟩
    rw [bi_byB hk0]
    have s1 : Same H (upd H W (.lst (bys lead))) := same_upd nW
    refine ⟨_, rfl, pr, _, rfl, .inl (.inl (s1 _ _ hpr)), ?_⟩
    have hlen := hany.length
    refine for_it (walk_enum (K := K) (a := pr) (xs := us)) (fun i σ H' => ∃ (y3 y4 : Option V) (every due : List Nat), σ = [some (.ref pr), some (.byt (byB lead)), some (.ref W), y3, y4] ∧ Same H H' ∧ H' W = some (.lst (bys every)) ∧ firstBad (lead.length : Int) 0 any = firstBad (every.length : Int) i (any.drop i) ∧
      tells lead ((any.take i).map asIt) = some every ∧ every = lead ++ due ∧ (∀ k ∈ every, k < 256) ∧ due.length ≤ 18 * i) ⟨_, _, lead, [], rfl, s1, upd_same, rfl, rfl, by simp, hk0, Nat.zero_le _⟩ (fun i σ H' _ h => ?_) (fun i x σ H1 H2 hi h y => ?_) (fun σ H' h => ?_)
    · obtain ⟨_, _, _, _, _, sm, _⟩ := h
      exact .inl (.inl (sm _ _ hpr))
    · obtain ⟨y3, y4, every, due, rfl, sm, hW, efb, htl, edue, hk, hdl⟩ := h
      obtain ⟨T0, x0, u, rfl, nT0, rfl, e0, e1⟩ := y
      obtain rfl := Option.some.inj e0
      have hia : i < any.length := by omega
      obtain ⟨u', e1', ha⟩ := paired_get hany (List.getElem?_eq_getElem hia)
      have euu : u' = u := Option.some.inj (e1'.symm.trans e1)
      subst euu
      have sT : Same H1 (upd H1 T0 (.tup [.int ((i : Nat) : Int), u'])) := same_upd nT0
      have ha2 := (ha.same sm).same sT
      have hT : (upd H1 T0 (.tup [.int ((i : Nat) : Int), u'])) T0 = some (.tup [.int ((i : Nat) : Int), u']) := upd_same
      have sm2 := sm.trans sT
      have hW2 := sT _ _ hW
      rw [List.drop_eq_getElem_cons hia] at efb
      have htake : any.take (i + 1) = any.take i ++ [any[i]] := by rw [List.take_add_one, List.getElem?_eq_getElem hia]; rfl
      generalize any[i] = x at *
      generalize upd H1 T0 (.tup [.int ((i : Nat) : Int), u']) = H3 at *
      refine ⟨T0, _, rfl, .inl (.inl hT), rfl, ?_⟩
      refine ⟨_, _, rfl, _, _, rfl, rfl, ?_⟩
      have bad : stepA (every.length : Int) x = none → ∀ d, H3 d = none → E (.ref CI) (some d) (upd H3 d (.xd [("at", .int (i : Int))])) := fun e d nd => by
        refine qE i (by rw [efb, firstBad_no e]) _ d (sm2.trans (same_upd nd)) upd_same
      have hlog : ((i : Int)).natAbs.log2 < 1920 := log_small (by omega)
      refine ⟨_, rfl, u', x, rfl, ha2, _, rfl, ite2 (fun c => ?_) (fun c => ?_)⟩
      · have c' : itemB x = false := by simpa using c
        exact ⟨_, rfl, _, rfl, .inl ⟨_, rfl, hlog⟩, fun d nd => bad (step_bad c') d nd⟩
      · have c' : itemB x = true := by simpa using c
        cases x with
        | lst l => cases c'
        | num n =>
          obtain rfl : u' = .int n := ha
          obtain ⟨n0, n1⟩ := of_decide_eq_true c'
          obtain ⟨k, rfl⟩ := nat_of n0
          refine ⟨_, rfl, _, _, _, _, _, rfl, .ty "tuple", .base (.int _), kit_ty (a := "int") (r := false) (by decide +kernel), _, rfl, iteT ?_⟩
          refine ⟨_, rfl, .inl ⟨rfl, _, .inl (.inl hW2)⟩, _, rfl, W, _, _, rfl, rfl, hW2, (by rw [bys_len, edue, List.length_append, hz]; omega), ?_⟩
          refine ⟨_, _, every ++ [k], due ++ [k], rfl, same_put sm2 nW, by rw [upd_same, ← bys_app]; rfl, ?_, ?_, by rw [edue, List.append_assoc], ?_, by rw [List.length_append, List.length_singleton]; omega⟩
          · rw [efb, firstBad_yes (s := ((every.length : Nat) : Int) + 1) (by show (if 0 ≤ (k : Int) ∧ (k : Int) ≤ 255 then some _ else none) = _; rw [if_pos ⟨n0, n1⟩]), List.length_append, List.length_singleton]
            push_cast
            rfl
          · rw [htake, List.map_append, tells_app, htl]
            rfl
          · intro z m
            rcases (List.mem_append.mp m) with (m | m)
            · exact hk z m
            · rw [List.mem_singleton.mp m]
              omega
        | tup l =>
          obtain ⟨t, rfl, ht⟩ := ha2
          match l, c', ht with
          | [m, b], c', ht =>
            have c2 : (decide (3 ≤ m ∧ m ≤ 18) && decide (1 ≤ b ∧ b ≤ 1024)) = true := c'
            obtain ⟨cm, cb⟩ := (Bool.and_eq_true _ _).mp c2
            obtain ⟨m1', m2'⟩ := of_decide_eq_true cm
            obtain ⟨b1', b2'⟩ := of_decide_eq_true cb
            obtain ⟨mm, rfl⟩ := nat_of (x := m) (by omega)
            obtain ⟨bb, rfl⟩ := nat_of (x := b) (by omega)
            refine ⟨_, rfl, _, _, .type "tuple", _, _, rfl, .ty "tuple", .base (.tup ht), kit_ty (a := "tuple") (r := true) (by decide +kernel), _, rfl, iteF ?_⟩
            refine ⟨_, rfl, t, _, 1, _, rfl, rfl, .inl (.inl ht), rfl, _, rfl, W, _, rfl, .inl (.inl (.inl hW2)), _, _, rfl, rfl, _, rfl, ite2 (fun e => ?_) (fun e => ?_)⟩
            · have e' : ((bys every).length : Int) < (bb : Int) := of_decide_eq_true e
              rw [bys_len] at e'
              refine ⟨_, rfl, _, rfl, .inl ⟨_, rfl, hlog⟩, fun d nd => bad ?_ d nd⟩
              show (if 3 ≤ (mm : Int) ∧ (mm : Int) ≤ 18 ∧ 1 ≤ (bb : Int) ∧ (bb : Int) ≤ 1024 ∧ (bb : Int) ≤ (every.length : Int) then some _ else none) = none
              rw [if_neg (by omega)]
            · have e' : ¬ ((bys every).length : Int) < (bb : Int) := fun z => e (decide_eq_true z)
              rw [bys_len] at e'
              refine ⟨_, rfl, _, rfl, W, t, every, mm, bb, rfl, hW2, ht, by omega, by omega, by omega, by rw [edue, List.length_append]; omega, fun H4 heq hW4 => ?_⟩
              obtain ⟨r, er⟩ := copyN_pre bb mm every
              have hcl := copyN_len bb mm every
              refine ⟨_, _, copyN every bb mm, due ++ r, rfl, fun a o z => ?_, hW4, ?_, ?_, by rw [er, edue, List.append_assoc], copyN_lt bb _ hk, ?_⟩
              · have hne : a ≠ W := ne_of_none z nW
                rw [heq a hne]
                exact sm2 _ _ z
              · rw [efb, firstBad_yes (s := ((every.length : Nat) : Int) + (mm : Int)) (by show (if 3 ≤ (mm : Int) ∧ (mm : Int) ≤ 18 ∧ 1 ≤ (bb : Int) ∧ (bb : Int) ≤ 1024 ∧ (bb : Int) ≤ (every.length : Int) then some _ else none) = _; rw [if_pos (by omega)]), hcl]
                push_cast
                rfl
              · rw [htake, List.map_append, tells_app, htl]
                show (if ((bb : Int)).toNat ≤ every.length then tells (copyN every ((bb : Int)).toNat ((mm : Int)).toNat) [] else none) = _
                rw [Int.toNat_natCast, Int.toNat_natCast, if_pos (by omega)]
                rfl
              · rw [er, List.length_append] at hcl
                rw [List.length_append]
                omega
    · obtain ⟨y3, y4, every, due, rfl, sm, hW, efb, htl, edue, hk, hdl⟩ := h
      rw [← hlen] at efb htl hdl
      rw [List.drop_length] at efb
      rw [List.take_length] at htl
      have hcut : cutV (bys every) (some ((lead.length : Nat) : Int)) none = bys due := by
        rw [edue]
        unfold cutV
        rw [HT.sIx_nat, HT.sIx_none, bys_len, List.length_append, Nat.min_eq_left (by omega)]
        unfold bys
        rw [← List.map_drop, ← List.map_drop, ← List.map_take, ← List.map_take, List.drop_left, Nat.add_sub_cancel_left, List.take_length]
      refine ⟨_, rfl, _, rfl, _, (byB lead).size, rfl, ⟨by rw [byB_size, hz]; omega, rfl⟩, _, rfl, W, _, rfl, .inl (.inl hW), fun r nr => ?_⟩
      rw [byB_size, hcut]
      have hkd : ∀ k ∈ due, k < 256 := fun k m => hk k (by rw [edue]; exact List.mem_append.mpr (.inr m))
      refine .inr ⟨r, due.map fun (k : Nat) => (k : Int), rfl, .inl (.inl upd_same), ?_, ?_⟩
      · intro z m
        obtain ⟨k, mk, rfl⟩ := List.mem_map.mp m
        have := hkd k mk
        omega
      · rw [byB_of]
        exact q (by rw [efb]; rfl) _ due (sm.trans (same_upd nr)) (by rw [htl, edue]) hkd (by omega)
end
end K4

namespace K4
open PySem PySem.Spec PyProof.Rows L2
/-! ### told, bits_of -/
theorem passF {P : Program} {w : World} {X : Cx} : Passes (L2N.CX P w) X (fun _ _ _ => False) := fun _ _ _ _ _ _ _ c => by
  obtain ⟨_, _, _, _, _, _, _, _, _, _, _, _, z⟩ := c
  exact z.elim
theorem scTld : FnScope ["items", "ahead"] ["items", "ahead"] (defScope sTld) := ⟨rfl, rfl, rfl, by decide +kernel, rfl, by decide +kernel, by decide +kernel⟩
abbrev NBt : List Str := ["items", "prices", "at", "item", "letters", "backs", "costs"]
theorem scBits : FnScope NBt ["items", "prices"] (defScope sBits) := ⟨rfl, rfl, rfl, by decide +kernel, rfl, by decide +kernel, by decide +kernel⟩
theorem kb_tld {K : PySem.W.Frag} {f : Addr} {fd : FuncData} (F : Fun K "told" "told" sTld f fd) : KBn K fd ["items", "ahead"] 1 ["ahead"] (fun us ws => us ++ ws) (fun vs zs => vs ++ zs) := by
  obtain ⟨oc, od, kV, doc, pm, an, cdv, ct, osl, rfl, lk, hcd⟩ := F.ex
  refine ⟨fun s us ws X h1 h2 => ?_, fun r1 r2 => r1.append r2⟩
  match us, h1, ws, h2 with
  | [u], _, [x], _ => exact BindsTo.of_eq rfl
/-- all costs' sum, none where one is none -/
def sumO : List (Option Int) → Option Int
  | [] => some 0
  | none :: _ => none
  | some x :: r => (sumO r).map (x + ·)
section
variable {P : Program} {w : World} {K : PySem.W.Frag} {mg : Str → Option Value} {base : Heap} {CI fE C fPI fL fB : Addr}
theorem ok_tld {f fA fH : Addr} {fd fdA fdH : FuncData} {j : Nat} {t1 : Tok} (F : Fun K "told" "told" sTld f fd)
    (GA : FnOk P w K mg base CX0 (j + 4) fA fdA ["told", "most"] spAreBytes) (bA : Binds K fdA ["told", "most"] []) (kA : PySem.W.keepIn K (.ref fA) = true) (gA : mg "are_bytes" = some (.ref fA))
    (GH : FnOk P w K mg base (L2N.CX P w) (j + 4) fH fdH ["items", "ahead"] (spBehind CI)) (bH : Binds K fdH ["items", "ahead"] []) (kH : PySem.W.keepIn K (.ref fH) = true) (gH : mg "bytes_behind" = some (.ref fH))
    (c1 : mg "MOST_AHEAD" = some (.int 4096 t1)) : FnOk P w K mg base (L2N.CX P w) (j + 5) f fd ["items", "ahead"] (fun vs H Q E => spBehind CI vs H Q E ∧ ∃ (pr : Addr) (lead : List Nat), vs = [.ref pr, .byt (byB lead)] ∧ lead.length ≤ 4096) := by
  refine okN F scTld (fun vs H Q E h => ?_) (fun cdv A outer s H vs Q E hr h => ?_)
  · obtain ⟨_, pr, lead, rfl, _⟩ := h
    rfl
  · obtain ⟨hB, pr, lead, rfl, hl⟩ := h
    refine ⟨_, pss_cons (ps_if (pt_not (pt_val (pe_call GA hr (by rfl) gA kA bA .nil pass0 (pa_cons (pv 1) (pa_cons (pe_glob (v := .int 4096) rfl c1 ⟨_, rfl⟩) pa_nil))))) (pss_one ps_never) pss_nil)
      (pss_one (ps_ret (pe_call GH hr (by rfl) gH kH bH .nil (L2N.passes_call (L2N.takes_of rfl rfl rfl rfl) (fun _ _ _ _ h => h)) (pa_cons (pv 0) (pa_cons (pv 1) pa_nil))))), ?_⟩
    refine ⟨_, rfl, byB lead, 4096, rfl, (by rw [byB_size]; omega), _, rfl, ?_⟩
    rw [byB_size, decide_eq_true hl]
    exact iteF ⟨_, rfl, _, rfl, hB⟩
/-! ### bits_of -/
def toAny : Itm → Any
  | .b k => .num (k : Int)
  | .c m r => .tup [(m : Int), (r : Int)]
theorem toAny_at {H : Hp} {it : Itm} {v : V} (h : ItmAt H it v) : AnyAt H (toAny it) v := by
  cases it with
  | b k => exact h
  | c m r => exact h
theorem toAny_ok {it : Itm} (h : ItmOk it) : itemB (toAny it) = true := by
  cases it with
  | b k =>
    have h' : k < 256 := h
    exact decide_eq_true (by omega)
  | c m r =>
    obtain ⟨h1, h2, h3, h4⟩ := h
    show (decide (3 ≤ (m : Int) ∧ (m : Int) ≤ 18) && decide (1 ≤ (r : Int) ∧ (r : Int) ≤ 1024)) = true
    rw [decide_eq_true (show 3 ≤ (m : Int) ∧ (m : Int) ≤ 18 by omega), decide_eq_true (show 1 ≤ (r : Int) ∧ (r : Int) ≤ 1024 by omega)]
    rfl
def bitsO (L B : List Int) (its : List Itm) : Option Int := sumO (its.map (costO L B))
theorem sumO_none : ∀ {cs : List (Option Int)}, none ∈ cs → sumO cs = none
  | none :: _, _ => rfl
  | some x :: r, h => by
    have h' : none ∈ r := by simpa using h
    show (sumO r).map (x + ·) = none
    rw [sumO_none h']
    rfl
theorem sumO_some : ∀ (ns : List Int), sumO (ns.map some) = some ns.sum
  | [] => rfl
  | x :: r => by
    show (sumO (r.map some)).map (x + ·) = some (x :: r).sum
    rw [sumO_some r]
    rfl
theorem all_some : ∀ {cs : List (Option Int)}, none ∉ cs → ∃ ns : List Int, cs = ns.map some
  | [], _ => ⟨[], rfl⟩
  | none :: _, h => absurd (List.mem_cons_self ..) h
  | some x :: r, h => by
    obtain ⟨ns, e⟩ := all_some (cs := r) (fun z => h (List.mem_cons_of_mem _ z))
    exact ⟨x :: ns, by rw [e]; rfl⟩
theorem inV_non (cs : List (Option Int)) : inV .non (cs.map optV) = decide (none ∈ cs) := by
  induction cs with
  | nil => rfl
  | cons c r ih =>
    have e : inV .non ((c :: r).map optV) = (eqV (optV c) .non || inV .non (r.map optV)) := rfl
    rw [e, ih]
    cases c with
    | none => simp [eqV, optV]
    | some x => simp [eqV, optV]
theorem flat_opt (cs : List (Option Int)) : (cs.map optV).all flatV = true := by
  rw [List.all_map]
  refine List.all_eq_true.mpr fun c _ => ?_
  cases c with
  | none => rfl
  | some x => rfl
def spBits (C : Addr) : Sp := fun vs H Q _ => ∃ (pr pp : Addr) (us : List V) (its : List Itm) (L B : List Int), vs = [.ref pr, .ref pp] ∧ H pr = some (.lst us) ∧ RowAt H its us ∧ (∀ it ∈ its, ItmOk it) ∧ its.length ≤ 1000 ∧ PcAt C H pp L B ∧ PrL 273 L ∧ PrL 11 B ∧
  ∀ H', Same H H' → Q (optV (bitsO L B its)) H'
theorem ok_bits (T : PrTxt K mg C fPI fL fB) {f fI fM : Addr} {fd fdI fdM fdL fdB : FuncData} {j : Nat} (F : Fun K "bits_of" "bits_of" sBits f fd)
    (GI : FnOk P w K mg base CX0 (j + 4) fI fdI ["item"] spIsItem) (bI : Binds K fdI ["item"] []) (kI : PySem.W.keepIn K (.ref fI) = true) (gI : mg "is_item" = some (.ref fI))
    (GM : FnOk P w K mg base CX0 (j + 4) fM fdM ["item", "letters", "backs"] spItemB) (bM : Binds K fdM ["item", "letters", "backs"] []) (kM : PySem.W.keepIn K (.ref fM) = true) (gM : mg "item_bits" = some (.ref fM))
    (GL : FnOk P w K mg base CX0 (j + 4) fL fdL ["self"] (spPLet C)) (bL : Binds K fdL ["self"] []) (GB : FnOk P w K mg base CX0 (j + 4) fB fdB ["self"] (spPBk C)) (bB : Binds K fdB ["self"] [])
    (m1 : mg "isinstance" = none) (m2 : mg "list" = none) (m3 : mg "enumerate" = none) (m4 : mg "sum" = none) : FnOk P w K mg base CX0 (j + 5) f fd ["items", "prices"] (spBits C) := by
  refine F.ok scBits (fun vs H Q E h => ?_) (fun cdv A outer s H vs Q E hr h => ?_)
  · obtain ⟨pr, pp, us, its, L, B, rfl, _⟩ := h
    rfl
  · obtain ⟨pr, pp, us, its, L, B, rfl, hpr, hrow, hok, hil, hP, gl, gb, q⟩ := h
    have hz := PySem.sizeLine_eq
    refine ⟨_, pss_cons (ps_if (pt_not (pt_val (pe_callB call_isi (by rfl) m1 (by decide +kernel) (pa_cons (pv 1) (pa_cons (pe_glob (v := .ref C) (by rfl) T.gC rfl) pa_nil))))) (pss_one ps_never) pss_nil)
      (pss_cons (ps_if (pt_not (pt_val (pe_callB call_isi (by rfl) m1 (by decide +kernel) (pa_cons (pv 0) (pa_cons (pe_bltn (v := .ty "list") (by rfl) m2 (by decide +kernel) rfl) pa_nil))))) (pss_one ps_never) pss_nil)
      (pss_cons (ps_for PassesOwn.never rfl (pi_enum (by rfl) m3 (pa_cons (pv 0) pa_nil)) (pg_tup rfl (pgs_cons (pg_name (i := 2) scBits.nd rfl (.inl rfl)) (pgs_cons (pg_name (i := 3) scBits.nd rfl (.inl rfl)) pgs_nil)))
        (pss_one (ps_if (pt_not (pt_val (pe_call GI hr (by rfl) gI kI bI .nil pass0 (pa_cons (pv 3) pa_nil)))) (pss_one ps_never) pss_nil)))
      (pss_cons (ps_set (i := 4) scBits.nd rfl (.inr rfl) (pe_meth0 (pv 1) T.cl T.mL GL hr bL .nil pass0))
      (pss_cons (ps_set (i := 5) scBits.nd rfl (.inr rfl) (pe_meth0 (pv 1) T.cl T.mB GB hr bB .nil pass0))
      (pss_cons (ps_setLc (i := 6) (own := [("item", 3)]) (g := gName 3) (tt := tYes) rfl scBits.nd rfl rfl (sw_true rfl rfl rfl (by decide +kernel)) (pi_list (pv 0)) (blkOk_by (N := NBt) (sc := defScope sBits) (by decide +kernel))
          (fun _ _ _ _ _ => pg_name (i := 3) scBits.nd rfl (.inl rfl)) (fun _ _ _ _ _ => pts_nil) (fun _ _ _ _ _ => pe_call GM hr (by rfl) gM kM bM .nil pass0 (pa_cons (pv 3) (pa_cons (pv 4) (pa_cons (pv 5) pa_nil)))))
      (pss_one (ps_ret (pe_ifExp (pt_cmpR op_in_seq pe_non (pv 6) (by rfl)) pe_non (pe_callB (cr_sum rfl) (by rfl) m4 (by decide +kernel) (pa_cons (pv 6) pa_nil)))))))))), ?_⟩
    obtain ⟨dx, p1, p2, hi, hp1, hp2⟩ := id hP
    refine ⟨_, rfl, _, _, .ref C, .ref C, true, rfl, .own C, .base (T.ity hi), T.isC, _, rfl, iteF ?_⟩
    refine ⟨_, rfl, _, _, .type "list", _, _, rfl, .ty "list", .base (.lst hpr), kit_ty (a := "list") (r := true) (by decide +kernel), _, rfl, iteF ?_⟩
    refine ⟨_, rfl, pr, _, rfl, .inl (.inl hpr), ?_⟩
    have hlen := hrow.length
    refine for_it (walk_enum (K := K) (a := pr) (xs := us)) (fun i σ H' => ∃ (y2 y3 : Option V), σ = [some (.ref pr), some (.ref pp), y2, y3, none, none, none] ∧ Same H H') ⟨_, _, rfl, Same.refl H⟩ (fun i σ H' _ h => ?_) (fun i x σ H1 H2 hi' h y => ?_) (fun σ H' h => ?_)
    · obtain ⟨_, _, _, sm⟩ := h
      exact .inl (.inl (sm _ _ hpr))
    · obtain ⟨y2, y3, rfl, sm⟩ := h
      obtain ⟨T0, x0, u, rfl, nT0, rfl, e0, e1⟩ := y
      obtain rfl := Option.some.inj e0
      have hia : i < its.length := by omega
      obtain ⟨u', e1', ha⟩ := paired_get hrow (List.getElem?_eq_getElem hia)
      have euu : u' = u := Option.some.inj (e1'.symm.trans e1)
      subst euu
      have sT : Same H1 (upd H1 T0 (.tup [.int ((i : Nat) : Int), u'])) := same_upd nT0
      have hT : (upd H1 T0 (.tup [.int ((i : Nat) : Int), u'])) T0 = some (.tup [.int ((i : Nat) : Int), u']) := upd_same
      refine ⟨T0, _, rfl, .inl (.inl hT), rfl, _, _, rfl, _, _, rfl, rfl, ?_⟩
      refine ⟨_, rfl, u', toAny its[i], rfl, toAny_at ((ha.same sm).same sT), _, rfl, ?_⟩
      rw [toAny_ok (hok _ (List.getElem_mem hia))]
      exact iteF ⟨_, _, rfl, sm.trans sT⟩
    · obtain ⟨y2, y3, rfl, sm⟩ := h
      refine ⟨_, rfl, pp, dx, _, rfl, sm _ _ hi, prF_m p1 p2, ?_⟩
      refine ⟨pp, L, B, rfl, hP.same sm, fun H2 pL s2 nL hL => ?_⟩
      have sm2 := sm.trans s2
      refine ⟨_, rfl, pp, dx, _, rfl, sm2 _ _ hi, prF_n p1 p2, ?_⟩
      refine ⟨pp, L, B, rfl, hP.same sm2, fun H3 pB s3 nB hB => ?_⟩
      have sm3 := sm2.trans s3
      have hL3 := s3 _ _ hL
      have hpr3 := sm3 _ _ hpr
      refine ⟨_, rfl, pr, rfl, ⟨_, .inl (.inl hpr3)⟩, fun D nD => ?_⟩
      refine lc_list (K := K) (a := pr) (xs := us) (fun i H' => Same H3 H' ∧ H' D = some (.lst (((its.take i).map (costO L B)).map optV))) ⟨same_upd nD, upd_same⟩ (fun i H' _ h => .inl (.inl (h.1 _ _ hpr3))) (fun i x H1 hx h => ?_) (fun H4 h => ?_)
      · have hia : i < its.length := by
          have := (List.getElem?_eq_some_iff.mp hx).1
          omega
        obtain ⟨u', e1', ha⟩ := paired_get hrow (List.getElem?_eq_getElem hia)
        have euu : u' = x := Option.some.inj (e1'.symm.trans hx)
        subst euu
        refine ⟨rfl, yes ?_⟩
        refine ⟨_, rfl, _, rfl, _, rfl, u', its[i], pL, pB, L, B, rfl, (ha.same sm3).same h.1, hok _ (List.getElem_mem hia), h.1 _ _ hL3, h.1 _ _ hB, gl, gb, _, h.2, ?_, same_put h.1 nD, ?_⟩
        · rw [List.length_map, List.length_map, List.length_take]
          exact small1000 (by omega)
        · rw [upd_same, List.take_add_one, List.getElem?_eq_getElem hia, List.map_append, List.map_append]
          rfl
      · obtain ⟨s4, hD⟩ := h
        rw [← hlen, List.take_length] at hD
        have q' := q _ (sm3.trans s4)
        unfold bitsO at q'
        generalize its.map (costO L B) = cs at *
        refine ⟨_, rfl, D, _, rfl, .inl (.inl (.inl hD)), rfl, flat_opt cs, _, rfl, ?_⟩
        rw [inV_non]
        refine ite2 (fun e => ?_) (fun e => ?_)
        · rw [sumO_none (of_decide_eq_true e)] at q'
          exact q'
        · obtain ⟨ns, rfl⟩ := all_some (fun z => e (decide_eq_true z))
          rw [sumO_some] at q'
          rw [List.map_map] at hD
          exact ⟨_, rfl, D, ns, rfl, .inl (.inl hD), q'⟩
end
end K4

namespace K4
open PySem PySem.Spec PyProof.Rows L2
/-! ### what least answers -/
def lsF (r c : Addr) : List (Str × V) := [(("row" : Str), V.ref r), (("costs" : Str), V.ref c)]
def nvF (c : Addr) : List (Str × V) := [(("costs" : Str), V.ref c)]
def LstAt (C : Addr) (H : Hp) (a : Addr) (its : List Itm) (cs : List (Option Int)) : Prop := ∃ dx r c us, H a = some (.ins C dx (lsF r c)) ∧ H r = some (.lst us) ∧ RowAt H its us ∧ H c = some (.lst (cs.map optV))
def NevAt (C : Addr) (H : Hp) (a : Addr) (cs : List (Option Int)) : Prop := ∃ dx c, H a = some (.ins C dx (nvF c)) ∧ H c = some (.lst (cs.map optV))
theorem row_same {H H' : Hp} {its : List Itm} {us : List V} (h : RowAt H its us) (s : Same H H') : RowAt H' its us := h.mono fun _ _ x => x.same s
theorem LstAt.same {C a : Addr} {H H' : Hp} {its : List Itm} {cs : List (Option Int)} (h : LstAt C H a its cs) (s : Same H H') : LstAt C H' a its cs := by
  obtain ⟨dx, r, c, us, h1, h2, h3, h4⟩ := h
  exact ⟨dx, r, c, us, s _ _ h1, s _ _ h2, row_same h3 s, s _ _ h4⟩
theorem NevAt.same {C a : Addr} {H H' : Hp} {cs : List (Option Int)} (h : NevAt C H a cs) (s : Same H H') : NevAt C H' a cs := by
  obtain ⟨dx, c, h1, h2⟩ := h
  exact ⟨dx, c, s _ _ h1, s _ _ h2⟩
def neverOk (e : List Nat) (lead : Nat) (cs : List (Option Int)) (L B : List Int) : Bool := noneBetter e lead cs L B && decide (cs.getD 0 none = none)
def sameBits : Option Int → Option Int → Bool
  | some a, some b => decide (a = b)
  | _, _ => false
def leastOk (e : List Nat) (lead : Nat) (cs : List (Option Int)) (L B : List Int) (its : List Itm) : Bool := noneBetter e lead cs L B && (decide (tells (e.take lead) its = some e) && sameBits (bitsO L B its) (cs.getD 0 none))
/-- what the written part says of an answer's class -/
structure AnsTxt (K : PySem.W.Frag) (mg : Str → Option Value) (n : Str) (C fI fS : Addr) : Prop where
  cl : Cls K C
  gC : mg n = some (.ref C)
  made : Mk K C fI
  mS : Meth K C "shows" fS
def kbS (K : PySem.W.Frag) (fd : FuncData) : Prop := KBn K fd ["self", "data", "prices", "ahead"] 3 ["ahead"] (fun us ws => us ++ ws) (fun vs zs => vs ++ zs)
def spLInit (C : Addr) : Sp := fun vs H Q _ => ∃ (a dx pr pc : Addr) (us : List V) (its : List Itm) (cs : List (Option Int)), vs = [.ref a, .ref pr, .ref pc] ∧ H a = some (.ins C dx []) ∧ H pr = some (.lst us) ∧ RowAt H its us ∧ its.length ≤ 1000 ∧ H pc = some (.lst (cs.map optV)) ∧ cs.length ≤ 2000 ∧
  ∀ H', (∀ b o, b ≠ a → H b = some o → H' b = some o) → LstAt C H' a its cs → Q .non H'
def spNInit (C : Addr) : Sp := fun vs H Q _ => ∃ (a dx pc : Addr) (cs : List (Option Int)), vs = [.ref a, .ref pc] ∧ H a = some (.ins C dx []) ∧ H pc = some (.lst (cs.map optV)) ∧ cs.length ≤ 2000 ∧
  ∀ H', (∀ b o, b ≠ a → H b = some o → H' b = some o) → NevAt C H' a cs → Q .non H'
def spLShows (C CP : Addr) : Sp := fun vs H Q _ => ∃ (a pp : Addr) (its : List Itm) (cs : List (Option Int)) (lead data : List Nat) (L B : List Int), vs = [.ref a, .byt (byB data), .ref pp, .byt (byB lead)] ∧ LstAt C H a its cs ∧ (∀ it ∈ its, ItmOk it) ∧ its.length ≤ 1000 ∧ cs.length ≤ 2000 ∧
  (∀ k ∈ lead ++ data, k < 256) ∧ (lead ++ data).length ≤ 1000 ∧ PcAt CP H pp L B ∧ PrL 273 L ∧ PrL 11 B ∧ ∀ H', Same H H' → Q (.bl (leastOk (lead ++ data) lead.length cs L B its)) H'
def spNShows (C CP : Addr) : Sp := fun vs H Q _ => ∃ (a pp : Addr) (cs : List (Option Int)) (lead data : List Nat) (L B : List Int), vs = [.ref a, .byt (byB data), .ref pp, .byt (byB lead)] ∧ NevAt C H a cs ∧ cs.length ≤ 2000 ∧
  (∀ k ∈ lead ++ data, k < 256) ∧ (lead ++ data).length ≤ 1000 ∧ PcAt CP H pp L B ∧ PrL 273 L ∧ PrL 11 B ∧ ∀ H', Same H H' → Q (.bl (neverOk (lead ++ data) lead.length cs L B)) H'
/-! ### rows as data -/
def itmD : Itm → PyData
  | .b k => .int (k : Int)
  | .c m r => .tuple [.int (m : Int), .int (r : Int)]
theorem dp_row {K : PySem.W.Frag} {H : Hp} : ∀ {its : List Itm} {us : List V}, RowAt H its us → DpAll K H us (its.map itmD)
  | [], _, .nil => .nil
  | .b k :: r, _, .cons h t => by
    obtain rfl := h
    exact .cons (.int _) (dp_row t)
  | .c m b :: r, _, .cons h t => by
    obtain ⟨a, rfl, ht⟩ := h
    exact .cons (.tup (.inl (.inl ht)) (.cons (.int _) (.cons (.int _) .nil))) (dp_row t)
theorem ixTK (K : PySem.W.Frag) {X : Cx} (h : X.K = K := by rfl) : IxR X (rIxT K) := by
  subst h
  exact ix_tup
theorem itmD_lay (it : Itm) : (itmD it).canLay0 = true := by cases it <;> simp [itmD, PyData.canLay0, PyData.canLayAll0]
theorem itmD_depth (it : Itm) : (itmD it).depth ≤ 1 := by cases it <;> simp [itmD, PyData.depth, PyData.depthAll]
theorem itmDs_lay : ∀ its : List Itm, PyData.canLayAll0 (its.map itmD) = true
  | [] => by simp [PyData.canLayAll0]
  | z :: zs => by simp [PyData.canLayAll0, itmD_lay z, itmDs_lay zs]
theorem itmDs_depth : ∀ its : List Itm, PyData.depthAll (its.map itmD) ≤ 1
  | [] => by simp [PyData.depthAll]
  | z :: zs => by
    have h1 := itmDs_depth zs
    have h2 := itmD_depth z
    simp only [List.map_cons, PyData.depthAll]
    omega
theorem shaped_row (its : List Itm) : SeqAt.shaped (.list (its.map itmD)) = true := by
  have h1 := itmDs_depth its
  have h2 : PyData.depth (.list (its.map itmD)) ≤ 64 := by
    simp only [PyData.depth]
    omega
  show (PyData.canLay0 (.list (its.map itmD)) && decide (PyData.depth (.list (its.map itmD)) ≤ 64)) = true
  rw [Bool.and_eq_true]
  exact ⟨by simp only [PyData.canLay0]; exact itmDs_lay its, decide_eq_true h2⟩
theorem or0 {K : PySem.W.Frag} {o : Option Int} {σ : L2.St} {H : Hp} {Q : VK} (h : Q (.int (o.getD 0)) H) : ∃ k, TruV K (optV o) H k ∧ if k = true then Q (optV o) H else tC (.int 0) σ H Q := by
  cases o with
  | none => exact ⟨_, rfl, iteF h⟩
  | some x =>
    refine ⟨_, rfl, ite2 (fun e => h) (fun e => ?_)⟩
    have ex : x = 0 := by simpa using e
    subst ex
    exact h
theorem make_same {H H3 : Hp} {x dx C : Addr} (nx : H x = none) (nd : H dx = none) (k3 : ∀ b o, b ≠ x → (upd (upd H dx (.own x)) x (.ins C dx [])) b = some o → H3 b = some o) : Same H H3 := fun b o e => k3 b o (ne_of_none e nx) (by
  rw [upd_ne (ne_of_none e nx), upd_ne (ne_of_none e nd)]
  exact e)
theorem paired_set {α β : Type} {R : α → β → Prop} {xs : List α} {ys : List β} {x : α} {y : β} (h : Paired R xs ys) (hr : R x y) : ∀ n, Paired R (xs.set n x) (ys.set n y) := by
  induction h with
  | nil => exact fun _ => .nil
  | cons a t ih =>
    intro n
    cases n with
    | zero => exact .cons hr t
    | succ n => exact .cons a (ih n)
theorem opt_from (cs : List (Option Int)) : cutV (cs.map optV) (some 1) none = (cs.drop 1).map optV := by
  unfold cutV
  rw [show (1 : Int) = ((1 : Nat) : Int) from rfl, HT.sIx_nat, HT.sIx_none, List.length_map, ← List.map_drop]
  by_cases h : 1 ≤ cs.length
  · rw [Nat.min_eq_left h, List.take_of_length_le (by rw [List.length_map, List.length_drop]; omega)]
  · have : cs = [] := List.length_eq_zero_iff.mp (by omega)
    subst this
    rfl
/-! ### _law_spoilt_right -/
abbrev NSp : List Str := ["_law_cell", "_law_every", "_law_lead", "_law_data_here", "_law_before", "_law_costs", "_law_row", "_law_lengths", "_law_prices_here", "_law_other", "_law_items_here", "_law_at", "_law_right", "_law_bits", "_law_fine", "_law_item"]
theorem scSpoilt : FnScope NSp ["_law_cell", "_law_every", "_law_lead", "_law_data_here", "_law_before", "_law_costs", "_law_row", "_law_lengths"] (defScope sSpoilt) := ⟨rfl, rfl, rfl, by decide +kernel, rfl, by decide +kernel, by decide +kernel⟩
section
variable {P : Program} {w : World} {K : PySem.W.Frag} {mg : Str → Option Value} {base : Heap} {C CL CN fPI fL fB fLI fLS fNI fNS : Addr}
def spSpoilt : Sp := fun vs H Q _ => ∃ (c : Int) (pe pc pr pl pL pB : Addr) (bef data : List Nat) (us : List V) (its : List Itm) (cs : List (Option Int)) (L B : List Int), vs = [.int c, .ref pe, .int (bef.length : Int), .byt (byB data), .byt (byB bef), .ref pc, .ref pr, .ref pl] ∧
  H pe = some (.lst (bys (bef ++ data))) ∧ (∀ k ∈ bef ++ data, k < 256) ∧ (bef ++ data).length ≤ 500 ∧ H pc = some (.lst (cs.map optV)) ∧ cs.length = data.length + 1 ∧ H pr = some (.lst us) ∧ RowAt H its us ∧ (∀ it ∈ its, ItmOk it) ∧ its.length ≤ data.length ∧
  H pl = some (.tup [.ref pL, .ref pB]) ∧ H pL = some (.lst (L.map V.int)) ∧ H pB = some (.lst (B.map V.int)) ∧ PrL 273 L ∧ PrL 11 B ∧ ∀ H', Same H H' → Q (.bl true) H'
set_option maxHeartbeats 8000000 in
theorem ok_spoilt (T : PrTxt K mg C fPI fL fB) (TL : AnsTxt K mg "Least" CL fLI fLS) (TN : AnsTxt K mg "Never" CN fNI fNS) {f fBt fCo fT : Addr} {fd fdPI fdLI fdLS fdNI fdNS fdBt fdCo fdT : FuncData} {j k1 k2 k3 k4 k5 k6 k7 k8 : Nat} (F : Fun K "_law_spoilt_right" "_law_spoilt_right" sSpoilt f fd)
    (GI : FnOk P w K mg base CX0 k1 fPI fdPI ["self", "letters", "backs"] (spPInit C)) (bI : Binds K fdPI ["self", "letters", "backs"] []) (l1 : k1 + 1 ≤ j)
    (GLI : FnOk P w K mg base CX0 k2 fLI fdLI ["self", "row", "costs"] (spLInit CL)) (bLI : Binds K fdLI ["self", "row", "costs"] []) (l2 : k2 + 1 ≤ j)
    (GNI : FnOk P w K mg base CX0 k3 fNI fdNI ["self", "costs"] (spNInit CN)) (bNI : Binds K fdNI ["self", "costs"] []) (l3 : k3 + 1 ≤ j)
    (GLS : FnOk P w K mg base CX0 k4 fLS fdLS ["self", "data", "prices", "ahead"] (spLShows CL C)) (bLS : kbS K fdLS) (l4 : k4 ≤ j)
    (GNS : FnOk P w K mg base CX0 k5 fNS fdNS ["self", "data", "prices", "ahead"] (spNShows CN C)) (bNS : kbS K fdNS) (l5 : k5 ≤ j)
    (GB : FnOk P w K mg base CX0 k6 fBt fdBt ["_law_every", "_law_lead", "_law_costs", "_law_letters", "_law_backs"] spBetter) (bB : Binds K fdBt ["_law_every", "_law_lead", "_law_costs", "_law_letters", "_law_backs"] []) (kB : PySem.W.keepIn K (.ref fBt) = true) (gB : mg "_law_none_better" = some (.ref fBt)) (l6 : k6 ≤ j)
    (GC : FnOk P w K mg base CX0 k7 fCo fdCo ["_law_item", "_law_letters", "_law_backs"] spCost) (bC : Binds K fdCo ["_law_item", "_law_letters", "_law_backs"] []) (kC : PySem.W.keepIn K (.ref fCo) = true) (gC : mg "_law_cost" = some (.ref fCo)) (l7 : k7 ≤ j)
    (GT : FnOk P w K mg base CX0 k8 fT fdT ["_law_row", "_law_lead"] spToldBy) (bT : Binds K fdT ["_law_row", "_law_lead"] []) (kT : PySem.W.keepIn K (.ref fT) = true) (gT : mg "_law_told_by" = some (.ref fT)) (l8 : k8 ≤ j)
    (m1 : mg "list" = none) (m2 : mg "len" = none) (m3 : mg "max" = none) (m4 : mg "sum" = none) :
    FnOk P w K mg base CX0 (j + 1) f fd ["_law_cell", "_law_every", "_law_lead", "_law_data_here", "_law_before", "_law_costs", "_law_row", "_law_lengths"] spSpoilt := by
  refine F.ok scSpoilt (fun vs H Q E h => ?_) (fun cdv A outer s H vs Q E hr h => ?_)
  · obtain ⟨c, pe, pc, pr, pl, pL, pB, bef, data, us, its, cs, L, B, rfl, _⟩ := h
    rfl
  · obtain ⟨c, pe, pc, pr, pl, pL, pB, bef, data, us, its, cs, L, B, rfl, hpe, hby, hel, hpc, hcl, hpr, hrow, hok, hil, hpl, hL, hB, gL, gB', q⟩ := h
    have hz := PySem.sizeLine_eq
    refine ⟨_, pss_cons (ps_par3 (i := 8) (j := 9) (l := 10) rfl scSpoilt.nd rfl rfl rfl (by decide) (by decide) (by decide) rfl rfl rfl (pa_cons (pe_make T.made GI (hr.mono l1) (by rfl) T.gC bI .nil pass0 (pa_cons (pe_ix ix_tup (pv 7) pe_int (fun _ _ => rfl)) (pa_cons (pe_ix ix_tup (pv 7) pe_int (fun _ _ => rfl)) pa_nil)))
        (pa_cons (pe_callTy call_list_of (by rfl) m1 (by decide +kernel) (pa_cons (pv 5) pa_nil)) (pa_cons (pe_callTy call_list_of (by rfl) m1 (by decide +kernel) (pa_cons (pv 6) pa_nil)) pa_nil))) (by rfl))
      (pss_cons (ps_if (pt_cmpR op_eq (pe_op op_modN (pv 0) pe_int) pe_int (nomark _))
        (pss_cons (ps_set (i := 11) scSpoilt.nd rfl (.inl rfl) (pe_op op_modN (pe_op op_fdivN (pv 0) pe_int) (pe_callB call_len_seq (by rfl) m2 PySem.boot_len (pa_cons (pv 9) pa_nil))))
        (pss_cons (ps_asg (pe_ix ix_list (pe_lst (pa_cons pe_non (pa_cons pe_int (pa_cons pe_int (pa_cons (pe_op op_add (pe_orT (pe_ix ix_list (pv 9) (pv 11) (fun _ _ => rfl)) (pe_one pe_int)) pe_int) (pa_cons (pe_callB (call_max2 rfl) (by rfl) m3 (by decide +kernel) (pa_cons pe_int (pa_cons (pe_op op_sub (pe_orT (pe_ix ix_list (pv 9) (pv 11) (fun _ _ => rfl)) (pe_one pe_int)) pe_int) pa_nil))) pa_nil))))))
            (pe_op op_modN (pe_op op_fdivN (pv 0) pe_int) pe_int) (fun _ _ => rfl)) (pg_sub (pv 9) (pv 11) set_list))
        (pss_one (ps_if (pt_cmpR op_eq (pe_op op_modN (pe_op op_fdivN (pv 0) pe_int) pe_int) pe_int (nomark _))
          (pss_one (ps_set (i := 9) scSpoilt.nd rfl (.inl rfl) (pe_ix ix_list (pe_lst (pa_cons (pe_callTy call_list_of (by rfl) m1 (by decide +kernel) (pa_cons (pe_slice sl_list (pv 5) (po_some pe_int) po_none) pa_nil)) (pa_cons (pe_op op_cat (pe_lst (pa_cons pe_int pa_nil)) (pv 5)) (pa_cons (pe_op op_cat (pv 5) (pe_lst (pa_cons pe_int pa_nil))) (pa_cons (pe_lst pa_nil) pa_nil)))))
            (pe_op op_modN (pe_op op_fdivN (pv 0) pe_int) pe_int) (fun _ _ => rfl)))) pss_nil))))
        (pss_one (ps_if (pt_cmpR (op_neD hr.units) (pv 10) (pe_lst pa_nil) (nomark _))
          (pss_cons (ps_set (i := 11) scSpoilt.nd rfl (.inl rfl) (pe_op op_modN (pe_op op_fdivN (pv 0) pe_int) (pe_callB call_len_seq (by rfl) m2 PySem.boot_len (pa_cons (pv 10) pa_nil))))
          (pss_one (ps_asg (pe_ix ix_list (pe_lst (pa_cons pe_int (pa_cons (pe_tup (pa_cons pe_int (pa_cons pe_int pa_nil))) (pa_cons (pe_tup (pa_cons pe_int (pa_cons pe_int pa_nil))) (pa_cons (pe_tup (pa_cons pe_int (pa_cons pe_int pa_nil))) (pa_cons (pe_ix ix_list (pv 1) (pe_un un_neg pe_int) (fun _ _ => rfl)) pa_nil))))))
            (pe_op op_modN (pe_op op_fdivN (pv 0) pe_int) pe_int) (fun _ _ => rfl)) (pg_sub (pv 10) (pv 11) set_list)))) pss_nil)))
      (pss_cons (ps_set (i := 12) scSpoilt.nd rfl (.inl rfl) (pe_call GB (hr.mono l6) (by rfl) gB kB bB .nil pass0 (pa_cons (pv 1) (pa_cons (pv 2) (pa_cons (pv 9) (pa_cons (pe_ix ix_tup (pv 7) pe_int (fun _ _ => rfl)) (pa_cons (pe_ix ix_tup (pv 7) pe_int (fun _ _ => rfl)) pa_nil)))))))
      (pss_cons (ps_if (pt_cmpR op_ne (pe_methN (pe_make TN.made GNI (hr.mono l3) (by rfl) TN.gC bNI .nil pass0 (pa_cons (pv 9) pa_nil)) TN.cl TN.mS GNS (hr.mono l5) bNS pass0 (pa_cons (pv 3) (pa_cons (pv 8) pa_nil)) (pk_cons (pv 4) pk_nil))
          (pe_and (pv 12) (pe_one (pe_cmp (pc_isN (pe_ix ix_list (pv 9) pe_int (fun _ _ => rfl))) rfl))) (nomark _)) (pss_one (ps_ret pe_bl)) pss_nil)
      (pss_cons (ps_setLc (i := 13) (own := [("_law_item", 15)]) (g := gName 15) (tt := tYes) rfl scSpoilt.nd rfl rfl (sw_true rfl rfl rfl (by decide +kernel)) (pi_list (pv 10)) (blkOk_by (N := NSp) (sc := defScope sSpoilt) (by decide +kernel))
          (fun _ _ _ _ _ => pg_name (i := 15) scSpoilt.nd rfl (.inl rfl)) (fun _ _ _ _ _ => pts_nil) (fun _ _ _ _ _ => pe_call GC (hr.mono l7) (by rfl) gC kC bC .nil pass0 (pa_cons (pv 15) (pa_cons (pe_ix (ixTK K) (pv 7) pe_int (fun _ _ => rfl)) (pa_cons (pe_ix (ixTK K) (pv 7) pe_int (fun _ _ => rfl)) pa_nil)))))
      (pss_cons (ps_set (i := 14) scSpoilt.nd rfl (.inl rfl) (pe_and (pv 12) (pe_and (pe_cmpR (op_eqD hr.units) (pe_call GT (hr.mono l8) (by rfl) gT kT bT .nil pass0 (pa_cons (pv 10) (pa_cons (pe_slice sl_list (pv 1) po_none (po_some (pv 2))) pa_nil))) (pv 1) (nomark _)) (pe_and (pe_cmpR op_notIn_seq pe_non (pv 13) rfl)
          (pe_one (pe_cmpR op_eq (pe_callB (cr_sum rfl) (by rfl) m4 (by decide +kernel) (pa_cons (pv 13) pa_nil)) (pe_ix ix_list (pv 9) pe_int (fun _ _ => rfl)) (nomark _)))))))
      (pss_one (ps_ret (pe_cmpR op_eq (pe_methN (pe_make TL.made GLI (hr.mono l2) (by rfl) TL.gC bLI .nil pass0 (pa_cons (pv 10) (pa_cons (pv 9) pa_nil))) TL.cl TL.mS GLS (hr.mono l4) bLS pass0 (pa_cons (pv 3) (pa_cons (pv 8) pa_nil)) (pk_cons (pv 4) pk_nil)) (pv 14) (nomark _))))))))), ?_⟩
    refine ⟨_, rfl, pl, _, 0, .ref pL, rfl, rfl, .inl (.inl hpl), rfl, _, rfl, pl, _, 1, .ref pB, rfl, rfl, .inl (.inl hpl), rfl, ?_⟩
    intro x dx nx nd ne
    have s0 : Same H (upd (upd H dx (.own x)) x (.ins C dx [])) := fun b o e => by
      rw [upd_ne (ne_of_none e nx), upd_ne (ne_of_none e nd)]
      exact e
    refine ⟨x, dx, pL, pB, L, B, rfl, upd_same, s0 _ _ hL, s0 _ _ hB, gL, gB', fun H3 k3 hP => ⟨rfl, ?_⟩⟩
    have s3 := make_same nx nd k3
    clear s0 k3 ne
    refine ⟨_, rfl, pc, _, rfl, .inl (.inl (.inl (s3 _ _ hpc))), fun oD noD => ?_⟩
    have t1 := same_upd (o := .lst (cs.map optV)) noD
    have hoD : (upd H3 oD (.lst (cs.map optV))) oD = some (.lst (cs.map optV)) := upd_same
    generalize upd H3 oD (.lst (cs.map optV)) = H4 at *
    refine ⟨_, rfl, pr, _, rfl, .inl (.inl (.inl (t1 _ _ (s3 _ _ hpr)))), fun iD niD => ?_⟩
    have t2 := t1.trans (same_upd (o := .lst us) niD)
    have hoD5 : (upd H4 iD (.lst us)) oD = some (.lst (cs.map optV)) := same_upd niD _ _ hoD
    have hiD5 : (upd H4 iD (.lst us)) iD = some (.lst us) := upd_same
    have niD3 := none_back t1 niD
    have neoi : oD ≠ iD := ne_of_none hoD niD
    generalize upd H4 iD (.lst us) = H5 at *
    clear hoD niD t1
    refine ⟨_, _, _, rfl, ?_⟩
    have s5 := s3.trans t2
    have hpe5 := s5 _ _ hpe
    have hpc5 := s5 _ _ hpc
    have hrow5 := row_same hrow s5
    have hrow3 := row_same hrow s3
    obtain ⟨M1, hM1⟩ : ∃ M : L2.St → Hp → Prop, M = (fun σ' H' => ∃ (y11 : Option V) (oD iD : Addr) (ot : List (Option Int)) (us2 : List V) (its2 : List Itm), σ' = [some (.int c), some (.ref pe), some (.int (bef.length : Int)), some (.byt (byB data)), some (.byt (byB bef)), some (.ref pc), some (.ref pr), some (.ref pl), some (.ref x), some (.ref oD), some (.ref iD), y11, none, none, none, none] ∧
      Same H3 H' ∧ H' oD = some (.lst (ot.map optV)) ∧ ot.length ≤ 600 ∧ H' iD = some (.lst us2) ∧ RowAt H' its2 us2 ∧ (∀ it ∈ its2, ItmOk it) ∧ its2.length ≤ 600) := ⟨_, rfl⟩
    rw [List.length_append] at hel
    with_reducible refine seq_mid M1 (fun N hN => ?_) (fun σ6 H6 h => ?_)
    · subst hM1
      refine ⟨_, rfl, _, _, rfl, rfl, (by show (2 : Int) ≠ 0; decide), rfl, _, rfl, ite2 (fun e => ?_) (fun e => ?_)⟩
      · have ecl : (cs.map optV).length = cs.length := List.length_map ..
        have hm := fmod_in (a := c.fdiv 2) (l := ((cs.map optV).length : Int)) (by omega)
        obtain ⟨a, ea⟩ := nat_of hm.1
        rw [ea] at hm
        have hal : a < cs.length := by omega
        refine ⟨_, rfl, _, _, rfl, rfl, ⟨by decide, by decide⟩, _, rfl, oD, _, rfl, .inl (.inl (.inl hoD5)), _, _, rfl, rfl, (by omega), ?_⟩
        dsimp only [gName]
        rw [ea]
        obtain ⟨M2, hM2⟩ : ∃ M : L2.St → Hp → Prop, M = (fun σ' H' => ∃ (ot : List (Option Int)), σ' = [some (.int c), some (.ref pe), some (.int (bef.length : Int)), some (.byt (byB data)), some (.byt (byB bef)), some (.ref pc), some (.ref pr), some (.ref pl), some (.ref x), some (.ref oD), some (.ref iD), some (.int (a : Int)), none, none, none, none] ∧
          Same H3 H' ∧ H' oD = some (.lst (ot.map optV)) ∧ ot.length = cs.length ∧ H' iD = some (.lst us)) := ⟨_, rfl⟩
        with_reducible refine seq_mid M2 (fun N2 hN2 => ?_) (fun σ7 H7 h => ?_)
        · subst hM2
          have hat := opt_at (cs := cs) (i := (a : Int)) rfl hal
          have hi5 := fmod_in (a := c.fdiv 100) (l := 5) (by decide)
          obtain ⟨i5, e5⟩ := nat_of hi5.1
          rw [e5] at hi5
          obtain ⟨A, eA⟩ : ∃ A : Int, A = (cs.getD a none).getD 0 + 1 := ⟨_, rfl⟩
          obtain ⟨B5, eB⟩ : ∃ B5 : Int, B5 = (if (cs.getD a none).getD 0 - 1 > 0 then (cs.getD a none).getD 0 - 1 else 0) := ⟨_, rfl⟩
          refine ⟨_, rfl, _, rfl, oD, _, _, _, rfl, rfl, .inl (.inl hoD5), hat, or0 ⟨_, _, rfl, rfl, ?_⟩⟩
          refine ⟨_, rfl, _, rfl, oD, _, _, _, rfl, rfl, .inl (.inl hoD5), hat, or0 ⟨_, _, rfl, rfl, _, _, rfl, ?_⟩⟩
          dsimp only []
          rw [← eA, ← eB]
          refine ⟨(by show 5 ≤ sizeLine; omega), fun z nz => ?_⟩
          have u1 := t2.trans (same_upd (o := .lst [.non, .int 0, .int 5, .int A, .int B5]) nz)
          have hz1 : (upd H5 z (.lst [.non, .int 0, .int 5, .int A, .int B5])) z = some (.lst (([none, some 0, some 5, some A, some B5] : List (Option Int)).map optV)) := upd_same
          have ho1 := same_upd (o := .lst [.non, .int 0, .int 5, .int A, .int B5]) nz _ _ hoD5
          have hi1 := same_upd (o := .lst [.non, .int 0, .int 5, .int A, .int B5]) nz _ _ hiD5
          generalize upd H5 z (.lst [.non, .int 0, .int 5, .int A, .int B5]) = J1 at *
          refine ⟨_, rfl, _, _, rfl, rfl, ⟨by decide, by decide⟩, _, _, rfl, rfl, (by show (5 : Int) ≠ 0; decide), z, _, _, _, rfl, rfl, .inl (.inl hz1), opt_at (cs := [none, some 0, some 5, some A, some B5]) e5 (by show i5 < 5; omega), ?_⟩
          refine ⟨_, rfl, _, rfl, oD, _, _, a, rfl, rfl, ho1, ixN_natK (by omega), ?_⟩
          refine hN2 _ _ ⟨cs.set a (([none, some 0, some 5, some A, some B5] : List (Option Int)).getD i5 none), rfl, same_put u1 noD, ?_, List.length_set .., ?_⟩
          · rw [upd_same, List.map_set]
          · rw [upd_ne (Ne.symm neoi)]
            exact hi1
        · subst hM2
          obtain ⟨ot, rfl, t7, ho7, hl7, hi7⟩ := h
          refine ⟨_, rfl, _, _, rfl, rfl, ⟨by decide, by decide⟩, _, _, rfl, rfl, (by show (4 : Int) ≠ 0; decide), rfl, _, rfl, ite2 (fun e5 => ?_) (fun e5 => ?_)⟩
          · have hpc7 := t7 _ _ (s3 _ _ hpc)
            have e1 : cutV (cs.map optV) (some 1) none = (cs.drop 1).map optV := opt_from cs
            refine ⟨_, rfl, _, rfl, pc, _, rfl, .inl (.inl hpc7), fun r nr => ?_⟩
            rw [e1]
            have v1 := same_upd (o := .lst ((cs.drop 1).map optV)) nr
            have hr' : (upd H7 r (.lst ((cs.drop 1).map optV))) r = some (.lst ((cs.drop 1).map optV)) := upd_same
            generalize upd H7 r (.lst ((cs.drop 1).map optV)) = J1 at *
            refine ⟨r, _, rfl, .inl (.inl (.inl hr')), fun r1 nr1 => ?_⟩
            have v2 := v1.trans (same_upd (o := .lst ((cs.drop 1).map optV)) nr1)
            have h1 : (upd J1 r1 (.lst ((cs.drop 1).map optV))) r1 = some (.lst ((cs.drop 1).map optV)) := upd_same
            generalize upd J1 r1 (.lst ((cs.drop 1).map optV)) = J2 at *
            refine ⟨(by show 1 ≤ sizeLine; omega), fun z nz => ?_⟩
            have v3 := v2.trans (same_upd (o := .lst [.int 0]) nz)
            have hzz : (upd J2 z (.lst [.int 0])) z = some (.lst [.int 0]) := upd_same
            have h1 := same_upd (o := .lst [.int 0]) nz _ _ h1
            generalize upd J2 z (.lst [.int 0]) = J3 at *
            refine ⟨_, rfl, z, pc, _, _, rfl, rfl, hzz, v3 _ _ hpc7, (by rw [List.length_map]; show 1 + _ ≤ _; omega), fun r2 nr2 => ?_⟩
            have v4 := v3.trans (same_upd (o := .lst ([.int 0] ++ cs.map optV)) nr2)
            have h2 : (upd J3 r2 (.lst ([.int 0] ++ cs.map optV))) r2 = some (.lst ((some 0 :: cs).map optV)) := upd_same
            have h1 := same_upd (o := .lst ([.int 0] ++ cs.map optV)) nr2 _ _ h1
            generalize upd J3 r2 (.lst ([.int 0] ++ cs.map optV)) = J4 at *
            refine ⟨_, rfl, (by show 1 ≤ sizeLine; omega), fun z2 nz2 => ?_⟩
            have v5 := v4.trans (same_upd (o := .lst [.int 0]) nz2)
            have hz2 : (upd J4 z2 (.lst [.int 0])) z2 = some (.lst [.int 0]) := upd_same
            have h1 := same_upd (o := .lst [.int 0]) nz2 _ _ h1
            have h2 := same_upd (o := .lst [.int 0]) nz2 _ _ h2
            generalize upd J4 z2 (.lst [.int 0]) = J5 at *
            refine ⟨pc, z2, _, _, rfl, rfl, v5 _ _ hpc7, hz2, (by rw [List.length_map]; show _ + 1 ≤ _; omega), fun r3 nr3 => ?_⟩
            have v6 := v5.trans (same_upd (o := .lst (cs.map optV ++ [.int 0])) nr3)
            have h3 : (upd J5 r3 (.lst (cs.map optV ++ [.int 0]))) r3 = some (.lst ((cs ++ [some 0]).map optV)) := by
              rw [upd_same, List.map_append]
              rfl
            have h1 := same_upd (o := .lst (cs.map optV ++ [.int 0])) nr3 _ _ h1
            have h2 := same_upd (o := .lst (cs.map optV ++ [.int 0])) nr3 _ _ h2
            generalize upd J5 r3 (.lst (cs.map optV ++ [.int 0])) = J6 at *
            refine ⟨Nat.zero_le _, fun r4 nr4 => ?_⟩
            have v7 := v6.trans (same_upd (o := .lst []) nr4)
            have h4 : (upd J6 r4 (.lst [])) r4 = some (.lst (([] : List (Option Int)).map optV)) := upd_same
            have h1 := same_upd (o := .lst []) nr4 _ _ h1
            have h2 := same_upd (o := .lst []) nr4 _ _ h2
            have h3 := same_upd (o := .lst []) nr4 _ _ h3
            generalize upd J6 r4 (.lst []) = J7 at *
            refine ⟨(by show 4 ≤ sizeLine; omega), fun zz nzz => ?_⟩
            have v8 := v7.trans (same_upd (o := .lst [.ref r1, .ref r2, .ref r3, .ref r4]) nzz)
            have hq : (upd J7 zz (.lst [.ref r1, .ref r2, .ref r3, .ref r4])) zz = some (.lst [.ref r1, .ref r2, .ref r3, .ref r4]) := upd_same
            have h1 := same_upd (o := .lst [.ref r1, .ref r2, .ref r3, .ref r4]) nzz _ _ h1
            have h2 := same_upd (o := .lst [.ref r1, .ref r2, .ref r3, .ref r4]) nzz _ _ h2
            have h3 := same_upd (o := .lst [.ref r1, .ref r2, .ref r3, .ref r4]) nzz _ _ h3
            have h4 := same_upd (o := .lst [.ref r1, .ref r2, .ref r3, .ref r4]) nzz _ _ h4
            generalize upd J7 zz (.lst [.ref r1, .ref r2, .ref r3, .ref r4]) = J8 at *
            have hi4 := fmod_in (a := c.fdiv 2000) (l := 4) (by decide)
            obtain ⟨i4, e4⟩ := nat_of hi4.1
            rw [e4] at hi4
            have go : ∀ (r : Addr) (ot2 : List (Option Int)), J8 r = some (.lst (ot2.map optV)) → ot2.length ≤ 600 → N [some (.int c), some (.ref pe), some (.int (bef.length : Int)), some (.byt (byB data)), some (.byt (byB bef)), some (.ref pc), some (.ref pr), some (.ref pl), some (.ref x), some (.ref r), some (.ref iD), some (.int (a : Int)), none, none, none, none] J8 :=
              fun r ot2 h hl => hN _ _ ⟨_, r, iD, ot2, us, its, rfl, t7.trans v8, h, hl, v8 _ _ hi7, row_same hrow3 (t7.trans v8), hok, by omega⟩
            refine ⟨_, rfl, _, _, rfl, rfl, ⟨by decide, by decide⟩, _, _, rfl, rfl, (by show (4 : Int) ≠ 0; decide), zz, [.ref r1, .ref r2, .ref r3, .ref r4], (i4 : Int), ?_⟩
            have hn : i4 = 0 ∨ i4 = 1 ∨ i4 = 2 ∨ i4 = 3 := by omega
            rcases hn with rfl | rfl | rfl | rfl
            · exact ⟨_, rfl, congrArg V.int e4, .inl (.inl hq), rfl, go r1 _ h1 (by rw [List.length_drop]; omega)⟩
            · exact ⟨_, rfl, congrArg V.int e4, .inl (.inl hq), rfl, go r2 _ h2 (by rw [List.length_cons]; omega)⟩
            · exact ⟨_, rfl, congrArg V.int e4, .inl (.inl hq), rfl, go r3 _ h3 (by rw [List.length_append]; show _ + 1 ≤ _; omega)⟩
            · exact ⟨_, rfl, congrArg V.int e4, .inl (.inl hq), rfl, go r4 _ h4 (by show 0 ≤ _; omega)⟩
          · exact hN _ _ ⟨_, oD, iD, ot, us, its, rfl, t7, ho7, by omega, hi7, row_same hrow3 t7, hok, by omega⟩
      · refine ⟨_, rfl, Nat.zero_le _, fun z nz => ?_⟩
        have u1 := same_upd (o := .lst []) nz
        have hz1 : (upd H5 z (.lst [])) z = some (.lst []) := upd_same
        have ho1 := u1 _ _ hoD5
        have hi1 := u1 _ _ hiD5
        have u1 := t2.trans u1
        generalize upd H5 z (.lst []) = J1 at *
        have eul : us.length = its.length := hrow.length.symm
        refine ⟨_, _, .lst (.inl (.inl hi1)) (dp_row (row_same hrow3 u1)), .lst (ds := []) (.inl (.inl hz1)) .nil, shaped_row its, shaped_intsQ [], _, rfl, ite2 (fun e2 => ?_) (fun e2 => hN _ _ ⟨_, oD, iD, cs, us, its, rfl, u1, ho1, by omega, hi1, row_same hrow3 u1, hok, by omega⟩)⟩
        have ine : its ≠ [] := fun z => by
          subst z
          cases e2
        have ipos : 0 < its.length := List.length_pos_iff.mpr ine
        have hm := fmod_in (a := c.fdiv 2) (l := (us.length : Int)) (by omega)
        obtain ⟨a, ea⟩ := nat_of hm.1
        rw [ea] at hm
        have hal : a < us.length := by omega
        refine ⟨_, rfl, _, _, rfl, rfl, ⟨by decide, by decide⟩, _, rfl, iD, _, rfl, .inl (.inl (.inl hi1)), _, _, rfl, rfl, (by omega), ?_⟩
        dsimp only [gName]
        rw [ea]
        refine ⟨(by show 2 ≤ sizeLine; omega), fun t1 nt1 => ?_⟩
        have v1 := same_upd (o := .tup [.int 3, .int 1]) nt1
        have g1 : (upd J1 t1 (.tup [.int 3, .int 1])) t1 = some (.tup [.int 3, .int 1]) := upd_same
        generalize upd J1 t1 (.tup [.int 3, .int 1]) = J2 at *
        refine ⟨(by show 2 ≤ sizeLine; omega), fun t2' nt2 => ?_⟩
        have v2 := same_upd (o := .tup [.int 4, .int 2]) nt2
        have g2 : (upd J2 t2' (.tup [.int 4, .int 2])) t2' = some (.tup [.int 4, .int 2]) := upd_same
        generalize upd J2 t2' (.tup [.int 4, .int 2]) = J3 at *
        refine ⟨(by show 2 ≤ sizeLine; omega), fun t3' nt3 => ?_⟩
        have v3 := same_upd (o := .tup [.int 18, .int 1]) nt3
        have g3 : (upd J3 t3' (.tup [.int 18, .int 1])) t3' = some (.tup [.int 18, .int 1]) := upd_same
        generalize upd J3 t3' (.tup [.int 18, .int 1]) = J4 at *
        have w4 := ((u1.trans v1).trans v2).trans v3
        have epos : 1 ≤ (bef ++ data).length := by rw [List.length_append]; omega
        obtain ⟨kl, ekl⟩ : ∃ kl, kl = (bef ++ data).getD ((bef ++ data).length - 1) 0 := ⟨_, rfl⟩
        have hkl : kl < 256 := by
          rw [ekl, List.getD_eq_getElem?_getD]
          cases q0 : (bef ++ data)[(bef ++ data).length - 1]? with
          | none => decide
          | some y => exact hby y (List.mem_of_getElem? q0)
        refine ⟨_, rfl, 1, rfl, pe, _, -1, .int (kl : Int), rfl, rfl, .inl (.inl (w4 _ _ (s3 _ _ hpe))), (by rw [ekl]; exact back_at' (b := 1) rfl (Nat.le_refl _) epos), ?_⟩
        refine ⟨(by show 5 ≤ sizeLine; omega), fun zz nzz => ?_⟩
        have v5 := same_upd (o := .lst [.int 97, .ref t1, .ref t2', .ref t3', .int (kl : Int)]) nzz
        have g5 : (upd J4 zz (.lst [.int 97, .ref t1, .ref t2', .ref t3', .int (kl : Int)])) zz = some (.lst [.int 97, .ref t1, .ref t2', .ref t3', .int (kl : Int)]) := upd_same
        have w5 := w4.trans v5
        have g1 := v5 _ _ (v3 _ _ (v2 _ _ g1))
        have g2 := v5 _ _ (v3 _ _ g2)
        have g3 := v5 _ _ g3
        have ho5 := v5 _ _ (v3 _ _ (v2 _ _ (v1 _ _ ho1)))
        have hi5 := v5 _ _ (v3 _ _ (v2 _ _ (v1 _ _ hi1)))
        generalize upd J4 zz (.lst [.int 97, .ref t1, .ref t2', .ref t3', .int (kl : Int)]) = J5 at *
        have go : ∀ (v : V) (it : Itm), ItmAt J5 it v → ItmOk it → N [some (.int c), some (.ref pe), some (.int (bef.length : Int)), some (.byt (byB data)), some (.byt (byB bef)), some (.ref pc), some (.ref pr), some (.ref pl), some (.ref x), some (.ref oD), some (.ref iD), some (.int (a : Int)), none, none, none, none] (upd J5 iD (.lst (us.set a v))) := by
          intro v it hv hitok
          refine hN _ _ ⟨_, oD, iD, cs, us.set a v, its.set a it, rfl, same_put w5 niD3, ?_, by omega, upd_same, ?_, fun y my => ?_, by rw [List.length_set]; omega⟩
          · rw [upd_ne neoi]
            exact ho5
          · exact (paired_set (row_same hrow3 w5) hv a).mono fun y u h => h.put hi5
          · rcases List.mem_or_eq_of_mem_set my with my | my
            · exact hok y my
            · rw [my]
              exact hitok
        have hi4 := fmod_in (a := c.fdiv 100) (l := 5) (by decide)
        obtain ⟨i4, e4⟩ := nat_of hi4.1
        rw [e4] at hi4
        refine ⟨_, rfl, _, _, rfl, rfl, ⟨by decide, by decide⟩, _, _, rfl, rfl, (by show (5 : Int) ≠ 0; decide), zz, [.int 97, .ref t1, .ref t2', .ref t3', .int (kl : Int)], (i4 : Int), ?_⟩
        have hn : i4 = 0 ∨ i4 = 1 ∨ i4 = 2 ∨ i4 = 3 ∨ i4 = 4 := by omega
        have hix : ixN us.length (a : Int) = some a := ixN_natK hal
        rcases hn with rfl | rfl | rfl | rfl | rfl
        · exact ⟨_, rfl, congrArg V.int e4, .inl (.inl g5), rfl, _, rfl, _, rfl, iD, _, _, a, rfl, rfl, hi5, hix, go _ (.b 97) rfl (by show 97 < 256; decide)⟩
        · exact ⟨_, rfl, congrArg V.int e4, .inl (.inl g5), rfl, _, rfl, _, rfl, iD, _, _, a, rfl, rfl, hi5, hix, go _ (.c 3 1) ⟨t1, rfl, g1⟩ ⟨by decide, by decide, by decide, by decide⟩⟩
        · exact ⟨_, rfl, congrArg V.int e4, .inl (.inl g5), rfl, _, rfl, _, rfl, iD, _, _, a, rfl, rfl, hi5, hix, go _ (.c 4 2) ⟨t2', rfl, g2⟩ ⟨by decide, by decide, by decide, by decide⟩⟩
        · exact ⟨_, rfl, congrArg V.int e4, .inl (.inl g5), rfl, _, rfl, _, rfl, iD, _, _, a, rfl, rfl, hi5, hix, go _ (.c 18 1) ⟨t3', rfl, g3⟩ ⟨by decide, by decide, by decide, by decide⟩⟩
        · exact ⟨_, rfl, congrArg V.int e4, .inl (.inl g5), rfl, _, rfl, _, rfl, iD, _, _, a, rfl, rfl, hi5, hix, go _ (.b kl) rfl hkl⟩
    · subst hM1
      obtain ⟨y11, oD, iD, ot, us2, its2, rfl, t6, ho6, hol, hi6, hr6, hk6, hil6⟩ := h
      clear hpe5 hpc5 hrow5 hoD5 hiD5 noD niD3 neoi s5 t2
      have s6 := s3.trans t6
      have hpl6 := s6 _ _ hpl
      have elb : (bef ++ data).length = bef.length + data.length := List.length_append
      refine ⟨_, rfl, _, rfl, _, rfl, _, rfl, pl, _, 0, _, rfl, rfl, .inl (.inl hpl6), rfl, _, rfl, pl, _, 1, _, rfl, rfl, .inl (.inl hpl6), rfl, pe, oD, pL, pB, bef ++ data, bef.length, ot, L, B, rfl, s6 _ _ hpe, hby, by omega, by omega, ho6, by omega, s6 _ _ hL, s6 _ _ hB, gL.1, gB'.1, fun H7 s7 => ?_⟩
      obtain ⟨R, eR⟩ : ∃ R : Bool, R = noneBetter (bef ++ data) bef.length ot L B := ⟨_, rfl⟩
      have hlen : R = true → 1 ≤ ot.length := fun z => by
        rw [eR] at z
        unfold noneBetter at z
        rw [Bool.and_eq_true] at z
        have := of_decide_eq_true z.1
        omega
      dsimp only [gName]
      rw [← eR]
      have t7 := t6.trans s7
      have hP7 := hP.same t7
      have ho7 := s7 _ _ ho6
      have hi7 := s7 _ _ hi6
      have hr7 := row_same hr6 s7
      have s37 := s3.trans t7
      clear hP t6 s6 ho6 hi6 hr6 hpl6
      obtain ⟨M3, hM3⟩ : ∃ M : L2.St → Hp → Prop, M = (fun σ' H' => σ' = [some (.int c), some (.ref pe), some (.int (bef.length : Int)), some (.byt (byB data)), some (.byt (byB bef)), some (.ref pc), some (.ref pr), some (.ref pl), some (.ref x), some (.ref oD), some (.ref iD), y11, some (.bl R), none, none, none] ∧ Same H7 H') := ⟨_, rfl⟩
      with_reducible refine seq_mid M3 (fun N hN => ?_) (fun σ8 H8 h => ?_)
      · subst hM3
        refine ⟨_, rfl, ?_⟩
        intro xN dxN nxN ndN neN
        have u0 : Same H7 (upd (upd H7 dxN (.own xN)) xN (.ins CN dxN [])) := fun b o e => by
          rw [upd_ne (ne_of_none e nxN), upd_ne (ne_of_none e ndN)]
          exact e
        refine ⟨xN, dxN, oD, ot, rfl, upd_same, u0 _ _ ho7, by omega, fun H8 k8 hN8 => ⟨rfl, ?_⟩⟩
        have u8 := make_same nxN ndN k8
        obtain ⟨dn, cn, e1, e2⟩ := hN8
        refine ⟨xN, dn, nvF cn, rfl, e1, (lkP (by decide +kernel)).trans rfl, _, rfl, _, rfl, _, rfl, rfl, rfl, ?_⟩
        refine ⟨xN, x, ot, bef, data, L, B, rfl, ⟨dn, cn, e1, e2⟩, by omega, hby, by omega, hP7.same u8, gL, gB', fun H9 s9 => ?_⟩
        have u9 := u8.trans s9
        have eN : neverOk (bef ++ data) bef.length ot L B = (R && decide (ot.getD 0 none = none)) := by
          unfold neverOk
          rw [← eR]
        rw [eN]
        have no := hN _ H9 ⟨rfl, u9⟩
        refine ⟨_, rfl, R, rfl, ?_⟩
        cases R with
        | false => exact iteF ⟨rfl, _, rfl, iteF no⟩
        | true =>
          have h1 := hlen rfl
          refine iteT ⟨_, rfl, oD, _, 0, _, rfl, rfl, .inl (.inl (u9 _ _ ho7)), opt_at (k := 0) rfl (by omega), ?_⟩
          cases hd : ot.getD 0 none with
          | none => exact ⟨rfl, _, rfl, iteF no⟩
          | some v => exact ⟨rfl, _, rfl, iteF no⟩
      · subst hM3
        obtain ⟨rfl, s8⟩ := h
        have ho8 := s8 _ _ ho7
        have hi8 := s8 _ _ hi7
        have hr8 := row_same hr7 s8
        have s38 := s37.trans s8
        have hP8 := hP7.same s8
        have eul : us2.length = its2.length := hr7.length.symm
        clear s7 hr7 hi7 ho7 hP7 t7
        refine ⟨_, rfl, iD, rfl, ⟨_, .inl (.inl hi8)⟩, fun C2 nC2 => ?_⟩
        refine lc_list (K := K) (a := iD) (xs := us2) (fun i H' => Same H8 H' ∧ H' C2 = some (.lst ((its2.take i).map fun it => optV (costO L B it)))) ⟨same_upd nC2, upd_same⟩ (fun i H' _ h => .inl (.inl (h.1 _ _ hi8))) (fun i v H' hx h => ?_) (fun H9 h => ?_)
        · obtain ⟨sh, hC⟩ := h
          have hi0 : i < us2.length := (List.getElem?_eq_some_iff.mp hx).1
          have hi1 : i < its2.length := by omega
          obtain ⟨v', hv', hat⟩ := paired_get hr8 (List.getElem?_eq_getElem hi1)
          have evv : v' = v := Option.some.inj (hv'.symm.trans hx)
          subst evv
          have sx := s38.trans sh
          have hplx := sx _ _ hpl
          refine ⟨rfl, yes ?_⟩
          refine ⟨_, rfl, _, rfl, pl, _, 0, _, rfl, rfl, .inl (.inl hplx), rfl, _, rfl, pl, _, 1, _, rfl, rfl, .inl (.inl hplx), rfl, v', its2[i], pL, pB, L, B, rfl, hat.same sh, hk6 _ (List.getElem_mem hi1), sx _ _ hL, sx _ _ hB, gL.1, gB'.1, ?_⟩
          refine ⟨_, hC, ?_, same_put sh nC2, ?_⟩
          · rw [List.length_map, List.length_take, hz]
            omega
          · rw [upd_same, List.take_add_one, List.getElem?_eq_getElem hi1, List.map_append]
            rfl
        obtain ⟨s9, hC⟩ := h
        have eT : its2.take us2.length = its2 := by rw [eul, List.take_length]
        rw [eT] at hC
        have hC9 : H9 C2 = some (.lst ((its2.map (costO L B)).map optV)) := by
          rw [hC, List.map_map]
          rfl
        have ho9 := s9 _ _ ho8
        have hi9 := s9 _ _ hi8
        have hr9 := row_same hr8 s9
        have s39 := s38.trans s9
        have hP9 := hP8.same s9
        clear s9 s8 s38 hr8 hi8 ho8 hP8 hC
        dsimp only [gName]
        obtain ⟨Fi, eF⟩ : ∃ Fi : Bool, Fi = leastOk (bef ++ data) bef.length ot L B its2 := ⟨_, rfl⟩
        have eF2 : Fi = (R && (decide (tells ((bef ++ data).take bef.length) its2 = some (bef ++ data)) && sameBits (bitsO L B its2) (ot.getD 0 none))) := by
          rw [eF]
          unfold leastOk
          rw [← eR]
        obtain ⟨M4, hM4⟩ : ∃ M : L2.St → Hp → Prop, M = (fun σ' H' => σ' = [some (.int c), some (.ref pe), some (.int (bef.length : Int)), some (.byt (byB data)), some (.byt (byB bef)), some (.ref pc), some (.ref pr), some (.ref pl), some (.ref x), some (.ref oD), some (.ref iD), y11, some (.bl R), some (.ref C2), some (.bl Fi), none] ∧ Same H9 H') := ⟨_, rfl⟩
        with_reducible refine seq_mid M4 (fun N hN => ?_) (fun σa Ha h => ?_)
        · subst hM4
          have no : ∀ (b : Bool) (H' : Hp), b = Fi → Same H9 H' → N [some (.int c), some (.ref pe), some (.int (bef.length : Int)), some (.byt (byB data)), some (.byt (byB bef)), some (.ref pc), some (.ref pr), some (.ref pl), some (.ref x), some (.ref oD), some (.ref iD), y11, some (.bl R), some (.ref C2), some (.bl b), none] H' := fun b H' eb sm => hN _ _ ⟨by rw [eb], sm⟩
          refine ⟨_, rfl, R, rfl, ?_⟩
          cases R with
          | false => exact iteF (no false H9 (by rw [eF2]; rfl) (Same.refl _))
          | true =>
            have h1 := hlen rfl
            rw [Bool.true_and] at eF2
            have hpe9 := s39 _ _ hpe
            refine iteT ⟨_, rfl, _, rfl, _, rfl, _, rfl, pe, _, rfl, .inl (.inl hpe9), fun r nr => ?_⟩
            rw [bys_to]
            have u1 := same_upd (o := .lst (bys ((bef ++ data).take bef.length))) nr
            have hr1 : (upd H9 r (.lst (bys ((bef ++ data).take bef.length)))) r = some (.lst (bys ((bef ++ data).take bef.length))) := upd_same
            generalize upd H9 r (.lst (bys ((bef ++ data).take bef.length))) = J1 at *
            refine ⟨iD, r, us2, its2, (bef ++ data).take bef.length, rfl, u1 _ _ hi9, row_same hr9 u1, hk6, by omega, hr1, (by rw [List.length_take]; omega), fun J2 v s12 hv _ => ?_⟩
            have u2 := u1.trans s12
            have hdq : ∃ d, Dp K J2 v d ∧ SeqAt.shaped d = true ∧ PyData.eqv d (.list ((((bef ++ data).map fun (k : Nat) => (k : Int))).map .int)) = decide (tells ((bef ++ data).take bef.length) its2 = some (bef ++ data)) := by
              cases ht : tells ((bef ++ data).take bef.length) its2 with
              | none =>
                rw [ht] at hv
                obtain rfl : v = .non := hv
                exact ⟨.none, .non, rfl, by rw [decide_eq_false (fun z => by cases z)]; simp [PyData.eqv]⟩
              | some e' =>
                rw [ht] at hv
                obtain ⟨r2, rfl, h2⟩ := hv
                refine ⟨.list ((e'.map fun (k : Nat) => (k : Int)).map .int), .lst (.inl (.inl h2)) (dp_ints _), shaped_intsQ _, ?_⟩
                rw [eqv_ints]
                by_cases q0 : e' = bef ++ data
                · rw [q0]
                  simp
                · have n1 : ¬ (e'.map (fun (k : Nat) => (k : Int)) = (bef ++ data).map fun (k : Nat) => (k : Int)) := fun z => q0 ((List.map_inj_right (f := fun (k : Nat) => (k : Int)) (fun a b h => Int.ofNat_inj.mp h)).mp z)
                  have n2 : ¬ some e' = some (bef ++ data) := fun z => q0 (Option.some.inj z)
                  rw [decide_eq_false n1, decide_eq_false n2]
            obtain ⟨d, hd1, hd2, hd3⟩ := hdq
            refine ⟨_, rfl, d, _, hd1, .lst (.inl (.inl (u2 _ _ hpe9))) (dp_ints _), hd2, shaped_intsQ _, _, rfl, ?_⟩
            rw [hd3]
            refine ite2 (fun e1 => ?_) (fun e1 => no false J2 ?_ u2)
            · rw [e1, Bool.true_and] at eF2
              refine ⟨_, rfl, C2, _, rfl, .inl (.inl (.inl (u2 _ _ hC9))), rfl, flat_opt _, _, rfl, ?_⟩
              rw [inV_non]
              refine ite2 (fun e2 => ?_) (fun e2 => no false J2 ?_ u2)
              · have e3 : none ∉ its2.map (costO L B) := by simpa using e2
                obtain ⟨ns, ens⟩ := all_some e3
                have eb : bitsO L B its2 = some ns.sum := by
                  unfold bitsO
                  rw [ens]
                  exact sumO_some ns
                rw [eb] at eF2
                have hC' : J2 C2 = some (.lst (ns.map V.int)) := by
                  rw [u2 _ _ hC9, ens, List.map_map]
                  rfl
                refine ⟨_, rfl, C2, ns, rfl, .inl (.inl hC'), _, rfl, oD, _, 0, _, rfl, rfl, .inl (.inl (u2 _ _ ho9)), opt_at (k := 0) rfl (by omega), ?_⟩
                cases hd0 : ot.getD 0 none with
                | none =>
                  refine ⟨rfl, no _ J2 ?_ u2⟩
                  rw [eF2, hd0]
                  rfl
                | some v0 =>
                  refine ⟨rfl, no _ J2 ?_ u2⟩
                  rw [eF2, hd0]
                  show decide (V.int ns.sum = V.int v0) = decide (ns.sum = v0)
                  simp
              · have e3 : none ∈ its2.map (costO L B) := by simpa using e2
                rw [eF2]
                unfold bitsO
                rw [sumO_none e3]
                rfl
            · have e1' : decide (tells ((bef ++ data).take bef.length) its2 = some (bef ++ data)) = false := by simpa using e1
              rw [eF2, e1']
              rfl
        · subst hM4
          obtain ⟨rfl, sa⟩ := h
          have hoa := sa _ _ ho9
          have hia := sa _ _ hi9
          have hra := row_same hr9 sa
          have sHa := s39.trans sa
          have hPa := hP9.same sa
          refine ⟨_, rfl, _, rfl, ?_⟩
          intro xN dxN nxN ndN neN
          have u0 : Same Ha (upd (upd Ha dxN (.own xN)) xN (.ins CL dxN [])) := fun b o e => by
            rw [upd_ne (ne_of_none e nxN), upd_ne (ne_of_none e ndN)]
            exact e
          refine ⟨xN, dxN, iD, oD, us2, its2, ot, rfl, upd_same, u0 _ _ hia, row_same hra u0, by omega, u0 _ _ hoa, by omega, fun Hb kb hLb => ⟨rfl, ?_⟩⟩
          have u8 := make_same nxN ndN kb
          obtain ⟨dn, rn, cn, un, e1, e2, e3, e4⟩ := hLb
          refine ⟨xN, dn, lsF rn cn, rfl, e1, (lkP (by decide +kernel)).trans ((lkP (by decide +kernel)).trans rfl), _, rfl, _, rfl, _, rfl, rfl, rfl, ?_⟩
          refine ⟨xN, x, its2, ot, bef, data, L, B, rfl, ⟨dn, rn, cn, un, e1, e2, e3, e4⟩, hk6, by omega, by omega, hby, by omega, hPa.same u8, gL, gB', fun Hc sc => ?_⟩
          rw [← eF]
          refine ⟨_, rfl, by cases Fi <;> rfl, ?_⟩
          have ee : decide (V.bl Fi = V.bl Fi) = true := decide_eq_true rfl
          rw [ee]
          exact q Hc (sHa.trans (u8.trans sc))
end
end K4

namespace K4
open PySem PySem.Spec PyProof.Rows L2
/-! ### the table's own promises: pure -/
theorem tab_stable {e : List Nat} {lead en : Nat} {L B : List Int} : ∀ {m n q : Nat}, n ≤ m → m ≤ en → en - n ≤ q → tab e lead en L B m q = tab e lead en L B n q
  | 0, n, q, h, _, _ => by
    have : n = 0 := by omega
    rw [this]
  | m + 1, n, q, h, h2, h3 => by
    by_cases hn : n = m + 1
    · rw [hn]
    · have e1 : tab e lead en L B (m + 1) q = tab e lead en L B m q := by
        show (if q = en - (m + 1) then _ else _) = _
        rw [if_neg (by omega)]
      rw [e1]
      exact tab_stable (by omega) (by omega) h3
theorem fold_congr {L B : List Int} {c1 c2 : Nat → Option Int} {p : Nat} : ∀ {its : List Itm} {acc : Cell2}, (∀ it ∈ its, c1 (p + lenI it) = c2 (p + lenI it)) → its.foldl (stepS L B c1 p) acc = its.foldl (stepS L B c2 p) acc
  | [], acc, _ => rfl
  | it :: r, acc, h => by
    have e1 : stepS L B c1 p acc it = stepS L B c2 p acc it := by
      unfold stepS
      rw [h it (List.mem_cons_self ..)]
    show r.foldl _ (stepS L B c1 p acc it) = r.foldl _ (stepS L B c2 p acc it)
    rw [e1]
    exact fold_congr fun x m => h x (List.mem_cons_of_mem _ m)
theorem tab_fix {e : List Nat} {lead en : Nat} {L B : List Int} (hk : ∀ k ∈ e, k < 256) {p : Nat} (hp : p < en) :
    tab e lead en L B en p = (itemsF e (lead + p) (min 18 (en - p))).foldl (stepS L B (fun q => (tab e lead en L B en q).1) p) (none, none) := by
  have e1 : tab e lead en L B en p = tab e lead en L B (en - p - 1 + 1) p := tab_stable (by omega) (Nat.le_refl _) (by omega)
  rw [e1]
  show (if p = en - (en - p - 1 + 1) then _ else _) = _
  rw [if_pos (by omega)]
  refine fold_congr fun it m => ?_
  obtain ⟨_, h1, h2⟩ := itemsF_ok hk (by omega) (by omega) m
  show (tab e lead en L B (en - p - 1) (p + lenI it)).1 = (tab e lead en L B en (p + lenI it)).1
  rw [tab_stable (m := en) (n := en - p - 1) (by omega) (Nat.le_refl _) (by omega)]
theorem tab_end {e : List Nat} {lead en : Nat} {L B : List Int} : tab e lead en L B en en = (some 0, none) := by
  rw [tab_stable (m := en) (n := 0) (by omega) (Nat.le_refl _) (by omega)]
  show (if en = en then _ else _) = _
  rw [if_pos rfl]
/-- what one step makes of the best so far -/
theorem step_le {L B : List Int} {cs : Nat → Option Int} {p : Nat} {acc : Cell2} {it : Itm} {c : Int} (h : acc.1 = some c) : ∃ c', (stepS L B cs p acc it).1 = some c' ∧ c' ≤ c := by
  unfold stepS
  cases h1 : costO L B it with
  | none => exact ⟨c, h, Int.le_refl _⟩
  | some a =>
    cases h2 : cs (p + lenI it) with
    | none => exact ⟨c, h, Int.le_refl _⟩
    | some r =>
      rw [h]
      show ∃ c', (if a + r < c then (some (a + r), some it) else acc : Cell2).1 = some c' ∧ c' ≤ c
      by_cases q : a + r < c
      · rw [if_pos q]
        exact ⟨_, rfl, by omega⟩
      · rw [if_neg q]
        exact ⟨c, h, Int.le_refl _⟩
theorem fold_le {L B : List Int} {cs : Nat → Option Int} {p : Nat} : ∀ {its : List Itm} {acc : Cell2} {c : Int}, acc.1 = some c → ∃ c', (its.foldl (stepS L B cs p) acc).1 = some c' ∧ c' ≤ c
  | [], acc, c, h => ⟨c, h, Int.le_refl _⟩
  | it :: r, acc, c, h => by
    obtain ⟨c1, h1, h2⟩ := step_le (L := L) (B := B) (cs := cs) (p := p) (it := it) h
    obtain ⟨c2, h3, h4⟩ := fold_le (its := r) h1
    exact ⟨c2, h3, by omega⟩
theorem step_new {L B : List Int} {cs : Nat → Option Int} {p : Nat} {acc : Cell2} {it : Itm} {a r : Int} (h1 : costO L B it = some a) (h2 : cs (p + lenI it) = some r) : ∃ c', (stepS L B cs p acc it).1 = some c' ∧ c' ≤ a + r := by
  unfold stepS
  rw [h1, h2]
  cases h : acc.1 with
  | none => exact ⟨a + r, rfl, Int.le_refl _⟩
  | some c =>
    show ∃ c', (if a + r < c then (some (a + r), some it) else acc : Cell2).1 = some c' ∧ c' ≤ a + r
    by_cases q : a + r < c
    · rw [if_pos q]
      exact ⟨_, rfl, Int.le_refl _⟩
    · rw [if_neg q]
      exact ⟨c, h, by omega⟩
/-- no item leads for fewer bits -/
theorem fold_min {L B : List Int} {cs : Nat → Option Int} {p : Nat} : ∀ {its : List Itm} {acc : Cell2} {it : Itm} {a r : Int}, it ∈ its → costO L B it = some a → cs (p + lenI it) = some r → ∃ c', (its.foldl (stepS L B cs p) acc).1 = some c' ∧ c' ≤ a + r
  | x :: l, acc, it, a, r, m, h1, h2 => by
    rcases List.mem_cons.mp m with rfl | m
    · obtain ⟨c1, h3, h4⟩ := step_new (acc := acc) h1 h2
      obtain ⟨c2, h5, h6⟩ := fold_le (L := L) (B := B) (cs := cs) (p := p) (its := l) h3
      exact ⟨c2, h5, by omega⟩
    · exact fold_min (its := l) m h1 h2
/-- and one does for just so many -/
theorem fold_val {L B : List Int} {cs : Nat → Option Int} {p : Nat} : ∀ {its : List Itm} {acc : Cell2} {c : Int}, (its.foldl (stepS L B cs p) acc).1 = some c → (its.foldl (stepS L B cs p) acc = acc) ∨ ∃ it ∈ its, (its.foldl (stepS L B cs p) acc).2 = some it ∧ ∃ a r, costO L B it = some a ∧ cs (p + lenI it) = some r ∧ c = a + r
  | [], acc, c, h => .inl rfl
  | x :: l, acc, c, h => by
    have h' : (l.foldl (stepS L B cs p) (stepS L B cs p acc x)).1 = some c := h
    rcases fold_val (its := l) h' with h3 | ⟨it, m, h4, h5⟩
    · have e0 : (x :: l).foldl (stepS L B cs p) acc = stepS L B cs p acc x := h3
      rw [e0]
      rw [h3] at h'
      unfold stepS at h' ⊢
      cases h1 : costO L B x with
      | none => exact .inl rfl
      | some a =>
        cases h2 : cs (p + lenI x) with
        | none => exact .inl rfl
        | some r =>
          rw [h1, h2] at h'
          cases h6 : acc.1 with
          | none =>
            rw [h6] at h'
            exact .inr ⟨x, List.mem_cons_self .., rfl, a, r, h1, h2, (Option.some.inj h').symm⟩
          | some c0 =>
            rw [h6] at h'
            have h' : (if a + r < c0 then (some (a + r), some x) else acc : Cell2).1 = some c := h'
            show (if a + r < c0 then (some (a + r), some x) else acc : Cell2) = acc ∨ _
            by_cases q : a + r < c0
            · rw [if_pos q] at h'
              refine .inr ⟨x, List.mem_cons_self .., ?_, a, r, h1, h2, (Option.some.inj h').symm⟩
              show (if a + r < c0 then (some (a + r), some x) else acc : Cell2).2 = some x
              rw [if_pos q]
            · exact .inl (if_neg q)
    · exact .inr ⟨it, List.mem_cons_of_mem _ m, h4, h5⟩
theorem tab_val {e : List Nat} {lead en : Nat} {L B : List Int} (hk : ∀ k ∈ e, k < 256) {p : Nat} (hp : p < en) {c : Int} (h : (tab e lead en L B en p).1 = some c) :
    ∃ it ∈ itemsF e (lead + p) (min 18 (en - p)), (tab e lead en L B en p).2 = some it ∧ ∃ a r, costO L B it = some a ∧ (tab e lead en L B en (p + lenI it)).1 = some r ∧ c = a + r := by
  rw [tab_fix hk hp] at h
  rcases fold_val h with h1 | ⟨it, m, h2, h3⟩
  · rw [h1] at h
    cases h
  · exact ⟨it, m, by rw [tab_fix hk hp]; exact h2, h3⟩
theorem costO_nonneg {L B : List Int} (hL : ∀ x ∈ L, 0 ≤ x) (hB : ∀ x ∈ B, 0 ≤ x) {it : Itm} {a : Int} (h : costO L B it = some a) : 0 ≤ a := by
  have g : ∀ {X : List Int} (_ : ∀ x ∈ X, 0 ≤ x) (k : Nat), 0 ≤ X.getD k 0 := fun {X} hX k => by
    rw [List.getD_eq_getElem?_getD]
    cases q : X[k]? with
    | none => exact Int.le_refl 0
    | some x => exact hX x (List.mem_of_getElem? q)
  cases it with
  | b k =>
    have h : (if 0 < L.getD k 0 then some (L.getD k 0) else none) = some a := h
    by_cases q : 0 < L.getD k 0
    · rw [if_pos q] at h
      have e := Option.some.inj h
      omega
    · rw [if_neg q] at h
      cases h
  | c m r =>
    have h : (if L.getD (254 + m) 0 = 0 ∨ B.getD (Nat.log2 r) 0 = 0 then none else some (L.getD (254 + m) 0 + B.getD (Nat.log2 r) 0 + (Nat.log2 r : Nat))) = some a := h
    by_cases q : L.getD (254 + m) 0 = 0 ∨ B.getD (Nat.log2 r) 0 = 0
    · rw [if_pos q] at h
      cases h
    · rw [if_neg q] at h
      have := g hL (254 + m)
      have := g hB (Nat.log2 r)
      have e := Option.some.inj h
      omega
theorem tab_nonneg {e : List Nat} {lead en : Nat} {L B : List Int} (hk : ∀ k ∈ e, k < 256) (hL : ∀ x ∈ L, 0 ≤ x) (hB : ∀ x ∈ B, 0 ≤ x) : ∀ (d p : Nat) (c : Int), p ≤ en → en - p ≤ d → (tab e lead en L B en p).1 = some c → 0 ≤ c
  | d, p, c, h1, h2, h3 => by
    by_cases hp : p = en
    · rw [hp, tab_end] at h3
      have := Option.some.inj h3
      omega
    · obtain ⟨it, m, _, a, r, ha, hr, rfl⟩ := tab_val hk (by omega) h3
      obtain ⟨_, l1, l2⟩ := itemsF_ok hk (by omega) (by omega) m
      have := costO_nonneg hL hB ha
      match d, h2 with
      | 0, h2 => omega
      | d + 1, h2 =>
        have := tab_nonneg hk hL hB d (p + lenI it) r (by omega) (by omega) hr
        omega
def costsF (e : List Nat) (lead en : Nat) (L B : List Int) : List (Option Int) := (List.range (en + 1)).map fun i => (tab e lead en L B en i).1
theorem costsF_len (e : List Nat) (lead en : Nat) (L B : List Int) : (costsF e lead en L B).length = en + 1 := by simp [costsF]
theorem costsF_at {e : List Nat} {lead en : Nat} {L B : List Int} {q : Nat} (h : q ≤ en) : (costsF e lead en L B).getD q none = (tab e lead en L B en q).1 := by
  unfold costsF
  rw [List.getD_eq_getElem?_getD, List.getElem?_map, List.getElem?_range (by omega)]
  rfl
/-- its costs show themselves -/
theorem costsF_ok {e : List Nat} {lead en : Nat} {L B : List Int} (hk : ∀ k ∈ e, k < 256) (hen : en = e.length - lead) (hL : ∀ x ∈ L, 0 ≤ x) (hB : ∀ x ∈ B, 0 ≤ x) : noneBetter e lead (costsF e lead en L B) L B = true := by
  unfold noneBetter
  rw [Bool.and_eq_true, Bool.and_eq_true, Bool.and_eq_true]
  refine ⟨decide_eq_true (by rw [costsF_len]; omega), decide_eq_true ?_, List.all_eq_true.mpr fun o m => ?_, List.all_eq_true.mpr fun p hp => List.all_eq_true.mpr fun it m => ?_⟩
  · rw [costsF_len, show en + 1 - 1 = en by omega, costsF_at (Nat.le_refl _), tab_end]
  · obtain ⟨i, hi, rfl⟩ := List.mem_map.mp m
    have hi' := List.mem_range.mp hi
    cases q : (tab e lead en L B en i).1 with
    | none => rfl
    | some c => exact decide_eq_true (tab_nonneg hk hL hB en i c (by omega) (by omega) q)
  · have hp' := List.mem_range.mp hp
    rw [← hen] at hp' m
    obtain ⟨_, l1, l2⟩ := itemsF_ok hk (by omega) (by omega) m
    unfold badItem
    rw [costsF_at (by omega), costsF_at (by omega)]
    cases ha : costO L B it with
    | none => rfl
    | some a =>
      cases hr : (tab e lead en L B en (p + lenI it)).1 with
      | none => rfl
      | some r =>
        obtain ⟨c, h1, h2⟩ := fold_min (cs := fun q => (tab e lead en L B en q).1) (p := p) (acc := (none, none)) m ha hr
        rw [← tab_fix hk hp'] at h1
        rw [h1]
        show (!decide (a + r < c)) = true
        rw [decide_eq_false (by omega)]
        rfl
/-! ### the row tells the bytes -/
theorem mlGo_eq (e : List Nat) (h b : Nat) : ∀ f m i, m ≤ i → i < mlGo e h b f m → e.getD (h + i) 0 = e.getD (h + i - b) 0
  | 0, m, i, h1, h2 => by
    have : mlGo e h b 0 m = m := rfl
    omega
  | f + 1, m, i, h1, h2 => by
    have h2 : i < (if e.getD (h + m) 0 = e.getD (h + m - b) 0 then mlGo e h b f (m + 1) else m) := h2
    by_cases q : e.getD (h + m) 0 = e.getD (h + m - b) 0
    · rw [if_pos q] at h2
      by_cases hi : i = m
      · rw [hi]
        exact q
      · exact mlGo_eq e h b f (m + 1) i (by omega) h2
    · rw [if_neg q] at h2
      omega
theorem mem_prs2 {e : List Nat} {h lim i : Nat} {p : Int × Int} (m : p ∈ prs e h lim i) : ∃ o b : Nat, p = (-((3 + o : Nat) : Int), ((1 + b : Nat) : Int)) ∧ b < i ∧ 3 + o ≤ lim ∧ ∀ t, t < 3 + o → e.getD (h + t) 0 = e.getD (h + t - (1 + b)) 0 := by
  obtain ⟨b, hb0, hb⟩ := List.mem_flatMap.mp m
  obtain ⟨o, ho, rfl⟩ := List.mem_map.mp hb
  have h1 := List.mem_range.mp ho
  have h2 := (mlGo_le e h (1 + b) lim 0).2
  have h3 : ml e h (1 + b) lim ≤ 0 + lim := h2
  exact ⟨o, b, rfl, List.mem_range.mp hb0, by omega, fun t ht => mlGo_eq e h (1 + b) lim 0 t (Nat.zero_le _) (by show t < ml e h (1 + b) lim; omega)⟩
/-- an item of a place says what stands there -/
theorem item_says {e : List Nat} {h lim : Nat} {it : Itm} (m : it ∈ itemsF e h lim) : it = .b (e.getD h 0) ∨ ∃ k b, it = .c k b ∧ 1 ≤ b ∧ b ≤ h ∧ ∀ t, t < k → e.getD (h + t) 0 = e.getD (h + t - b) 0 := by
  rcases (List.mem_cons.mp m) with (rfl | m)
  · exact .inl rfl
  · obtain ⟨p, hp, rfl⟩ := List.mem_map.mp m
    obtain ⟨o, b, rfl, hb, ho, hh⟩ := mem_prs2 ((List.mergeSort_perm _ _).mem_iff.mp hp)
    have e1 : (-(-((3 + o : Nat) : Int))).toNat = 3 + o := by omega
    have e2 : ((1 + b : Nat) : Int).toNat = 1 + b := by omega
    refine .inr ⟨3 + o, 1 + b, ?_, by omega, by omega, hh⟩
    show Itm.c (-(-((3 + o : Nat) : Int))).toNat ((1 + b : Nat) : Int).toNat = _
    rw [e1, e2]
theorem take_snoc {e : List Nat} {h : Nat} (hh : h < e.length) : e.take h ++ [e.getD h 0] = e.take (h + 1) := by
  rw [List.take_add_one, List.getD_eq_getElem?_getD, List.getElem?_eq_getElem hh]
  rfl
theorem copy_says {e : List Nat} {b : Nat} (hb : 1 ≤ b) : ∀ (k h : Nat), b ≤ h → h + k ≤ e.length → (∀ t, t < k → e.getD (h + t) 0 = e.getD (h + t - b) 0) → copyN (e.take h) b k = e.take (h + k)
  | 0, h, _, _, _ => rfl
  | k + 1, h, h1, h2, hh => by
    show copyN (e.take h ++ [(e.take h).getD ((e.take h).length - b) 0]) b k = _
    have el : (e.take h).length = h := by rw [List.length_take]; omega
    have e0 : (e.take h).getD (h - b) 0 = e.getD h 0 := by
      have := hh 0 (by omega)
      rw [Nat.add_zero] at this
      rw [this, List.getD_eq_getElem?_getD, List.getD_eq_getElem?_getD, List.getElem?_take_of_lt (by omega)]
    rw [el, e0, take_snoc (by omega), copy_says hb k (h + 1) (by omega) (by omega) fun t ht => ?_, show h + 1 + k = h + (k + 1) by omega]
    have := hh (t + 1) (by omega)
    rw [show h + 1 + t = h + (t + 1) by omega]
    exact this
theorem row_says {e : List Nat} {lead en : Nat} {L B : List Int} (hk : ∀ k ∈ e, k < 256) (hen : lead + en = e.length) : ∀ (f p : Nat), p ≤ en → en - p ≤ f → (tab e lead en L B en p).1 ≠ none →
    tells (e.take (lead + p)) (rowS (tab e lead en L B en) en f p) = some e ∧ bitsO L B (rowS (tab e lead en L B en) en f p) = (tab e lead en L B en p).1 ∧ (∀ it ∈ rowS (tab e lead en L B en) en f p, ItmOk it) ∧ (rowS (tab e lead en L B en) en f p).length ≤ en - p
  | 0, p, h1, h2, h3 => by
    have hp : p = en := by omega
    subst hp
    rw [tab_end]
    refine ⟨?_, rfl, fun it m => (by cases m), Nat.zero_le _⟩
    show some (e.take (lead + p)) = some e
    rw [List.take_of_length_le (by omega)]
  | f + 1, p, h1, h2, h3 => by
    by_cases hp : p < en
    · cases hc : (tab e lead en L B en p).1 with
      | none => exact absurd hc h3
      | some c =>
        obtain ⟨it, m, h4, a, r, ha, hr, rfl⟩ := tab_val hk hp hc
        obtain ⟨ok, l1, l2⟩ := itemsF_ok hk (by omega) (by omega) m
        have er : rowS (tab e lead en L B en) en (f + 1) p = it :: rowS (tab e lead en L B en) en f (p + lenI it) := by
          show (if p < en then (match (tab e lead en L B en p).2 with
            | some it => it :: rowS (tab e lead en L B en) en f (p + lenI it)
            | none => []) else []) = _
          rw [if_pos hp, h4]
        obtain ⟨i1, i2, i3, i4⟩ := row_says hk hen f (p + lenI it) (by omega) (by omega) (by rw [hr]; exact fun z => by cases z)
        rw [er]
        refine ⟨?_, ?_, fun x mx => ?_, by rw [List.length_cons]; omega⟩
        · rcases item_says m with rfl | ⟨k, b, rfl, b1, b2, hh⟩
          · show tells (e.take (lead + p) ++ [e.getD (lead + p) 0]) _ = some e
            rw [take_snoc (by omega)]
            exact i1
          · have lk : lenI (.c k b) = k := rfl
            rw [lk] at i1 l1 l2 hr
            show (if b ≤ (e.take (lead + p)).length then tells (copyN (e.take (lead + p)) b k) _ else none) = some e
            rw [if_pos (by rw [List.length_take]; omega), copy_says b1 k (lead + p) b2 (by omega) hh, lk, show lead + p + k = lead + (p + k) by omega]
            exact i1
        · show sumO (costO L B it :: _) = _
          rw [ha]
          show (bitsO L B (rowS (tab e lead en L B en) en f (p + lenI it))).map (a + ·) = _
          rw [i2, hr]
          rfl
        · rcases List.mem_cons.mp mx with rfl | mx
          · exact ok
          · exact i3 x mx
    · have hp' : p = en := by omega
      subst hp'
      have er : rowS (tab e lead p L B p) p (f + 1) p = [] := by
        show (if p < p then _ else _) = _
        rw [if_neg (by omega)]
      rw [er, tab_end]
      refine ⟨?_, rfl, fun it m => (by cases m), Nat.zero_le _⟩
      show some (e.take (lead + p)) = some e
      rw [List.take_of_length_le (by omega)]
end K4

namespace L2
open PySem PySem.Spec PyProof.Rows
/-- one expression read in two ways -/
theorem pe_either {X : Cx} {e : Expr} {t1 t2 : TE} (h1 : PE X e t1) (h2 : PE X e t2) : PE X e (fun σ H Q => t1 σ H Q ∨ t2 σ H Q) := ⟨fun pins s σ H Q I h => h.elim (h1.run pins s σ H Q I) (h2.run pins s σ H Q I)⟩
end L2
namespace K4
open PySem PySem.Spec PyProof.Rows L2
/-! ### _law_all_right -/
abbrev NAl : List Str := ["_law_script", "_law_k", "_law_numbers_here", "_law_first", "_law_lengths", "_law_prices_here", "_law_data_here", "_law_before", "_law_every", "_law_costs", "_law_row", "_law_found", "_law_turn", "_law_cell"]
theorem scAll : FnScope NAl ["_law_script"] (defScope sAll) := ⟨rfl, rfl, rfl, by decide +kernel, rfl, by decide +kernel, by decide +kernel⟩
abbrev spTldS (C : Addr) : Sp := fun vs H Q E => spBehind C vs H Q E ∧ ∃ (pr : Addr) (lead : List Nat), vs = [.ref pr, .byt (byB lead)] ∧ lead.length ≤ 4096
/-! costs as data -/
def optD : Option Int → PyData
  | none => .none
  | some i => .int i
theorem dp_opt {K : PySem.W.Frag} {H : Hp} : ∀ cs : List (Option Int), DpAll K H (cs.map optV) (cs.map optD)
  | [] => .nil
  | none :: r => .cons .non (dp_opt r)
  | some x :: r => .cons (.int x) (dp_opt r)
theorem optDs_lay : ∀ cs : List (Option Int), PyData.canLayAll0 (cs.map optD) = true
  | [] => by simp [PyData.canLayAll0]
  | none :: r => by simp [PyData.canLayAll0, PyData.canLay0, optD, optDs_lay r]
  | some x :: r => by simp [PyData.canLayAll0, PyData.canLay0, optD, optDs_lay r]
theorem optDs_depth : ∀ cs : List (Option Int), PyData.depthAll (cs.map optD) = 0
  | [] => by simp [PyData.depthAll]
  | none :: r => by simp [PyData.depthAll, PyData.depth, optD, optDs_depth r]
  | some x :: r => by simp [PyData.depthAll, PyData.depth, optD, optDs_depth r]
theorem shaped_opt (cs : List (Option Int)) : SeqAt.shaped (.list (cs.map optD)) = true := by
  have h1 := optDs_depth cs
  have h2 : PyData.depth (.list (cs.map optD)) ≤ 64 := by
    simp only [PyData.depth]
    omega
  show (PyData.canLay0 (.list (cs.map optD)) && decide (PyData.depth (.list (cs.map optD)) ≤ 64)) = true
  rw [Bool.and_eq_true]
  exact ⟨by simp only [PyData.canLay0]; exact optDs_lay cs, decide_eq_true h2⟩
theorem eqvA_opt : ∀ cs : List (Option Int), PyData.eqvAll (cs.map optD) (cs.map optD) = true
  | [] => by simp [PyData.eqvAll]
  | none :: r => by simp [PyData.eqvAll, PyData.eqv, optD, eqvA_opt r]
  | some x :: r => by simp [PyData.eqvAll, PyData.eqv, optD, eqvA_opt r]
theorem eqv_opt (cs : List (Option Int)) : PyData.eqv (.list (cs.map optD)) (.list (cs.map optD)) = true := by rw [PyData.eqv, eqvA_opt]
theorem eqvA_row : ∀ its : List Itm, PyData.eqvAll (its.map itmD) (its.map itmD) = true
  | [] => by simp [PyData.eqvAll]
  | .b k :: r => by simp [PyData.eqvAll, PyData.eqv, itmD, eqvA_row r]
  | .c m b :: r => by simp [PyData.eqvAll, PyData.eqv, itmD, eqvA_row r]
theorem eqv_row (its : List Itm) : PyData.eqv (.list (its.map itmD)) (.list (its.map itmD)) = true := by rw [PyData.eqv, eqvA_row]
theorem asIt_toAny (its : List Itm) : (its.map toAny).map asIt = its := by
  rw [List.map_map]
  conv => rhs; rw [← List.map_id its]
  refine List.map_congr_left fun it _ => ?_
  cases it with
  | b k =>
    show Itm.b (k : Int).toNat = _
    rfl
  | c m r =>
    show Itm.c (m : Int).toNat (r : Int).toNat = _
    rfl
theorem tells_good : ∀ (its : List Itm) (every e : List Nat) (i : Nat), (∀ it ∈ its, ItmOk it) → tells every its = some e → firstBad (every.length : Int) i (its.map toAny) = none
  | [], every, e, i, _, _ => rfl
  | .b k :: r, every, e, i, ok, h => by
    have hk : k < 256 := ok _ (List.mem_cons_self ..)
    have h' : tells (every ++ [k]) r = some e := h
    have ih := tells_good r (every ++ [k]) e (i + 1) (fun x m => ok x (List.mem_cons_of_mem _ m)) h'
    have es : stepA (every.length : Int) (toAny (.b k)) = some ((every.length : Int) + 1) := if_pos ⟨by omega, by omega⟩
    show firstBad (every.length : Int) i (toAny (.b k) :: r.map toAny) = none
    rw [firstBad_yes es]
    rw [List.length_append] at ih
    exact ih
  | .c m b :: r, every, e, i, ok, h => by
    obtain ⟨o1, o2, o3, o4⟩ : ItmOk (.c m b) := ok _ (List.mem_cons_self ..)
    have h' : (if b ≤ every.length then tells (copyN every b m) r else none) = some e := h
    by_cases q : b ≤ every.length
    · rw [if_pos q] at h'
      have ih := tells_good r (copyN every b m) e (i + 1) (fun x mm => ok x (List.mem_cons_of_mem _ mm)) h'
      have es : stepA (every.length : Int) (toAny (.c m b)) = some ((every.length : Int) + (m : Int)) := if_pos ⟨by omega, by omega, by omega, by omega, by omega⟩
      show firstBad (every.length : Int) i (toAny (.c m b) :: r.map toAny) = none
      rw [firstBad_yes es]
      rw [copyN_len] at ih
      push_cast at ih
      exact ih
    · rw [if_neg q] at h'
      cases h'
/-- what least answers -/
def AnsAt (CL CN : Addr) (H : Hp) (a : Addr) (lead data : List Nat) (L B : List Int) : Prop :=
  if (tab (lead ++ data) lead.length data.length L B data.length 0).1 = none then NevAt CN H a (costsF (lead ++ data) lead.length data.length L B)
  else LstAt CL H a (rowS (tab (lead ++ data) lead.length data.length L B data.length) data.length data.length 0) (costsF (lead ++ data) lead.length data.length L B)
def spLeast (CL CN CP : Addr) : Sp := fun vs H Q _ => ∃ (pp : Addr) (lead data : List Nat) (L B : List Int), vs = [.byt (byB data), .ref pp, .byt (byB lead)] ∧ (∀ k ∈ lead ++ data, k < 256) ∧ (lead ++ data).length ≤ 1000 ∧ PcAt CP H pp L B ∧ PrL 273 L ∧ PrL 11 B ∧
  ∀ H' a, Same H H' → H a = none → AnsAt CL CN H' a lead data L B → Q (.ref a) H'
def kbL (K : PySem.W.Frag) (fd : FuncData) : Prop := KBn K fd ["data", "prices", "ahead"] 2 ["ahead"] (fun us ws => us ++ ws) (fun vs zs => vs ++ zs)
/-- what the written part says of the two classes of answers -/
structure AnsIs (K : PySem.W.Frag) (CL CN : Addr) : Prop where
  tL : ∀ {H : Hp} {a dx : Addr} {fs : List (Str × V)}, H a = some (.ins CL dx fs) → TyOf K H (.ref a) (.ref CL)
  tN : ∀ {H : Hp} {a dx : Addr} {fs : List (Str × V)}, H a = some (.ins CN dx fs) → TyOf K H (.ref a) (.ref CN)
  ll : PySem.W.kitOne K (.ref CL) (.ref CL) = some true
  ln : PySem.W.kitOne K (.ref CL) (.ref CN) = some false
  nl : PySem.W.kitOne K (.ref CN) (.ref CL) = some false
  nn : PySem.W.kitOne K (.ref CN) (.ref CN) = some true
  lr : NoAttr K CL "row"
  lc : NoAttr K CL "costs"
  nc : NoAttr K CN "costs"
section
variable {P : Program} {w : World} {K : PySem.W.Frag} {mg : Str → Option Value} {base : Heap} {C CL CN CI fPI fL fB fLI fLS fNI fNS : Addr}
def spAll (K : PySem.W.Frag) : Sp := fun vs H Q _ => ∃ (p : Addr) (xs : List Int), vs = [.ref p] ∧ SqL K H p (xs.map V.int) ∧ ∀ H', Same H H' → Q (.bl true) H'
set_option maxHeartbeats 8000000 in
theorem ok_all (T : PrTxt K mg C fPI fL fB) (TL : AnsTxt K mg "Least" CL fLI fLS) (TN : AnsTxt K mg "Never" CN fNI fNS) (TI : AnsIs K CL CN) {f fD fC fPr fO fX fS fLe fT fBt fSp : Addr} {fd fdPI fdLS fdNS fdD fdC fdPr fdO fdX fdS fdLe fdT fdBt fdSp : FuncData} {j k1 k2 k3 k4 k5 k6 k7 k8 k9 k10 k11 k12 k13 : Nat} (F : Fun K "_law_all_right" "_law_all_right" sAll f fd) (FT : Fun K "told" "told" sTld fT fdT)
    (GI : FnOk P w K mg base CX0 k1 fPI fdPI ["self", "letters", "backs"] (spPInit C)) (bI : Binds K fdPI ["self", "letters", "backs"] []) (l1 : k1 + 1 ≤ j)
    (GLS : FnOk P w K mg base CX0 k2 fLS fdLS ["self", "data", "prices", "ahead"] (spLShows CL C)) (bLS : kbS K fdLS) (l2 : k2 ≤ j)
    (GNS : FnOk P w K mg base CX0 k3 fNS fdNS ["self", "data", "prices", "ahead"] (spNShows CN C)) (bNS : kbS K fdNS) (l3 : k3 ≤ j)
    (GD : FnOk P w K mg base CX0 k4 fD fdD ["_law_script", "_law_at", "_law_most"] (spData K)) (bD : Binds K fdD ["_law_script", "_law_at", "_law_most"] []) (kD : PySem.W.keepIn K (.ref fD) = true) (gD : mg "_law_data" = some (.ref fD)) (l4 : k4 ≤ j)
    (GC : FnOk P w K mg base CX0 k5 fC fdC ["_law_script", "_law_k"] (K4.spCell K)) (bC : Binds K fdC ["_law_script", "_law_k"] []) (kC : PySem.W.keepIn K (.ref fC) = true) (gC : mg "_law_cell_at" = some (.ref fC)) (l5 : k5 ≤ j)
    (GP : FnOk P w K mg base CX0 k6 fPr fdPr ["_law_script", "_law_at", "_law_data_here"] (spPrc K)) (bP : Binds K fdPr ["_law_script", "_law_at", "_law_data_here"] []) (kP : PySem.W.keepIn K (.ref fPr) = true) (gP : mg "_law_prices" = some (.ref fPr)) (l6 : k6 ≤ j)
    (GO : FnOk P w K mg base CX0 k7 fO fdO ["text"] spOfHex) (bO : Binds K fdO ["text"] []) (kO : PySem.W.keepIn K (.ref fO) = true) (gO : mg "of_hex" = some (.ref fO)) (l7 : k7 ≤ j)
    (GX : FnOk P w K mg base CX0 k8 fX fdX ["_law_numbers_here"] spHex) (bX : Binds K fdX ["_law_numbers_here"] []) (kX : PySem.W.keepIn K (.ref fX) = true) (gX : mg "_law_hex" = some (.ref fX)) (l8 : k8 ≤ j)
    (GS : FnOk P w K mg base CX0 k9 fS fdS ["_law_every", "_law_lead", "_law_begin", "_law_end", "_law_letters", "_law_backs"] spSearch) (bS : Binds K fdS ["_law_every", "_law_lead", "_law_begin", "_law_end", "_law_letters", "_law_backs"] []) (kS : PySem.W.keepIn K (.ref fS) = true) (gS : mg "_law_searched" = some (.ref fS)) (l9 : k9 ≤ j)
    (GLe : FnOk P w K mg base CX0 k10 fLe fdLe ["data", "prices", "ahead"] (spLeast CL CN C)) (bLe : kbL K fdLe) (kLe : PySem.W.keepIn K (.ref fLe) = true) (gLe : mg "least" = some (.ref fLe)) (l10 : k10 ≤ j)
    (GT : FnOk P w K mg base (L2N.CX P w) k11 fT fdT ["items", "ahead"] (spTldS CI)) (gT : mg "told" = some (.ref fT)) (l11 : k11 ≤ j)
    (GB : FnOk P w K mg base CX0 k12 fBt fdBt ["items", "prices"] (spBits C)) (bB : Binds K fdBt ["items", "prices"] []) (kB : PySem.W.keepIn K (.ref fBt) = true) (gB : mg "bits_of" = some (.ref fBt)) (l12 : k12 ≤ j)
    (GSp : FnOk P w K mg base CX0 k13 fSp fdSp ["_law_cell", "_law_every", "_law_lead", "_law_data_here", "_law_before", "_law_costs", "_law_row", "_law_lengths"] spSpoilt) (bSp : Binds K fdSp ["_law_cell", "_law_every", "_law_lead", "_law_data_here", "_law_before", "_law_costs", "_law_row", "_law_lengths"] []) (kSp : PySem.W.keepIn K (.ref fSp) = true) (gSp : mg "_law_spoilt_right" = some (.ref fSp)) (l13 : k13 ≤ j)
    (m1 : mg "range" = none) (m2 : mg "len" = none) (m3 : mg "isinstance" = none) :
    FnOk P w K mg base CX0 (j + 1) f fd ["_law_script"] (spAll K) := by
  refine F.ok scAll (fun vs H Q E h => ?_) (fun cdv A outer s H vs Q E hr h => ?_)
  · obtain ⟨p, xs, rfl, _⟩ := h
    rfl
  · obtain ⟨p, xs, rfl, hp, q⟩ := h
    have hz := PySem.sizeLine_eq
    refine ⟨_, pss_cons (ps_for PassesOwn.never rfl (pi_range1 (by rfl) m1 (pa_cons pe_int pa_nil)) (pg_name (i := 1) scAll.nd rfl (.inl rfl))
        (pss_cons (ps_set (i := 2) scAll.nd rfl (.inl rfl) (pe_call GD (hr.mono l4) (by rfl) gD kD bD .nil pass0 (pa_cons (pv 0) (pa_cons (pe_op op_mul pe_int (pv 1)) (pa_cons pe_int pa_nil)))))
        (pss_cons (ps_set (i := 3) scAll.nd rfl (.inl rfl) (pe_ifExp (pt_cmpR op_eq (pe_op op_modN (pe_call GC (hr.mono l5) (by rfl) gC kC bC .nil pass0 (pa_cons (pv 0) (pa_cons (pe_op op_add (pe_op op_mul pe_int (pv 1)) pe_int) pa_nil))) pe_int) pe_int (nomark _))
            (pe_call GD (hr.mono l4) (by rfl) gD kD bD .nil pass0 (pa_cons (pv 0) (pa_cons (pe_op op_add (pe_op op_mul pe_int (pv 1)) pe_int) (pa_cons pe_int pa_nil)))) (pe_lst pa_nil)))
        (pss_cons (ps_set (i := 4) scAll.nd rfl (.inl rfl) (pe_call GP (hr.mono l6) (by rfl) gP kP bP .nil pass0 (pa_cons (pv 0) (pa_cons (pe_op op_add (pe_op op_mul pe_int (pv 1)) pe_int) (pa_cons (pv 2) pa_nil)))))
        (pss_cons (ps_par3 (i := 5) (j := 6) (l := 7) rfl scAll.nd rfl rfl rfl (by decide) (by decide) (by decide) rfl rfl rfl (pa_cons (pe_make T.made GI (hr.mono l1) (by rfl) T.gC bI .nil pass0 (pa_cons (pe_ix ix_tup (pv 4) pe_int (fun _ _ => rfl)) (pa_cons (pe_ix ix_tup (pv 4) pe_int (fun _ _ => rfl)) pa_nil)))
            (pa_cons (pe_call GO (hr.mono l7) (by rfl) gO kO bO .nil pass0 (pa_cons (pe_call GX (hr.mono l8) (by rfl) gX kX bX .nil pass0 (pa_cons (pv 2) pa_nil)) pa_nil)) (pa_cons (pe_call GO (hr.mono l7) (by rfl) gO kO bO .nil pass0 (pa_cons (pe_call GX (hr.mono l8) (by rfl) gX kX bX .nil pass0 (pa_cons (pv 3) pa_nil)) pa_nil)) pa_nil))) (by rfl))
        (pss_cons (ps_set (i := 8) scAll.nd rfl (.inl rfl) (pe_op op_cat (pv 3) (pv 2)))
        (pss_cons (ps_asg (pe_call GS (hr.mono l9) (by rfl) gS kS bS .nil pass0 (pa_cons (pv 8) (pa_cons (pe_callB call_len_seq (by rfl) m2 PySem.boot_len (pa_cons (pv 3) pa_nil)) (pa_cons pe_int (pa_cons (pe_callB call_len_seq (by rfl) m2 PySem.boot_len (pa_cons (pv 2) pa_nil)) (pa_cons (pe_ix ix_tup (pv 4) pe_int (fun _ _ => rfl)) (pa_cons (pe_ix ix_tup (pv 4) pe_int (fun _ _ => rfl)) pa_nil)))))))
            (pg_tup (by rfl) (pgs_cons (pg_name (i := 9) scAll.nd rfl (.inl rfl)) (pgs_cons (pg_name (i := 10) scAll.nd rfl (.inl rfl)) pgs_nil))))
        (pss_cons (ps_set (i := 11) scAll.nd rfl (.inl rfl) (pe_callN GLe (hr.mono l10) (by rfl) gLe kLe bLe pass0 (pa_cons (pv 6) (pa_cons (pv 5) pa_nil)) (pk_cons (pv 7) pk_nil)))
        (pss_cons (ps_if (PW.pt (pw_or (pt_cmpR op_ne (pe_callB call_isi (by rfl) m3 (by decide +kernel) (pa_cons (pv 11) (pa_cons (pe_glob (v := .ref CN) (by rfl) TN.gC rfl) pa_nil))) (pe_cmp (pc_isN (pe_ix ix_list (pv 9) pe_int (fun _ _ => rfl))) rfl) (nomark _)) (pw_or1 (pt_cmpR (op_neD hr.units) (pe_fld (pv 11) rfl) (pv 9) (nomark _))))) (pss_one (ps_ret pe_bl)) pss_nil)
        (pss_cons (ps_if (pt_not (pt_val (pe_either (pe_methN (pv 11) TN.cl TN.mS GNS (hr.mono l3) bNS pass0 (pa_cons (pv 6) (pa_cons (pv 5) pa_nil)) (pk_cons (pv 7) pk_nil)) (pe_methN (pv 11) TL.cl TL.mS GLS (hr.mono l2) bLS pass0 (pa_cons (pv 6) (pa_cons (pv 5) pa_nil)) (pk_cons (pv 7) pk_nil))))) (pss_one (ps_ret pe_bl)) pss_nil)
        (pss_cons (ps_if (pt_val (pe_callB call_isi (by rfl) m3 (by decide +kernel) (pa_cons (pv 11) (pa_cons (pe_glob (v := .ref CL) (by rfl) TL.gC rfl) pa_nil))))
          (pss_one (ps_if (PW.pt (pw_or (pt_cmpR (op_neD hr.units) (pe_fld (pv 11) rfl) (pv 10) (nomark _)) (pw_or (pt_cmpR op_ne (pe_callN GT (hr.mono l11) (by rfl) gT FT.kp (kb_tld FT) passF (pa_cons (pv 10) pa_nil) (pk_cons (pv 7) pk_nil)) (pv 6) (nomark _))
            (pw_or1 (pt_cmpR op_ne (pe_call GB (hr.mono l12) (by rfl) gB kB bB .nil pass0 (pa_cons (pv 10) (pa_cons (pv 5) pa_nil))) (pe_ix ix_list (pv 9) pe_int (fun _ _ => rfl)) (nomark _)))))) (pss_one (ps_ret pe_bl)) pss_nil)) pss_nil)
        (pss_one (ps_for PassesOwn.never rfl (pi_range1 (by rfl) m1 (pa_cons pe_int pa_nil)) (pg_name (i := 12) scAll.nd rfl (.inl rfl))
          (pss_cons (ps_set (i := 13) scAll.nd rfl (.inl rfl) (pe_call GC (hr.mono l5) (by rfl) gC kC bC .nil pass0 (pa_cons (pv 0) (pa_cons (pe_op op_add (pe_op op_add pe_int (pe_op op_mul pe_int (pv 1))) (pv 12)) pa_nil))))
          (pss_one (ps_if (pt_not (pt_val (pe_call GSp (hr.mono l13) (by rfl) gSp kSp bSp .nil pass0 (pa_cons (pv 13) (pa_cons (pv 8) (pa_cons (pe_callB call_len_seq (by rfl) m2 PySem.boot_len (pa_cons (pv 3) pa_nil)) (pa_cons (pv 6) (pa_cons (pv 7) (pa_cons (pv 9) (pa_cons (pv 10) (pa_cons (pv 4) pa_nil))))))))))) (pss_one (ps_ret pe_bl)) pss_nil))))))))))))))))
      (pss_one (ps_ret pe_bl)), ?_⟩
    refine ⟨2, rfl, by decide, by decide, ?_⟩
    refine for_range (lo := 0) (n := 2) (fun i σ H' => ∃ (y1 y2 y3 y4 y5 y6 y7 y8 y9 y10 y11 y12 y13 : Option V), σ = [some (.ref p), y1, y2, y3, y4, y5, y6, y7, y8, y9, y10, y11, y12, y13] ∧ Same H H') ⟨_, _, _, _, _, _, _, _, _, _, _, _, _, rfl, Same.refl H⟩ (fun i σ H0 hi h => ?_) (fun σ H' h => ?_)
    · obtain ⟨y1, y2, y3, y4, y5, y6, y7, y8, y9, y10, y11, y12, y13, rfl, sm⟩ := h
      refine ⟨_, rfl, _, rfl, _, _, rfl, rfl, .inl ⟨by decide, by decide⟩, p, xs, 110 * i, 42, ?_, sm.seq hp, by omega, by decide, fun H1 r0 ks0 s1 nr0 hr0 hk0 hl0 => ?_⟩
      · show [V.ref p, V.int ((110 : Int) * (0 + (i : Int))), V.int 42] = _
        rw [show (110 : Int) * (0 + (i : Int)) = ((110 * i : Nat) : Int) by omega]
        rfl
      have sm1 := sm.trans s1
      clear sm s1 nr0
      dsimp only [gName]
      obtain ⟨M1, hM1⟩ : ∃ M : L2.St → Hp → Prop, M = (fun σ' H' => ∃ (r1 : Addr) (ks1 : List Nat), σ' = [some (.ref p), some (.int (0 + (i : Int))), some (.ref r0), some (.ref r1), y4, y5, y6, y7, y8, y9, y10, y11, y12, y13] ∧ Same H1 H' ∧ H' r1 = some (.lst (bys ks1)) ∧ (∀ k ∈ ks1, k < 256) ∧ ks1.length ≤ 20) := ⟨_, rfl⟩
      with_reducible refine seq_mid M1 (fun N hN => ?_) (fun σ2 H2 h => ?_)
      · subst hM1
        refine ⟨_, rfl, _, rfl, _, _, rfl, rfl, .inl ⟨by decide, by decide⟩, _, _, rfl, rfl, p, xs, 110 * i + 50, ?_, sm1.seq hp, by omega, fun H2 s2 => ?_⟩
        · show [V.ref p, V.int ((110 : Int) * (0 + (i : Int)) + 50)] = _
          rw [show (110 : Int) * (0 + (i : Int)) + 50 = ((110 * i + 50 : Nat) : Int) by omega]
        refine ⟨_, _, rfl, rfl, (by show (2 : Int) ≠ 0; decide), rfl, _, rfl, ite2 (fun e => ?_) (fun e => ?_)⟩
        · refine ⟨_, rfl, _, rfl, _, _, rfl, rfl, .inl ⟨by decide, by decide⟩, _, _, rfl, rfl, p, xs, 110 * i + 25, 20, ?_, (sm1.trans s2).seq hp, by omega, by decide, fun H3 r1 ks1 s3 _ hr1 hk1 hl1 => ?_⟩
          · show [V.ref p, V.int ((110 : Int) * (0 + (i : Int)) + 25), V.int 20] = _
            rw [show (110 : Int) * (0 + (i : Int)) + 25 = ((110 * i + 25 : Nat) : Int) by omega]
            rfl
          · exact hN _ _ ⟨r1, ks1, rfl, s2.trans s3, hr1, hk1, hl1⟩
        · exact ⟨Nat.zero_le _, fun z nz => hN _ _ ⟨z, [], rfl, s2.trans (same_upd nz), upd_same, fun k m => (by cases m), Nat.zero_le _⟩⟩
      · subst hM1
        obtain ⟨r1, ks1, rfl, s2, hr1, hk1, hl1⟩ := h
        have hr0 := s2 _ _ hr0
        have sm2 := sm1.trans s2
        clear sm1 s2
        refine ⟨_, rfl, _, rfl, _, _, rfl, rfl, .inl ⟨by decide, by decide⟩, _, _, rfl, rfl, _, rfl, p, r0, xs, 110 * i + 51, ks0, ?_, sm2.seq hp, by omega, hr0, hk0, hl0, fun H4 t pL pB L B s4 ht hL hB gL gB _ _ _ => ?_⟩
        · show [V.ref p, V.int ((110 : Int) * (0 + (i : Int)) + 51), V.ref r0] = _
          rw [show (110 : Int) * (0 + (i : Int)) + 51 = ((110 * i + 51 : Nat) : Int) by omega]
        have hr0 := s4 _ _ hr0
        have hr1 := s4 _ _ hr1
        have sm4 := sm2.trans s4
        clear sm2 s4
        refine ⟨_, rfl, t, _, 0, _, rfl, rfl, .inl (.inl ht), rfl, _, rfl, t, _, 1, _, rfl, rfl, .inl (.inl ht), rfl, ?_⟩
        intro x dx nx nd ne
        have s0 : Same H4 (upd (upd H4 dx (.own x)) x (.ins C dx [])) := fun b o e => by
          rw [upd_ne (ne_of_none e nx), upd_ne (ne_of_none e nd)]
          exact e
        refine ⟨x, dx, pL, pB, L, B, rfl, upd_same, s0 _ _ hL, s0 _ _ hB, gL, gB, fun H5 k5' hP => ⟨rfl, ?_⟩⟩
        have s5 := make_same nx nd k5'
        clear s0 k5' ne
        refine ⟨_, rfl, r0, ks0, rfl, (by rw [s5 _ _ hr0, bys_eq]), hk0, by omega, fun H6 s6 => ⟨ks0, rfl, hk0, by omega, fun H7 s7 => ?_⟩⟩
        have s57 := (s5.trans s6).trans s7
        refine ⟨_, rfl, r1, ks1, rfl, (by rw [s57 _ _ hr1, bys_eq]), hk1, by omega, fun H8 s8 => ⟨ks1, rfl, hk1, by omega, fun H9 s9 => ⟨_, _, _, rfl, ?_⟩⟩⟩
        have s59 := (s6.trans s7).trans (s8.trans s9)
        have hP := hP.same s59
        have s49 := s5.trans s59
        have hr0 := s49 _ _ hr0
        have hr1 := s49 _ _ hr1
        have ht := s49 _ _ ht
        have hL := s49 _ _ hL
        have hB := s49 _ _ hB
        have sm9 := sm4.trans s49
        clear s5 s6 s7 s57 s8 s9 s59 s49 sm4 nx nd
        refine ⟨_, rfl, _, rfl, r1, r0, _, _, rfl, rfl, hr1, hr0, (by rw [bys_len, bys_len]; omega), fun re nre => ?_⟩
        rw [bys_app]
        have v1 := same_upd (o := .lst (bys (ks1 ++ ks0))) nre
        have hre : (upd H9 re (.lst (bys (ks1 ++ ks0)))) re = some (.lst (bys (ks1 ++ ks0))) := upd_same
        have hP := hP.same v1
        have hr0 := v1 _ _ hr0
        have hr1 := v1 _ _ hr1
        have ht := v1 _ _ ht
        have hL := v1 _ _ hL
        have hB := v1 _ _ hB
        have smA := sm9.trans v1
        generalize upd H9 re (.lst (bys (ks1 ++ ks0))) = HA at *
        clear v1 sm9
        have hall : ∀ k ∈ ks1 ++ ks0, k < 256 := fun k m => by
          rcases List.mem_append.mp m with m | m
          · exact hk1 k m
          · exact hk0 k m
        have elen : (ks1 ++ ks0).length = ks1.length + ks0.length := List.length_append
        refine ⟨_, rfl, _, rfl, r1, _, rfl, .inl (.inl (.inl hr1)), _, rfl, r0, _, rfl, .inl (.inl (.inl hr0)), _, rfl, t, _, 0, _, rfl, rfl, .inl (.inl ht), rfl, _, rfl, t, _, 1, _, rfl, rfl, .inl (.inl ht), rfl, re, pL, pB, ks1 ++ ks0, ks1.length, 0, ks0.length, L, B, ?_, hre, hall, by omega, by omega, by omega, hL, hB, gL.1, gB.1, fun HB t2 pc pr us sB ht2 hpc hpr hrow _ _ _ => ?_⟩
        · rw [bys_len, bys_len]
          rfl
        refine ⟨t2, _, rfl, .inl (.inl ht2), rfl, _, _, rfl, _, _, rfl, rfl, ?_⟩
        have ecs : (List.range (ks0.length - 0 + 1)).map (fun i => optV (tab (ks1 ++ ks0) ks1.length ks0.length L B (ks0.length - 0) (0 + i)).1) = (costsF (ks1 ++ ks0) ks1.length ks0.length L B).map optV := by
          unfold costsF
          rw [List.map_map, Nat.sub_zero]
          refine List.map_congr_left fun i _ => ?_
          rw [Nat.zero_add]
          rfl
        rw [ecs] at hpc
        rw [Nat.sub_zero] at hrow
        have hP := hP.same sB
        have hr0 := sB _ _ hr0
        have hr1 := sB _ _ hr1
        have hre := sB _ _ hre
        have ht := sB _ _ ht
        have hL := sB _ _ hL
        have hB := sB _ _ hB
        have smB := smA.trans sB
        clear sB smA ht2 ecs
        refine ⟨_, rfl, _, rfl, _, rfl, rfl, rfl, x, ks1, ks0, L, B, rfl, hall, by omega, hP, gL, gB, fun HC an sC nan hA => ?_⟩
        dsimp only [gName]
        have hP := hP.same sC
        have hr0 := sC _ _ hr0
        have hr1 := sC _ _ hr1
        have hre := sC _ _ hre
        have ht := sC _ _ ht
        have hL := sC _ _ hL
        have hB := sC _ _ hB
        have hpc := sC _ _ hpc
        have hpr := sC _ _ hpr
        have hrow := row_same hrow sC
        have smC := smB.trans sC
        clear smB sC nan
        have hc0 := costsF_at (e := ks1 ++ ks0) (lead := ks1.length) (en := ks0.length) (L := L) (B := B) (q := 0) (Nat.zero_le _)
        have hclen := costsF_len (ks1 ++ ks0) ks1.length ks0.length L B
        have hcok := costsF_ok (e := ks1 ++ ks0) (lead := ks1.length) (en := ks0.length) (L := L) (B := B) hall (by omega) (fun x m => (gL.2.1 x m).1) (fun x m => (gB.2.1 x m).1)
        have hrs := row_says (e := ks1 ++ ks0) (lead := ks1.length) (en := ks0.length) (L := L) (B := B) hall (by omega) ks0.length 0 (Nat.zero_le _) (by omega)
        have etk : (ks1 ++ ks0).take (ks1.length + 0) = ks1 := by rw [Nat.add_zero, List.take_left]
        rw [etk] at hrs
        have etk2 : (ks1 ++ ks0).take ks1.length = ks1 := List.take_left ..
        unfold AnsAt at hA
        generalize costsF (ks1 ++ ks0) ks1.length ks0.length L B = CS at *
        generalize rowS (tab (ks1 ++ ks0) ks1.length ks0.length L B ks0.length) ks0.length ks0.length 0 = WR at *
        generalize (tab (ks1 ++ ks0) ks1.length ks0.length L B ks0.length 0).1 = c0 at *
        obtain ⟨W, hW, hWok, hWl⟩ : ∃ W, (if c0 = none then [] else WR) = W ∧ (∀ it ∈ W, ItmOk it) ∧ W.length ≤ ks0.length := by
          refine ⟨_, rfl, ?_, ?_⟩
          · by_cases q0 : c0 = none
            · rw [if_pos q0]
              exact fun it m => (by cases m)
            · rw [if_neg q0]
              exact (hrs q0).2.2.1
          · by_cases q0 : c0 = none
            · rw [if_pos q0]
              exact Nat.zero_le _
            · rw [if_neg q0]
              exact (hrs q0).2.2.2
        rw [hW] at hrow
        have hat0 : atI (CS.map optV) 0 = some (optV c0) := by
          rw [← hc0]
          exact opt_at (k := 0) rfl (by omega)
        obtain ⟨S, hS⟩ : ∃ S : L2.St, S = [some (.ref p), some (.int (0 + (i : Int))), some (.ref r0), some (.ref r1), some (.ref t), some (.ref x), some (.byt (byB ks0)), some (.byt (byB ks1)), some (.ref re), some (.ref pc), some (.ref pr), some (.ref an), y12, y13] := ⟨_, rfl⟩
        obtain ⟨M2, hM2⟩ : ∃ M : L2.St → Hp → Prop, M = (fun σ' H' => σ' = S ∧ Same HC H') := ⟨_, rfl⟩
        with_reducible refine seq_mid M2 (fun N hN => ?_) (fun σd HD h => ?_)
        · subst hM2
          have no := hN _ HC ⟨hS.symm, Same.refl _⟩
          cases c0 with
          | none =>
            obtain ⟨dxa, ca, ha, hca⟩ : NevAt CN HC an CS := hA
            refine ⟨_, rfl, _, _, .ref CN, .ref CN, true, rfl, .own CN, .base (TI.tN ha), TI.nn, _, rfl, pc, _, 0, _, rfl, rfl, .inl (.inl hpc), hat0, rfl, _, rfl, iteF ?_⟩
            refine ⟨_, rfl, an, CN, dxa, _, _, rfl, ha, TN.cl, TI.nc, lkH, _, rfl, _, _, .lst (.inl (.inl hca)) (dp_opt _), .lst (.inl (.inl hpc)) (dp_opt _), shaped_opt _, shaped_opt _, _, rfl, ?_⟩
            rw [eqv_opt]
            exact iteF no
          | some c =>
            obtain ⟨dxa, ra, ca, ua, ha, hra, hrwa, hca⟩ : LstAt CL HC an WR CS := hA
            refine ⟨_, rfl, _, _, .ref CL, .ref CN, false, rfl, .own CN, .base (TI.tL ha), TI.ln, _, rfl, pc, _, 0, _, rfl, rfl, .inl (.inl hpc), hat0, rfl, _, rfl, iteF ?_⟩
            refine ⟨_, rfl, an, CL, dxa, _, _, rfl, ha, TL.cl, TI.lc, (lkP (by decide +kernel)).trans lkH, _, rfl, _, _, .lst (.inl (.inl hca)) (dp_opt _), .lst (.inl (.inl hpc)) (dp_opt _), shaped_opt _, shaped_opt _, _, rfl, ?_⟩
            rw [eqv_opt]
            exact iteF no
        · subst hM2
          obtain ⟨rfl, sD⟩ := h
          subst hS
          obtain ⟨M3, hM3⟩ : ∃ M : L2.St → Hp → Prop, M = (fun σ' H' => σ' = [some (.ref p), some (.int (0 + (i : Int))), some (.ref r0), some (.ref r1), some (.ref t), some (.ref x), some (.byt (byB ks0)), some (.byt (byB ks1)), some (.ref re), some (.ref pc), some (.ref pr), some (.ref an), y12, y13] ∧ Same HC H') := ⟨_, rfl⟩
          with_reducible refine seq_mid M3 (fun N hN => ?_) (fun σe HE h => ?_)
          · subst hM3
            have hP' := hP.same sD
            cases c0 with
            | none =>
              obtain ⟨dxa, ca, ha, hca⟩ : NevAt CN HD an CS := NevAt.same (show NevAt CN HC an CS from hA) sD
              refine .inl ⟨_, rfl, an, dxa, nvF ca, rfl, ha, (lkP (by decide +kernel)).trans rfl, _, rfl, _, rfl, _, rfl, rfl, rfl, an, x, CS, ks1, ks0, L, B, rfl, ⟨dxa, ca, ha, hca⟩, by omega, hall, by omega, hP', gL, gB, fun HF sF => ?_⟩
              have e1 : neverOk (ks1 ++ ks0) ks1.length CS L B = true := by
                unfold neverOk
                rw [hcok, hc0]
                rfl
              rw [e1]
              exact ⟨_, rfl, iteF (hN _ _ ⟨rfl, sD.trans sF⟩)⟩
            | some c =>
              obtain ⟨h1, h2, h3, h4⟩ := hrs (fun z => by cases z)
              obtain ⟨dxa, ra, ca, ua, ha, hra, hrwa, hca⟩ : LstAt CL HD an WR CS := LstAt.same (show LstAt CL HC an WR CS from hA) sD
              refine .inr ⟨_, rfl, an, dxa, lsF ra ca, rfl, ha, (lkP (by decide +kernel)).trans ((lkP (by decide +kernel)).trans rfl), _, rfl, _, rfl, _, rfl, rfl, rfl, an, x, WR, CS, ks1, ks0, L, B, rfl, ⟨dxa, ra, ca, ua, ha, hra, hrwa, hca⟩, h3, by omega, by omega, hall, by omega, hP', gL, gB, fun HF sF => ?_⟩
              have e1 : leastOk (ks1 ++ ks0) ks1.length CS L B WR = true := by
                unfold leastOk
                rw [hcok, hc0, h2, etk2, h1]
                simp [sameBits]
              rw [e1]
              exact ⟨_, rfl, iteF (hN _ _ ⟨rfl, sD.trans sF⟩)⟩
          · subst hM3
            obtain ⟨rfl, sE⟩ := h
            clear sD
            obtain ⟨M4, hM4⟩ : ∃ M : L2.St → Hp → Prop, M = (fun σ' H' => σ' = [some (.ref p), some (.int (0 + (i : Int))), some (.ref r0), some (.ref r1), some (.ref t), some (.ref x), some (.byt (byB ks0)), some (.byt (byB ks1)), some (.ref re), some (.ref pc), some (.ref pr), some (.ref an), y12, y13] ∧ Same HC H') := ⟨_, rfl⟩
            with_reducible refine seq_mid M4 (fun N hN => ?_) (fun σf HF h => ?_)
            · subst hM4
              cases c0 with
              | none =>
                obtain ⟨dxa, ca, ha, hca⟩ : NevAt CN HE an CS := NevAt.same (show NevAt CN HC an CS from hA) sE
                exact ⟨_, rfl, _, _, .ref CN, .ref CL, false, rfl, .own CL, .base (TI.tN ha), TI.nl, _, rfl, iteF (hN _ _ ⟨rfl, sE⟩)⟩
              | some c =>
                obtain ⟨h1, h2, h3, h4⟩ := hrs (fun z => by cases z)
                have eW : WR = W := hW
                subst eW
                obtain ⟨dxa, ra, ca, ua, ha, hra, hrwa, hca⟩ : LstAt CL HE an WR CS := LstAt.same (show LstAt CL HC an WR CS from hA) sE
                have hpr' := sE _ _ hpr
                have hrow' := row_same hrow sE
                refine ⟨_, rfl, _, _, .ref CL, .ref CL, true, rfl, .own CL, .base (TI.tL ha), TI.ll, _, rfl, iteT ?_⟩
                refine ⟨_, rfl, an, CL, dxa, _, _, rfl, ha, TL.cl, TI.lr, lkH, _, rfl, _, _, .lst (.inl (.inl hra)) (dp_row hrwa), .lst (.inl (.inl hpr')) (dp_row hrow'), shaped_row _, shaped_row _, _, rfl, ?_⟩
                rw [eqv_row]
                refine iteF ⟨_, rfl, _, rfl, rfl, rfl, ⟨pr, us, WR.map toAny, ks1, rfl, hpr', ?_, hk1, by omega, (by rw [List.length_map]; omega), fun n hn => ?_, fun _ HG due sG hdue _ _ => ?_⟩, pr, ks1, rfl, by omega⟩
                · have : ∀ {A : List Itm} {U : List V}, RowAt HE A U → Paired (AnyAt HE) (A.map toAny) U := by
                    intro A U hh
                    induction hh with
                    | nil => exact .nil
                    | cons a _ ih => exact .cons (toAny_at a) ih
                  exact this hrow'
                · rw [tells_good WR ks1 _ 0 h3 h1] at hn
                  cases hn
                · rw [asIt_toAny, h1] at hdue
                  have ed : ks0 = due := List.append_cancel_left (Option.some.inj hdue)
                  subst ed
                  refine ⟨_, rfl, rfl, _, rfl, ?_⟩
                  have ee : (!decide (V.byt (byB ks0) = V.byt (byB ks0))) = false := by rw [decide_eq_true rfl]; rfl
                  rw [ee]
                  have sG' := sE.trans sG
                  refine iteF ⟨_, rfl, _, rfl, pr, x, us, WR, L, B, rfl, sG' _ _ hpr, row_same hrow sG', h3, by omega, hP.same sG', gL, gB, fun HI sI => ?_⟩
                  rw [h2]
                  refine ⟨_, rfl, pc, _, 0, _, rfl, rfl, .inl (.inl ((sG'.trans sI) _ _ hpc)), hat0, rfl, _, rfl, ?_⟩
                  have ee2 : (!decide (optV (some c) = optV (some c))) = false := by rw [decide_eq_true rfl]; rfl
                  rw [ee2]
                  exact iteF (hN _ _ ⟨rfl, sG'.trans sI⟩)
            · subst hM4
              obtain ⟨rfl, sF⟩ := h
              clear sE hA
              refine ⟨2, rfl, by decide, by decide, ?_⟩
              refine for_range (lo := 0) (n := 2) (fun ii σ H' => ∃ (z12 z13 : Option V), σ = [some (.ref p), some (.int (0 + (i : Int))), some (.ref r0), some (.ref r1), some (.ref t), some (.ref x), some (.byt (byB ks0)), some (.byt (byB ks1)), some (.ref re), some (.ref pc), some (.ref pr), some (.ref an), z12, z13] ∧ Same HC H') ⟨_, _, rfl, sF⟩ (fun ii σ HG hii h => ?_) (fun σ HG h => ?_)
              · obtain ⟨z12, z13, rfl, sG⟩ := h
                refine ⟨_, rfl, _, rfl, _, _, rfl, rfl, .inl ⟨by decide, by decide⟩, _, _, rfl, rfl, _, rfl, _, _, rfl, rfl, p, xs, 230 + 3 * i + ii, ?_, (smC.trans sG).seq hp, by omega, fun HI sI => ?_⟩
                · show [V.ref p, V.int (230 + (3 : Int) * (0 + (i : Int)) + (0 + (ii : Int)))] = _
                  rw [show 230 + (3 : Int) * (0 + (i : Int)) + (0 + (ii : Int)) = ((230 + 3 * i + ii : Nat) : Int) by omega]
                have sI' := sG.trans sI
                refine ⟨_, rfl, _, rfl, _, rfl, r1, _, rfl, .inl (.inl (.inl (sI' _ _ hr1))), _, rfl, _, rfl, _, rfl, _, rfl, _, rfl, cellAt xs (230 + 3 * i + ii), re, pc, pr, t, pL, pB, ks1, ks0, us, W, CS, L, B, ?_, sI' _ _ hre, hall, by omega, sI' _ _ hpc, hclen, sI' _ _ hpr, row_same hrow sI', hWok, hWl, sI' _ _ ht, sI' _ _ hL, sI' _ _ hB, gL, gB, fun HJ sJ => ⟨_, rfl, iteF ⟨_, _, rfl, sI'.trans sJ⟩⟩⟩
                rw [bys_len]
                rfl
              · obtain ⟨z12, z13, rfl, sG⟩ := h
                exact ⟨_, _, _, _, _, _, _, _, _, _, _, _, _, rfl, smC.trans sG⟩
    · obtain ⟨_, _, _, _, _, _, _, _, _, _, _, _, _, rfl, sm⟩ := h
      exact q _ sm
end
end K4

namespace K4
open PySem PySem.Spec PyProof.Rows L2
/-! ### law -/
theorem scLaw : FnScope ["_law_script"] ["_law_script"] (defScope sLaw) := ⟨rfl, rfl, rfl, by decide +kernel, rfl, by decide +kernel, by decide +kernel⟩
/-! ### copied -/
abbrev NCp : List Str := ["told", "one"]
theorem scCp : FnScope NCp ["told"] (defScope sCopied) := ⟨rfl, rfl, rfl, by decide +kernel, rfl, by decide +kernel, by decide +kernel⟩
section
variable {P : Program} {w : World} {K : PySem.W.Frag} {mg : Str → Option Value} {base : Heap}
theorem ok_law {f fA : Addr} {fd fdA : FuncData} {j : Nat} (F : Fun K "law" "law" sLaw f fd)
    (GA : FnOk P w K mg base CX0 j fA fdA ["_law_script"] (spAll K)) (bA : Binds K fdA ["_law_script"] []) (kA : PySem.W.keepIn K (.ref fA) = true) (gA : mg "_law_all_right" = some (.ref fA)) : FnOk P w K mg base CX0 (j + 1) f fd ["_law_script"] (spAll K) := by
  refine F.ok scLaw (fun vs H Q E h => ?_) (fun cdv A outer s H vs Q E hr h => ?_)
  · obtain ⟨p, xs, rfl, _⟩ := h
    rfl
  · refine ⟨_, pss_one (ps_try_thru0 (pss_one (ps_ret (pe_call GA hr (by rfl) gA kA bA .nil pass0 (pa_cons (pv 0) pa_nil))))), ?_⟩
    obtain ⟨p, xs, rfl, hp, q⟩ := h
    exact ⟨_, rfl, p, xs, rfl, hp, q⟩
/-- of a number, or None -/
def spCp0 : Sp := fun vs H Q _ => ∃ o : Option Int, vs = [optV o] ∧ Q (optV o) H
theorem ok_cp0 {f : Addr} {fd : FuncData} {j : Nat} (F : Fun K "copied" "copied" sCopied f fd) (m1 : mg "isinstance" = none) (m2 : mg "list" = none) (m3 : mg "tuple" = none) : FnOk P w K mg base CX0 (j + 1) f fd ["told"] spCp0 := by
  refine F.ok scCp (fun vs H Q E h => ?_) (fun cdv A outer s H vs Q E hr h => ?_)
  · obtain ⟨o, rfl, _⟩ := h
    rfl
  · obtain ⟨o, rfl, q⟩ := h
    refine ⟨_, pss_cons (ps_if (pt_val (pe_callB call_isi (by rfl) m1 (by decide +kernel) (pa_cons (pv 0) (pa_cons (pe_bltn (v := .ty "list") (by rfl) m2 (by decide +kernel) rfl) pa_nil)))) pss_never pss_nil)
      (pss_cons (ps_if (pt_val (pe_callB call_isi (by rfl) m1 (by decide +kernel) (pa_cons (pv 0) (pa_cons (pe_bltn (v := .ty "tuple") (by rfl) m3 (by decide +kernel) rfl) pa_nil)))) pss_never pss_nil)
      (pss_one (ps_ret (pv 0)))), ?_⟩
    cases o with
    | none =>
      refine ⟨_, rfl, _, _, _, _, _, rfl, .ty "list", .base .non, kit_ty (a := "NoneType") (r := false) (by decide +kernel), _, rfl, iteF ?_⟩
      exact ⟨_, rfl, _, _, _, _, _, rfl, .ty "tuple", .base .non, kit_ty (a := "NoneType") (r := false) (by decide +kernel), _, rfl, iteF ⟨_, rfl, q⟩⟩
    | some i =>
      refine ⟨_, rfl, _, _, _, _, _, rfl, .ty "list", .base (.int _), kit_ty (a := "int") (r := false) (by decide +kernel), _, rfl, iteF ?_⟩
      exact ⟨_, rfl, _, _, _, _, _, rfl, .ty "tuple", .base (.int _), kit_ty (a := "int") (r := false) (by decide +kernel), _, rfl, iteF ⟨_, rfl, q⟩⟩
/-- of an item -/
def spCp1 : Sp := fun vs H Q _ => ∃ (v : V) (it : Itm), vs = [v] ∧ ItmAt H it v ∧ ∀ H' v', Same H H' → ItmAt H' it v' → Q v' H'
theorem ok_cp1 {f : Addr} {fd : FuncData} {j : Nat} (F : Fun K "copied" "copied" sCopied f fd) (GC : FnOk P w K mg base CX0 (j + 1) f fd ["told"] spCp0) (bC : Binds K fd ["told"] []) (kC : PySem.W.keepIn K (.ref f) = true) (gC : mg "copied" = some (.ref f))
    (m1 : mg "isinstance" = none) (m2 : mg "list" = none) (m3 : mg "tuple" = none) : FnOk P w K mg base CX0 (j + 2) f fd ["told"] spCp1 := by
  refine F.ok scCp (fun vs H Q E h => ?_) (fun cdv A outer s H vs Q E hr h => ?_)
  · obtain ⟨v, it, rfl, _⟩ := h
    rfl
  · obtain ⟨v, it, rfl, hv, q⟩ := h
    have hz := PySem.sizeLine_eq
    refine ⟨_, pss_cons (ps_if (pt_val (pe_callB call_isi (by rfl) m1 (by decide +kernel) (pa_cons (pv 0) (pa_cons (pe_bltn (v := .ty "list") (by rfl) m2 (by decide +kernel) rfl) pa_nil)))) pss_never pss_nil)
      (pss_cons (ps_if (pt_val (pe_callB call_isi (by rfl) m1 (by decide +kernel) (pa_cons (pv 0) (pa_cons (pe_bltn (v := .ty "tuple") (by rfl) m3 (by decide +kernel) rfl) pa_nil))))
        (pss_one (ps_ret (pe_callTy call_tuple_of (by rfl) m3 (by decide +kernel) (pa_cons (pe_lc (own := [("one", 1)]) (g := gName 1) (tt := tYes) rfl scCp.nd (pi_tup (pv 0)) (blkOk_by (N := NCp) (sc := defScope sCopied) (by decide +kernel))
          (fun _ _ _ _ _ => pg_name (i := 1) scCp.nd rfl (.inl rfl)) (fun _ _ _ _ _ => pts_nil) (fun _ _ _ _ _ => pe_call GC hr (by rfl) gC kC bC .nil pass0 (pa_cons (pv 1) pa_nil))) pa_nil)))) pss_nil)
      (pss_one (ps_ret (pv 0)))), ?_⟩
    cases it with
    | b k =>
      obtain rfl : v = .int (k : Int) := hv
      refine ⟨_, rfl, _, _, _, _, _, rfl, .ty "list", .base (.int _), kit_ty (a := "int") (r := false) (by decide +kernel), _, rfl, iteF ?_⟩
      exact ⟨_, rfl, _, _, _, _, _, rfl, .ty "tuple", .base (.int _), kit_ty (a := "int") (r := false) (by decide +kernel), _, rfl, iteF ⟨_, rfl, q H _ (Same.refl H) rfl⟩⟩
    | c m r =>
      obtain ⟨t, rfl, ht⟩ := hv
      refine ⟨_, rfl, _, _, .type "tuple", _, _, rfl, .ty "list", .base (.tup ht), kit_ty (a := "tuple") (r := false) (by decide +kernel), _, rfl, iteF ?_⟩
      refine ⟨_, rfl, _, _, .type "tuple", _, _, rfl, .ty "tuple", .base (.tup ht), kit_ty (a := "tuple") (r := true) (by decide +kernel), _, rfl, iteT ?_⟩
      refine ⟨_, rfl, t, rfl, ⟨_, .inl (.inl ht)⟩, fun D nD => ?_⟩
      refine lc_tup (K := K) (a := t) (xs := ([(m : Int), (r : Int)] : List Int).map V.int) (fun i H' => Same H H' ∧ H' D = some (.lst ((([(m : Int), (r : Int)] : List Int).take i).map V.int))) ⟨same_upd nD, upd_same⟩ (fun i H' _ h => .inl (.inl (h.1 _ _ ht))) (fun i x H' hx h => ?_) (fun H' h => ?_)
      · rw [List.getElem?_map] at hx
        obtain ⟨n, hn, rfl⟩ := Option.map_eq_some_iff.mp hx
        refine ⟨rfl, yes ⟨_, rfl, some n, rfl, _, h.2, ?_, same_put h.1 nD, ?_⟩⟩
        · rw [List.length_map, List.length_take, hz]
          show min i 2 < _
          omega
        · rw [upd_same, List.take_add_one, hn, List.map_append]
          rfl
      · obtain ⟨sm, hD⟩ := h
        have hD : H' D = some (.lst [.int (m : Int), .int (r : Int)]) := hD
        refine ⟨D, _, rfl, .inl ⟨.inl (.inl hD), fun l nl => ?_⟩⟩
        exact q _ _ (sm.trans (same_upd nl)) ⟨l, rfl, upd_same⟩
/-- of a row -/
def spCpR : Sp := fun vs H Q _ => ∃ (p : Addr) (us : List V) (its : List Itm), vs = [.ref p] ∧ H p = some (.lst us) ∧ RowAt H its us ∧ its.length ≤ 1000 ∧ ∀ H' p' us', Same H H' → H p' = none → H' p' = some (.lst us') → RowAt H' its us' → Q (.ref p') H'
theorem ok_cpR {f : Addr} {fd : FuncData} {j : Nat} (F : Fun K "copied" "copied" sCopied f fd) (GC : FnOk P w K mg base CX0 (j + 2) f fd ["told"] spCp1) (bC : Binds K fd ["told"] []) (kC : PySem.W.keepIn K (.ref f) = true) (gC : mg "copied" = some (.ref f))
    (m1 : mg "isinstance" = none) (m2 : mg "list" = none) : FnOk P w K mg base CX0 (j + 3) f fd ["told"] spCpR := by
  refine F.ok scCp (fun vs H Q E h => ?_) (fun cdv A outer s H vs Q E hr h => ?_)
  · obtain ⟨p, us, its, rfl, _⟩ := h
    rfl
  · obtain ⟨p, us, its, rfl, hp, hrow, hl, q⟩ := h
    have hz := PySem.sizeLine_eq
    refine ⟨_, pss_cons (ps_if (pt_val (pe_callB call_isi (by rfl) m1 (by decide +kernel) (pa_cons (pv 0) (pa_cons (pe_bltn (v := .ty "list") (by rfl) m2 (by decide +kernel) rfl) pa_nil))))
        (pss_one (ps_ret (pe_lc (own := [("one", 1)]) (g := gName 1) (tt := tYes) rfl scCp.nd (pi_list (pv 0)) (blkOk_by (N := NCp) (sc := defScope sCopied) (by decide +kernel))
          (fun _ _ _ _ _ => pg_name (i := 1) scCp.nd rfl (.inl rfl)) (fun _ _ _ _ _ => pts_nil) (fun _ _ _ _ _ => pe_call GC hr (by rfl) gC kC bC .nil pass0 (pa_cons (pv 1) pa_nil))))) pss_nil) pss_never, ?_⟩
    refine ⟨_, rfl, _, _, .type "list", _, _, rfl, .ty "list", .base (.lst hp), kit_ty (a := "list") (r := true) (by decide +kernel), _, rfl, iteT ?_⟩
    have eul : us.length = its.length := hrow.length.symm
    refine ⟨_, rfl, p, rfl, ⟨_, .inl (.inl hp)⟩, fun D nD => ?_⟩
    refine lc_list (K := K) (a := p) (xs := us) (fun i H' => ∃ acc : List V, Same H H' ∧ H' D = some (.lst acc) ∧ RowAt H' (its.take i) acc) ⟨[], same_upd nD, upd_same, .nil⟩ (fun i H' _ h => by
      obtain ⟨_, sm, _⟩ := h
      exact .inl (.inl (sm _ _ hp))) (fun i x H' hx h => ?_) (fun H' h => ?_)
    · obtain ⟨acc, sm, hD, hra⟩ := h
      have hi0 : i < us.length := (List.getElem?_eq_some_iff.mp hx).1
      have hi1 : i < its.length := by omega
      obtain ⟨x', hx', hat⟩ := paired_get hrow (List.getElem?_eq_getElem hi1)
      obtain rfl : x' = x := Option.some.inj (hx'.symm.trans hx)
      have hal := hra.length
      rw [List.length_take] at hal
      refine ⟨rfl, yes ⟨_, rfl, x', its[i], rfl, hat.same sm, fun H2 v' s2 hv' => ⟨acc, s2 _ _ hD, by omega, acc ++ [v'], same_put (sm.trans s2) nD, upd_same, ?_⟩⟩⟩
      rw [List.take_add_one, List.getElem?_eq_getElem hi1]
      exact ((row_same hra s2).mono fun _ _ h => h.put (s2 _ _ hD)).snoc (hv'.put (s2 _ _ hD))
    · obtain ⟨acc, sm, hD, hra⟩ := h
      rw [eul, List.take_length] at hra
      exact q _ _ _ sm nD hD hra
/-- of costs -/
def spCpC : Sp := fun vs H Q _ => ∃ (p : Addr) (cs : List (Option Int)), vs = [.ref p] ∧ H p = some (.lst (cs.map optV)) ∧ cs.length ≤ 2001 ∧ ∀ H' p', Same H H' → H p' = none → H' p' = some (.lst (cs.map optV)) → Q (.ref p') H'
theorem ok_cpC {f : Addr} {fd : FuncData} {j : Nat} (F : Fun K "copied" "copied" sCopied f fd) (GC : FnOk P w K mg base CX0 (j + 1) f fd ["told"] spCp0) (bC : Binds K fd ["told"] []) (kC : PySem.W.keepIn K (.ref f) = true) (gC : mg "copied" = some (.ref f))
    (m1 : mg "isinstance" = none) (m2 : mg "list" = none) : FnOk P w K mg base CX0 (j + 2) f fd ["told"] spCpC := by
  refine F.ok scCp (fun vs H Q E h => ?_) (fun cdv A outer s H vs Q E hr h => ?_)
  · obtain ⟨p, cs, rfl, _⟩ := h
    rfl
  · obtain ⟨p, cs, rfl, hp, hl, q⟩ := h
    have hz := PySem.sizeLine_eq
    refine ⟨_, pss_cons (ps_if (pt_val (pe_callB call_isi (by rfl) m1 (by decide +kernel) (pa_cons (pv 0) (pa_cons (pe_bltn (v := .ty "list") (by rfl) m2 (by decide +kernel) rfl) pa_nil))))
        (pss_one (ps_ret (pe_lc (own := [("one", 1)]) (g := gName 1) (tt := tYes) rfl scCp.nd (pi_list (pv 0)) (blkOk_by (N := NCp) (sc := defScope sCopied) (by decide +kernel))
          (fun _ _ _ _ _ => pg_name (i := 1) scCp.nd rfl (.inl rfl)) (fun _ _ _ _ _ => pts_nil) (fun _ _ _ _ _ => pe_call GC hr (by rfl) gC kC bC .nil pass0 (pa_cons (pv 1) pa_nil))))) pss_nil) pss_never, ?_⟩
    refine ⟨_, rfl, _, _, .type "list", _, _, rfl, .ty "list", .base (.lst hp), kit_ty (a := "list") (r := true) (by decide +kernel), _, rfl, iteT ?_⟩
    refine ⟨_, rfl, p, rfl, ⟨_, .inl (.inl hp)⟩, fun D nD => ?_⟩
    refine lc_list (K := K) (a := p) (xs := cs.map optV) (fun i H' => Same H H' ∧ H' D = some (.lst ((cs.take i).map optV))) ⟨same_upd nD, upd_same⟩ (fun i H' _ h => .inl (.inl (h.1 _ _ hp))) (fun i x H' hx h => ?_) (fun H' h => ?_)
    · obtain ⟨sm, hD⟩ := h
      rw [List.getElem?_map] at hx
      obtain ⟨o, ho, rfl⟩ := Option.map_eq_some_iff.mp hx
      refine ⟨rfl, yes ⟨_, rfl, o, rfl, _, hD, ?_, same_put sm nD, ?_⟩⟩
      · rw [List.length_map, List.length_take, hz]
        omega
      · rw [upd_same, List.take_add_one, ho, List.map_append]
        rfl
    · obtain ⟨sm, hD⟩ := h
      rw [List.length_map, List.take_length] at hD
      exact q _ _ sm nD hD
end
end K4

namespace L2
open PySem PySem.Spec PyProof.Rows
theorem takes0N {X : Cx} : L2N.Takes X (fun _ _ _ _ => False) := fun _ _ z => by
  obtain ⟨_, _, _, _, _, _, _, _, _, _, _, _, _, _, _, _, q⟩ := z
  exact q.elim
end L2
namespace K4
open PySem PySem.Spec PyProof.Rows L2
/-! ### Least, Never: made -/
theorem lsF_put (r c : Addr) : putF "costs" (.ref c) (putF "row" (.ref r) []) = lsF r c := (if_neg (by decide +kernel)).trans rfl
theorem scLInit : FnScope ["self", "row", "costs"] ["self", "row", "costs"] (defScope sLInit) := ⟨rfl, rfl, rfl, by decide +kernel, rfl, by decide +kernel, by decide +kernel⟩
theorem scNInit : FnScope ["self", "costs"] ["self", "costs"] (defScope sNInit) := ⟨rfl, rfl, rfl, by decide +kernel, rfl, by decide +kernel, by decide +kernel⟩
section
variable {P : Program} {w : World} {K : PySem.W.Frag} {mg : Str → Option Value} {base : Heap} {C CL CN CI fE fPI fL fB fLI fLS fNI fNS : Addr}
theorem ok_lInit (TL : AnsTxt K mg "Least" CL fLI fLS) (TI : AnsIs K CL CN) {fC : Addr} {fd fdC : FuncData} {j k1 k2 : Nat} (F : Fun K "__init__" "Least.__init__" sLInit fLI fd)
    (GR : FnOk P w K mg base CX0 k1 fC fdC ["told"] spCpR) (l1 : k1 ≤ j) (GC : FnOk P w K mg base CX0 k2 fC fdC ["told"] spCpC) (l2 : k2 ≤ j) (bC : Binds K fdC ["told"] []) (kC : PySem.W.keepIn K (.ref fC) = true) (gC : mg "copied" = some (.ref fC)) :
    FnOk P w K mg base CX0 (j + 1) fLI fd ["self", "row", "costs"] (spLInit CL) := by
  refine F.ok scLInit (fun vs H Q E h => ?_) (fun cdv A outer s H vs Q E hr h => ?_)
  · obtain ⟨a, dx, pr, pc, us, its, cs, rfl, _⟩ := h
    rfl
  · obtain ⟨a, dx, pr, pc, us, its, cs, rfl, ha, hpr, hrow, hil, hpc, hcl, q⟩ := h
    refine ⟨_, pss_cons (ps_fld (pv 0) (pe_call GR (hr.mono l1) (by rfl) gC kC bC .nil pass0 (pa_cons (pv 1) pa_nil)) rfl)
      (pss_one (ps_fld (pv 0) (pe_call GC (hr.mono l2) (by rfl) gC kC bC .nil pass0 (pa_cons (pv 2) pa_nil)) rfl)), ?_⟩
    refine ⟨_, rfl, pr, us, its, rfl, hpr, hrow, hil, fun H1 r us' s1 nr hr1 hrow1 => ?_⟩
    refine ⟨_, rfl, a, CL, dx, _, rfl, s1 _ _ ha, TL.cl, TI.lr, (by show 0 < 1000; decide), ?_⟩
    have nar : a ≠ r := ne_of_none ha nr
    have h2 : (upd H1 a (.ins CL dx (putF "row" (.ref r) []))) pc = some (.lst (cs.map optV)) := by
      rw [upd_ne (fun z => by rw [z, ha] at hpc; cases hpc)]
      exact s1 _ _ hpc
    refine ⟨_, rfl, pc, cs, rfl, h2, by omega, fun H3 c s3 nc hc => ?_⟩
    have ha3 := s3 _ _ (show (upd H1 a (.ins CL dx (putF "row" (.ref r) []))) a = some (.ins CL dx (putF "row" (.ref r) [])) from upd_same)
    have hr3 : H3 r = some (.lst us') := s3 _ _ (by rw [upd_ne (Ne.symm nar)]; exact hr1)
    have nac : a ≠ c := ne_of_none (show (upd H1 a (.ins CL dx (putF "row" (.ref r) []))) a = some (.ins CL dx (putF "row" (.ref r) [])) from upd_same) nc
    have nrc : r ≠ c := fun z => by
      rw [← z, upd_ne (Ne.symm nar), hr1] at nc
      cases nc
    have hit : ∀ {H' : Hp} {o : HO} {it : Itm} {v : V}, ItmAt H' it v → H' a = some o → (∀ xs, o ≠ .tup xs) → ∀ o', ItmAt (upd H' a o') it v := by
      intro H' o it v h hao nt o'
      cases it with
      | b k => exact h
      | c m b =>
        obtain ⟨t, rfl, ht⟩ := h
        refine ⟨t, rfl, ?_⟩
        rw [upd_ne (fun z => by rw [z, hao] at ht; exact nt _ (Option.some.inj ht))]
        exact ht
    refine ⟨_, rfl, a, CL, dx, _, rfl, ha3, TL.cl, TI.lc, (by show 1 < 1000; decide), ?_⟩
    refine q _ (fun b o hb e => ?_) ⟨dx, r, c, us', ?_, ?_, ?_, ?_⟩
    · rw [upd_ne hb]
      exact s3 _ _ (by rw [upd_ne hb]; exact s1 _ _ e)
    · rw [upd_same, lsF_put]
    · rw [upd_ne (Ne.symm nar)]
      exact hr3
    · refine (row_same (hrow1.mono fun it v h => hit h (s1 _ _ ha) (fun xs z => by cases z) (.ins CL dx (putF "row" (.ref r) []))) s3).mono fun it v h => hit h ha3 (fun xs z => by cases z) _
    · rw [upd_ne (Ne.symm nac)]
      exact hc
theorem ok_nInit (TN : AnsTxt K mg "Never" CN fNI fNS) (TI : AnsIs K CL CN) {fC : Addr} {fd fdC : FuncData} {j k2 : Nat} (F : Fun K "__init__" "Never.__init__" sNInit fNI fd)
    (GC : FnOk P w K mg base CX0 k2 fC fdC ["told"] spCpC) (l2 : k2 ≤ j) (bC : Binds K fdC ["told"] []) (kC : PySem.W.keepIn K (.ref fC) = true) (gC : mg "copied" = some (.ref fC)) :
    FnOk P w K mg base CX0 (j + 1) fNI fd ["self", "costs"] (spNInit CN) := by
  refine F.ok scNInit (fun vs H Q E h => ?_) (fun cdv A outer s H vs Q E hr h => ?_)
  · obtain ⟨a, dx, pc, cs, rfl, _⟩ := h
    rfl
  · obtain ⟨a, dx, pc, cs, rfl, ha, hpc, hcl, q⟩ := h
    refine ⟨_, pss_one (ps_fld (pv 0) (pe_call GC (hr.mono l2) (by rfl) gC kC bC .nil pass0 (pa_cons (pv 1) pa_nil)) rfl), ?_⟩
    refine ⟨_, rfl, pc, cs, rfl, hpc, by omega, fun H1 c s1 nc hc => ?_⟩
    have nac : a ≠ c := ne_of_none ha nc
    refine ⟨_, rfl, a, CN, dx, _, rfl, s1 _ _ ha, TN.cl, TI.nc, (by show 0 < 1000; decide), ?_⟩
    refine q _ (fun b o hb e => ?_) ⟨dx, c, ?_, ?_⟩
    · rw [upd_ne hb]
      exact s1 _ _ e
    · rw [upd_same]
      rfl
    · rw [upd_ne (Ne.symm nac)]
      exact hc
/-! ### are_costs -/
abbrev NAc : List Str := ["costs", "data", "one"]
theorem scAreC : FnScope NAc ["costs", "data"] (defScope sAreCosts) := ⟨rfl, rfl, rfl, by decide +kernel, rfl, by decide +kernel, by decide +kernel⟩
def areC (cs : List (Option Int)) (n : Nat) : Bool := decide (cs.length = n + 1) && (cs.all nonNeg && decide (cs.getD (cs.length - 1) none = some 0))
def spAreC : Sp := fun vs H Q _ => ∃ (pc : Addr) (cs : List (Option Int)) (data : List Nat), vs = [.ref pc, .byt (byB data)] ∧ H pc = some (.lst (cs.map optV)) ∧ cs.length ≤ 2001 ∧ data.length ≤ 2000 ∧ ∀ H', Same H H' → Q (.bl (areC cs data.length)) H'
theorem ok_areC {f fW : Addr} {fd fdW : FuncData} {j k1 : Nat} (F : Fun K "are_costs" "are_costs" sAreCosts f fd)
    (GW : FnOk P w K mg base CX0 k1 fW fdW ["told"] spWhole) (bW : Binds K fdW ["told"] []) (kW : PySem.W.keepIn K (.ref fW) = true) (gW : mg "is_whole" = some (.ref fW)) (l1 : k1 ≤ j)
    (m1 : mg "isinstance" = none) (m2 : mg "list" = none) (m3 : mg "len" = none) (m4 : mg "all" = none) : FnOk P w K mg base CX0 (j + 1) f fd ["costs", "data"] spAreC := by
  refine F.ok scAreC (fun vs H Q E h => ?_) (fun cdv A outer s H vs Q E hr h => ?_)
  · obtain ⟨pc, cs, data, rfl, _⟩ := h
    rfl
  · obtain ⟨pc, cs, data, rfl, hpc, hcl, hdl, q⟩ := h
    have hz := PySem.sizeLine_eq
    refine ⟨_, pss_cons (ps_if (PW.pt (pw_or (pt_not (pt_val (pe_callB call_isi (by rfl) m1 (by decide +kernel) (pa_cons (pv 0) (pa_cons (pe_bltn (v := .ty "list") (by rfl) m2 (by decide +kernel) rfl) pa_nil)))))
        (pw_or1 (pt_cmpR op_ne (pe_callB call_len_seq (by rfl) m3 PySem.boot_len (pa_cons (pv 0) pa_nil)) (pe_op op_add (pe_callB call_len (by rfl) m3 PySem.boot_len (pa_cons (pv 1) pa_nil)) pe_int) (nomark _))))) (pss_one (ps_ret pe_bl)) pss_nil)
      (pss_one (ps_ret (pe_and (pe_callB (cr_all rfl) (by rfl) m4 (by decide +kernel) (pa_cons (pe_lc (own := [("one", 2)]) (g := gName 2) (tt := tYes) rfl scAreC.nd (pi_list (pv 0)) (blkOk_by (N := NAc) (sc := defScope sAreCosts) (by decide +kernel))
          (fun _ _ _ _ _ => pg_name (i := 2) scAreC.nd rfl (.inl rfl)) (fun _ _ _ _ _ => pts_nil) (fun _ _ _ _ _ => pe_or (pe_cmpR op_isN (pv 2) pe_non (nomark _)) (pe_one (pe_and (pe_call GW (hr.mono l1) (by rfl) gW kW bW .nil pass0 (pa_cons (pv 2) pa_nil)) (pe_one (pe_cmpR op_ge (pv 2) pe_int (nomark _))))))) pa_nil))
        (pe_one (pe_cmpR op_eq (pe_ix ix_list (pv 0) (pe_un un_neg pe_int) (fun _ _ => rfl)) pe_int (nomark _)))))), ?_⟩
    refine ⟨_, rfl, _, _, .type "list", _, _, rfl, .ty "list", .base (.lst hpc), kit_ty (a := "list") (r := true) (by decide +kernel), _, rfl, iteF ?_⟩
    refine ⟨_, rfl, pc, _, rfl, .inl (.inl (.inl hpc)), _, rfl, _, (byB data).size, rfl, ⟨by rw [byB_size]; omega, rfl⟩, _, _, rfl, rfl, rfl, _, rfl, ite2 (fun e1 => ?_) (fun e1 => ?_)⟩
    · have hne : ¬ cs.length = data.length + 1 := fun z => by
        rw [byB_size, List.length_map, z] at e1
        simp at e1
      have := q H (Same.refl H)
      unfold areC at this
      rw [decide_eq_false hne] at this
      exact this
    · have hlen : cs.length = data.length + 1 := by
        rw [byB_size, List.length_map] at e1
        simp at e1
        omega
      refine ⟨_, rfl, pc, rfl, ⟨_, .inl (.inl hpc)⟩, fun D nD => ?_⟩
      refine lc_list (K := K) (a := pc) (xs := cs.map optV) (fun i H' => Same H H' ∧ H' D = some (.lst ((cs.take i).map fun o => .bl (nonNeg o)))) ⟨same_upd nD, upd_same⟩ (fun i H' _ h => .inl (.inl (h.1 _ _ hpc))) (fun i x H' hx h => ?_) (fun H' h => ?_)
      · rw [List.getElem?_map] at hx
        obtain ⟨o, ho, rfl⟩ := Option.map_eq_some_iff.mp hx
        have fin : ∃ acc, H' D = some (.lst acc) ∧ acc.length < sizeLine ∧ Same H (upd H' D (.lst (acc ++ [.bl (nonNeg o)]))) ∧ (upd H' D (.lst (acc ++ [.bl (nonNeg o)]))) D = some (.lst ((cs.take (i + 1)).map fun o => .bl (nonNeg o))) := by
          refine ⟨_, h.2, ?_, same_put h.1 nD, ?_⟩
          · rw [List.length_map, List.length_take, hz]
            omega
          · rw [upd_same, List.take_add_one, ho, List.map_append]
            rfl
        refine ⟨rfl, yes ?_⟩
        cases o with
        | none => exact ⟨_, rfl, rfl, _, rfl, iteT fin⟩
        | some c => exact ⟨_, rfl, rfl, _, rfl, iteF ⟨_, rfl, _, rfl, .inl ⟨c, rfl, _, rfl, iteT ⟨_, rfl, _, _, rfl, rfl, fin⟩⟩⟩⟩
      · obtain ⟨sm, hD⟩ := h
        rw [List.length_map, List.take_length] at hD
        have q' := q H' sm
        refine ⟨D, cs.map nonNeg, rfl, .inl (.inl (by rw [hD, List.map_map]; rfl)), _, rfl, ?_⟩
        have ea : (cs.map nonNeg).all id = cs.all nonNeg := by
          rw [List.all_map]
          rfl
        rw [ea]
        unfold areC at q'
        rw [decide_eq_true hlen, Bool.true_and] at q'
        refine ite2 (fun e3 => ?_) (fun e3 => ?_)
        · rw [e3, Bool.true_and] at q'
          refine ⟨_, rfl, 1, rfl, pc, _, -1, optV (cs.getD (cs.length - 1) none), rfl, rfl, .inl (.inl (sm _ _ hpc)), opt_last (by omega), (by cases cs.getD (cs.length - 1) none <;> rfl), ?_⟩
          have ed : decide (optV (cs.getD (cs.length - 1) none) = V.int 0) = decide (cs.getD (cs.length - 1) none = some 0) := by
            cases cs.getD (cs.length - 1) none with
            | none => simp [optV]
            | some x => simp [optV]
          rw [ed]
          exact q'
        · have e4 : cs.all nonNeg = false := by simpa using e3
          rw [e4] at q'
          exact q'
/-! ### tells -/
theorem scTells : FnScope ["row", "data", "ahead"] ["row", "data", "ahead"] (defScope sTells) := ⟨rfl, rfl, rfl, by decide +kernel, rfl, by decide +kernel, by decide +kernel⟩
end
end K4

namespace K4
open PySem PySem.Spec PyProof.Rows L2
theorem u8_inj : ∀ {a b : List Nat}, (∀ k ∈ a, k < 256) → (∀ k ∈ b, k < 256) → a.map Nat.toUInt8 = b.map Nat.toUInt8 → a = b
  | [], [], _, _, _ => rfl
  | [], _ :: _, _, _, h => by cases h
  | _ :: _, [], _, _, h => by cases h
  | x :: a, y :: b, ha, hb, h => by
    have h1 : x.toUInt8 :: a.map Nat.toUInt8 = y.toUInt8 :: b.map Nat.toUInt8 := h
    injection h1 with h1 h2
    have hx := ha x (List.mem_cons_self ..)
    have hy := hb y (List.mem_cons_self ..)
    have e1 := congrArg UInt8.toNat h1
    have e2 : x = y := by
      have ex : x.toUInt8.toNat = x % 256 := UInt8.toNat_ofNat'
      have ey : y.toUInt8.toNat = y % 256 := UInt8.toNat_ofNat'
      omega
    rw [e2, u8_inj (fun k m => ha k (List.mem_cons_of_mem _ m)) (fun k m => hb k (List.mem_cons_of_mem _ m)) h2]
theorem byB_inj {a b : List Nat} (ha : ∀ k ∈ a, k < 256) (hb : ∀ k ∈ b, k < 256) (h : byB a = byB b) : a = b := u8_inj ha hb (congrArg Array.toList h)
/-! ### shows -/
def cheaperOk (e : List Nat) (lead : Nat) (cs : List (Option Int)) (L B : List Int) : Bool := (List.range (e.length - lead)).all fun p => (itemsF e (lead + p) (min 18 (e.length - lead - p))).all fun it => !badItem cs L B p it
theorem none_split (e : List Nat) (lead : Nat) (cs : List (Option Int)) (L B : List Int) : noneBetter e lead cs L B = (areC cs (e.length - lead) && cheaperOk e lead cs L B) := by
  unfold noneBetter areC cheaperOk
  cases decide (cs.length = e.length - lead + 1) <;> cases decide (cs.getD (cs.length - 1) none = some 0) <;> cases cs.all nonNeg <;> rfl
def spCheap (CP : Addr) : Sp := fun vs H Q _ => ∃ (pc pp : Addr) (cs : List (Option Int)) (lead data : List Nat) (L B : List Int), vs = [.ref pc, .byt (byB data), .ref pp, .byt (byB lead)] ∧ H pc = some (.lst (cs.map optV)) ∧ cs.length = data.length + 1 ∧
  (∀ k ∈ lead ++ data, k < 256) ∧ (lead ++ data).length ≤ 1000 ∧ PcAt CP H pp L B ∧ PrL 273 L ∧ PrL 11 B ∧ ∀ H', Same H H' → Q (.bl (cheaperOk (lead ++ data) lead.length cs L B)) H'
abbrev NSh : List Str := ["self", "data", "prices", "ahead"]
theorem scLShows : FnScope NSh NSh (defScope sLShows) := ⟨rfl, rfl, rfl, by decide +kernel, rfl, by decide +kernel, by decide +kernel⟩
theorem scNShows : FnScope NSh NSh (defScope sNShows) := ⟨rfl, rfl, rfl, by decide +kernel, rfl, by decide +kernel, by decide +kernel⟩
section
variable {P : Program} {w : World} {K : PySem.W.Frag} {mg : Str → Option Value} {base : Heap} {C CL CN CI fE fPI fL fB fLI fLS fNI fNS : Addr}
def spTellsF : Sp := fun vs H Q _ => ∃ (pr : Addr) (us : List V) (its : List Itm) (lead data : List Nat), vs = [.ref pr, .byt (byB data), .byt (byB lead)] ∧ H pr = some (.lst us) ∧ RowAt H its us ∧ (∀ it ∈ its, ItmOk it) ∧ its.length ≤ 1000 ∧ (∀ k ∈ lead, k < 256) ∧ (∀ k ∈ data, k < 256) ∧ lead.length ≤ 4096 ∧
  ∀ H', Same H H' → Q (.bl (decide (tells lead its = some (lead ++ data)))) H'
theorem ok_tells (T : BadIt P K mg CI fE) (eT : PySem.W.exmOne K (.ref CI) (.ref CI) = some true) {f fH : Addr} {fd fdH : FuncData} {j k1 : Nat} (F : Fun K "tells" "tells" sTells f fd)
    (GH : FnOk P w K mg base (L2N.CX P w) k1 fH fdH ["items", "ahead"] (spBehind CI)) (bH : Binds K fdH ["items", "ahead"] []) (kH : PySem.W.keepIn K (.ref fH) = true) (gH : mg "bytes_behind" = some (.ref fH)) (l1 : k1 ≤ j) :
    FnOk P w K mg base CX0 (j + 1) f fd ["row", "data", "ahead"] spTellsF := by
  refine F.ok scTells (fun vs H Q E h => ?_) (fun cdv A outer s H vs Q E hr h => ?_)
  · obtain ⟨pr, us, its, lead, data, rfl, _⟩ := h
    rfl
  · obtain ⟨pr, us, its, lead, data, rfl, hpr, hrow, hok, hil, hk, hd, hl, q⟩ := h
    refine ⟨_, pss_one (L2N.ps_try_many (tb := fun W => tRet (tOp rEq (tCallS (spBehind CI) (WE W) (tCons (tVar 0) (tCons (tVar 2) tNil))) (tVar 1))) (l := [(.ref CI, fun _ _ _ => tRet (tC (.bl false)))]) (Wout := fun _ _ _ _ => False) rfl rfl takes0N
        (fun W pn xe tk _ => pss_one (ps_ret (by exact (pe_cmpR op_eq (pe_callS GH (hr.mono l1) (by rfl) gH kH bH (fun σ => L2N.passAt tk σ) (pa_cons (pv 0) (pa_cons (pv 2) pa_nil))) (pv 1) (nomark _)))))
        (.cons ⟨rfl, by decide, Or.inl T.gC⟩ (fun a oe cls d pn hz hf => pss_one (ps_ret (by exact pe_bl))) .nil)), ?_⟩
    refine ⟨_, rfl, _, rfl, pr, us, its.map toAny, lead, rfl, hpr, ?_, hk, by omega, (by rw [List.length_map]; omega), fun n hn H' d s' hd' => ?_, fun hn H' due s' ht hk2 _ => ?_⟩
    · have : ∀ {A : List Itm} {U : List V}, RowAt H A U → Paired (AnyAt H) (A.map toAny) U := by
        intro A U hh
        induction hh with
        | nil => exact .nil
        | cons a _ ih => exact .cons (toAny_at a) ih
      exact this hrow
    · refine ⟨true, eT, fun _ a ha => ?_, fun z => Bool.noConfusion z⟩
      have e0 : decide (tells lead its = some (lead ++ data)) = false := decide_eq_false fun z => by
        rw [tells_good its lead _ 0 hok z] at hn
        cases hn
      have q' := q H' s'
      rw [e0] at q'
      exact q'
    · rw [asIt_toAny] at ht
      have q' := q H' s'
      rw [ht] at q'
      refine ⟨_, rfl, rfl, ?_⟩
      have e1 : decide (V.byt (byB due) = V.byt (byB data)) = decide (some (lead ++ due) = some (lead ++ data)) := by
        by_cases z : due = data
        · rw [z, decide_eq_true rfl, decide_eq_true rfl]
        · rw [decide_eq_false fun h => z (byB_inj hk2 hd (by injection h)), decide_eq_false fun h => z (List.append_cancel_left (Option.some.inj h))]
      rw [e1]
      exact q'
theorem ok_nShows (TN : AnsTxt K mg "Never" CN fNI fNS) (TI : AnsIs K CL CN) {fA fN : Addr} {fd fdA fdN : FuncData} {j k1 k2 : Nat} (F : Fun K "shows" "Never.shows" sNShows fNS fd)
    (GA : FnOk P w K mg base CX0 k1 fA fdA ["costs", "data"] spAreC) (bA : Binds K fdA ["costs", "data"] []) (kA : PySem.W.keepIn K (.ref fA) = true) (gA : mg "are_costs" = some (.ref fA)) (l1 : k1 ≤ j)
    (GN : FnOk P w K mg base CX0 k2 fN fdN ["costs", "data", "prices", "ahead"] (spCheap C)) (bN : Binds K fdN ["costs", "data", "prices", "ahead"] []) (kN : PySem.W.keepIn K (.ref fN) = true) (gN : mg "none_is_cheaper" = some (.ref fN)) (l2 : k2 ≤ j) :
    FnOk P w K mg base CX0 (j + 1) fNS fd NSh (spNShows CN C) := by
  refine F.ok scNShows (fun vs H Q E h => ?_) (fun cdv A outer s H vs Q E hr h => ?_)
  · obtain ⟨a, pp, cs, lead, data, L, B, rfl, _⟩ := h
    rfl
  · obtain ⟨a, pp, cs, lead, data, L, B, rfl, ⟨dx, pc, ha, hpc⟩, hcl, hall, hel, hP, gL, gB, q⟩ := h
    have elen : (lead ++ data).length = lead.length + data.length := List.length_append
    have ed : (lead ++ data).length - lead.length = data.length := by omega
    have q : ∀ H', Same H H' → Q (.bl ((areC cs data.length && cheaperOk (lead ++ data) lead.length cs L B) && decide (cs.getD 0 none = none))) H' := fun H' sm => by
      have := q H' sm
      unfold neverOk at this
      rw [none_split, ed] at this
      exact this
    refine ⟨_, pss_cons (ps_if (PW.pt (pw_or (pt_not (pt_val (pe_call GA (hr.mono l1) (by rfl) gA kA bA .nil pass0 (pa_cons (pe_fld (pv 0) rfl) (pa_cons (pv 1) pa_nil))))) (pw_or1 (pt_cmpR op_notN (pe_ix ix_list (pe_fld (pv 0) rfl) pe_int (fun _ _ => rfl)) pe_non (nomark _))))) (pss_one (ps_ret pe_bl)) pss_nil)
      (pss_one (ps_ret (pe_call GN (hr.mono l2) (by rfl) gN kN bN .nil pass0 (pa_cons (pe_fld (pv 0) rfl) (pa_cons (pv 1) (pa_cons (pv 2) (pa_cons (pv 3) pa_nil))))))), ?_⟩
    refine ⟨_, rfl, a, CN, dx, _, _, rfl, ha, TN.cl, TI.nc, lkH, _, rfl, pc, cs, data, rfl, hpc, by omega, by omega, fun H1 s1 => ⟨_, rfl, ?_⟩⟩
    have q1 := q H1 s1
    cases hA : areC cs data.length with
    | false =>
      rw [hA] at q1
      exact iteT q1
    | true =>
      have hlen : cs.length = data.length + 1 := by
        unfold areC at hA
        rw [Bool.and_eq_true] at hA
        exact of_decide_eq_true hA.1
      refine iteF ⟨_, rfl, a, CN, dx, _, _, rfl, s1 _ _ ha, TN.cl, TI.nc, lkH, pc, _, 0, _, rfl, rfl, .inl (.inl (s1 _ _ hpc)), opt_at (k := 0) rfl (by omega), ?_⟩
      cases h0 : cs.getD 0 none with
      | some c =>
        rw [h0] at q1
        refine ⟨rfl, _, rfl, iteT ?_⟩
        rw [show decide (some c = (none : Option Int)) = false from decide_eq_false (fun z => (by cases z)), Bool.and_false] at q1
        exact q1
      | none =>
        refine ⟨rfl, _, rfl, iteF ?_⟩
        refine ⟨_, rfl, a, CN, dx, _, _, rfl, s1 _ _ ha, TN.cl, TI.nc, lkH, _, rfl, _, rfl, _, rfl, pc, pp, cs, lead, data, L, B, rfl, s1 _ _ hpc, hlen, hall, hel, hP.same s1, gL, gB, fun H2 s2 => ?_⟩
        have q2 := q H2 (s1.trans s2)
        rw [hA, h0, Bool.true_and, decide_eq_true rfl, Bool.and_true] at q2
        exact q2
theorem ok_lShows (TL : AnsTxt K mg "Least" CL fLI fLS) (TI : AnsIs K CL CN) {fA fN fT fBt : Addr} {fd fdA fdN fdT fdBt : FuncData} {j k1 k2 k3 k4 : Nat} (F : Fun K "shows" "Least.shows" sLShows fLS fd)
    (GA : FnOk P w K mg base CX0 k1 fA fdA ["costs", "data"] spAreC) (bA : Binds K fdA ["costs", "data"] []) (kA : PySem.W.keepIn K (.ref fA) = true) (gA : mg "are_costs" = some (.ref fA)) (l1 : k1 ≤ j)
    (GN : FnOk P w K mg base CX0 k2 fN fdN ["costs", "data", "prices", "ahead"] (spCheap C)) (bN : Binds K fdN ["costs", "data", "prices", "ahead"] []) (kN : PySem.W.keepIn K (.ref fN) = true) (gN : mg "none_is_cheaper" = some (.ref fN)) (l2 : k2 ≤ j)
    (GT : FnOk P w K mg base CX0 k3 fT fdT ["row", "data", "ahead"] spTellsF) (bT : Binds K fdT ["row", "data", "ahead"] []) (kT : PySem.W.keepIn K (.ref fT) = true) (gT : mg "tells" = some (.ref fT)) (l3 : k3 ≤ j)
    (GB : FnOk P w K mg base CX0 k4 fBt fdBt ["items", "prices"] (spBits C)) (bB : Binds K fdBt ["items", "prices"] []) (kB : PySem.W.keepIn K (.ref fBt) = true) (gB : mg "bits_of" = some (.ref fBt)) (l4 : k4 ≤ j) :
    FnOk P w K mg base CX0 (j + 1) fLS fd NSh (spLShows CL C) := by
  refine F.ok scLShows (fun vs H Q E h => ?_) (fun cdv A outer s H vs Q E hr h => ?_)
  · obtain ⟨a, pp, its, cs, lead, data, L, B, rfl, _⟩ := h
    rfl
  · obtain ⟨a, pp, its, cs, lead, data, L, B, rfl, ⟨dx, pr, pc, us, ha, hpr, hrow, hpc⟩, hok, hil, hcl, hall, hel, hP, gL, gB', q⟩ := h
    have elen : (lead ++ data).length = lead.length + data.length := List.length_append
    have ed : (lead ++ data).length - lead.length = data.length := by omega
    have etk : (lead ++ data).take lead.length = lead := List.take_left ..
    have q : ∀ H', Same H H' → Q (.bl ((areC cs data.length && cheaperOk (lead ++ data) lead.length cs L B) && (decide (tells lead its = some (lead ++ data)) && sameBits (bitsO L B its) (cs.getD 0 none)))) H' := fun H' sm => by
      have := q H' sm
      unfold leastOk at this
      rw [none_split, ed, etk] at this
      exact this
    have lkc : (lsF pr pc).lookup ("costs" : Str) = some (.ref pc) := (lkP (by decide +kernel)).trans lkH
    refine ⟨_, pss_cons (ps_if (PW.pt (pw_or (pt_not (pt_val (pe_call GA (hr.mono l1) (by rfl) gA kA bA .nil pass0 (pa_cons (pe_fld (pv 0) rfl) (pa_cons (pv 1) pa_nil))))) (pw_or (pt_cmpR op_isN (pe_ix ix_list (pe_fld (pv 0) rfl) pe_int (fun _ _ => rfl)) pe_non (nomark _))
          (pw_or1 (pt_not (pt_val (pe_call GT (hr.mono l3) (by rfl) gT kT bT .nil pass0 (pa_cons (pe_fld (pv 0) rfl) (pa_cons (pv 1) (pa_cons (pv 3) pa_nil))))))))))
        (pss_one (ps_ret pe_bl)) pss_nil)
      (pss_one (ps_ret (pe_and (pe_cmpR op_eq (pe_call GB (hr.mono l4) (by rfl) gB kB bB .nil pass0 (pa_cons (pe_fld (pv 0) rfl) (pa_cons (pv 2) pa_nil))) (pe_ix ix_list (pe_fld (pv 0) rfl) pe_int (fun _ _ => rfl)) (nomark _))
        (pe_one (pe_call GN (hr.mono l2) (by rfl) gN kN bN .nil pass0 (pa_cons (pe_fld (pv 0) rfl) (pa_cons (pv 1) (pa_cons (pv 2) (pa_cons (pv 3) pa_nil))))))))), ?_⟩
    refine ⟨_, rfl, a, CL, dx, _, _, rfl, ha, TL.cl, TI.lc, lkc, _, rfl, pc, cs, data, rfl, hpc, by omega, by omega, fun H1 s1 => ⟨_, rfl, ?_⟩⟩
    have q1 := q H1 s1
    cases hA : areC cs data.length with
    | false =>
      rw [hA] at q1
      exact iteT q1
    | true =>
      have hlen : cs.length = data.length + 1 := by
        unfold areC at hA
        rw [Bool.and_eq_true] at hA
        exact of_decide_eq_true hA.1
      rw [hA, Bool.true_and] at q1
      refine iteF ⟨_, rfl, a, CL, dx, _, _, rfl, s1 _ _ ha, TL.cl, TI.lc, lkc, pc, _, 0, _, rfl, rfl, .inl (.inl (s1 _ _ hpc)), opt_at (k := 0) rfl (by omega), ?_⟩
      have hk1 : ∀ k ∈ lead, k < 256 := fun k m => hall k (List.mem_append_left _ m)
      have hk2 : ∀ k ∈ data, k < 256 := fun k m => hall k (List.mem_append_right _ m)
      cases h0 : cs.getD 0 none with
      | none =>
        rw [h0] at q1
        refine ⟨rfl, _, rfl, iteT ?_⟩
        have eb : sameBits (bitsO L B its) none = false := by cases bitsO L B its <;> rfl
        rw [eb, Bool.and_false, Bool.and_false] at q1
        exact q1
      | some c =>
        refine ⟨rfl, _, rfl, iteF ?_⟩
        refine ⟨_, rfl, a, CL, dx, _, _, rfl, s1 _ _ ha, TL.cl, TI.lr, lkH, _, rfl, _, rfl, pr, us, its, lead, data, rfl, s1 _ _ hpr, row_same hrow s1, hok, hil, hk1, hk2, by omega, fun H2 s2 => ⟨_, rfl, ?_⟩⟩
        have s12 := s1.trans s2
        have q2 := q H2 s12
        rw [hA, Bool.true_and] at q2
        cases hT : decide (tells lead its = some (lead ++ data)) with
        | false =>
          rw [hT, Bool.false_and, Bool.and_false] at q2
          exact iteT q2
        | true =>
          refine iteF ⟨_, rfl, a, CL, dx, _, _, rfl, s12 _ _ ha, TL.cl, TI.lr, lkH, _, rfl, pr, pp, us, its, L, B, rfl, s12 _ _ hpr, row_same hrow s12, hok, hil, hP.same s12, gL, gB', fun H3 s3 => ?_⟩
          have s13 := s12.trans s3
          refine ⟨_, rfl, a, CL, dx, _, _, rfl, s13 _ _ ha, TL.cl, TI.lc, lkc, pc, _, 0, _, rfl, rfl, .inl (.inl (s13 _ _ hpc)), opt_at (k := 0) rfl (by omega), ?_⟩
          rw [h0]
          have q3 := q H3 s13
          rw [hA, hT, h0, Bool.true_and, Bool.true_and] at q3
          cases hb : bitsO L B its with
          | none =>
            rw [hb] at q3
            have e0 : sameBits none (some c) = false := rfl
            rw [e0, Bool.and_false] at q3
            exact ⟨rfl, _, rfl, iteF q3⟩
          | some b =>
            rw [hb] at q3
            by_cases ebc : b = c
            · subst ebc
              have e0 : sameBits (some b) (some b) = true := decide_eq_true rfl
              refine ⟨rfl, _, rfl, iteC (decide_eq_true rfl) ?_⟩
              refine ⟨_, rfl, a, CL, dx, _, _, rfl, s13 _ _ ha, TL.cl, TI.lc, lkc, _, rfl, _, rfl, _, rfl, pc, pp, cs, lead, data, L, B, rfl, s13 _ _ hpc, hlen, hall, hel, hP.same s13, gL, gB', fun H4 s4 => ?_⟩
              have q4 := q H4 (s13.trans s4)
              rw [hA, hT, h0, hb, e0, Bool.true_and, Bool.true_and, Bool.and_true] at q4
              exact q4
            · have e0 : sameBits (some b) (some c) = false := decide_eq_false ebc
              rw [e0, Bool.and_false] at q3
              have e1 : decide (optV (some b) = optV (some c)) = false := decide_eq_false fun z => ebc (V.int.inj z)
              refine ⟨rfl, _, rfl, ?_⟩
              rw [e1]
              exact iteF q3
end
end K4

namespace BFX
open PySem PySem.Spec PySem.Calls PyProof.Rows PySem.W PySem.Builtin
theorem args_find4 (a b c d : Value) : argsOk "bytes.find" ⟨[a, b, c, d], []⟩ := by
  unfold argsOk; rw [signature?_of (id := "bytes.find") (n := ['d', 'n', 'i', 'f']) (o := ['s', 'e', 't', 'y', 'b']) (by kernel_rfl) FB.owner_bytes]; kernel_rfl
theorem args_rfind4 (a b c d : Value) : argsOk "bytes.rfind" ⟨[a, b, c, d], []⟩ := by
  unfold argsOk; rw [signature?_of (id := "bytes.rfind") (n := ['d', 'n', 'i', 'f', 'r']) (o := ['s', 'e', 't', 'y', 'b']) (by kernel_rfl) FB.owner_bytes]; kernel_rfl
def winN (n m : Nat) (lo hi : Int) : Option (Nat × Nat) := if min (n : Int) hi - lo < (m : Int) then none else some (lo.toNat, (min (n : Int) hi).toNat)
theorem wp_bound {M : Model} {A : Around} {E : Value → Shared → Prop} {s : Shared} {n : Int} {u : Tok} {Q : Option Int → Shared → Prop} (h : Q (some n) s) : wpAny M A (Bytes.bound? (some (.int n u))) Q E s := by
  unfold Bytes.bound?
  refine wpAny_bind (wpAny_specialOf (T := "int") (typeIs_int s n u) F.slot_int_index.lookup ?_)
  try dsimp only
  rw [if_neg (show ¬ (Option.isNone (some (Value.builtin "int.__index__")) = true) from Bool.false_ne_true)]
  refine wpAny_bind (wpAny_of_eq (a := n) rfl ?_)
  exact wpAny_pure h
theorem window_nn {n : Nat} {lo hi : Int} (h1 : 0 ≤ lo) (h2 : 0 ≤ hi) : Bytes.window n (some lo) (some hi) = (lo, min (n : Int) hi) := by
  show ((if lo < 0 then max 0 (lo + n) else lo), min (n : Int) (if hi < 0 then max 0 (hi + n) else hi)) = _
  rw [if_neg (by omega), if_neg (by omega)]
theorem wp_args4 {M : Model} {A : Around} {E : Value → Shared → Prop} {s : Shared} {b c : Array UInt8} {t u v w : Tok} {lo hi : Int} {name : String} {Q : Array UInt8 × Array UInt8 × Option (Nat × Nat) → Shared → Prop} (h1 : 0 ≤ lo) (h2 : 0 ≤ hi) (h : Q (b, c, winN b.size c.size lo hi) s) :
    wpAny M A (Bytes.searchArgs .bytes name ⟨[.bytes b t, .bytes c u, .int lo v, .int hi w], []⟩) Q E s := by
  unfold Bytes.searchArgs
  refine wpAny_bind (wpAny_of_eq (a := (Value.bytes b t, [Value.bytes c u, Value.int lo v, Value.int hi w])) rfl ?_)
  refine wpAny_bind (wp_bound ?_)
  refine wpAny_bind (wp_bound ?_)
  try dsimp only [List.headD]
  refine wpAny_bind (wpAny_of_eq KBy.buffer_eq ?_)
  first
    | refine wpAny_bind (wpAny_pure ?_)
    | (dsimp only; refine wpAny_bind (wpAny_pure ?_))
    | skip
  refine wpAny_bind (wpAny_of_eq (a := b) rfl ?_)
  try dsimp only
  rw [window_nn h1 h2]
  exact wpAny_pure h
def fnd (b c : Array UInt8) (lo hi : Int) : Option Nat := (winN b.size c.size lo hi).bind fun p => Bytes.find? b c p.1 p.2
def rfnd (b c : Array UInt8) (lo hi : Int) : Option Nat := (winN b.size c.size lo hi).bind fun p => Bytes.rfind? b c p.1 p.2
theorem gives_find4 {b c : Array UInt8} {t u v w : Tok} {lo hi : Int} (h1 : 0 ≤ lo) (h2 : 0 ≤ hi) : Gives («bytes.find» ⟨[.bytes b t, .bytes c u, .int lo v, .int hi w], []⟩) (.int (KBf.told (fnd b c lo hi))) := by
  refine .of_wp fun M A E s Q hq => ?_
  show wpAny M A (Bytes.searchArgs .bytes "find" ⟨[.bytes b t, .bytes c u, .int lo v, .int hi w], []⟩ >>= fun r => _) _ E s
  refine wpAny_bind (wp_args4 h1 h2 ?_)
  show wpAny M A (match fnd b c lo hi with | some i => retInt (i : Int) | none => rule _ >>= fun _ => retInt (-1)) _ E s
  cases e : fnd b c lo hi with
  | none =>
    rw [e] at hq
    exact wpAny_bind (wpAny_rule (wpAny_bind (wpAny_mkInt (wpAny_pure ⟨_, rfl, hq⟩))))
  | some i =>
    rw [e] at hq
    exact wpAny_bind (wpAny_mkInt (wpAny_pure ⟨_, rfl, hq⟩))
theorem gives_rfind4 {b c : Array UInt8} {t u v w : Tok} {lo hi : Int} (h1 : 0 ≤ lo) (h2 : 0 ≤ hi) : Gives («bytes.rfind» ⟨[.bytes b t, .bytes c u, .int lo v, .int hi w], []⟩) (.int (KBf.told (rfnd b c lo hi))) := by
  refine .of_wp fun M A E s Q hq => ?_
  show wpAny M A (Bytes.searchArgs .bytes "rfind" ⟨[.bytes b t, .bytes c u, .int lo v, .int hi w], []⟩ >>= fun r => _) _ E s
  refine wpAny_bind (wp_args4 h1 h2 ?_)
  show wpAny M A (match rfnd b c lo hi with | some i => retInt (i : Int) | none => rule _ >>= fun _ => retInt (-1)) _ E s
  cases e : rfnd b c lo hi with
  | none =>
    rw [e] at hq
    exact wpAny_bind (wpAny_rule (wpAny_bind (wpAny_mkInt (wpAny_pure ⟨_, rfl, hq⟩))))
  | some i =>
    rw [e] at hq
    exact wpAny_bind (wpAny_mkInt (wpAny_pure ⟨_, rfl, hq⟩))
end BFX
namespace L2
open PySem PySem.Spec PySem.Calls PyProof.Rows
section
variable {X : Cx} {o e : Expr} {es : List Expr} {to : TE} {t : TA} {name : Str} {apos cpos : Pos} {id : String} {r : V → List V → Hp → VK → Prop}
def tBMB (r : V → List V → Hp → VK → Prop) (to : TE) (t : TA) : TE := fun σ H Q => to σ H fun x H1 => (∃ b, x = .byt b) ∧ t σ H1 fun xs H2 => r x xs H2 Q
/-- a method of bytes with arguments -/
theorem pe_bmB (slot : Slot "bytes" name id) (hty : typeOf (.builtin id) = pure (.type "method_descriptor")) (hm : MtR X id r) (ho : PE X o to) (ha : PA X (e :: es) t)
    (hbase : attributeBase o name X.env (eval o X.env) = eval o X.env := by rfl)
    (hfew : ((backTo cpos (starEach (e :: es) X.env)).all (fun x => !x.1) && (backToKw cpos (keywordEach [] X.env)).all (fun x => x.1.isSome)
      && decide ((e :: es).length + ([] : List Keyword).length + (if ([] : List Keyword).isEmpty then 0 else 1) < 30)) = true := by rfl)
    (hline : (apos.endLine == cpos.line) = true := by rfl) (hs : starEach (e :: es) X.env = (false, eval e X.env) :: starEach es X.env := by rfl) (hplain : (backTo cpos (starEach es X.env)).any (·.1) = false := by rfl) :
    PE X (.Call (.Attribute o name apos) (e :: es) [] cpos) (tBMB r to t) := by
  refine ⟨fun pins s σ H Q I h => ?_⟩
  refine wpAny_Call_method_late hbase hfew hline rfl (thn (ho.run pins s σ H _ I h) fun v s1 ⟨x, H1, I1, r1, ⟨b, eb⟩, q1⟩ => ?_)
  subst eb
  obtain ⟨tk, rfl⟩ := _root_.id r1
  refine ⟨"bytes", id, PySem.W.FB.plainAttrs_bytes, slot, hty, PySem.W.typeIs_bytes _ _ _, (fun _ e => nomatch e), ?_⟩
  have hA := ha.run cpos pins s1 σ H1 _ I1 q1
  rw [hs] at hA ⊢
  refine Calls.callWith_builtin (by show (false || (backTo cpos (starEach es X.env)).any (·.1)) = false; rw [hplain] <;> rfl) (Calls.evalArgs_plain ?_)
  exact thn hA fun us s2 ⟨vs, H2, I2, r2, q2⟩ => hm pins s2 σ H2 (.byt b) vs _ us Q I2 ⟨tk, rfl⟩ r2 q2
end
theorem mt_bfind4 {X : Cx} : MtR X "bytes.find" (fun x xs H Q => ∃ (a b : Array UInt8) (i j : Int), x = .byt a ∧ xs = [.byt b, .int i, .int j] ∧ 0 ≤ i ∧ 0 ≤ j ∧ Q (.int (PySem.W.KBf.told (BFX.fnd a b i j))) H) := by
  intro pins s σ H x xs v us Q I rx rs h
  obtain ⟨a, b, i, j, rfl, rfl, h1, h2, h⟩ := h
  obtain ⟨t, rfl⟩ := rx
  cases rs with
  | cons r1 rs =>
    cases rs with
    | cons r2 rs =>
      cases rs with
      | cons r3 rs =>
        cases rs
        obtain ⟨u, rfl⟩ := r1
        obtain ⟨z, rfl⟩ := r2
        obtain ⟨y, rfl⟩ := r3
        exact call_gives PySem.W.KBf.slot_find (PySem.W.typeIs_bytes _ _ _) PySem.W.KBf.entry_find (BFX.args_find4 _ _ _ _) (BFX.gives_find4 h1 h2) ⟨V.int _, H, I.tok (s.toks + 1), ⟨_, rfl⟩, h⟩
theorem mt_brfind4 {X : Cx} : MtR X "bytes.rfind" (fun x xs H Q => ∃ (a b : Array UInt8) (i j : Int), x = .byt a ∧ xs = [.byt b, .int i, .int j] ∧ 0 ≤ i ∧ 0 ≤ j ∧ Q (.int (PySem.W.KBf.told (BFX.rfnd a b i j))) H) := by
  intro pins s σ H x xs v us Q I rx rs h
  obtain ⟨a, b, i, j, rfl, rfl, h1, h2, h⟩ := h
  obtain ⟨t, rfl⟩ := rx
  cases rs with
  | cons r1 rs =>
    cases rs with
    | cons r2 rs =>
      cases rs with
      | cons r3 rs =>
        cases rs
        obtain ⟨u, rfl⟩ := r1
        obtain ⟨z, rfl⟩ := r2
        obtain ⟨y, rfl⟩ := r3
        exact call_gives PySem.W.KBf.slot_rfind (PySem.W.typeIs_bytes _ _ _) PySem.W.KBf.entry_rfind (BFX.args_rfind4 _ _ _ _) (BFX.gives_rfind4 h1 h2) ⟨V.int _, H, I.tok (s.toks + 1), ⟨_, rfl⟩, h⟩
end L2

namespace K4
open PySem PySem.Spec PyProof.Rows L2
/-! ### steps, one for each length, and the items of a place: pure -/
structure StepsOk (steps : List (Nat × Int)) (its : List Itm) (L B : List Int) : Prop where
  of : ∀ s ∈ steps, ∃ it ∈ its, lenI it = s.1 ∧ costO L B it = some s.2
  all : ∀ it ∈ its, ∀ a, costO L B it = some a → ∃ s ∈ steps, s.1 = lenI it ∧ s.2 ≤ a
def foundF (steps : List (Nat × Int)) (cs : Nat → Option Int) (p : Nat) : List Int := steps.filterMap fun s => (cs (p + s.1)).map (s.2 + ·)
def bestF (L B : List Int) (cs : Nat → Option Int) (p : Nat) (its : List Itm) : Cell2 := its.foldl (stepS L B cs p) (none, none)
theorem mem_found {steps : List (Nat × Int)} {cs : Nat → Option Int} {p : Nat} {m : Int} : m ∈ foundF steps cs p ↔ ∃ s ∈ steps, ∃ r, cs (p + s.1) = some r ∧ m = s.2 + r := by
  unfold foundF
  rw [List.mem_filterMap]
  constructor
  · rintro ⟨s, hs, h⟩
    obtain ⟨r, hr, e⟩ := Option.map_eq_some_iff.mp h
    exact ⟨s, hs, r, hr, e.symm⟩
  · rintro ⟨s, hs, r, hr, e⟩
    exact ⟨s, hs, by rw [hr, e]; rfl⟩
theorem best_val {L B : List Int} {cs : Nat → Option Int} {p : Nat} {its : List Itm} {c : Int} (h : (bestF L B cs p its).1 = some c) : ∃ it ∈ its, (bestF L B cs p its).2 = some it ∧ ∃ a r, costO L B it = some a ∧ cs (p + lenI it) = some r ∧ c = a + r := by
  rcases fold_val (acc := (none, none)) h with h1 | h1
  · unfold bestF at h
    rw [h1] at h
    cases h
  · exact h1
theorem few_none {steps : List (Nat × Int)} {its : List Itm} {L B : List Int} (S : StepsOk steps its L B) {cs : Nat → Option Int} {p : Nat} (h : foundF steps cs p = []) : (bestF L B cs p its).1 = none := by
  cases hc : (bestF L B cs p its).1 with
  | none => rfl
  | some c =>
    obtain ⟨it, m, _, a, r, ha, hr, rfl⟩ := best_val hc
    obtain ⟨s, hs, e1, _⟩ := S.all it m a ha
    have : s.2 + r ∈ foundF steps cs p := mem_found.mpr ⟨s, hs, r, by rw [e1]; exact hr, rfl⟩
    rw [h] at this
    cases this
theorem few_some {steps : List (Nat × Int)} {its : List Itm} {L B : List Int} (S : StepsOk steps its L B) {cs : Nat → Option Int} {p : Nat} {m : Int} (h : m ∈ foundF steps cs p) (hm : ∀ y ∈ foundF steps cs p, m ≤ y) : (bestF L B cs p its).1 = some m := by
  obtain ⟨s, hs, r, hr, rfl⟩ := mem_found.mp h
  obtain ⟨it, hit, e1, e2⟩ := S.of s hs
  obtain ⟨c, hc, hcl⟩ := fold_min (cs := cs) (p := p) (acc := (none, none)) hit e2 (by rw [e1]; exact hr)
  have hc' : (bestF L B cs p its).1 = some c := hc
  obtain ⟨it', m', _, a', r', ha', hr', rfl⟩ := best_val hc'
  obtain ⟨s', hs', e3, e4⟩ := S.all it' m' a' ha'
  have := hm (s'.2 + r') (mem_found.mpr ⟨s', hs', r', by rw [e3]; exact hr', rfl⟩)
  rw [hc']
  congr 1
  omega
/-! what the first of the least is -/
def totO (L B : List Int) (cs : Nat → Option Int) (p : Nat) (it : Itm) : Option Int := match costO L B it, cs (p + lenI it) with
  | some a, some r => some (a + r)
  | _, _ => none
structure FirstInv (L B : List Int) (cs : Nat → Option Int) (p : Nat) (l : List Itm) (acc : Cell2) : Prop where
  no : acc.1 = none → ∀ x ∈ l, totO L B cs p x = none
  yes : ∀ c, acc.1 = some c → ∃ a b it, l = a ++ it :: b ∧ acc.2 = some it ∧ totO L B cs p it = some c ∧ (∀ x ∈ a, ∀ t, totO L B cs p x = some t → c < t) ∧ (∀ x ∈ b, ∀ t, totO L B cs p x = some t → c ≤ t)
theorem first_step {L B : List Int} {cs : Nat → Option Int} {p : Nat} {l : List Itm} {acc : Cell2} {x : Itm} (I : FirstInv L B cs p l acc) : FirstInv L B cs p (l ++ [x]) (stepS L B cs p acc x) := by
  cases hx : totO L B cs p x with
  | none =>
    have es : stepS L B cs p acc x = acc := by
      unfold totO at hx
      unfold stepS
      cases h1 : costO L B x with
      | none => rfl
      | some a =>
        cases h2 : cs (p + lenI x) with
        | none => rfl
        | some r =>
          rw [h1, h2] at hx
          cases hx
    rw [es]
    refine ⟨fun h y m => ?_, fun c h => ?_⟩
    · rcases List.mem_append.mp m with m | m
      · exact I.no h y m
      · rw [List.mem_singleton.mp m]
        exact hx
    · obtain ⟨a, b, it, e1, e2, e3, e4, e5⟩ := I.yes c h
      refine ⟨a, b ++ [x], it, by rw [e1, List.append_assoc]; rfl, e2, e3, e4, fun y m t ht => ?_⟩
      rcases List.mem_append.mp m with m | m
      · exact e5 y m t ht
      · rw [List.mem_singleton.mp m, hx] at ht
        cases ht
  | some v =>
    obtain ⟨a0, r0, h1, h2, ev⟩ : ∃ a0 r0, costO L B x = some a0 ∧ cs (p + lenI x) = some r0 ∧ v = a0 + r0 := by
      unfold totO at hx
      cases h1 : costO L B x with
      | none => rw [h1] at hx; cases hx
      | some a =>
        cases h2 : cs (p + lenI x) with
        | none => rw [h1, h2] at hx; cases hx
        | some r =>
          rw [h1, h2] at hx
          exact ⟨a, r, rfl, rfl, (Option.some.inj hx).symm⟩
    cases hc : acc.1 with
    | none =>
      have es : stepS L B cs p acc x = (some v, some x) := by
        unfold stepS
        rw [h1, h2, hc, ev]
      rw [es]
      refine ⟨fun h => (by cases h), fun c h => ?_⟩
      obtain rfl : v = c := Option.some.inj h
      refine ⟨l, [], x, rfl, rfl, hx, fun y m t ht => ?_, fun y m => (by cases m)⟩
      rw [I.no hc y m] at ht
      cases ht
    | some c0 =>
      obtain ⟨a, b, it, e1, e2, e3, e4, e5⟩ := I.yes c0 hc
      by_cases q : v < c0
      · have es : stepS L B cs p acc x = (some v, some x) := by
          unfold stepS
          rw [h1, h2, hc, ev]
          show (if a0 + r0 < c0 then (some (a0 + r0), some x) else acc : Cell2) = _
          rw [if_pos (by omega)]
        rw [es]
        refine ⟨fun h => (by cases h), fun c h => ?_⟩
        obtain rfl : v = c := Option.some.inj h
        refine ⟨l, [], x, rfl, rfl, hx, fun y m t ht => ?_, fun y m => (by cases m)⟩
        rw [e1] at m
        rcases List.mem_append.mp m with m | m
        · have := e4 y m t ht
          omega
        · rcases List.mem_cons.mp m with rfl | m
          · rw [e3] at ht
            have := Option.some.inj ht
            omega
          · have := e5 y m t ht
            omega
      · have es : stepS L B cs p acc x = acc := by
          unfold stepS
          rw [h1, h2, hc]
          show (if a0 + r0 < c0 then (some (a0 + r0), some x) else acc : Cell2) = _
          rw [if_neg (by omega)]
        rw [es]
        refine ⟨fun h => (by rw [hc] at h; cases h), fun c h => ?_⟩
        have ecc : c0 = c := Option.some.inj (hc.symm.trans h)
        subst ecc
        refine ⟨a, b ++ [x], it, by rw [e1, List.append_assoc]; rfl, e2, e3, e4, fun y m t ht => ?_⟩
        rcases List.mem_append.mp m with m | m
        · exact e5 y m t ht
        · rw [List.mem_singleton.mp m, hx] at ht
          have := Option.some.inj ht
          omega
theorem first_all {L B : List Int} {cs : Nat → Option Int} {p : Nat} : ∀ (l2 l1 : List Itm) (acc : Cell2), FirstInv L B cs p l1 acc → FirstInv L B cs p (l1 ++ l2) (l2.foldl (stepS L B cs p) acc)
  | [], l1, acc, I => by rw [List.append_nil]; exact I
  | x :: r, l1, acc, I => by
    have := first_all r (l1 ++ [x]) _ (first_step (x := x) I)
    rw [List.append_assoc] at this
    exact this
theorem best_first {L B : List Int} {cs : Nat → Option Int} {p : Nat} {its : List Itm} {c : Int} (h : (bestF L B cs p its).1 = some c) :
    ∃ a b it, its = a ++ it :: b ∧ (bestF L B cs p its).2 = some it ∧ totO L B cs p it = some c ∧ (∀ x ∈ a, ∀ t, totO L B cs p x = some t → c < t) ∧ (∀ x ∈ b, ∀ t, totO L B cs p x = some t → c ≤ t) := by
  have I : FirstInv L B cs p [] (none, none) := ⟨fun _ x m => (by cases m), fun c h => (by cases h)⟩
  exact (first_all its [] _ I).yes c h
/-! the law's turn of items -/
def befI : Itm → Itm → Prop
  | .b _, _ => True
  | .c _ _, .b _ => False
  | .c m b, .c m' b' => m' < m ∨ (m' = m ∧ b ≤ b')
theorem items_sorted (e : List Nat) (h lim : Nat) : (itemsF e h lim).Pairwise befI := by
  have hm : ((prs e h lim (min 1024 h)).mergeSort lexL).Pairwise fun a b => lexL a b = true := List.pairwise_mergeSort (fun a b c h1 h2 => by
    rw [lexL_iff] at *
    omega) (fun a b => by
    rw [Bool.or_eq_true, lexL_iff, lexL_iff]
    omega) _
  refine List.pairwise_cons.mpr ⟨fun x _ => trivial, ?_⟩
  refine List.pairwise_map.mpr (List.Pairwise.imp_of_mem (fun {a b} ma mb hab => ?_) hm)
  obtain ⟨o, b1, rfl, _⟩ := mem_prs2 ((List.mergeSort_perm _ _).mem_iff.mp ma)
  obtain ⟨o', b2, rfl, _⟩ := mem_prs2 ((List.mergeSort_perm _ _).mem_iff.mp mb)
  rw [lexL_iff] at hab
  have e1 : (-(-((3 + o : Nat) : Int))).toNat = 3 + o := by omega
  have e2 : ((1 + b1 : Nat) : Int).toNat = 1 + b1 := by omega
  have e3 : (-(-((3 + o' : Nat) : Int))).toNat = 3 + o' := by omega
  have e4 : ((1 + b2 : Nat) : Int).toNat = 1 + b2 := by omega
  show befI (.c (-(-((3 + o : Nat) : Int))).toNat ((1 + b1 : Nat) : Int).toNat) (.c (-(-((3 + o' : Nat) : Int))).toNat ((1 + b2 : Nat) : Int).toNat)
  rw [e1, e2, e3, e4]
  have hab : (-((3 + o : Nat) : Int)) < (-((3 + o' : Nat) : Int)) ∨ ((-((3 + o : Nat) : Int)) = (-((3 + o' : Nat) : Int)) ∧ ((1 + b1 : Nat) : Int) ≤ ((1 + b2 : Nat) : Int)) := hab
  show 3 + o' < 3 + o ∨ (3 + o' = 3 + o ∧ 1 + b1 ≤ 1 + b2)
  omega
/-- an item that is among the least, and not behind another such, is the one that the law takes -/
theorem best_is {L B : List Int} {cs : Nat → Option Int} {p : Nat} {e : List Nat} {h lim : Nat} {c : Int} {it : Itm} (hb : (bestF L B cs p (itemsF e h lim)).1 = some c) (hm : it ∈ itemsF e h lim) (ht : totO L B cs p it = some c)
    (hf : ∀ x ∈ itemsF e h lim, totO L B cs p x = some c → befI it x) (hbyte : ∀ k, it = .b k → k = e.getD h 0) : (bestF L B cs p (itemsF e h lim)).2 = some it := by
  obtain ⟨a, b, it0, e1, e2, e3, e4, e5⟩ := best_first hb
  rw [e2]
  congr 1
  have hs := items_sorted e h lim
  rw [e1] at hm hs
  have hs2 := (List.pairwise_append.mp hs).2.1
  rcases List.mem_append.mp hm with m | m
  · have := e4 it m c ht
    omega
  · rcases List.mem_cons.mp m with rfl | m
    · rfl
    · have h1 := (List.pairwise_cons.mp hs2).1 it m
      have m0 : it0 ∈ itemsF e h lim := by
        rw [e1]
        exact List.mem_append_right _ (List.mem_cons_self ..)
      have h2 := hf it0 m0 e3
      cases it with
      | b k =>
        rw [hbyte k rfl]
        cases it0 with
        | b k0 =>
          rcases item_says m0 with q | ⟨_, _, q, _⟩
          · exact q
          · cases q
        | c m' b' => exact h1.elim
      | c k r =>
        cases it0 with
        | b k0 => exact h2.elim
        | c m' b' =>
          have h1 : k < m' ∨ (k = m' ∧ b' ≤ r) := h1
          have h2 : m' < k ∨ (m' = k ∧ r ≤ b') := h2
          have : m' = k ∧ b' = r := by omega
          rw [this.1, this.2]
end K4

namespace K4
open PySem PySem.Spec PyProof.Rows L2
/-! ### runs, and what can be reached: pure -/
def rnGo (e : List Nat) (b : Nat) : Nat → Nat → Nat
  | 0, _ => 0
  | f + 1, h => if e.getD h 0 = e.getD (h - b) 0 then rnGo e b f (h + 1) + 1 else 0
/-- how many bytes from here on are as those so far back, up to the end -/
def rn (e : List Nat) (h b : Nat) : Nat := rnGo e b (e.length - h) h
theorem rn_here {e : List Nat} {h b : Nat} (hh : h < e.length) : rn e h b = if e.getD h 0 = e.getD (h - b) 0 then rn e (h + 1) b + 1 else 0 := by
  unfold rn
  rw [show e.length - h = (e.length - (h + 1)) + 1 by omega]
  rfl
theorem mlGo_rn (e : List Nat) (h b : Nat) : ∀ f F m, f ≤ F → mlGo e h b f m = m + min f (rnGo e b F (h + m))
  | 0, F, m, _ => by
    show m = _
    omega
  | f + 1, F, m, hF => by
    match F, hF with
    | F + 1, hF =>
      show (if e.getD (h + m) 0 = e.getD (h + m - b) 0 then mlGo e h b f (m + 1) else m) = m + min (f + 1) (if e.getD (h + m) 0 = e.getD (h + m - b) 0 then rnGo e b F (h + m + 1) + 1 else 0)
      by_cases q : e.getD (h + m) 0 = e.getD (h + m - b) 0
      · rw [if_pos q, if_pos q, mlGo_rn e h b f F (m + 1) (by omega), show h + (m + 1) = h + m + 1 by omega]
        omega
      · rw [if_neg q, if_neg q]
        omega
theorem ml_rn {e : List Nat} {h b lim : Nat} (hl : lim ≤ e.length - h) : ml e h b lim = min lim (rn e h b) := by
  unfold ml rn
  rw [mlGo_rn e h b lim (e.length - h) 0 hl, Nat.add_zero, Nat.zero_add]
/-- just these copies stand among a place's items -/
theorem item_mem {e : List Nat} {h lim m b : Nat} (hl : lim ≤ e.length - h) : Itm.c m b ∈ itemsF e h lim ↔ 3 ≤ m ∧ m ≤ lim ∧ 1 ≤ b ∧ b ≤ min 1024 h ∧ m ≤ rn e h b := by
  unfold itemsF
  rw [List.mem_cons]
  constructor
  · rintro (h1 | h1)
    · cases h1
    · obtain ⟨p, hp, ep⟩ := List.mem_map.mp h1
      have hp := (List.mergeSort_perm _ _).mem_iff.mp hp
      obtain ⟨b0, hb0, hb⟩ := List.mem_flatMap.mp hp
      obtain ⟨o, ho, rfl⟩ := List.mem_map.mp hb
      have h2 := List.mem_range.mp ho
      have h3 := List.mem_range.mp hb0
      rw [ml_rn hl] at h2
      have e1 : (-(-((3 + o : Nat) : Int))).toNat = 3 + o := by omega
      have e2 : ((1 + b0 : Nat) : Int).toNat = 1 + b0 := by omega
      have ep : Itm.c (-(-((3 + o : Nat) : Int))).toNat ((1 + b0 : Nat) : Int).toNat = Itm.c m b := ep
      rw [e1, e2] at ep
      obtain ⟨rfl, rfl⟩ : 3 + o = m ∧ 1 + b0 = b := by
        injection ep with q1 q2
        exact ⟨q1, q2⟩
      omega
  · rintro ⟨h1, h2, h3, h4, h5⟩
    refine .inr (List.mem_map.mpr ⟨(-((3 + (m - 3) : Nat) : Int), ((1 + (b - 1) : Nat) : Int)), (List.mergeSort_perm _ _).mem_iff.mpr (List.mem_flatMap.mpr ⟨b - 1, List.mem_range.mpr (by omega), List.mem_map.mpr ⟨m - 3, List.mem_range.mpr ?_, rfl⟩⟩), ?_⟩)
    · rw [ml_rn hl, show 1 + (b - 1) = b by omega]
      omega
    · show Itm.c (-(-((3 + (m - 3) : Nat) : Int))).toNat ((1 + (b - 1) : Nat) : Int).toNat = Itm.c m b
      rw [show (-(-((3 + (m - 3) : Nat) : Int))).toNat = m by omega, show ((1 + (b - 1) : Nat) : Int).toNat = b by omega]
/-- what a letter of backs reaches -/
structure Reach (e : List Nat) (h : Nat) (R : List Nat) : Prop where
  len : R.length = 11
  top : ∀ x ∈ R, x ≤ 18
  iff_ : ∀ l, l < 11 → ∀ m, 1 ≤ m → m ≤ 18 → (m ≤ R.getD l 0 ↔ ∃ b, 2 ^ l ≤ b ∧ b < 2 ^ (l + 1) ∧ b ≤ min 1024 h ∧ m ≤ rn e h b)
/-- the steps of copies -/
def stepsC (L : List Int) (R : List Nat) (lim : Nat) : List (Int × Nat) → Nat → List (Nat × Int)
  | [], _ => []
  | (w, l) :: r, far => ((List.range' far (min (R.getD l 0) lim + 1 - far)).filterMap fun m => if 0 < L.getD (254 + m) 0 then some (m, L.getD (254 + m) 0 + w) else none) ++ stepsC L R lim r (max far (min (R.getD l 0) lim + 1))
theorem stepsC_mem {L : List Int} {R : List Nat} {lim : Nat} : ∀ {ch : List (Int × Nat)} {far : Nat} {s : Nat × Int}, s ∈ stepsC L R lim ch far → ∃ w l, (w, l) ∈ ch ∧ far ≤ s.1 ∧ s.1 ≤ R.getD l 0 ∧ s.1 ≤ lim ∧ 0 < L.getD (254 + s.1) 0 ∧ s.2 = L.getD (254 + s.1) 0 + w
  | (w, l) :: r, far, s, h => by
    rcases List.mem_append.mp h with h | h
    · obtain ⟨m, hm, e⟩ := List.mem_filterMap.mp h
      obtain ⟨i, hi, rfl⟩ := List.mem_range'.mp hm
      by_cases q : 0 < L.getD (254 + (far + 1 * i)) 0
      · rw [if_pos q] at e
        obtain rfl := Option.some.inj e
        refine ⟨w, l, List.mem_cons_self .., ?_, ?_, ?_, q, rfl⟩
        · show far ≤ far + 1 * i
          omega
        · show far + 1 * i ≤ _
          omega
        · show far + 1 * i ≤ _
          omega
      · rw [if_neg q] at e
        cases e
    · obtain ⟨w', l', h1, h2, h3⟩ := stepsC_mem h
      exact ⟨w', l', List.mem_cons_of_mem _ h1, by omega, h3⟩
theorem stepsC_all {L : List Int} {R : List Nat} {lim m : Nat} {w0 : Int} {l0 : Nat} (hL : 0 < L.getD (254 + m) 0) (hm : m ≤ lim) (hr : m ≤ R.getD l0 0) : ∀ {ch : List (Int × Nat)} {far : Nat}, ch.Pairwise (fun a b => a.1 ≤ b.1) → (w0, l0) ∈ ch → far ≤ m → ∃ s ∈ stepsC L R lim ch far, s.1 = m ∧ s.2 ≤ L.getD (254 + m) 0 + w0
  | (w, l) :: r, far, hp, hin, hf => by
    obtain ⟨hp1, hp2⟩ := List.pairwise_cons.mp hp
    by_cases q : m ≤ min (R.getD l 0) lim
    · refine ⟨(m, L.getD (254 + m) 0 + w), List.mem_append_left _ (List.mem_filterMap.mpr ⟨m, List.mem_range'.mpr ⟨m - far, by omega, by omega⟩, by rw [if_pos hL]⟩), rfl, ?_⟩
      show L.getD (254 + m) 0 + w ≤ _
      rcases List.mem_cons.mp hin with e | hin
      · injection e with e1 e2
        omega
      · have : w ≤ w0 := hp1 _ hin
        omega
    · rcases List.mem_cons.mp hin with e | hin
      · injection e with e1 e2
        subst e2
        omega
      · obtain ⟨s, hs, e1, e2⟩ := stepsC_all hL hm hr hp2 hin (far := max far (min (R.getD l 0) lim + 1)) (by omega)
        exact ⟨s, List.mem_append_right _ hs, e1, e2⟩
theorem stepsC_sorted {L : List Int} {R : List Nat} {lim : Nat} : ∀ (ch : List (Int × Nat)) (far : Nat), (stepsC L R lim ch far).Pairwise fun a b => a.1 < b.1
  | [], far => .nil
  | (w, l) :: r, far => by
    refine List.pairwise_append.mpr ⟨?_, stepsC_sorted r _, fun a ha b hb => ?_⟩
    · refine List.Pairwise.filterMap (R := fun a b : Nat => a < b) _ (fun a a' haa b hb b' hb' => ?_) (List.pairwise_lt_range' ..)
      split at hb
      · split at hb'
        · obtain rfl := Option.some.inj hb
          obtain rfl := Option.some.inj hb'
          exact haa
        · cases hb'
      · cases hb
    · obtain ⟨m, hm, ea⟩ := List.mem_filterMap.mp ha
      obtain ⟨i, hi, rfl⟩ := List.mem_range'.mp hm
      obtain ⟨w', l', _, h2, _⟩ := stepsC_mem hb
      split at ea
      · obtain rfl := Option.some.inj ea
        show far + 1 * i < b.1
        omega
      · cases ea
end K4

namespace K4
open PySem PySem.Spec PyProof.Rows L2
/-! ### the steps of a place are its items' least: pure -/
structure CheapOk (ch : List (Int × Nat)) (B : List Int) : Prop where
  srt : ch.Pairwise fun a b => a.1 < b.1 ∨ (a.1 = b.1 ∧ a.2 < b.2)
  mem : ∀ w l, (w, l) ∈ ch ↔ l < 11 ∧ 0 < B.getD l 0 ∧ w = B.getD l 0 + (l : Int)
def ReachO (e : List Nat) (h : Nat) (R : List Nat) : Prop := (R = [] ∧ ∀ b, 1 ≤ b → b ≤ min 1024 h → rn e h b < 3) ∨ (R ≠ [] ∧ Reach e h R)
def stepsF (L : List Int) (R : List Nat) (lim : Nat) (ch : List (Int × Nat)) (k : Nat) : List (Nat × Int) := (if 0 < L.getD k 0 then [(1, L.getD k 0)] else []) ++ (if R = [] then [] else stepsC L R lim ch 3)
theorem log_of {b l : Nat} (h1 : 2 ^ l ≤ b) (h2 : b < 2 ^ (l + 1)) : Nat.log2 b = l := by
  have hb : b ≠ 0 := by
    have : 0 < 2 ^ l := Nat.pow_pos (by decide)
    omega
  have a1 : l ≤ Nat.log2 b := (Nat.le_log2 hb).mpr h1
  have a2 : Nat.log2 b < l + 1 := (Nat.log2_lt hb).mpr h2
  omega
theorem log_in {b : Nat} (h : 1 ≤ b) : 2 ^ Nat.log2 b ≤ b ∧ b < 2 ^ (Nat.log2 b + 1) := ⟨Nat.log2_self_le (by omega), (Nat.log2_lt (by omega)).mp (Nat.lt_succ_self _)⟩
theorem log_11 {b : Nat} (h1 : 1 ≤ b) (h2 : b ≤ 1024) : Nat.log2 b < 11 := (Nat.log2_lt (by omega)).mpr (by omega)
theorem getD_nn {L : List Int} (h : ∀ x ∈ L, 0 ≤ x) (k : Nat) : 0 ≤ L.getD k 0 := by
  rw [List.getD_eq_getElem?_getD]
  cases q : L[k]? with
  | none => exact Int.le_refl 0
  | some x => exact h x (List.mem_of_getElem? q)
theorem cost_c {L B : List Int} (hL : ∀ x ∈ L, 0 ≤ x) (hB : ∀ x ∈ B, 0 ≤ x) {m b : Nat} {a : Int} : costO L B (.c m b) = some a ↔ 0 < L.getD (254 + m) 0 ∧ 0 < B.getD (Nat.log2 b) 0 ∧ a = L.getD (254 + m) 0 + (B.getD (Nat.log2 b) 0 + (Nat.log2 b : Nat)) := by
  have h1 := getD_nn hL (254 + m)
  have h2 := getD_nn hB (Nat.log2 b)
  show (if L.getD (254 + m) 0 = 0 ∨ B.getD (Nat.log2 b) 0 = 0 then none else some (L.getD (254 + m) 0 + B.getD (Nat.log2 b) 0 + (Nat.log2 b : Nat))) = some a ↔ _
  by_cases q : L.getD (254 + m) 0 = 0 ∨ B.getD (Nat.log2 b) 0 = 0
  · rw [if_pos q]
    constructor
    · intro z
      cases z
    · intro z
      omega
  · rw [if_neg q]
    constructor
    · intro z
      have := Option.some.inj z
      omega
    · rintro ⟨_, _, z⟩
      rw [z]
      congr 1
      omega
theorem cost_b {L B : List Int} {k : Nat} {a : Int} : costO L B (.b k) = some a ↔ 0 < L.getD k 0 ∧ a = L.getD k 0 := by
  show (if 0 < L.getD k 0 then some (L.getD k 0) else none) = some a ↔ _
  by_cases q : 0 < L.getD k 0
  · rw [if_pos q]
    constructor
    · intro z
      exact ⟨q, (Option.some.inj z).symm⟩
    · rintro ⟨_, z⟩
      rw [z]
  · rw [if_neg q]
    constructor
    · intro z
      cases z
    · rintro ⟨z, _⟩
      exact absurd z q
theorem cheap_le {ch : List (Int × Nat)} {B : List Int} (C : CheapOk ch B) : ch.Pairwise fun a b => a.1 ≤ b.1 := C.srt.imp fun {a b} h => by
  rcases h with h | ⟨h, _⟩ <;> omega
section
variable {e : List Nat} {h n : Nat} {L B : List Int} {R : List Nat} {ch : List (Int × Nat)}
/-- a letter that reaches so far has a copy -/
theorem reach_item (hR : ReachO e h R) (hn : n ≤ e.length - h) {l m : Nat} (hl : l < 11) (h3 : 3 ≤ m) (hm : m ≤ R.getD l 0) (hmn : m ≤ n) (hne : R ≠ []) : ∃ b, Itm.c m b ∈ itemsF e h (min 18 n) ∧ 2 ^ l ≤ b ∧ b < 2 ^ (l + 1) ∧ m ≤ rn e h b ∧ b ≤ min 1024 h ∧ m ≤ 18 := by
  rcases hR with ⟨hr, _⟩ | ⟨_, hr⟩
  · exact absurd hr hne
  have h18 : m ≤ 18 := by
    rw [List.getD_eq_getElem?_getD, List.getElem?_eq_getElem (by rw [hr.len]; exact hl)] at hm
    have := hr.top _ (List.getElem_mem (by rw [hr.len]; exact hl : l < R.length))
    exact Nat.le_trans hm this
  obtain ⟨b, b1, b2, b3, b4⟩ := (hr.iff_ l hl m (by omega) h18).mp hm
  have bp : 1 ≤ b := by
    have : 0 < 2 ^ l := Nat.pow_pos (by decide)
    omega
  exact ⟨b, (item_mem (by omega)).mpr ⟨h3, by omega, bp, b3, b4⟩, b1, b2, b4, b3, h18⟩
theorem item_reach (hR : ReachO e h R) (hn : n ≤ e.length - h) {m b : Nat} (hi : Itm.c m b ∈ itemsF e h (min 18 n)) : R ≠ [] ∧ m ≤ R.getD (Nat.log2 b) 0 ∧ Nat.log2 b < 11 ∧ 3 ≤ m ∧ m ≤ n ∧ m ≤ 18 ∧ 1 ≤ b ∧ m ≤ rn e h b := by
  obtain ⟨h1, h2, h3, h4, h5⟩ := (item_mem (by omega)).mp hi
  rcases hR with ⟨hr, hno⟩ | ⟨hne, hr⟩
  · have := hno b h3 h4
    omega
  have hl := log_11 h3 (by omega)
  have lg := log_in h3
  exact ⟨hne, (hr.iff_ _ hl m (by omega) (by omega)).mpr ⟨b, lg.1, lg.2, h4, h5⟩, hl, h1, by omega, by omega, h3, h5⟩
theorem steps_ok (hL : ∀ x ∈ L, 0 ≤ x) (hB : ∀ x ∈ B, 0 ≤ x) (C : CheapOk ch B) (hR : ReachO e h R) (hn : n ≤ e.length - h) (hn1 : 1 ≤ n) : StepsOk (stepsF L R n ch (e.getD h 0)) (itemsF e h (min 18 n)) L B := by
  refine ⟨fun s hs => ?_, fun it hm a ha => ?_⟩
  · rcases List.mem_append.mp hs with hs | hs
    · by_cases q : 0 < L.getD (e.getD h 0) 0
      · rw [if_pos q] at hs
        obtain rfl := List.mem_singleton.mp hs
        exact ⟨.b (e.getD h 0), List.mem_cons_self .., rfl, cost_b.mpr ⟨q, rfl⟩⟩
      · rw [if_neg q] at hs
        cases hs
    · by_cases q : R = []
      · rw [if_pos q] at hs
        cases hs
      · rw [if_neg q] at hs
        obtain ⟨w, l, c1, c2, c3, c4, c5, c6⟩ := stepsC_mem hs
        obtain ⟨d1, d2, rfl⟩ := (C.mem w l).mp c1
        obtain ⟨b, i1, i2, i3, _⟩ := reach_item hR hn d1 c2 c3 c4 q
        refine ⟨_, i1, rfl, (cost_c hL hB).mpr ⟨c5, ?_, ?_⟩⟩
        · rw [log_of i2 i3]
          exact d2
        · rw [log_of i2 i3]
          exact c6
  · cases it with
    | b k =>
      have ek : k = e.getD h 0 := by
        rcases item_says hm with q | ⟨_, _, q, _⟩
        · injection q
        · cases q
      obtain ⟨p1, p2⟩ := cost_b.mp ha
      refine ⟨(1, L.getD k 0), List.mem_append_left _ ?_, rfl, Int.le_of_eq p2.symm⟩
      rw [← ek, if_pos p1]
      exact List.mem_singleton_self _
    | c m b =>
      obtain ⟨r0, r1, r2, r3, r4, r5, r6, _⟩ := item_reach hR hn hm
      obtain ⟨p1, p2, p3⟩ := (cost_c hL hB).mp ha
      obtain ⟨s, hs, e1, e2⟩ := stepsC_all (lim := n) p1 r4 r1 (cheap_le C) ((C.mem (B.getD (Nat.log2 b) 0 + (Nat.log2 b : Nat)) (Nat.log2 b)).mpr ⟨r2, p2, rfl⟩) (far := 3) r3
      refine ⟨s, List.mem_append_right _ ?_, e1, by omega⟩
      rw [if_neg r0]
      exact hs
theorem steps_sorted : (stepsF L R n ch (e.getD h 0)).Pairwise fun a b => a.1 < b.1 := by
  unfold stepsF
  refine List.pairwise_append.mpr ⟨?_, ?_, fun a ha b hb => ?_⟩
  · split
    · exact List.pairwise_singleton ..
    · exact .nil
  · split
    · exact .nil
    · exact stepsC_sorted _ _
  · have e1 : a.1 = 1 := by
      split at ha
      · rw [List.mem_singleton.mp ha]
      · cases ha
    split at hb
    · cases hb
    · obtain ⟨_, _, _, h2, _⟩ := stepsC_mem hb
      omega
end
end K4

namespace K4
open PySem PySem.Spec PyProof.Rows L2
/-! ### the item that the row takes: pure -/
def takenF (steps : List (Nat × Int)) (cs : Nat → Option Int) (p : Nat) (c : Int) : List Nat := (steps.filter fun s => match cs (p + s.1) with
  | some r => decide (s.2 + r = c)
  | none => false).map (·.1)
theorem mem_taken {steps : List (Nat × Int)} {cs : Nat → Option Int} {p : Nat} {c : Int} {m : Nat} : m ∈ takenF steps cs p c ↔ ∃ s ∈ steps, s.1 = m ∧ ∃ r, cs (p + m) = some r ∧ s.2 + r = c := by
  unfold takenF
  rw [List.mem_map]
  constructor
  · rintro ⟨s, hs, rfl⟩
    obtain ⟨h1, h2⟩ := List.mem_filter.mp hs
    refine ⟨s, h1, rfl, ?_⟩
    cases q : cs (p + s.1) with
    | none =>
      rw [q] at h2
      cases h2
    | some r =>
      rw [q] at h2
      exact ⟨r, rfl, of_decide_eq_true h2⟩
  · rintro ⟨s, hs, rfl, r, hr, e⟩
    refine ⟨s, List.mem_filter.mpr ⟨hs, ?_⟩, rfl⟩
    rw [hr]
    exact decide_eq_true e
theorem taken_sorted {steps : List (Nat × Int)} {cs : Nat → Option Int} {p : Nat} {c : Int} (h : steps.Pairwise fun a b => a.1 < b.1) : (takenF steps cs p c).Pairwise (· < ·) := List.pairwise_map.mpr (h.sublist List.filter_sublist)
theorem last_max : ∀ {l : List Nat} (h : l.Pairwise (· < ·)) (hne : l ≠ []) (x : Nat), x ∈ l → x ≤ l.getLast hne
  | [a], _, _, x, m => by
    rw [List.mem_singleton.mp m]
    exact Nat.le_refl _
  | a :: b :: r, h, _, x, m => by
    obtain ⟨h1, h2⟩ := List.pairwise_cons.mp h
    have ih := last_max h2 (by simp)
    rw [List.getLast_cons (by simp)]
    rcases List.mem_cons.mp m with rfl | m
    · have := h1 b (List.mem_cons_self ..)
      have := ih b (List.mem_cons_self ..)
      omega
    · exact ih x m
section
variable {e : List Nat} {h n p : Nat} {L B : List Int} {R : List Nat} {ch : List (Int × Nat)} {cs : Nat → Option Int} {c : Int}
theorem taken_some (S : StepsOk (stepsF L R n ch (e.getD h 0)) (itemsF e h (min 18 n)) L B) (hb : (bestF L B cs p (itemsF e h (min 18 n))).1 = some c) : takenF (stepsF L R n ch (e.getD h 0)) cs p c ≠ [] := by
  obtain ⟨it, m, _, a, r, ha, hr, rfl⟩ := best_val hb
  obtain ⟨s, hs, e1, e2⟩ := S.all it m a ha
  obtain ⟨it2, m2, e3, e4⟩ := S.of s hs
  obtain ⟨c', h1, h2⟩ := fold_min (cs := cs) (p := p) (acc := (none, none)) m2 e4 (by rw [e3, e1]; exact hr)
  have : (bestF L B cs p (itemsF e h (min 18 n))).1 = some c' := h1
  rw [hb] at this
  have := Option.some.inj this
  have hmem : s.1 ∈ takenF (stepsF L R n ch (e.getD h 0)) cs p (a + r) := mem_taken.mpr ⟨s, hs, rfl, r, by rw [e1]; exact hr, by omega⟩
  intro z
  rw [z] at hmem
  cases hmem
theorem tot_some {it : Itm} {t : Int} (ht : totO L B cs p it = some t) : ∃ a r, costO L B it = some a ∧ cs (p + lenI it) = some r ∧ t = a + r := by
  unfold totO at ht
  cases h1 : costO L B it with
  | none =>
    rw [h1] at ht
    cases ht
  | some a =>
    cases h2 : cs (p + lenI it) with
    | none =>
      rw [h1, h2] at ht
      cases ht
    | some r =>
      rw [h1, h2] at ht
      exact ⟨a, r, rfl, rfl, (Option.some.inj ht).symm⟩
/-- a byte, where it is among the least -/
theorem pick_byte (hL : ∀ x ∈ L, 0 ≤ x) (hB : ∀ x ∈ B, 0 ≤ x) (C : CheapOk ch B) (hR : ReachO e h R) (hn : n ≤ e.length - h) (hn1 : 1 ≤ n) (hb : (bestF L B cs p (itemsF e h (min 18 n))).1 = some c) (h1 : 1 ∈ takenF (stepsF L R n ch (e.getD h 0)) cs p c) :
    (bestF L B cs p (itemsF e h (min 18 n))).2 = some (.b (e.getD h 0)) := by
  obtain ⟨s, hs, e1, r, hr, e2⟩ := mem_taken.mp h1
  obtain ⟨it, m, e3, e4⟩ := (steps_ok hL hB C hR hn hn1).of s hs
  have hit : it = .b (e.getD h 0) := by
    rcases item_says m with q | ⟨k, b, q, _⟩
    · exact q
    · subst q
      obtain ⟨q1, _⟩ := (item_mem (by omega)).mp m
      have e3 : k = s.1 := e3
      omega
  subst hit
  refine best_is hb m ?_ (fun x _ _ => trivial) (fun k ek => by injection ek with ek; exact ek.symm)
  unfold totO
  rw [e4, show cs (p + lenI (Itm.b (e.getD h 0))) = some r from hr]
  exact congrArg some e2
/-- else the longest copy by the cheapest letter, from its least back -/
theorem pick_copy (hL : ∀ x ∈ L, 0 ≤ x) (hB : ∀ x ∈ B, 0 ≤ x) (C : CheapOk ch B) (hR : ReachO e h R) (hn : n ≤ e.length - h) (hn1 : 1 ≤ n) (hb : (bestF L B cs p (itemsF e h (min 18 n))).1 = some c) (h1 : 1 ∉ takenF (stepsF L R n ch (e.getD h 0)) cs p c) {m : Nat} (hm : m ∈ takenF (stepsF L R n ch (e.getD h 0)) cs p c) (hmax : ∀ x ∈ takenF (stepsF L R n ch (e.getD h 0)) cs p c, x ≤ m) :
    m ≠ 1 ∧ 3 ≤ m ∧ m ≤ 18 ∧ m ≤ n ∧ R ≠ [] ∧ (∃ w l, (w, l) ∈ ch ∧ m ≤ R.getD l 0) ∧ ∀ w l, (w, l) ∈ ch → m ≤ R.getD l 0 → (∀ w' l', (w', l') ∈ ch → m ≤ R.getD l' 0 → w < w' ∨ (w = w' ∧ l ≤ l')) → (∃ b, 2 ^ l ≤ b ∧ b < 2 ^ (l + 1) ∧ b ≤ min 1024 h ∧ m ≤ rn e h b) ∧
      ∀ b, 2 ^ l ≤ b → b < 2 ^ (l + 1) → b ≤ min 1024 h → m ≤ rn e h b → (∀ b', 2 ^ l ≤ b' → b' ≤ min 1024 h → m ≤ rn e h b' → b ≤ b') → (bestF L B cs p (itemsF e h (min 18 n))).2 = some (.c m b) := by
  have S := steps_ok (n := n) hL hB C hR hn hn1
  have hm1 : m ≠ 1 := fun z => h1 (z ▸ hm)
  obtain ⟨s, hs, rfl, r, hr, e2⟩ := mem_taken.mp hm
  have hs2 : R ≠ [] ∧ s ∈ stepsC L R n ch 3 := by
    rcases List.mem_append.mp hs with q | q
    · split at q
      · rw [List.mem_singleton.mp q] at hm1
        exact absurd rfl hm1
      · cases q
    · split at q
      · cases q
      · rename_i hne
        exact ⟨hne, q⟩
  obtain ⟨hne, hs3⟩ := hs2
  obtain ⟨w0, l0, c1, c2, c3, c4, c5, c6⟩ := stepsC_mem hs3
  obtain ⟨_, _, _, _, _, _, d18⟩ := reach_item hR hn ((C.mem w0 l0).mp c1).1 c2 c3 c4 hne
  refine ⟨hm1, c2, d18, c4, hne, ⟨w0, l0, c1, c3⟩, fun w l hwl hRl hfirst => ?_⟩
  obtain ⟨d1, d2, ew⟩ := (C.mem w l).mp hwl
  obtain ⟨b0, i1, i2, i3, i4, i5, _⟩ := reach_item hR hn d1 c2 hRl c4 hne
  refine ⟨⟨b0, i2, i3, i5, i4⟩, fun b g1 g2 g3 g4 g5 => ?_⟩
  have bp : 1 ≤ b := by
    have : 0 < 2 ^ l := Nat.pow_pos (by decide)
    omega
  have hmem : Itm.c s.1 b ∈ itemsF e h (min 18 n) := (item_mem (by omega)).mpr ⟨c2, by omega, bp, g3, g4⟩
  have hlog := log_of g1 g2
  have hcost : costO L B (.c s.1 b) = some (L.getD (254 + s.1) 0 + w) := (cost_c hL hB).mpr ⟨c5, by rw [hlog]; exact d2, by rw [hlog, ew]⟩
  have hw0 : w ≤ w0 := by
    rcases hfirst w0 l0 c1 c3 with q | ⟨q, _⟩ <;> omega
  obtain ⟨c', f1, f2⟩ := fold_min (cs := cs) (p := p) (acc := (none, none)) hmem hcost (show cs (p + s.1) = some r from hr)
  have f1 : (bestF L B cs p (itemsF e h (min 18 n))).1 = some c' := f1
  rw [hb] at f1
  obtain rfl := Option.some.inj f1
  have htot : L.getD (254 + s.1) 0 + w + r = c := by omega
  refine best_is hb hmem ?_ (fun x mx tx => ?_) (fun k ek => by cases ek)
  · unfold totO
    rw [hcost, show cs (p + lenI (Itm.c s.1 b)) = some r from hr]
    exact congrArg some htot
  · obtain ⟨a2, r2, ha2, hr2, et⟩ := tot_some tx
    obtain ⟨s2, hs2, q1, q2⟩ := S.all x mx a2 ha2
    obtain ⟨it3, m3, q3, q4⟩ := S.of s2 hs2
    obtain ⟨c3', f3, f4⟩ := fold_min (cs := cs) (p := p) (acc := (none, none)) m3 q4 (by rw [q3, q1]; exact hr2)
    have f3 : (bestF L B cs p (itemsF e h (min 18 n))).1 = some c3' := f3
    rw [hb] at f3
    obtain rfl := Option.some.inj f3
    have hin : s2.1 ∈ takenF (stepsF L R n ch (e.getD h 0)) cs p c := mem_taken.mpr ⟨s2, hs2, rfl, r2, by rw [q1]; exact hr2, by omega⟩
    cases x with
    | b k =>
      have q1 : s2.1 = 1 := q1
      rw [q1] at hin
      exact absurd hin h1
    | c m2 b2 =>
      have q1 : s2.1 = m2 := q1
      rw [q1] at hin
      have hle := hmax m2 hin
      show m2 < s.1 ∨ (m2 = s.1 ∧ b ≤ b2)
      by_cases em : m2 = s.1
      · refine .inr ⟨em, ?_⟩
        subst em
        obtain ⟨_, r1, r2', _, _, _, r6, r7⟩ := item_reach hR hn mx
        obtain ⟨_, p2, p3⟩ := (cost_c hL hB).mp ha2
        have hr2' : cs (p + s.1) = some r2 := hr2
        rw [hr] at hr2'
        obtain rfl := Option.some.inj hr2'
        have lg := log_in r6
        have b2le : b2 ≤ min 1024 h := ((item_mem (by omega)).mp mx).2.2.2.1
        rcases hfirst _ _ ((C.mem (B.getD (Nat.log2 b2) 0 + (Nat.log2 b2 : Nat)) (Nat.log2 b2)).mpr ⟨r2', p2, rfl⟩) r1 with q | ⟨_, q⟩
        · omega
        · have : 2 ^ l ≤ 2 ^ Nat.log2 b2 := Nat.pow_le_pow_right (by decide) q
          exact g5 b2 (by omega) b2le r7
      · exact .inl (by omega)
end
end K4

namespace K4
open PySem PySem.Spec PyProof.Rows L2
/-! ### what can be copied at a place, by letters of backs; masks; worths: pure -/
def FARn : Int := 1000000000
def lb (L : List Int) (k : Nat) : Int := if 0 < L.getD k 0 then L.getD k 0 else FARn
structure Rch (e : List Nat) (h : Nat) (R : List Nat) : Prop where
  len : R.length = 11
  top : ∀ x ∈ R, x ≤ 18
  low : ∀ x ∈ R, x = 0 ∨ 3 ≤ x
  iff_ : ∀ l, l < 11 → ∀ m, 3 ≤ m → m ≤ 18 → (m ≤ R.getD l 0 ↔ ∃ b, 2 ^ l ≤ b ∧ b < 2 ^ (l + 1) ∧ b ≤ min 1024 h ∧ m ≤ rn e h b)
def maxR : List Nat → Nat
  | [] => 0
  | x :: r => max x (maxR r)
def maskN (R : List Nat) (m : Nat) : Nat → Nat
  | 0 => 0
  | l + 1 => maskN R m l + (if m ≤ R.getD l 0 then 2 ^ l else 0)
def endN (R : List Nat) (m : Nat) : Nat → Nat
  | 0 => 0
  | l + 1 => endN R m l + (if R.getD l 0 = m then 2 ^ l else 0)
def wO (B : List Int) (l : Nat) : Int := if 0 < B.getD l 0 then B.getD l 0 + (l : Int) else FARn
def minW (B : List Int) (R : List Nat) (m : Nat) : Nat → Int
  | 0 => FARn
  | l + 1 => if m ≤ R.getD l 0 then (if wO B l < minW B R m l then wO B l else minW B R m l) else minW B R m l
def worthT (B : List Int) : Nat → List Int
  | 0 => [FARn]
  | l + 1 => worthT B l ++ (worthT B l).map fun o => if wO B l < o then wO B l else o
def prsR (R : List Nat) : List (Nat × Nat) := (List.range' 3 (maxR R + 1 - 3)).map fun m => (m, maskN R m 11)
def stepsR (L B : List Int) (R : List Nat) (k : Nat) : List (Nat × Int) := (1, lb L k) :: (prsR R).map fun s => (s.1, lb L (254 + s.1) + minW B R s.1 11)
def useR (L B : List Int) (R : List Nat) (k n : Nat) : List (Nat × Int) := (stepsR L B R k).filter fun s => decide (s.2 < FARn) && decide (s.1 ≤ n)
theorem maskN_lt (R : List Nat) (m : Nat) : ∀ l, maskN R m l < 2 ^ l
  | 0 => (by decide : (0 : Nat) < 1)
  | l + 1 => by
    have ih := maskN_lt R m l
    show maskN R m l + (if m ≤ R.getD l 0 then 2 ^ l else 0) < 2 ^ (l + 1)
    rw [Nat.pow_succ]
    split <;> omega
theorem mask_end (R : List Nat) (m : Nat) : ∀ l, maskN R m l = maskN R (m + 1) l + endN R m l
  | 0 => rfl
  | l + 1 => by
    have ih := mask_end R m l
    show maskN R m l + (if m ≤ R.getD l 0 then 2 ^ l else 0) = (maskN R (m + 1) l + (if m + 1 ≤ R.getD l 0 then 2 ^ l else 0)) + (endN R m l + (if R.getD l 0 = m then 2 ^ l else 0))
    by_cases h1 : R.getD l 0 = m
    · rw [if_pos h1, if_pos (by omega), if_neg (by omega)]
      omega
    · rw [if_neg h1]
      by_cases h2 : m ≤ R.getD l 0
      · rw [if_pos h2, if_pos (by omega)]
        omega
      · rw [if_neg h2, if_neg (by omega)]
        omega
theorem le_maxR : ∀ {R : List Nat} {x : Nat}, x ∈ R → x ≤ maxR R
  | y :: r, x, m => by
    show x ≤ max y (maxR r)
    rcases List.mem_cons.mp m with rfl | m
    · omega
    · have := le_maxR m
      omega
theorem maxR_mem : ∀ {R : List Nat}, R ≠ [] → maxR R ∈ R
  | [x], _ => by
    show max x 0 ∈ [x]
    rw [Nat.max_eq_left (Nat.zero_le _)]
    exact List.mem_singleton_self _
  | x :: y :: r, _ => by
    have ih := maxR_mem (R := y :: r) (by simp)
    show max x (maxR (y :: r)) ∈ x :: y :: r
    by_cases q : x ≤ maxR (y :: r)
    · rw [Nat.max_eq_right q]
      exact List.mem_cons_of_mem _ ih
    · rw [Nat.max_eq_left (by omega)]
      exact List.mem_cons_self ..
theorem getD_mem {R : List Nat} {l : Nat} (h : l < R.length) : R.getD l 0 ∈ R := by
  rw [List.getD_eq_getElem?_getD, List.getElem?_eq_getElem h]
  exact List.getElem_mem h
theorem mask_top {R : List Nat} {m : Nat} (h : maxR R < m) : ∀ l, maskN R m l = 0
  | 0 => rfl
  | l + 1 => by
    have hl : R.getD l 0 < m := by
      by_cases q : l < R.length
      · have := le_maxR (getD_mem q)
        omega
      · rw [List.getD_eq_getElem?_getD, List.getElem?_eq_none (by omega)]
        show 0 < m
        omega
    show maskN R m l + (if m ≤ R.getD l 0 then 2 ^ l else 0) = 0
    rw [mask_top h l, if_neg (by omega)]
/-- a letter's bit in a mask -/
theorem mask_bit (R : List Nat) (m l : Nat) : ∀ n, l < n → ((maskN R m n / 2 ^ l) % 2 = 1 ↔ m ≤ R.getD l 0)
  | n + 1, h => by
    show ((maskN R m n + (if m ≤ R.getD n 0 then 2 ^ n else 0)) / 2 ^ l) % 2 = 1 ↔ _
    have hl := maskN_lt R m n
    by_cases e : l = n
    · subst e
      have hp : 0 < 2 ^ l := Nat.pow_pos (by decide)
      by_cases q : m ≤ R.getD l 0
      · rw [if_pos q, Nat.add_div_right _ hp, Nat.div_eq_of_lt hl]
        exact ⟨fun _ => q, fun _ => rfl⟩
      · rw [if_neg q, Nat.add_zero, Nat.div_eq_of_lt hl]
        exact ⟨fun z => (by cases z), fun z => absurd z q⟩
    · have ih := mask_bit R m l n (by omega)
      rw [← ih]
      obtain ⟨d, hd⟩ : ∃ d, n = l + 1 + d := ⟨n - (l + 1), by omega⟩
      have e2 : (maskN R m n + (if m ≤ R.getD n 0 then 2 ^ n else 0)) / 2 ^ l % 2 = maskN R m n / 2 ^ l % 2 := by
        split
        · have e3 : 2 ^ n = 2 ^ l * (2 * 2 ^ d) := by
            rw [hd, Nat.pow_add, Nat.pow_add, Nat.pow_one, Nat.mul_assoc]
          rw [e3, Nat.add_mul_div_left _ _ (Nat.pow_pos (by decide)), Nat.add_mul_mod_self_left]
        · rfl
      rw [e2]
theorem worth_len (B : List Int) : ∀ l, (worthT B l).length = 2 ^ l
  | 0 => rfl
  | l + 1 => by
    show (worthT B l ++ (worthT B l).map _).length = 2 ^ (l + 1)
    rw [List.length_append, List.length_map, worth_len B l, Nat.pow_succ]
    omega
theorem worth_at (B : List Int) (R : List Nat) (m : Nat) : ∀ l, (worthT B l).getD (maskN R m l) 0 = minW B R m l
  | 0 => rfl
  | l + 1 => by
    have ih := worth_at B R m l
    have hl := maskN_lt R m l
    have hn := worth_len B l
    show (worthT B l ++ (worthT B l).map fun o => if wO B l < o then wO B l else o).getD (maskN R m l + (if m ≤ R.getD l 0 then 2 ^ l else 0)) 0 = (if m ≤ R.getD l 0 then (if wO B l < minW B R m l then wO B l else minW B R m l) else minW B R m l)
    by_cases q : m ≤ R.getD l 0
    · rw [if_pos q, if_pos q, List.getD_eq_getElem?_getD, List.getElem?_append_right (by omega), hn, Nat.add_sub_cancel, List.getElem?_map]
      rw [List.getD_eq_getElem?_getD, List.getElem?_eq_getElem (by omega)] at ih
      rw [List.getElem?_eq_getElem (by omega)]
      have ih : (worthT B l)[maskN R m l]'(by omega) = minW B R m l := ih
      show (if wO B l < (worthT B l)[maskN R m l]'(by omega) then wO B l else (worthT B l)[maskN R m l]'(by omega)) = _
      rw [ih]
    · rw [if_neg q, if_neg q, Nat.add_zero, List.getD_eq_getElem?_getD, List.getElem?_append_left (by omega), ← List.getD_eq_getElem?_getD]
      exact ih
theorem minW_top (B : List Int) (R : List Nat) (m : Nat) : ∀ l, minW B R m l ≤ FARn
  | 0 => Int.le_refl _
  | l + 1 => by
    have ih := minW_top B R m l
    show (if m ≤ R.getD l 0 then (if wO B l < minW B R m l then wO B l else minW B R m l) else minW B R m l) ≤ FARn
    split
    · split <;> omega
    · exact ih
theorem minW_le (B : List Int) (R : List Nat) (m : Nat) {i : Nat} (h : m ≤ R.getD i 0) : ∀ l, i < l → minW B R m l ≤ wO B i
  | l + 1, hl => by
    show (if m ≤ R.getD l 0 then (if wO B l < minW B R m l then wO B l else minW B R m l) else minW B R m l) ≤ wO B i
    by_cases e : i = l
    · subst e
      rw [if_pos h]
      split <;> omega
    · have ih := minW_le B R m h l (by omega)
      split
      · split <;> omega
      · exact ih
theorem minW_is (B : List Int) (R : List Nat) (m : Nat) : ∀ l, minW B R m l = FARn ∨ ∃ i, i < l ∧ m ≤ R.getD i 0 ∧ minW B R m l = wO B i
  | 0 => .inl rfl
  | l + 1 => by
    have ih := minW_is B R m l
    show (if m ≤ R.getD l 0 then (if wO B l < minW B R m l then wO B l else minW B R m l) else minW B R m l) = FARn ∨ ∃ i, i < l + 1 ∧ m ≤ R.getD i 0 ∧ (if m ≤ R.getD l 0 then (if wO B l < minW B R m l then wO B l else minW B R m l) else minW B R m l) = wO B i
    have old : (minW B R m l = FARn ∨ ∃ i, i < l + 1 ∧ m ≤ R.getD i 0 ∧ minW B R m l = wO B i) := by
      rcases ih with h | ⟨i, h1, h2, h3⟩
      · exact .inl h
      · exact .inr ⟨i, by omega, h2, h3⟩
    by_cases q : m ≤ R.getD l 0
    · rw [if_pos q]
      by_cases q2 : wO B l < minW B R m l
      · rw [if_pos q2]
        exact .inr ⟨l, Nat.lt_succ_self _, q, rfl⟩
      · rw [if_neg q2]
        exact old
    · rw [if_neg q]
      exact old
theorem wO_nn {B : List Int} (hB : ∀ x ∈ B, 0 ≤ x) (l : Nat) : 0 ≤ wO B l := by
  unfold wO FARn
  split <;> omega
theorem minW_nn {B : List Int} (hB : ∀ x ∈ B, 0 ≤ x) (R : List Nat) (m l : Nat) : 0 ≤ minW B R m l := by
  rcases minW_is B R m l with h | ⟨i, _, _, h⟩
  · rw [h]
    decide
  · rw [h]
    exact wO_nn hB i
theorem lb_nn {L : List Int} (k : Nat) : 0 ≤ lb L k := by
  unfold lb FARn
  split <;> omega
theorem mem_stepsR {L B : List Int} {R : List Nat} {k : Nat} {s : Nat × Int} : s ∈ stepsR L B R k ↔ s = (1, lb L k) ∨ (3 ≤ s.1 ∧ s.1 ≤ maxR R ∧ s.2 = lb L (254 + s.1) + minW B R s.1 11) := by
  unfold stepsR prsR
  rw [List.mem_cons, List.map_map, List.mem_map]
  constructor
  · rintro (h | ⟨m, hm, rfl⟩)
    · exact .inl h
    · obtain ⟨h1, h2⟩ := List.mem_range'_1.mp hm
      exact .inr ⟨h1, by show m ≤ _; omega, rfl⟩
  · rintro (h | ⟨h1, h2, h3⟩)
    · exact .inl h
    · exact .inr ⟨s.1, List.mem_range'_1.mpr ⟨h1, by omega⟩, Prod.ext rfl h3.symm⟩
section
variable {e : List Nat} {h n p : Nat} {L B : List Int} {R : List Nat} {ch : List (Int × Nat)} {cs : Nat → Option Int} {c : Int}
theorem Rch.le18 (hR : Rch e h R) {l : Nat} (hl : l < 11) : R.getD l 0 ≤ 18 := hR.top _ (getD_mem (by rw [hR.len]; exact hl))
theorem Rch.max18 (hR : Rch e h R) : maxR R ≤ 18 := hR.top _ (maxR_mem fun z => by
  have := hR.len
  rw [z] at this
  cases this)
theorem rch_item (hR : Rch e h R) (hn : n ≤ e.length - h) {l m : Nat} (hl : l < 11) (h3 : 3 ≤ m) (hm : m ≤ R.getD l 0) (hmn : m ≤ n) : ∃ b, Itm.c m b ∈ itemsF e h (min 18 n) ∧ 2 ^ l ≤ b ∧ b < 2 ^ (l + 1) ∧ m ≤ rn e h b ∧ b ≤ min 1024 h ∧ m ≤ 18 := by
  have h18 : m ≤ 18 := Nat.le_trans hm (hR.le18 hl)
  obtain ⟨b, b1, b2, b3, b4⟩ := (hR.iff_ l hl m (by omega) h18).mp hm
  have bp : 1 ≤ b := by
    have : 0 < 2 ^ l := Nat.pow_pos (by decide)
    omega
  exact ⟨b, (item_mem (by omega)).mpr ⟨h3, by omega, bp, b3, b4⟩, b1, b2, b4, b3, h18⟩
theorem item_rch (hR : Rch e h R) (hn : n ≤ e.length - h) {m b : Nat} (hi : Itm.c m b ∈ itemsF e h (min 18 n)) : m ≤ R.getD (Nat.log2 b) 0 ∧ Nat.log2 b < 11 ∧ 3 ≤ m ∧ m ≤ n ∧ m ≤ 18 ∧ 1 ≤ b ∧ m ≤ rn e h b := by
  obtain ⟨h1, h2, h3, h4, h5⟩ := (item_mem (by omega)).mp hi
  have hl := log_11 h3 (by omega)
  have lg := log_in h3
  exact ⟨(hR.iff_ _ hl m (by omega) (by omega)).mpr ⟨b, lg.1, lg.2, h4, h5⟩, hl, h1, by omega, by omega, h3, h5⟩
/-- what a step that can be used says -/
theorem use_copy (hB : ∀ x ∈ B, 0 ≤ x) {m : Nat} (hf : lb L (254 + m) + minW B R m 11 < FARn) : 0 < L.getD (254 + m) 0 ∧ lb L (254 + m) = L.getD (254 + m) 0 ∧ ∃ l, l < 11 ∧ m ≤ R.getD l 0 ∧ 0 < B.getD l 0 ∧ minW B R m 11 = B.getD l 0 + (l : Int) := by
  have h1 := minW_nn hB R m 11
  have h2 := lb_nn (L := L) (254 + m)
  have hL : 0 < L.getD (254 + m) 0 := by
    by_cases q : 0 < L.getD (254 + m) 0
    · exact q
    · have : lb L (254 + m) = FARn := if_neg q
      omega
  refine ⟨hL, if_pos hL, ?_⟩
  rcases minW_is B R m 11 with q | ⟨l, q1, q2, q3⟩
  · omega
  · have : 0 < B.getD l 0 := by
      by_cases z : 0 < B.getD l 0
      · exact z
      · have : wO B l = FARn := if_neg z
        omega
    exact ⟨l, q1, q2, this, q3.trans (if_pos this)⟩
theorem mem_useR {k : Nat} {s : Nat × Int} : s ∈ useR L B R k n ↔ s ∈ stepsR L B R k ∧ s.2 < FARn ∧ s.1 ≤ n := by
  unfold useR
  rw [List.mem_filter]
  simp only [Bool.and_eq_true, decide_eq_true_eq]
def Len12 (L : List Int) : Prop := ∀ x ∈ L, x ≤ 12
theorem getD_12 {L : List Int} (h : Len12 L) (k : Nat) : L.getD k 0 ≤ 12 := by
  rw [List.getD_eq_getElem?_getD]
  cases q : L[k]? with
  | none => show (0 : Int) ≤ 12; decide
  | some x => exact h x (List.mem_of_getElem? q)
theorem use_ok (hL : ∀ x ∈ L, 0 ≤ x) (hB : ∀ x ∈ B, 0 ≤ x) (hL2 : Len12 L) (hB2 : Len12 B) (hR : Rch e h R) (hn : n ≤ e.length - h) (hn1 : 1 ≤ n) : StepsOk (useR L B R (e.getD h 0) n) (itemsF e h (min 18 n)) L B := by
  refine ⟨fun s hs => ?_, fun it hm a ha => ?_⟩
  · obtain ⟨h1, h2, h3⟩ := mem_useR.mp hs
    rcases mem_stepsR.mp h1 with rfl | ⟨g1, g2, g3⟩
    · have hq : 0 < L.getD (e.getD h 0) 0 := by
        by_cases q : 0 < L.getD (e.getD h 0) 0
        · exact q
        · have : lb L (e.getD h 0) = FARn := if_neg q
          have h2 : lb L (e.getD h 0) < FARn := h2
          omega
      exact ⟨.b (e.getD h 0), List.mem_cons_self .., rfl, cost_b.mpr ⟨hq, if_pos hq⟩⟩
    · rw [g3] at h2
      obtain ⟨q1, q2, l, q3, q4, q5, q6⟩ := use_copy hB h2
      obtain ⟨b, i1, i2, i3, _⟩ := rch_item hR hn q3 g1 q4 h3
      refine ⟨_, i1, rfl, (cost_c hL hB).mpr ⟨q1, ?_, ?_⟩⟩
      · rw [log_of i2 i3]
        exact q5
      · rw [log_of i2 i3, g3, q2, q6]
  · cases it with
    | b k =>
      have ek : k = e.getD h 0 := by
        rcases item_says hm with q | ⟨_, _, q, _⟩
        · injection q
        · cases q
      obtain ⟨p1, p2⟩ := cost_b.mp ha
      have h12 := getD_12 hL2 k
      have e1 : lb L k = L.getD k 0 := if_pos p1
      refine ⟨(1, lb L k), mem_useR.mpr ⟨mem_stepsR.mpr (.inl (by rw [← ek])), ?_, hn1⟩, rfl, ?_⟩
      · show lb L k < FARn
        unfold FARn
        omega
      · show lb L k ≤ a
        omega
    | c m b =>
      obtain ⟨r1, r2, r3, r4, r5, r6, _⟩ := item_rch hR hn hm
      obtain ⟨p1, p2, p3⟩ := (cost_c hL hB).mp ha
      have e1 : lb L (254 + m) = L.getD (254 + m) 0 := if_pos p1
      have e2 := minW_le B R m r1 11 r2
      have e3 : wO B (Nat.log2 b) = B.getD (Nat.log2 b) 0 + (Nat.log2 b : Nat) := if_pos p2
      have g1 := getD_12 hL2 (254 + m)
      have g2 := getD_12 hB2 (Nat.log2 b)
      have hmx : m ≤ maxR R := Nat.le_trans r1 (le_maxR (getD_mem (by rw [hR.len]; exact r2)))
      refine ⟨(m, lb L (254 + m) + minW B R m 11), mem_useR.mpr ⟨mem_stepsR.mpr (.inr ⟨r3, hmx, rfl⟩), ?_, r4⟩, rfl, ?_⟩
      · show lb L (254 + m) + minW B R m 11 < FARn
        unfold FARn
        omega
      · show lb L (254 + m) + minW B R m 11 ≤ a
        omega
theorem stepsR_sorted {k : Nat} : (stepsR L B R k).Pairwise fun a b => a.1 < b.1 := by
  unfold stepsR prsR
  refine List.pairwise_cons.mpr ⟨fun x hx => ?_, ?_⟩
  · rw [List.map_map] at hx
    obtain ⟨m, hm, rfl⟩ := List.mem_map.mp hx
    have := (List.mem_range'_1.mp hm).1
    show 1 < m
    omega
  · rw [List.map_map]
    refine List.pairwise_map.mpr ?_
    exact (List.pairwise_lt_range' (s := 3) (n := maxR R + 1 - 3) (step := 1)).imp fun {a b} h => h
theorem use_sorted {k : Nat} : (useR L B R k n).Pairwise fun a b => a.1 < b.1 := stepsR_sorted.sublist List.filter_sublist
/-! a row's first item -/
theorem use_byte (hL : ∀ x ∈ L, 0 ≤ x) (hB : ∀ x ∈ B, 0 ≤ x) (hL2 : Len12 L) (hB2 : Len12 B) (hR : Rch e h R) (hn : n ≤ e.length - h) (hn1 : 1 ≤ n) (hb : (bestF L B cs p (itemsF e h (min 18 n))).1 = some c) (h1 : 1 ∈ takenF (useR L B R (e.getD h 0) n) cs p c) :
    (bestF L B cs p (itemsF e h (min 18 n))).2 = some (.b (e.getD h 0)) := by
  obtain ⟨s, hs, e1, r, hr, e2⟩ := mem_taken.mp h1
  obtain ⟨it, m, e3, e4⟩ := (use_ok hL hB hL2 hB2 hR hn hn1).of s hs
  have hit : it = .b (e.getD h 0) := by
    rcases item_says m with q | ⟨k, b, q, _⟩
    · exact q
    · subst q
      obtain ⟨q1, _⟩ := (item_mem (by omega)).mp m
      have e3 : k = s.1 := e3
      omega
  subst hit
  refine best_is hb m ?_ (fun x _ _ => trivial) (fun k ek => by injection ek with ek; exact ek.symm)
  unfold totO
  rw [e4, show cs (p + lenI (Itm.b (e.getD h 0))) = some r from hr]
  exact congrArg some e2
theorem use_some (S : StepsOk (useR L B R (e.getD h 0) n) (itemsF e h (min 18 n)) L B) (hb : (bestF L B cs p (itemsF e h (min 18 n))).1 = some c) : takenF (useR L B R (e.getD h 0) n) cs p c ≠ [] := by
  obtain ⟨it, m, _, a, r, ha, hr, rfl⟩ := best_val hb
  obtain ⟨s, hs, e1, e2⟩ := S.all it m a ha
  obtain ⟨it2, m2, e3, e4⟩ := S.of s hs
  obtain ⟨c', h1, h2⟩ := fold_min (cs := cs) (p := p) (acc := (none, none)) m2 e4 (by rw [e3, e1]; exact hr)
  have : (bestF L B cs p (itemsF e h (min 18 n))).1 = some c' := h1
  rw [hb] at this
  have := Option.some.inj this
  have hmem : s.1 ∈ takenF (useR L B R (e.getD h 0) n) cs p (a + r) := mem_taken.mpr ⟨s, hs, rfl, r, by rw [e1]; exact hr, by omega⟩
  intro z
  rw [z] at hmem
  cases hmem
theorem use_copy_is (hL : ∀ x ∈ L, 0 ≤ x) (hB : ∀ x ∈ B, 0 ≤ x) (hL2 : Len12 L) (hB2 : Len12 B) (C : CheapOk ch B) (hR : Rch e h R) (hn : n ≤ e.length - h) (hn1 : 1 ≤ n) (hb : (bestF L B cs p (itemsF e h (min 18 n))).1 = some c) (h1 : 1 ∉ takenF (useR L B R (e.getD h 0) n) cs p c) {m : Nat} (hm : m ∈ takenF (useR L B R (e.getD h 0) n) cs p c) (hmax : ∀ x ∈ takenF (useR L B R (e.getD h 0) n) cs p c, x ≤ m) :
    m ≠ 1 ∧ 3 ≤ m ∧ m ≤ 18 ∧ m ≤ n ∧ (∃ w l, (w, l) ∈ ch ∧ m ≤ R.getD l 0) ∧ ∀ w l, (w, l) ∈ ch → m ≤ R.getD l 0 → (∀ w' l', (w', l') ∈ ch → m ≤ R.getD l' 0 → w < w' ∨ (w = w' ∧ l ≤ l')) → (∃ b, 2 ^ l ≤ b ∧ b < 2 ^ (l + 1) ∧ b ≤ min 1024 h ∧ m ≤ rn e h b) ∧
      ∀ b, 2 ^ l ≤ b → b < 2 ^ (l + 1) → b ≤ min 1024 h → m ≤ rn e h b → (∀ b', 2 ^ l ≤ b' → b' ≤ min 1024 h → m ≤ rn e h b' → b ≤ b') → (bestF L B cs p (itemsF e h (min 18 n))).2 = some (.c m b) := by
  have S := use_ok (n := n) hL hB hL2 hB2 hR hn hn1
  have hm1 : m ≠ 1 := fun z => h1 (z ▸ hm)
  obtain ⟨s, hs, rfl, r, hr, e2⟩ := mem_taken.mp hm
  obtain ⟨hs1, hs2, c4⟩ := mem_useR.mp hs
  obtain ⟨c2, _, hs3⟩ : 3 ≤ s.1 ∧ s.1 ≤ maxR R ∧ s.2 = lb L (254 + s.1) + minW B R s.1 11 := by
    rcases mem_stepsR.mp hs1 with q | q
    · exact absurd (congrArg Prod.fst q) hm1
    · exact q
  rw [hs3] at hs2
  obtain ⟨c5, c5', l0, hl0, c3, hB0, hw⟩ := use_copy hB hs2
  have c1 : (B.getD l0 0 + (l0 : Int), l0) ∈ ch := (C.mem _ _).mpr ⟨hl0, hB0, rfl⟩
  obtain ⟨_, _, _, _, _, _, d18⟩ := rch_item hR hn hl0 c2 c3 c4
  refine ⟨hm1, c2, d18, c4, ⟨_, l0, c1, c3⟩, fun w l hwl hRl hfirst => ?_⟩
  obtain ⟨d1, d2, ew⟩ := (C.mem w l).mp hwl
  obtain ⟨b0, i1, i2, i3, i4, i5, _⟩ := rch_item hR hn d1 c2 hRl c4
  refine ⟨⟨b0, i2, i3, i5, i4⟩, fun b g1 g2 g3 g4 g5 => ?_⟩
  have bp : 1 ≤ b := by
    have : 0 < 2 ^ l := Nat.pow_pos (by decide)
    omega
  have hmem : Itm.c s.1 b ∈ itemsF e h (min 18 n) := (item_mem (by omega)).mpr ⟨c2, by omega, bp, g3, g4⟩
  have hlog := log_of g1 g2
  have hcost : costO L B (.c s.1 b) = some (L.getD (254 + s.1) 0 + w) := (cost_c hL hB).mpr ⟨c5, by rw [hlog]; exact d2, by rw [hlog, ew]⟩
  have hw0 : w ≤ B.getD l0 0 + (l0 : Int) := by
    rcases hfirst _ l0 c1 c3 with q | ⟨q, _⟩ <;> omega
  have hs2e : s.2 = L.getD (254 + s.1) 0 + (B.getD l0 0 + (l0 : Int)) := by rw [hs3, c5', hw]
  obtain ⟨c', f1, f2⟩ := fold_min (cs := cs) (p := p) (acc := (none, none)) hmem hcost (show cs (p + s.1) = some r from hr)
  have f1 : (bestF L B cs p (itemsF e h (min 18 n))).1 = some c' := f1
  rw [hb] at f1
  obtain rfl := Option.some.inj f1
  have htot : L.getD (254 + s.1) 0 + w + r = c := by omega
  refine best_is hb hmem ?_ (fun x mx tx => ?_) (fun k ek => by cases ek)
  · unfold totO
    rw [hcost, show cs (p + lenI (Itm.c s.1 b)) = some r from hr]
    exact congrArg some htot
  · obtain ⟨a2, r2, ha2, hr2, et⟩ := tot_some tx
    obtain ⟨s2, hs2, q1, q2⟩ := S.all x mx a2 ha2
    obtain ⟨it3, m3, q3, q4⟩ := S.of s2 hs2
    obtain ⟨c3', f3, f4⟩ := fold_min (cs := cs) (p := p) (acc := (none, none)) m3 q4 (by rw [q3, q1]; exact hr2)
    have f3 : (bestF L B cs p (itemsF e h (min 18 n))).1 = some c3' := f3
    rw [hb] at f3
    obtain rfl := Option.some.inj f3
    have hin : s2.1 ∈ takenF (useR L B R (e.getD h 0) n) cs p c := mem_taken.mpr ⟨s2, hs2, rfl, r2, by rw [q1]; exact hr2, by omega⟩
    cases x with
    | b k =>
      have q1 : s2.1 = 1 := q1
      rw [q1] at hin
      exact absurd hin h1
    | c m2 b2 =>
      have q1 : s2.1 = m2 := q1
      rw [q1] at hin
      have hle := hmax m2 hin
      show m2 < s.1 ∨ (m2 = s.1 ∧ b ≤ b2)
      by_cases em : m2 = s.1
      · refine .inr ⟨em, ?_⟩
        subst em
        obtain ⟨r1, r2', _, _, _, r6, r7⟩ := item_rch hR hn mx
        obtain ⟨_, p2, p3⟩ := (cost_c hL hB).mp ha2
        have hr2' : cs (p + s.1) = some r2 := hr2
        rw [hr] at hr2'
        obtain rfl := Option.some.inj hr2'
        have lg := log_in r6
        have b2le : b2 ≤ min 1024 h := ((item_mem (by omega)).mp mx).2.2.2.1
        rcases hfirst _ _ ((C.mem (B.getD (Nat.log2 b2) 0 + (Nat.log2 b2 : Nat)) (Nat.log2 b2)).mpr ⟨r2', p2, rfl⟩) r1 with q | ⟨_, q⟩
        · omega
        · have : 2 ^ l ≤ 2 ^ Nat.log2 b2 := Nat.pow_le_pow_right (by decide) q
          exact g5 b2 (by omega) b2le r7
      · exact .inl (by omega)
/-! the least, told by a number that stands for none -/
def enc : Option Int → Int
  | none => FARn
  | some c => c
def minS (L B : List Int) (R : List Nat) (k : Nat) (f : Nat → Int) : Int := (stepsR L B R k).foldl (fun b s => if s.2 + f s.1 < b then s.2 + f s.1 else b) FARn
theorem fold_small (f : Nat → Int) : ∀ (l : List (Nat × Int)) (a : Int), l.foldl (fun b s => if s.2 + f s.1 < b then s.2 + f s.1 else b) a ≤ a ∧ (∀ s ∈ l, l.foldl (fun b s => if s.2 + f s.1 < b then s.2 + f s.1 else b) a ≤ s.2 + f s.1) ∧ (l.foldl (fun b s => if s.2 + f s.1 < b then s.2 + f s.1 else b) a = a ∨ ∃ s ∈ l, l.foldl (fun b s => if s.2 + f s.1 < b then s.2 + f s.1 else b) a = s.2 + f s.1)
  | [], a => ⟨Int.le_refl _, fun s m => (by cases m), .inl rfl⟩
  | x :: r, a => by
    obtain ⟨h1, h2, h3⟩ := fold_small f r (if x.2 + f x.1 < a then x.2 + f x.1 else a)
    rw [List.foldl_cons]
    have hx : (if x.2 + f x.1 < a then x.2 + f x.1 else a) ≤ a ∧ (if x.2 + f x.1 < a then x.2 + f x.1 else a) ≤ x.2 + f x.1 ∧ ((if x.2 + f x.1 < a then x.2 + f x.1 else a) = a ∨ (if x.2 + f x.1 < a then x.2 + f x.1 else a) = x.2 + f x.1) := by
      split <;> omega
    refine ⟨by omega, fun s m => ?_, ?_⟩
    · rcases List.mem_cons.mp m with rfl | m
      · omega
      · exact h2 s m
    · rcases h3 with h3 | ⟨s, m, h3⟩
      · rcases hx.2.2 with q | q
        · exact .inl (h3.trans q)
        · exact .inr ⟨x, List.mem_cons_self .., h3.trans q⟩
      · exact .inr ⟨s, List.mem_cons_of_mem _ m, h3⟩
theorem enc_best (hL : ∀ x ∈ L, 0 ≤ x) (hB : ∀ x ∈ B, 0 ≤ x) (hL2 : Len12 L) (hB2 : Len12 B) (hR : Rch e h R) (hn : n ≤ e.length - h) (hn1 : 1 ≤ n) {f : Nat → Int} (hf : ∀ m, f m = enc (cs (p + m))) (hc0 : ∀ q c, cs q = some c → 0 ≤ c) (hfar : ∀ q, p + n < q → cs q = none) (hbd : ∀ c, (bestF L B cs p (itemsF e h (min 18 n))).1 = some c → c < FARn) :
    minS L B R (e.getD h 0) f = enc (bestF L B cs p (itemsF e h (min 18 n))).1 := by
  have S := use_ok (n := n) hL hB hL2 hB2 hR hn hn1
  obtain ⟨h1, h2, h3⟩ := fold_small f (stepsR L B R (e.getD h 0)) FARn
  have h1 : minS L B R (e.getD h 0) f ≤ FARn := h1
  have h2 : ∀ s ∈ stepsR L B R (e.getD h 0), minS L B R (e.getD h 0) f ≤ s.2 + f s.1 := h2
  have h3 : minS L B R (e.getD h 0) f = FARn ∨ ∃ s ∈ stepsR L B R (e.getD h 0), minS L B R (e.getD h 0) f = s.2 + f s.1 := h3
  generalize minS L B R (e.getD h 0) f = v at *
  have hs0 : ∀ s ∈ stepsR L B R (e.getD h 0), 0 ≤ s.2 := fun s m => by
    rcases mem_stepsR.mp m with rfl | ⟨_, _, q⟩
    · exact lb_nn _
    · rw [q]
      have := lb_nn (L := L) (254 + s.1)
      have := minW_nn hB R s.1 11
      omega
  have hy : ∀ y ∈ foundF (useR L B R (e.getD h 0) n) cs p, v ≤ y := fun y m => by
    obtain ⟨s, hs, r, hr, rfl⟩ := mem_found.mp m
    have := h2 s (mem_useR.mp hs).1
    rw [hf, hr] at this
    exact this
  by_cases hv : v < FARn
  · obtain ⟨s, hs, ev⟩ : ∃ s ∈ stepsR L B R (e.getD h 0), v = s.2 + f s.1 := by
      rcases h3 with h3 | h3
      · omega
      · exact h3
    have := hs0 s hs
    rw [hf] at ev
    cases hr : cs (p + s.1) with
    | none =>
      rw [hr] at ev
      have ev : v = s.2 + FARn := ev
      omega
    | some r =>
      rw [hr] at ev
      have ev : v = s.2 + r := ev
      have hr0 := hc0 _ _ hr
      have hsn : s.1 ≤ n := by
        by_cases q : s.1 ≤ n
        · exact q
        · rw [hfar (p + s.1) (by omega)] at hr
          cases hr
      have hm : v ∈ foundF (useR L B R (e.getD h 0) n) cs p := mem_found.mpr ⟨s, mem_useR.mpr ⟨hs, by omega, hsn⟩, r, hr, ev⟩
      rw [few_some S hm hy]
      rfl
  · have ev : v = FARn := by omega
    cases hb : (bestF L B cs p (itemsF e h (min 18 n))).1 with
    | none => exact ev
    | some c =>
      have := hbd c hb
      obtain ⟨it, m, _, a, r, ha, hr, rfl⟩ := best_val hb
      obtain ⟨s, hs, e1, e2⟩ := S.all it m a ha
      have := hy (s.2 + r) (mem_found.mpr ⟨s, hs, r, by rw [e1]; exact hr, rfl⟩)
      omega
end
/-! tables are bounded -/
theorem cost_34 {L B : List Int} (hL : ∀ x ∈ L, 0 ≤ x) (hB : ∀ x ∈ B, 0 ≤ x) (hL2 : Len12 L) (hB2 : Len12 B) {it : Itm} (ok : ItmOk it) {a : Int} (h : costO L B it = some a) : a ≤ 34 := by
  cases it with
  | b k =>
    obtain ⟨_, rfl⟩ := cost_b.mp h
    have := getD_12 hL2 k
    omega
  | c m b =>
    obtain ⟨_, _, rfl⟩ := (cost_c hL hB).mp h
    obtain ⟨_, _, o3, o4⟩ := ok
    have h1 := getD_12 hL2 (254 + m)
    have h2 := getD_12 hB2 (Nat.log2 b)
    have h3 := log_11 o3 o4
    omega
theorem tab_top {e : List Nat} {lead en : Nat} {L B : List Int} (hk : ∀ k ∈ e, k < 256) (hL : ∀ x ∈ L, 0 ≤ x) (hB : ∀ x ∈ B, 0 ≤ x) (hL2 : Len12 L) (hB2 : Len12 B) : ∀ (d p : Nat) (c : Int), p ≤ en → en - p ≤ d → (tab e lead en L B en p).1 = some c → c ≤ 34 * ((en - p : Nat) : Int)
  | d, p, c, hp, hd, h => by
    by_cases q : p = en
    · subst q
      rw [tab_end] at h
      have := Option.some.inj h
      omega
    · cases d with
      | zero => omega
      | succ d =>
        obtain ⟨it, hm, _, a, r, ha, hr, rfl⟩ := tab_val hk (by omega) h
        obtain ⟨ok, b1, b2⟩ := itemsF_ok hk (by omega) (by omega) hm
        have := cost_34 hL hB hL2 hB2 ok ha
        have := tab_top hk hL hB hL2 hB2 d (p + lenI it) r (by omega) (by omega) hr
        omega
end K4

namespace K4
open PySem PySem.Spec PyProof.Rows L2
/-! ### slices, and where they stand: pure -/
theorem rnGo_all {e : List Nat} {b : Nat} : ∀ (m f h : Nat), m ≤ f → (∀ t, t < m → e.getD (h + t) 0 = e.getD (h + t - b) 0) → m ≤ rnGo e b f h
  | 0, _, _, _, _ => Nat.zero_le _
  | m + 1, f + 1, h, hf, hh => by
    show m + 1 ≤ (if e.getD h 0 = e.getD (h - b) 0 then rnGo e b f (h + 1) + 1 else 0)
    rw [if_pos (show e.getD h 0 = e.getD (h - b) 0 from hh 0 (by omega))]
    have := rnGo_all m f (h + 1) (by omega) fun t ht => by
      have := hh (t + 1) (by omega)
      rw [show h + 1 + t = h + (t + 1) by omega]
      exact this
    omega
theorem rn_iff {e : List Nat} {h b m : Nat} (hm : h + m ≤ e.length) : m ≤ rn e h b ↔ ∀ t, t < m → e.getD (h + t) 0 = e.getD (h + t - b) 0 := by
  constructor
  · intro hr t ht
    have e1 : ml e h b m = m := by rw [ml_rn (by omega)]; omega
    exact mlGo_eq e h b m 0 t (Nat.zero_le _) (by show t < ml e h b m; omega)
  · exact fun hh => rnGo_all m (e.length - h) h (by omega) hh
theorem rnGo_le (e : List Nat) (b : Nat) : ∀ f h, rnGo e b f h ≤ f
  | 0, _ => Nat.le_refl _
  | f + 1, h => by
    show (if e.getD h 0 = e.getD (h - b) 0 then rnGo e b f (h + 1) + 1 else 0) ≤ f + 1
    have := rnGo_le e b f (h + 1)
    split <;> omega
theorem rn_le (e : List Nat) (h b : Nat) : rn e h b ≤ e.length - h := rnGo_le e b _ h
def sliceN (e : List Nat) (i m : Nat) : List Nat := (e.drop i).take m
theorem slice_iff {e : List Nat} {h b m : Nat} (hm : h + m ≤ e.length) (hb : b ≤ h) : sliceN e (h - b) m = sliceN e h m ↔ m ≤ rn e h b := by
  rw [rn_iff hm]
  have g : ∀ (i t : Nat), i + m ≤ e.length → t < m → (sliceN e i m)[t]? = some (e.getD (i + t) 0) := fun i t h1 h2 => by
    unfold sliceN
    rw [List.getElem?_take_of_lt h2, List.getElem?_drop, List.getD_eq_getElem?_getD, List.getElem?_eq_getElem (by omega)]
    rfl
  constructor
  · intro he t ht
    have h1 := g (h - b) t (by omega) ht
    rw [he, g h t hm ht] at h1
    have := Option.some.inj h1
    rw [this]
    congr 1
    omega
  · intro hh
    refine List.ext_getElem? fun t => ?_
    by_cases ht : t < m
    · rw [g (h - b) t (by omega) ht, g h t hm ht, hh t ht]
      congr 2
      omega
    · have l1 : (sliceN e (h - b) m).length ≤ m := by unfold sliceN; rw [List.length_take]; omega
      have l2 : (sliceN e h m).length ≤ m := by unfold sliceN; rw [List.length_take]; omega
      rw [List.getElem?_eq_none (by omega), List.getElem?_eq_none (by omega)]
theorem slice_len (e : List Nat) (i m : Nat) : (sliceN e i m).length = min m (e.length - i) := by
  unfold sliceN
  rw [List.length_take, List.length_drop]
theorem picked_slice (e : List Nat) (i m : Nat) (h : i ≤ e.length) : PySem.W.KBy.picked (byB e) (some (i : Int)) (some ((i + m : Nat) : Int)) = byB (sliceN e i m) := by
  rw [PySem.W.KBc.picked_eq]
  show (((byB e).toList.drop (clipAt (byB e).size (i : Int))).take (clipAt (byB e).size ((i + m : Nat) : Int) - clipAt (byB e).size (i : Int))).toArray = _
  rw [clipAt_nat, clipAt_nat, byB_size, Nat.min_eq_left h]
  unfold byB sliceN
  show (((e.map Nat.toUInt8).drop i).take (min (i + m) e.length - i)).toArray = (((e.drop i).take m).map Nat.toUInt8).toArray
  rw [← List.map_drop, ← List.map_take]
  congr 2
  by_cases q : i + m ≤ e.length
  · rw [Nat.min_eq_left q, Nat.add_sub_cancel_left]
  · rw [Nat.min_eq_right (by omega), List.take_of_length_le (by rw [List.length_drop]; exact Nat.le_refl _), List.take_of_length_le (by rw [List.length_drop]; omega)]
theorem slice_lt {e : List Nat} (hk : ∀ k ∈ e, k < 256) {i m : Nat} : ∀ k ∈ sliceN e i m, k < 256 := fun k h => hk k (List.mem_of_mem_drop (List.mem_of_mem_take h))
theorem byB_get {e : List Nat} (hk : ∀ k ∈ e, k < 256) (i : Nat) : ((e.map Nat.toUInt8).getD i 0).toNat = e.getD i 0 := by
  rw [List.getD_eq_getElem?_getD, List.getD_eq_getElem?_getD, List.getElem?_map]
  cases q : e[i]? with
  | none => rfl
  | some x =>
    have := hk x (List.mem_of_getElem? q)
    show (x.toUInt8).toNat = x
    have ex : x.toUInt8.toNat = x % 256 := UInt8.toNat_ofNat'
    omega
theorem byB_ext (e : List Nat) (i m : Nat) : (byB e).extract i (i + m) = byB (sliceN e i m) := by
  unfold byB sliceN
  apply Array.ext'
  rw [Array.toList_extract]
  show (e.map Nat.toUInt8).extract i (i + m) = ((e.drop i).take m).map Nat.toUInt8
  rw [List.extract_eq_take_drop, Nat.add_sub_cancel_left, List.map_take, List.map_drop]
theorem ext_is {e s : List Nat} (hk : ∀ k ∈ e, k < 256) (hs : ∀ k ∈ s, k < 256) (i : Nat) : ((byB e).extract i (i + (byB s).size) == byB s) = decide (sliceN e i s.length = s) := by
  rw [byB_size, byB_ext]
  by_cases q : sliceN e i s.length = s
  · rw [q, decide_eq_true rfl]
    exact beq_self_eq_true _
  · rw [decide_eq_false q]
    refine Bool.eq_false_iff.mpr fun z => q (byB_inj (slice_lt hk) hs ?_)
    exact eq_of_beq z
/-- what find tells -/
structure FndIs (e s : List Nat) (lo hi : Nat) (o : Option Nat) : Prop where
  no : o = none → ∀ i, lo ≤ i → i + s.length ≤ min e.length hi → sliceN e i s.length ≠ s
  yes : ∀ i, o = some i → lo ≤ i ∧ i + s.length ≤ min e.length hi ∧ sliceN e i s.length = s ∧ ∀ j, lo ≤ j → j < i → sliceN e j s.length ≠ s
structure RfndIs (e s : List Nat) (lo hi : Nat) (o : Option Nat) : Prop where
  no : o = none → ∀ i, lo ≤ i → i + s.length ≤ min e.length hi → sliceN e i s.length ≠ s
  yes : ∀ i, o = some i → lo ≤ i ∧ i + s.length ≤ min e.length hi ∧ sliceN e i s.length = s ∧ ∀ j, i < j → j + s.length ≤ min e.length hi → sliceN e j s.length ≠ s
theorem win_cases (n m lo hi : Nat) : (n.min hi < lo + m ∧ BFX.winN n m (lo : Int) (hi : Int) = none) ∨ (lo + m ≤ n.min hi ∧ BFX.winN n m (lo : Int) (hi : Int) = some (lo, n.min hi)) := by
  unfold BFX.winN
  have e1 : min (n : Int) (hi : Int) = ((n.min hi : Nat) : Int) := by
    show min (n : Int) (hi : Int) = ((min n hi : Nat) : Int)
    omega
  rw [e1]
  by_cases q : n.min hi < lo + m
  · exact .inl ⟨q, if_pos (by omega)⟩
  · refine .inr ⟨by omega, ?_⟩
    rw [if_neg (by omega)]
    rfl
theorem fnd_is {e s : List Nat} (hk : ∀ k ∈ e, k < 256) (hs : ∀ k ∈ s, k < 256) (lo hi : Nat) : FndIs e s lo hi (BFX.fnd (byB e) (byB s) (lo : Int) (hi : Int)) := by
  unfold BFX.fnd
  rw [byB_size, byB_size]
  rcases win_cases e.length s.length lo hi with ⟨h1, h2⟩ | ⟨h1, h2⟩
  · rw [h2]
    refine ⟨fun _ i a b => ?_, fun i z => by cases z⟩
    have b : i + s.length ≤ e.length.min hi := b
    omega
  · rw [h2]
    show FndIs e s lo hi ((((List.range (e.length.min hi + 1 - (lo + (byB s).size))).map (· + lo)).find? fun i => (byB e).extract i (i + (byB s).size) == byB s))
    have hp : (fun i => (byB e).extract i (i + (byB s).size) == byB s) = fun i => decide (sliceN e i s.length = s) := funext fun i => ext_is hk hs i
    rw [hp, byB_size]
    refine ⟨fun z i a b => ?_, fun i z => ?_⟩
    · have b : i + s.length ≤ e.length.min hi := b
      have := List.find?_eq_none.mp z i (List.mem_map.mpr ⟨i - lo, List.mem_range.mpr (by omega), by omega⟩)
      simpa using this
    · obtain ⟨h3, as, bs, h4, h5⟩ := List.find?_eq_some_iff_append.mp z
      have hm : i ∈ (List.range (e.length.min hi + 1 - (lo + s.length))).map (· + lo) := by rw [h4]; simp
      obtain ⟨t, ht, rfl⟩ := List.mem_map.mp hm
      have ht := List.mem_range.mp ht
      refine ⟨by omega, ?_, of_decide_eq_true h3, fun j a b => ?_⟩
      · show t + lo + s.length ≤ e.length.min hi
        omega
      · have hj : j ∈ as := by
          have hso : ((List.range (e.length.min hi + 1 - (lo + s.length))).map (· + lo)).Pairwise (· < ·) := List.pairwise_map.mpr (List.pairwise_lt_range.imp fun {a b} h => by omega)
          have hjm : j ∈ (List.range (e.length.min hi + 1 - (lo + s.length))).map (· + lo) := List.mem_map.mpr ⟨j - lo, List.mem_range.mpr (by omega), by omega⟩
          rw [h4] at hjm hso
          rcases List.mem_append.mp hjm with q | q
          · exact q
          · rcases List.mem_cons.mp q with q | q
            · omega
            · have := (List.pairwise_cons.mp (List.pairwise_append.mp hso).2.1).1 j q
              omega
        have := h5 j hj
        simpa using this
theorem rfnd_is {e s : List Nat} (hk : ∀ k ∈ e, k < 256) (hs : ∀ k ∈ s, k < 256) (lo hi : Nat) : RfndIs e s lo hi (BFX.rfnd (byB e) (byB s) (lo : Int) (hi : Int)) := by
  unfold BFX.rfnd
  rw [byB_size, byB_size]
  rcases win_cases e.length s.length lo hi with ⟨h1, h2⟩ | ⟨h1, h2⟩
  · rw [h2]
    refine ⟨fun _ i a b => ?_, fun i z => by cases z⟩
    have b : i + s.length ≤ e.length.min hi := b
    omega
  · rw [h2]
    show RfndIs e s lo hi ((((List.range (e.length.min hi + 1 - (lo + (byB s).size))).map (· + lo)).reverse.find? fun i => (byB e).extract i (i + (byB s).size) == byB s))
    have hp : (fun i => (byB e).extract i (i + (byB s).size) == byB s) = fun i => decide (sliceN e i s.length = s) := funext fun i => ext_is hk hs i
    rw [hp, byB_size]
    refine ⟨fun z i a b => ?_, fun i z => ?_⟩
    · have b : i + s.length ≤ e.length.min hi := b
      have := List.find?_eq_none.mp z i (List.mem_reverse.mpr (List.mem_map.mpr ⟨i - lo, List.mem_range.mpr (by omega), by omega⟩))
      simpa using this
    · obtain ⟨h3, as, bs, h4, h5⟩ := List.find?_eq_some_iff_append.mp z
      have hm : i ∈ ((List.range (e.length.min hi + 1 - (lo + s.length))).map (· + lo)).reverse := by rw [h4]; simp
      obtain ⟨t, ht, rfl⟩ := List.mem_map.mp (List.mem_reverse.mp hm)
      have ht := List.mem_range.mp ht
      refine ⟨by omega, ?_, of_decide_eq_true h3, fun j a b => ?_⟩
      · show t + lo + s.length ≤ e.length.min hi
        omega
      · have b : j + s.length ≤ e.length.min hi := b
        have hj : j ∈ as := by
          have hso : ((List.range (e.length.min hi + 1 - (lo + s.length))).map (· + lo)).reverse.Pairwise (fun a b => b < a) := List.pairwise_reverse.mpr (List.pairwise_map.mpr (List.pairwise_lt_range.imp fun {a b} h => by omega))
          have hjm : j ∈ ((List.range (e.length.min hi + 1 - (lo + s.length))).map (· + lo)).reverse := List.mem_reverse.mpr (List.mem_map.mpr ⟨j - lo, List.mem_range.mpr (by omega), by omega⟩)
          rw [h4] at hjm hso
          rcases List.mem_append.mp hjm with q | q
          · exact q
          · rcases List.mem_cons.mp q with q | q
            · omega
            · have := (List.pairwise_cons.mp (List.pairwise_append.mp hso).2.1).1 j q
              omega
        have := h5 j hj
        simpa using this
theorem told_lt {o : Option Nat} : PySem.W.KBf.told o < 0 ↔ o = none := by
  cases o with
  | none => exact ⟨fun _ => rfl, fun _ => (by decide : (-1 : Int) < 0)⟩
  | some i => exact ⟨fun z => absurd z (by show ¬ ((i : Int) < 0); omega), fun z => by cases z⟩
/-! what a letter of backs reaches, step by step -/
/-- some back of a letter copies so many -/
def Hits (e : List Nat) (h l m : Nat) : Prop := ∃ b, 2 ^ l ≤ b ∧ b < 2 ^ (l + 1) ∧ b ≤ min 1024 h ∧ m ≤ rn e h b
def farB (l : Nat) : Nat := if l = 10 then 1024 else 2 ^ (l + 1) - 1
theorem farB_iff {l b : Nat} (hl : l < 11) (hb : 2 ^ l ≤ b) : b ≤ farB l ↔ b < 2 ^ (l + 1) ∧ b ≤ 1024 := by
  unfold farB
  by_cases q : l = 10
  · subst q
    rw [if_pos rfl]
    omega
  · rw [if_neg q]
    have h1 : 2 ^ (l + 1) ≤ 2 ^ 10 := Nat.pow_le_pow_right (by decide) (by omega)
    have h2 : 0 < 2 ^ (l + 1) := Nat.pow_pos (by decide)
    omega
/-- the one look at a place: no copies at all -/
theorem none_here {e : List Nat} (hk : ∀ k ∈ e, k < 256) {h : Nat} (hh : h ≤ e.length) {o : Option Nat} (F : FndIs e (sliceN e h 3) (h - 1024) (h + 2) o) (ho : o = none) {l m : Nat} (h3 : 3 ≤ m) : ¬ Hits e h l m := by
  rintro ⟨b, b1, b2, b3, b4⟩
  have r1 := rn_le e h b
  have hs := slice_len e h 3
  have hb0 : 0 < 2 ^ l := Nat.pow_pos (by decide)
  refine F.no ho (h - b) (by omega) ?_ ?_
  · omega
  · rw [hs, Nat.min_eq_left (by omega)]
    exact (slice_iff (by omega) (by omega)).mpr (by omega)
/-- a longer copy: the next place where it stands -/
theorem hit_step {e : List Nat} (hk : ∀ k ∈ e, k < 256) {h l m low : Nat} (hl : l < 11) (hm : h + (m + 1) ≤ e.length) (hlow : h - farB l ≤ low) {o : Option Nat} (hp : 2 ^ l ≤ h)
    (F : FndIs e (sliceN e h (m + 1)) low (h - 2 ^ l + 1 + m) o) (old : ∀ b, 2 ^ l ≤ b → b ≤ farB l → b ≤ h → m + 1 ≤ rn e h b → low ≤ h - b) :
    (o = none → ¬ Hits e h l (m + 1)) ∧ ∀ s, o = some s → low ≤ s ∧ s ≤ h ∧ Hits e h l (m + 1) ∧ ∀ b, 2 ^ l ≤ b → b ≤ farB l → b ≤ h → m + 2 ≤ rn e h b → s ≤ h - b := by
  have hs : (sliceN e h (m + 1)).length = m + 1 := by rw [slice_len]; omega
  have hb0 : 0 < 2 ^ l := Nat.pow_pos (by decide)
  constructor
  · rintro ho ⟨b, b1, b2, b3, b4⟩
    have hf := (farB_iff hl b1).mpr ⟨b2, by omega⟩
    have := old b b1 hf (by omega) b4
    refine F.no ho (h - b) this (by rw [hs]; omega) ?_
    rw [hs]
    exact (slice_iff hm (by omega)).mpr b4
  · intro s hso
    obtain ⟨s1, s2, s3, s4⟩ := F.yes s hso
    rw [hs] at s2 s3
    have eb : s = h - (h - s) := by omega
    have hr : m + 1 ≤ rn e h (h - s) := by
      rw [eb] at s3
      exact (slice_iff hm (by omega)).mp s3
    have hfb := (farB_iff (b := h - s) hl (by omega)).mp (by omega)
    refine ⟨s1, by omega, ⟨h - s, by omega, hfb.1, by omega, hr⟩, fun b b1 b2 b3 b4 => ?_⟩
    by_cases q : s ≤ h - b
    · exact q
    · have h5 := old b b1 b2 b3 (by omega)
      have := s4 (h - b) h5 (by omega)
      rw [hs] at this
      exact absurd ((slice_iff hm b3).mpr (by omega)) this
end K4

namespace ETX
open PySem PySem.Spec PyProof.Rows
open Sem (wp)
open AutoSeq1 (wpAny_loadPart')
/-! ### enumerate(tuple) -/
theorem meets_enumT (l : Addr) (items : Array Value) (n : Nat) (dct : Option Addr) (sl : Array (Option Value)) :
    Meets (Builtin.«enumerate.__new__» ⟨[.type "enumerate", .ref l], []⟩) (fun _ R s => s.heap.get? l = some { cls := .type "tuple", dict := dct, data := .seq items n, slots := sl } ∧
      R (.ok (.ret (.ref (s.heap.push { cls := .type "tuple_iterator", data := .fields #[.ref l, .int 0 0] }).objs.size)))
        { s with heap := (s.heap.push { cls := .type "tuple_iterator", data := .fields #[.ref l, .int 0 0] }).push { cls := .type "enumerate", data := .fields #[.none, .bool false, .ref s.heap.objs.size, rawInt 0, .none, .none] } }) :=
  .of_wp fun prog w A R s h => by
    obtain ⟨hp, g, d, tk, os⟩ := s; obtain ⟨hl, h⟩ := h
    have hsub := sub_enumerate
    have hL : Heap.IsTuple (Shared.heap ⟨hp, g, d, tk, os⟩) l items := ⟨_, hl, rfl, n, rfl⟩
    wp_walk using wpAny_loadPart' hl
    refine wpAny_stack_any fun st => wpAny_pure ?_
    split
    · rename_i c _ _ _ _ _
      cases (c == Value.type "enumerate")
      · wp_walk using wpAny_loadPart' hl, wpAny_pyIter_tuple hL
        exact ⟨_, rfl, h⟩
      · wp_walk using wpAny_loadPart' hl, wpAny_pyIter_tuple hL
        exact ⟨_, rfl, h⟩
    · wp_walk using wpAny_loadPart' hl, wpAny_pyIter_tuple hL
      exact ⟨_, rfl, h⟩
section
variable {prog : Program} {w : World} {A : Around} {E : Value → Shared → Prop} {s : Shared}
theorem call_enumT {l : Addr} {items : Array Value} {Q : Value → Shared → Prop} (hL : s.heap.IsTuple l items)
    (h : ∀ h', IsEnum h' (s.heap.objs.size + 1) s.heap.objs.size 0 .none → h'.IsTupleIter s.heap.objs.size l 0 → h'.objs.size = s.heap.objs.size + 2 →
      (∀ b o, s.heap.get? b = some o → h'.get? b = some o) → Q (.ref (s.heap.objs.size + 1)) { s with heap := h' }) :
    wpAny (model prog w) A (call (.type "enumerate") [.ref l]) Q E s := by
  obtain ⟨⟨c, dct, dt, sl⟩, hl, hc, n, hd⟩ := hL
  replace hc : c = .type "tuple" := hc
  replace hd : dt = .seq items n := hd
  subst hc hd
  refine callType_new F.called_enumerate (by decide) (F.typeCall_enumerate_1 _) (F.newCall_enumerate_1 _) (fun obj => F.args_object_init_2 obj _) F.entry_enumerate_new
    (meets_enumT l items n dct sl) ⟨hl, ?_⟩
  have hz : (s.heap.push { cls := .type "tuple_iterator", data := .fields #[.ref l, .int 0 0] }).objs.size = s.heap.objs.size + 1 := Heap.size_push ..
  show _ ∧ _
  rw [hz]
  have he : IsEnum ((s.heap.push { cls := .type "tuple_iterator", data := .fields #[.ref l, .int 0 0] }).push
      { cls := .type "enumerate", data := .fields #[.none, .bool false, .ref s.heap.objs.size, rawInt 0, .none, .none] }) (s.heap.objs.size + 1) s.heap.objs.size 0 .none := by
    have := Heap.get?_push_size (s.heap.push { cls := .type "tuple_iterator", data := .fields #[.ref l, .int 0 0] })
      (o := { cls := .type "enumerate", data := .fields #[.none, .bool false, .ref s.heap.objs.size, rawInt 0, .none, .none] }) rfl
    rw [hz] at this; exact this
  refine ⟨⟨_, he, rfl⟩, h _ he ⟨_, Heap.get?_push_of_some _ (Heap.get?_push_size _ rfl), rfl, rfl⟩ (by rw [Heap.size_push, hz]) fun b o x => Heap.get?_push_of_some _ (Heap.get?_push_of_some _ x)⟩
end
end ETX
namespace L2
open PySem PySem.Spec PyProof.Rows
/-- the tuple at a, each item in a new pair -/
def ItE (K : PySem.W.Frag) (a : Addr) : It :=
  ⟨fun i H => ∃ (xs : List V) (x : V), SqT K H a xs ∧ xs[i]? = some x, fun i H v H' => ∃ T x, v = .ref T ∧ H T = none ∧ H' = upd H T (.tup [.int (i : Nat), x]) ∧ ∀ xs, SqT K H a xs → xs[i]? = some x, fun i H => ∃ xs : List V, SqT K H a xs ∧ xs.length = i⟩
theorem turn_enumT {P : Program} {w : World} {K : PySem.W.Frag} {elts : List Expr} {kk : Nat} {tpos : Pos} (a e it : Addr) :
    Turn P w K (.Tuple elts kk tpos) (ItE K a) [e, it] e (fun i h => (∃ old, IsEnum h e it ((i : Nat) : Int) old) ∧ h.IsTupleIter it a i ∧ e ≠ it ∧ e ≠ a ∧ a ≠ it) where
  mem := by simp
  obj := fun i h st b hb => by
    obtain ⟨⟨old, he⟩, ⟨o, ho, hc, hd⟩, _⟩ := st
    have e' : b = e ∨ b = it := by simpa using hb
    rcases e' with z | z
    · rw [z]; exact ⟨_, he, fun v q => nomatch q⟩
    · rw [z]; exact ⟨o, ho, fun v q => by rw [hd] at q; cases q⟩
  keep := fun i h h' st k => let ⟨⟨old, he⟩, hi, hne⟩ := st; ⟨⟨old, k e (by simp) _ he⟩, hi.at fun o q => k it (by simp) o q, hne⟩
  item := by
    intro X hP hw hK hc i pins s σ H E I hf st hg
    subst hP hw hK
    obtain ⟨⟨old, he⟩, hit, hne, hea, hai⟩ := st
    obtain ⟨xs, x, hq, hx⟩ := hg
    obtain ⟨its, rv, p, hz⟩ := I.tuple hq
    have p : s.heap.IsTuple a its.toArray := p
    obtain ⟨u, hu, ru⟩ := rv.get hx
    have hel : e < s.heap.objs.size := Heap.lt_size he
    have hil : it < s.heap.objs.size := by obtain ⟨_, q, _⟩ := hit; exact Heap.lt_size q
    have hlt : i < its.toArray.size := by
      have := (List.getElem?_eq_some_iff.mp hu).1
      simpa using this
    refine wpAny_pyNext_enum_itemD (Draws.tuple (A := X.A.in1) (I.ok.hd hc) it a hai its.toArray) he ⟨hit, p⟩ hlt hne (by simp [hne, hea]) fun u' h' tk hP ho hst' hT hsz hk => ?_
    obtain rfl : u' = u := by
      have h1 : its[i]? = some u' := by simpa using hP
      exact Option.some.inj (h1.symm.trans hu)
    refine ⟨_, rfl, wpAny_letOwnedTupleGo_enum (s := { s with heap := h', toks := tk + 1 }) ho fun h'' he' sb => ?_⟩
    have hT2 : h''.get? s.heap.objs.size = some { cls := .type "tuple", data := .seq #[.int i tk, u'] } := (sb.2 _ (Nat.ne_of_gt hel)).trans hT
    have new : ObjOk X.prog X.w (upd H s.heap.objs.size (.tup [.int (i : Nat), x])) h'' s.heap.objs.size (.tup [.int (i : Nat), x]) :=
      ⟨by show 2 ≤ sizeLine; decide, [.int i tk, u'], .cons ⟨_, rfl⟩ (.cons ru .nil), ⟨_, hT2, rfl, _, rfl⟩⟩
    have I1 : Inv X pins σ (upd H s.heap.objs.size (.tup [.int (i : Nat), x])) { s with heap := h'', toks := tk + 1 } :=
      I.turnedNew (ch := [e, it]) (fun b ob hb q => (sb.2 b (fun z => hb (by simp [z]))).trans (hk b ob (fun z => hb (by simp [z])) (fun z => hb (by simp [z])) q)) hf (Nat.le_refl _) new
    refine ⟨.ref s.heap.objs.size, _, I1, rfl, ⟨_, x, rfl, I.hok.fresh (Nat.le_refl _), rfl, fun ys hy => by rw [I.tuple_inj hy hq]; exact hx⟩, ⟨⟨u', ?_⟩, hst'.1.at fun o q => (sb.2 it (Ne.symm hne)).trans q, hne, hea, hai⟩, fun b hb => ?_⟩
    · have e1 : ((i + 1 : Nat) : Int) = (i : Int) + 1 := by omega
      rw [e1]; exact he'
    · have hb' : b < s.heap.objs.size := by
        have e' : b = e ∨ b = it := by simpa using hb
        rcases e' with z | z
        · rw [z]; exact hel
        · rw [z]; exact hil
      rw [upd_ne (Nat.ne_of_lt hb')]
      exact (hf b hb).1
  done := by
    intro X hP hw hK hc i pins s σ H E I hf st hg
    subst hP hw hK
    obtain ⟨⟨old, he⟩, hit, hne, hea, hai⟩ := st
    obtain ⟨xs, hq, hx⟩ := hg
    obtain ⟨its, rv, p, hz⟩ := I.tuple hq
    have p : s.heap.IsTuple a its.toArray := p
    obtain ⟨f0, f1, f2, f3, f4, f5⟩ := hf it (by simp)
    have hl := rv.length
    have hn : its.toArray.size = i := by simp; omega
    refine wpAny_pyNext_enum_endD (Draws.tuple (A := X.A.in1) (I.ok.hd hc) it a hai its.toArray) he ⟨by rw [hn]; exact hit, p⟩ fun h' eb => ⟨rfl, I.turned (t' := s.toks) (fun b o hb q => eb b o hb q) f0 f1 f3 f4 f5⟩
  self := fun A i s Q E st h => let ⟨⟨_, he⟩, _⟩ := st; wpAny_pyIter_enum he h
def iEnumT (K : PySem.W.Frag) (ta : TA) : TI := fun σ H R => ta σ H fun vs H1 => ∃ a xs, vs = [.ref a] ∧ SqT K H1 a xs ∧ R (ItE K a) H1
theorem pi_enumT {X : Cx} {e : Expr} {ta : TA} {p pos tpos : Pos} {elts : List Expr} {kk : Nat} (hg : Gl X "enumerate") (hm : X.mg "enumerate" = none) (ha : PA X [e] ta) (hs : starEach [e] X.env = [(false, eval e X.env)] := by rfl) :
    PI X (.Tuple elts kk tpos) (.Call (.Name "enumerate" p) [e] [] pos) (iEnumT X.K ta) := by
  refine ⟨fun pins s σ H R I h => ?_⟩
  refine Call_ (ld_blt I hg hm boot_enumerate (PyProof.Rows.callWith_type1 (thn (ha.run pos pins s σ H _ I h) fun us s1 ⟨vs, H1, I1, r1, q1⟩ => ?_) hs rfl))
  obtain ⟨a, xs, ex, hq, q⟩ := q1
  subst ex
  cases r1 with
  | cons r rr =>
    cases rr
    cases r
    obtain ⟨its, rv, p', hz⟩ := I1.tuple hq
    have p' : s1.heap.IsTuple a its.toArray := p'
    have hal : a < s1.heap.objs.size := by obtain ⟨o, e, _⟩ := p'; exact Heap.lt_size e
    refine ETX.call_enumT p' fun h' he hit hsz hk => wpAny_pyIter_enum he ?_
    have I2 : Inv X pins σ H1 { s1 with heap := h' } := I1.kept (t' := s1.toks) hk
    refine ⟨s1.heap.objs.size + 1, [s1.heap.objs.size + 1, s1.heap.objs.size], _, _, H1, rfl, I2, turn_enumT a (s1.heap.objs.size + 1) s1.heap.objs.size, ⟨⟨.none, he⟩, hit, Nat.succ_ne_self _, Ne.symm (Nat.ne_of_lt (Nat.lt_succ_of_lt hal)), Nat.ne_of_lt hal⟩, fun b hb => ?_, q⟩
    have e' : b = s1.heap.objs.size + 1 ∨ b = s1.heap.objs.size := by simpa using hb
    have hle : s1.heap.objs.size ≤ b := by
      rcases e' with z | z
      · rw [z]; exact Nat.le_add_right _ _
      · rw [z]; exact Nat.le_refl _
    exact I1.fpOk hle (I1.hok.fresh hle)
theorem walk_enumT {K : PySem.W.Frag} {a : Addr} {xs : List V} : Walk (ItE K a) xs.length (fun H => SqT K H a xs) (YPair (fun i => some (.int (i : Nat))) (fun i => xs[i]?)) := by
  refine ⟨fun i _ hi q => ⟨xs, xs[i], q, by simp [hi]⟩, fun _ q => ⟨xs, q, rfl⟩, fun i H v H' _ q y => ?_⟩
  obtain ⟨T, x, h1, h2, h3, h4⟩ := y
  exact ⟨T, .int (i : Nat), x, h1, h2, h3, rfl, h4 xs q⟩
/-! ### max(tuple of ints) -/
def rMaxT (K : PySem.W.Frag) : List V → Hp → VK → Prop := fun vs H Q => ∃ (a : Addr) (ns : List Int), vs = [V.ref a] ∧ SqT K H a (ns.map V.int) ∧ 0 < ns.length ∧ ∀ m, m ∈ ns → (∀ y, y ∈ ns → y ≤ m) → Q (.int m) H
theorem reads_ints {h : Heap} : ∀ {its : List Value} {ns : List Int}, Vals (ns.map V.int) its → ∃ as, ReadsAll h its (ns.map PyData.int) as
  | _, [], .nil => ⟨_, .nil⟩
  | _, n :: ns, .cons r rs => by
    obtain ⟨as, h1⟩ := reads_ints (h := h) rs
    obtain ⟨t, rfl⟩ := r
    exact ⟨_, .cons (.int ..) h1⟩
theorem depth_ints : ∀ ns : List Int, PyData.depthAll (ns.map PyData.int) = 0
  | [] => rfl
  | n :: r => by
    have ih := depth_ints r
    show max (PyData.int n).depth (PyData.depthAll (r.map PyData.int)) = 0
    rw [ih]
    rfl
theorem fold_max : ∀ (ns : List Int) (n : Int), ns.foldl max n ∈ n :: ns ∧ ∀ y ∈ n :: ns, y ≤ ns.foldl max n
  | [], n => ⟨List.mem_singleton_self _, fun y m => by rw [List.mem_singleton.mp m]; exact Int.le_refl _⟩
  | k :: r, n => by
    obtain ⟨h1, h2⟩ := fold_max r (max n k)
    show r.foldl max (max n k) ∈ _ ∧ ∀ y ∈ n :: k :: r, y ≤ r.foldl max (max n k)
    constructor
    · rcases List.mem_cons.mp h1 with q | q
      · rw [q]
        by_cases z : n ≤ k
        · rw [show max n k = k by omega]
          simp
        · rw [show max n k = n by omega]
          simp
      · exact List.mem_cons_of_mem _ (List.mem_cons_of_mem _ q)
    · intro y m
      have h3 := h2 (max n k) (List.mem_cons_self ..)
      rcases List.mem_cons.mp m with q | q
      · omega
      · rcases List.mem_cons.mp q with q | q
        · omega
        · exact h2 y (List.mem_cons_of_mem _ q)
theorem cr_maxT {X : Cx} (hc : X.calm = true) {j : Nat} (hr : Room j X.A) : CallR X (.builtin "max") (rMaxT X.K) := by
  intro pins s σ H vs us Q I r h
  obtain ⟨a, ns, rfl, hs, hne, q⟩ := h
  obtain ⟨its, rv, hl, _⟩ := I.tuple hs
  rw [Vals.ref1 r]
  cases ns with
  | nil => exact absurd hne (Nat.lt_irrefl 0)
  | cons n ns =>
    obtain ⟨as, hra⟩ := reads_ints (h := s.heap) rv
    have hu := hr.un
    refine PySem.W.max_tuple_data (x := .int n) (xs := ns.map PyData.int) (I.ok.hd hc) (show s.heap.IsTuple a its.toArray from hl) (by simpa using hra) ⟨fun x hx y hy => ?_, fun x hx z => ?_⟩ ?_ fun i v h' tk bs hv hrd hk => ?_
    · have hx : x ∈ (n :: ns).map PyData.int := hx
      have hy : y ∈ (n :: ns).map PyData.int := hy
      obtain ⟨a1, _, rfl⟩ := List.mem_map.mp hx
      obtain ⟨a2, _, rfl⟩ := List.mem_map.mp hy
      rfl
    · have hx : x ∈ (n :: ns).map PyData.int := hx
      obtain ⟨a1, _, rfl⟩ := List.mem_map.mp hx
      cases z
    · show X.A.units + 1 + PyData.depthAll ((n :: ns).map PyData.int) < cLine
      rw [depth_ints]
      omega
    · rw [PySem.W.maxD_ints] at hrd
      cases hrd
      obtain ⟨h1, h2⟩ := fold_max ns n
      exact ⟨.int _, H, I.kept hk, ⟨_, rfl⟩, q _ h1 h2⟩
end L2

namespace K4
open PySem PySem.Spec PyProof.Rows L2
/-! ### reached_by -/
def farL : List Int := [1, 3, 7, 15, 31, 63, 127, 255, 511, 1023, 1024]
theorem far_at {l : Nat} (hl : l < 11) : atI (farL.map V.int) (l : Int) = some (.int (farB l : Int)) := by
  have : ∀ i : Fin 11, (farL.map V.int)[i.1]? = some (.int (farB i.1 : Int)) := by decide +kernel
  exact atI_nat (this ⟨l, hl⟩)
def FarTab (K : PySem.W.Frag) (mg : Str → Option Value) : Prop := ∃ T, mg "FARTHEST_BACKS" = some (.ref T) ∧ ∀ H, SqT K H T (farL.map V.int)
abbrev NRb : List Str := ["whole", "place", "letter", "known", "most", "many", "low", "high"]
theorem scRBy : FnScope NRb ["whole", "place", "letter", "known", "most"] (defScope sRBy) := ⟨rfl, rfl, rfl, by decide +kernel, rfl, by decide +kernel, by decide +kernel⟩
def RIs (e : List Nat) (h l r : Nat) : Prop := (r = 0 ∨ 3 ≤ r) ∧ r ≤ 18 ∧ ∀ m, 3 ≤ m → m ≤ 18 → (m ≤ r ↔ Hits e h l m)
section
variable {P : Program} {w : World} {K : PySem.W.Frag} {mg : Str → Option Value} {base : Heap}
def spRBy : Sp := fun vs H Q _ => ∃ (e : List Nat) (h l : Nat) (kn : Int), vs = [.byt (byB e), .int (h : Int), .int (l : Int), .int kn, .int ((min 18 (e.length - h) : Nat) : Int)] ∧ (∀ k ∈ e, k < 256) ∧ e.length ≤ 10000 ∧ h < e.length ∧ l < 11 ∧
  (kn ≤ 2 ∨ ∃ m : Nat, kn = (m : Int) ∧ 3 ≤ m ∧ m ≤ min 18 (e.length - h) ∧ Hits e h l m) ∧ ∀ r : Nat, RIs e h l r → Q (.int (r : Int)) H
theorem ok_rby {f : Addr} {fd : FuncData} {j : Nat} {t1 : Tok} (F : Fun K "reached_by" "reached_by" sRBy f fd) (FT : FarTab K mg) (m1 : mg "max" = none) (c1 : mg "FEWEST_COPIED" = some (.int 3 t1)) :
    FnOk P w K mg base CX0 (j + 1) f fd ["whole", "place", "letter", "known", "most"] spRBy := by
  obtain ⟨T, gT, hT⟩ := FT
  refine F.ok scRBy (fun vs H Q E h => ?_) (fun cdv A outer s H vs Q E hr h => ?_)
  · obtain ⟨e, h, l, kn, rfl, _⟩ := h
    rfl
  · obtain ⟨e, h, l, kn, rfl, hk, he, hh, hl, hkn, q⟩ := h
    have hz := PySem.sizeLine_eq
    refine ⟨_, pss_cons (ps_set (i := 5) scRBy.nd rfl (.inl rfl) (pe_callB (call_max2 rfl) (by rfl) m1 (by decide +kernel) (pa_cons (pv 3) (pa_cons (pe_op op_sub (pe_glob (v := .int 3) rfl c1 ⟨_, rfl⟩) pe_int) pa_nil))))
      (pss_cons (ps_set (i := 6) scRBy.nd rfl (.inl rfl) (pe_callB (call_max2 rfl) (by rfl) m1 (by decide +kernel) (pa_cons pe_int (pa_cons (pe_op op_sub (pv 1) (pe_ix ix_tup (pe_glob (v := .ref T) rfl gT rfl) (pv 2) (fun _ _ => rfl))) pa_nil))))
      (pss_cons (ps_set (i := 7) scRBy.nd rfl (.inl rfl) (pe_op op_add (pe_op op_sub (pv 1) (pe_op op_shl pe_int (pv 2))) pe_int))
      (pss_cons (ps_while PassesOwn.never (PW.pt (pw_and (pt_cmpR op_gt (pv 7) (pv 6) (nomark _)) (pw_and1 (pt_cmpR op_lt (pv 5) (pv 4) (nomark _)))))
        (pss_cons (ps_set (i := 6) scRBy.nd rfl (.inl rfl) (pe_bmB PySem.W.KBf.slot_find PySem.W.KBf.type_find mt_bfind4 (pv 0) (pa_cons (pe_slice sl_byt (pv 0) (po_some (pv 1)) (po_some (pe_op op_add (pe_op op_add (pv 1) (pv 5)) pe_int))) (pa_cons (pv 6) (pa_cons (pe_op op_add (pv 7) (pv 5)) pa_nil)))))
        (pss_cons (ps_if (pt_cmpR op_lt (pv 6) pe_int (nomark _)) (pss_one ps_break) pss_nil)
        (pss_one (ps_aug (i := 5) scRBy.nd rfl (.inl rfl) pe_int ip_add)))))
      (pss_one (ps_ret (pe_ifExp (pt_cmpR op_ge (pv 5) (pe_glob (v := .int 3) rfl c1 ⟨_, rfl⟩) (nomark _)) (pv 5) pe_int)))))), ?_⟩
    refine ⟨_, rfl, _, _, rfl, rfl, _, _, rfl, ?_⟩
    dsimp only [gName]
    obtain ⟨m0, hm0, hm2, hmI⟩ : ∃ m0 : Nat, (if (3 : Int) - 1 > kn then (3 : Int) - 1 else kn) = (m0 : Int) ∧ 2 ≤ m0 ∧ (m0 = 2 ∨ (3 ≤ m0 ∧ m0 ≤ min 18 (e.length - h) ∧ Hits e h l m0)) := by
      rcases hkn with q1 | ⟨m, rfl, q2, q3, q4⟩
      · exact ⟨2, by split <;> omega, Nat.le_refl _, .inl rfl⟩
      · exact ⟨m, by rw [if_neg (by omega)], by omega, .inr ⟨q2, q3, q4⟩⟩
    rw [hm0]
    refine ⟨_, rfl, _, rfl, T, _, _, _, rfl, rfl, hT _, far_at hl, _, _, rfl, rfl, _, _, rfl, ?_⟩
    dsimp only [gName]
    have hlo : (if (h : Int) - (farB l : Int) > 0 then (h : Int) - (farB l : Int) else 0) = ((h - farB l : Nat) : Int) := by
      split <;> omega
    rw [hlo]
    refine ⟨_, rfl, _, rfl, _, _, rfl, rfl, ⟨by omega, by omega, by decide⟩, _, _, rfl, rfl, _, _, rfl, rfl, ?_⟩
    have e2 : (1 : Int) * 2 ^ (l : Int).toNat = ((2 ^ l : Nat) : Int) := by
      rw [Int.one_mul, Int.toNat_natCast]
      push_cast
      rfl
    dsimp only [gName]
    rw [e2]
    have hb0 : 0 < 2 ^ l := Nat.pow_pos (by decide)
    refine ⟨fun n σ H' => ∃ m low : Nat, σ = [some (.byt (byB e)), some (.int (h : Int)), some (.int (l : Int)), some (.int kn), some (.int ((min 18 (e.length - h) : Nat) : Int)), some (.int (m : Int)), some (.int (low : Int)), some (.int ((h : Int) - ((2 ^ l : Nat) : Int) + 1))] ∧ H' = H ∧ 2 ≤ m ∧ m ≤ 18 ∧ n = 20 - m ∧ h - farB l ≤ low ∧ (m = 2 ∨ (3 ≤ m ∧ m ≤ min 18 (e.length - h) ∧ Hits e h l m)) ∧ ∀ b, 2 ^ l ≤ b → b ≤ farB l → b ≤ h → m + 1 ≤ rn e h b → low ≤ h - b,
      ⟨_, m0, _, rfl, rfl, hm2, by omega, rfl, Nat.le_refl _, hmI, fun b b1 b2 b3 b4 => by omega⟩, fun n σ H' hW => ?_⟩
    obtain ⟨m, low, rfl, rfl, g2, g18, rfl, glow, gI, gold⟩ := hW
    have done : (¬ Hits e h l (m + 1) ∨ 18 ≤ m) → Q (.int ((if 3 ≤ m then m else 0 : Nat) : Int)) H' := fun hno => by
      refine q _ ⟨?_, ?_, fun x x3 x18 => ?_⟩
      · split <;> omega
      · split <;> omega
      · have mono : Hits e h l x → m + 1 ≤ x → Hits e h l (m + 1) := fun ⟨b, b1, b2, b3, b4⟩ hx => ⟨b, b1, b2, b3, by omega⟩
        constructor
        · intro hx
          by_cases q3 : 3 ≤ m
          · rw [if_pos q3] at hx
            rcases gI with gI | ⟨_, _, b, b1, b2, b3, b4⟩
            · omega
            · exact ⟨b, b1, b2, b3, by omega⟩
          · rw [if_neg q3] at hx
            omega
        · intro hx
          by_cases q4 : m + 1 ≤ x
          · rcases hno with hno | hno
            · exact absurd (mono hx q4) hno
            · omega
          · rw [if_pos (by omega)]
            omega
    refine ⟨_, rfl, _, rfl, _, _, rfl, rfl, _, rfl, ite2 (fun t1 => ?_) (fun t1 => ?_)⟩
    · have t1 : (low : Int) < (h : Int) - ((2 ^ l : Nat) : Int) + 1 := of_decide_eq_true t1
      refine ⟨_, rfl, _, rfl, _, _, rfl, rfl, _, rfl, ite2 (fun t2 => ?_) (fun t2 => ?_)⟩
      · have t2 : (m : Int) < ((min 18 (e.length - h) : Nat) : Int) := of_decide_eq_true t2
        have t2 : m < min 18 (e.length - h) := by omega
        refine ⟨_, fun _ _ h => h, ?_⟩
        refine ⟨_, rfl, ⟨_, rfl⟩, _, rfl, _, rfl, _, rfl, _, rfl, _, rfl, _, _, rfl, rfl, _, _, rfl, rfl, _, rfl, _, rfl, (by rw [byB_size]; omega), _, rfl, _, rfl, _, rfl, _, _, rfl, rfl, _, _, _, _, rfl, rfl, by omega, by omega, ?_⟩
        have e3 : PySem.W.KBy.picked (byB e) (some (h : Int)) (some ((h : Int) + (m : Int) + 1)) = byB (sliceN e h (m + 1)) := by
          rw [show (h : Int) + (m : Int) + 1 = ((h + (m + 1) : Nat) : Int) by push_cast; omega]
          exact picked_slice e h (m + 1) (by omega)
        have e4 : (h : Int) - ((2 ^ l : Nat) : Int) + 1 + (m : Int) = ((h - 2 ^ l + 1 + m : Nat) : Int) := by omega
        dsimp only [gName]
        rw [e3, e4]
        obtain ⟨st1, st2⟩ := hit_step hk hl (m := m) (by omega) glow (by omega) (fnd_is hk (slice_lt hk) low (h - 2 ^ l + 1 + m)) gold
        generalize BFX.fnd (byB e) (byB (sliceN e h (m + 1))) (low : Int) ((h - 2 ^ l + 1 + m : Nat) : Int) = o at *
        refine ⟨_, rfl, _, _, rfl, rfl, _, rfl, ite2 (fun t3 => ?_) (fun t3 => ?_)⟩
        · have ho := told_lt.mp (of_decide_eq_true t3)
          have d := done (.inl (st1 ho))
          refine ⟨_, rfl, _, _, rfl, rfl, _, rfl, ite2 (fun t4 => ?_) (fun t4 => ?_)⟩
          · rw [if_pos (by have : (3 : Int) ≤ (m : Int) := of_decide_eq_true t4; omega)] at d
            exact ⟨_, rfl, d⟩
          · rw [if_neg (fun z => t4 (decide_eq_true (by omega)))] at d
            exact d
        · cases ho : o with
          | none => exact absurd (decide_eq_true (told_lt.mpr ho)) t3
          | some s0 =>
            obtain ⟨a1, a2, a3, a4⟩ := st2 s0 ho
            refine ⟨_, rfl, _, _, rfl, rfl, ?_⟩
            refine ⟨20 - (m + 1), by omega, m + 1, s0, by push_cast; rfl, rfl, by omega, by omega, rfl, by omega, .inr ⟨by omega, by omega, a3⟩, fun b b1 b2 b3 b4 => a4 b b1 b2 b3 (by omega)⟩
      · have t2 : ¬ (m : Int) < ((min 18 (e.length - h) : Nat) : Int) := fun z => t2 (decide_eq_true z)
        have d := done (by
          by_cases q18 : 18 ≤ m
          · exact .inr q18
          · refine .inl fun ⟨b, b1, b2, b3, b4⟩ => ?_
            have := rn_le e h b
            omega)
        refine ⟨_, rfl, _, _, rfl, rfl, _, rfl, ite2 (fun t4 => ?_) (fun t4 => ?_)⟩
        · rw [if_pos (by have : (3 : Int) ≤ (m : Int) := of_decide_eq_true t4; omega)] at d
          exact ⟨_, rfl, d⟩
        · rw [if_neg (fun z => t4 (decide_eq_true (by omega)))] at d
          exact d
    · have t1 : ¬ (low : Int) < (h : Int) - ((2 ^ l : Nat) : Int) + 1 := fun z => t1 (decide_eq_true z)
      have d := done (.inl fun ⟨b, b1, b2, b3, b4⟩ => by
        have := gold b b1 ((farB_iff hl b1).mpr ⟨b2, by omega⟩) (by omega) b4
        omega)
      refine iteF ?_
      refine ⟨_, rfl, _, _, rfl, rfl, _, rfl, ite2 (fun t4 => ?_) (fun t4 => ?_)⟩
      · rw [if_pos (by have : (3 : Int) ≤ (m : Int) := of_decide_eq_true t4; omega)] at d
        exact ⟨_, rfl, d⟩
      · rw [if_neg (fun z => t4 (decide_eq_true (by omega)))] at d
        exact d
end
end K4

namespace K4
open PySem PySem.Spec PyProof.Rows L2
/-! ### reached_at -/
def Carry (e : List Nat) (h : Nat) (R : List Nat) : Prop := R.length = 11 ∧ (∀ x ∈ R, x ≤ 18) ∧ ∀ l, l < 11 → R.getD l 0 ≤ 3 ∨ (R.getD l 0 - 1 ≤ min 18 (e.length - h) ∧ Hits e h l (R.getD l 0 - 1))
theorem hit_next {e : List Nat} {h l m : Nat} (hh : h < e.length) (H : Hits e h l (m + 1)) : Hits e (h + 1) l m := by
  obtain ⟨b, b1, b2, b3, b4⟩ := H
  rw [rn_here hh] at b4
  refine ⟨b, b1, b2, by omega, ?_⟩
  split at b4 <;> omega
theorem Rch.carry {e : List Nat} {h : Nat} {R : List Nat} (hR : Rch e h R) (hh : h < e.length) : Carry e (h + 1) R := by
  refine ⟨hR.len, hR.top, fun l hl => ?_⟩
  by_cases q : R.getD l 0 ≤ 3
  · exact .inl q
  · have h18 := hR.le18 hl
    have H : Hits e h l (R.getD l 0) := (hR.iff_ l hl _ (by omega) h18).mp (Nat.le_refl _)
    obtain ⟨b, _, _, _, b4⟩ := id H
    have := rn_le e h b
    refine .inr ⟨by omega, ?_⟩
    refine hit_next hh ?_
    rw [show R.getD l 0 - 1 + 1 = R.getD l 0 by omega]
    exact H
def zeros : List Nat := List.replicate 11 0
theorem zeros_at (l : Nat) : zeros.getD l 0 = 0 := by
  unfold zeros
  rw [List.getD_eq_getElem?_getD]
  cases q : (List.replicate 11 0)[l]? with
  | none => rfl
  | some x => exact (List.mem_replicate.mp (List.mem_of_getElem? q)).2
theorem zeros_carry (e : List Nat) (h : Nat) : Carry e h zeros := ⟨rfl, fun x m => by rw [(List.mem_replicate.mp m).2]; decide, fun l _ => .inl (by rw [zeros_at]; decide)⟩
theorem zeros_rch {e : List Nat} {h : Nat} (hno : ∀ l m, 3 ≤ m → ¬ Hits e h l m) : Rch e h zeros :=
  ⟨rfl, fun x m => by rw [(List.mem_replicate.mp m).2]; decide, fun x m => .inl (List.mem_replicate.mp m).2, fun l hl m h3 h18 => by
    rw [zeros_at]
    exact ⟨fun z => by omega, fun z => absurd z (hno l m h3)⟩⟩
theorem zeros_flat : (List.replicate (11 : Int).toNat [V.int 0]).flatten = bys zeros := rfl
abbrev NRa : List Str := ["whole", "place", "ahead", "first", "most", "letter", "known"]
theorem scRAt : FnScope NRa ["whole", "place", "ahead"] (defScope sRAt) := ⟨rfl, rfl, rfl, by decide +kernel, rfl, by decide +kernel, by decide +kernel⟩
section
variable {P : Program} {w : World} {K : PySem.W.Frag} {mg : Str → Option Value} {base : Heap}
def spRAt : Sp := fun vs H Q _ => ∃ (e : List Nat) (h : Nat) (pa : Addr) (R0 : List Nat), vs = [.byt (byB e), .int (h : Int), .ref pa] ∧ H pa = some (.tup (bys R0)) ∧ Carry e h R0 ∧ (∀ k ∈ e, k < 256) ∧ e.length ≤ 10000 ∧ h < e.length ∧
  ∀ H' p R, Same H H' → H p = none → H' p = some (.tup (bys R)) → Rch e h R → Q (.ref p) H'
theorem ok_rat {f fB : Addr} {fd fdB : FuncData} {j : Nat} {t1 t2 t3 t4 : Tok} (F : Fun K "reached_at" "reached_at" sRAt f fd)
    (GB : FnOk P w K mg base CX0 (j + 1) fB fdB ["whole", "place", "letter", "known", "most"] spRBy) (bB : Binds K fdB ["whole", "place", "letter", "known", "most"] []) (kB : PySem.W.keepIn K (.ref fB) = true) (gB : mg "reached_by" = some (.ref fB))
    (m1 : mg "max" = none) (m2 : mg "min" = none) (m3 : mg "len" = none) (m4 : mg "tuple" = none) (m5 : mg "enumerate" = none)
    (c1 : mg "FEWEST_COPIED" = some (.int 3 t1)) (c2 : mg "FARTHEST" = some (.int 1024 t2)) (c3 : mg "BACKS" = some (.int 11 t3)) (c4 : mg "MOST_COPIED" = some (.int 18 t4)) :
    FnOk P w K mg base CX0 (j + 2) f fd ["whole", "place", "ahead"] spRAt := by
  refine F.ok scRAt (fun vs H Q E h => ?_) (fun cdv A outer s H vs Q E hr h => ?_)
  · obtain ⟨e, h, pa, R0, rfl, _⟩ := h
    rfl
  · obtain ⟨e, h, pa, R0, rfl, hpa, hC, hk, he, hh, q⟩ := h
    have hz := PySem.sizeLine_eq
    refine ⟨_, pss_cons (ps_set (i := 3) scRAt.nd rfl (.inl rfl) (pe_slice sl_byt (pv 0) (po_some (pv 1)) (po_some (pe_op op_add (pv 1) (pe_glob (v := .int 3) rfl c1 ⟨_, rfl⟩)))))
      (pss_cons (ps_if (pt_cmpR op_lt (pe_bmB PySem.W.KBf.slot_find PySem.W.KBf.type_find mt_bfind4 (pv 0) (pa_cons (pv 3) (pa_cons (pe_callB (call_max2 rfl) (by rfl) m1 (by decide +kernel) (pa_cons pe_int (pa_cons (pe_op op_sub (pv 1) (pe_glob (v := .int 1024) rfl c2 ⟨_, rfl⟩)) pa_nil))) (pa_cons (pe_op op_sub (pe_op op_add (pv 1) (pe_glob (v := .int 3) rfl c1 ⟨_, rfl⟩)) pe_int) pa_nil)))) pe_int (nomark _))
        (pss_one (ps_ret (pe_op op_repT (pe_tup (pa_cons pe_int pa_nil)) (pe_glob (v := .int 11) rfl c3 ⟨_, rfl⟩)))) pss_nil)
      (pss_cons (ps_set (i := 4) scRAt.nd rfl (.inr rfl) (pe_callB (call_min2 rfl) (by rfl) m2 (by decide +kernel) (pa_cons (pe_glob (v := .int 18) rfl c4 ⟨_, rfl⟩) (pa_cons (pe_op op_sub (pe_callB call_len (by rfl) m3 PySem.boot_len (pa_cons (pv 0) pa_nil)) (pv 1)) pa_nil))))
      (pss_one (ps_ret (pe_callTy call_tuple_of (by rfl) m4 (by decide +kernel) (pa_cons (pe_lc (own := [("letter", 5), ("known", 6)]) (g := gTup K 2 (gCons (gName 5) (gCons (gName 6) gNil))) (tt := tYes) rfl scRAt.nd (pi_enumT (by rfl) m5 (pa_cons (pv 2) pa_nil)) (blkOk_by (N := NRa) (sc := defScope sRAt) (by decide +kernel))
          (fun _ _ _ _ _ => pg_tup rfl (pgs_cons (pg_name (i := 5) scRAt.nd rfl (.inl rfl)) (pgs_cons (pg_name (i := 6) scRAt.nd rfl (.inl rfl)) pgs_nil))) (fun _ _ _ _ _ => pts_nil)
          (fun _ _ _ _ _ => pe_call GB (hr.mono (by omega)) (by rfl) gB kB bB .nil pass0 (pa_cons (pv 0) (pa_cons (pv 1) (pa_cons (pv 5) (pa_cons (pe_op op_sub (pv 6) pe_int) (pa_cons (pv 4) pa_nil))))))) pa_nil)))))), ?_⟩
    refine ⟨_, rfl, _, rfl, _, rfl, _, rfl, _, _, rfl, rfl, _, rfl, _, rfl, (by rw [byB_size]; omega), ?_⟩
    have e1 : PySem.W.KBy.picked (byB e) (some (h : Int)) (some ((h : Int) + 3)) = byB (sliceN e h 3) := by
      rw [show (h : Int) + 3 = ((h + 3 : Nat) : Int) by push_cast; rfl]
      exact picked_slice e h 3 (by omega)
    dsimp only [gName]
    rw [e1]
    refine ⟨_, rfl, ⟨_, rfl⟩, _, rfl, _, rfl, _, _, rfl, rfl, _, _, rfl, ?_⟩
    have e2 : (if (h : Int) - 1024 > 0 then (h : Int) - 1024 else 0) = ((h - 1024 : Nat) : Int) := by
      split <;> omega
    have e3 : (h : Int) + 3 - 1 = ((h + 2 : Nat) : Int) := by omega
    refine ⟨_, rfl, _, _, rfl, rfl, _, _, rfl, rfl, _, _, _, _, rfl, rfl, by rw [e2]; omega, by omega, ?_⟩
    rw [e2, e3]
    have F1 := fnd_is hk (slice_lt (i := h) (m := 3) hk) (h - 1024) (h + 2)
    generalize BFX.fnd (byB e) (byB (sliceN e h 3)) ((h - 1024 : Nat) : Int) ((h + 2 : Nat) : Int) = o at *
    refine ⟨_, _, rfl, rfl, _, rfl, ite2 (fun t1 => ?_) (fun t1 => ?_)⟩
    · have ho := told_lt.mp (of_decide_eq_true t1)
      refine ⟨(by show 1 ≤ sizeLine; omega), fun t nt => ?_⟩
      have s1 := same_upd (o := .tup [.int 0]) nt
      refine ⟨t, 11, [.int 0], rfl, rfl, .inl (.inl upd_same), by simp, by decide, by decide, by decide, fun p np => ?_⟩
      rw [zeros_flat]
      refine q _ p zeros (s1.trans (same_upd np)) (none_back s1 np) upd_same (zeros_rch fun l m h3 => none_here hk (by omega) F1 ho h3)
    · refine ⟨_, rfl, _, (byB e).size, rfl, ⟨by rw [byB_size]; omega, rfl⟩, _, rfl, _, _, rfl, rfl, _, _, rfl, ?_⟩
      have e4 : (if ((byB e).size : Int) - (h : Int) < 18 then ((byB e).size : Int) - (h : Int) else 18) = ((min 18 (e.length - h) : Nat) : Int) := by
        rw [byB_size]
        split <;> omega
      dsimp only [gName]
      rw [e4]
      refine ⟨_, rfl, pa, _, rfl, .inl (.inl hpa), fun D nD => ?_⟩
      have hl0 : (bys R0).length = 11 := by
        unfold bys
        rw [List.length_map, List.length_map]
        exact hC.1
      refine lc_it (walk_enumT (K := K) (a := pa) (xs := bys R0)) (fun i H' => Same H H' ∧ ∃ rs : List Nat, H' D = some (.lst (bys rs)) ∧ rs.length = i ∧ ∀ l, l < i → RIs e h l (rs.getD l 0)) ⟨same_upd nD, [], upd_same, rfl, fun l z => absurd z (Nat.not_lt_zero _)⟩ (fun i H' _ z => .inl (.inl (z.1 _ _ hpa))) (fun i x H2 H3 hi z y => ?_) (fun H2 z => ?_)
      · obtain ⟨sm, rs, hD, hrl, hrs⟩ := z
        rw [hl0] at hi
        obtain ⟨T0, x0, y0, rfl, nT0, rfl, e0, e1⟩ := y
        obtain rfl := Option.some.inj e0
        have hy : y0 = .int ((R0.getD i 0 : Nat) : Int) := by
          have := at_of' (ks := R0) (i := (i : Int)) rfl (by rw [hC.1]; exact hi)
          rw [atI_nat e1] at this
          exact Option.some.inj this
        subst hy
        have sm2 : Same H2 (upd H2 T0 (.tup [.int (i : Nat), .int ((R0.getD i 0 : Nat) : Int)])) := same_upd nT0
        have hD2 := sm2 _ _ hD
        refine ⟨T0, _, rfl, .inl (.inl upd_same), rfl, _, _, rfl, _, _, rfl, rfl, rfl, yes ?_⟩
        generalize upd H2 T0 (.tup [.int (i : Nat), .int ((R0.getD i 0 : Nat) : Int)]) = H3 at *
        refine ⟨_, rfl, _, rfl, _, rfl, _, rfl, _, _, rfl, rfl, _, rfl, e, h, i, _, rfl, hk, he, hh, hi, ?_, fun r hr => ⟨_, hD2, ?_, same_put (sm.trans sm2) nD, rs ++ [r], ?_, ?_, ?_⟩⟩
        · have h18 : R0.getD i 0 ≤ 18 := hC.2.1 _ (getD_mem (by rw [hC.1]; exact hi))
          rcases hC.2.2 i hi with q1 | ⟨q1, q2⟩
          · exact .inl (by omega)
          · by_cases q3 : R0.getD i 0 ≤ 3
            · exact .inl (by omega)
            · exact .inr ⟨R0.getD i 0 - 1, by omega, by omega, q1, q2⟩
        · unfold bys
          rw [List.length_map, List.length_map]
          omega
        · rw [upd_same]
          unfold bys
          rw [List.map_append, List.map_append]
          rfl
        · rw [List.length_append, hrl]
          rfl
        · intro l hl
          by_cases q1 : l < i
          · rw [List.getD_eq_getElem?_getD, List.getElem?_append_left (by omega), ← List.getD_eq_getElem?_getD]
            exact hrs l q1
          · have : l = i := by omega
            subst this
            rw [List.getD_eq_getElem?_getD, List.getElem?_append_right (by omega), hrl, Nat.sub_self]
            exact hr
      · obtain ⟨sm, rs, hD, hrl, hrs⟩ := z
        rw [hl0] at hrl hrs
        refine ⟨D, _, rfl, .inl ⟨.inl (.inl hD), fun l nl => ?_⟩⟩
        have s1 := same_upd (o := .tup (bys rs)) nl
        have mem : ∀ x ∈ rs, ∃ l, l < 11 ∧ x = rs.getD l 0 := fun x m => by
          obtain ⟨l, hl, rfl⟩ := List.mem_iff_getElem.mp m
          exact ⟨l, by omega, by rw [List.getD_eq_getElem?_getD, List.getElem?_eq_getElem hl]; rfl⟩
        refine q _ l rs (sm.trans s1) (none_back sm nl) upd_same ⟨hrl, fun x m => ?_, fun x m => ?_, fun l hl => (hrs l hl).2.2⟩
        · obtain ⟨l, hl, rfl⟩ := mem x m
          exact (hrs l hl).2.1
        · obtain ⟨l, hl, rfl⟩ := mem x m
          exact (hrs l hl).1
end
end K4

namespace L2
open PySem PySem.Spec PyProof.Rows
section
variable {X : Cx}
def rGetL (K : PySem.W.Frag) : V → V → Hp → VK → Prop := fun o i H Q => ∃ (p : Addr) (xs : List V) (j : Nat) (v : V), o = .ref p ∧ i = .int (j : Int) ∧ SqL K H p xs ∧ xs[j]? = some v ∧ Q v H
theorem get_list : PGet X (rGetL X.K) := by
  intro pins s σ H o i ov iv Q I ro ri h
  obtain ⟨p, xs, j, v, rfl, rfl, hq, he, q⟩ := h
  cases ro
  obtain ⟨t, rfl⟩ := ri
  obtain ⟨its, r, pl, hz⟩ := (I.list hq)
  obtain ⟨w, ew, rw'⟩ := r.get he
  have hj : j < xs.length := (List.getElem?_eq_some_iff.mp he).1
  have hn := line63
  exact wpAny_getItem_list pl.isList (by omega) (by omega) (by simpa using ew) ⟨v, H, I, rw', q⟩
end
end L2
namespace K4
open PySem PySem.Spec PyProof.Rows L2
/-! ### pairs_of -/
theorem paired_rev {α β : Type} {R : α → β → Prop} : ∀ {xs : List α} {ys : List β}, Paired R xs ys → Paired R xs.reverse ys.reverse
  | _, _, .nil => .nil
  | _, _, .cons r rs => by
    rw [List.reverse_cons, List.reverse_cons]
    exact (paired_rev rs).snoc r
abbrev NPo : List Str := ["reached", "longest", "ending", "letter", "many", "pairs", "letters"]
theorem scPairs : FnScope NPo ["reached"] (defScope sPairs) := ⟨rfl, rfl, rfl, by decide +kernel, rfl, by decide +kernel, by decide +kernel⟩
/-- pairs of numbers, each in a tuple of its own -/
def NpAt (H : Hp) (s : Nat × Nat) (v : V) : Prop := ∃ t, v = .ref t ∧ H t = some (.tup [.int (s.1 : Int), .int (s.2 : Int)])
theorem NpAt.same {H H' : Hp} {s : Nat × Nat} {v : V} (h : NpAt H s v) (sm : Same H H') : NpAt H' s v := by
  obtain ⟨t, e, ht⟩ := h
  exact ⟨t, e, sm _ _ ht⟩
theorem NpAt.put {H : Hp} {s : Nat × Nat} {v : V} {D : Addr} {xs ys : List V} (h : NpAt H s v) (hD : H D = some (.lst xs)) : NpAt (upd H D (.lst ys)) s v := by
  obtain ⟨t, e, ht⟩ := h
  exact ⟨t, e, by rw [upd_ne (ne_of ht hD (fun z => nomatch z))]; exact ht⟩
def endL (R : List Nat) (l : Nat) : List Nat := (List.range (maxR R + 1)).map fun m => endN R m l
theorem endL_len (R : List Nat) (l : Nat) : (endL R l).length = maxR R + 1 := by simp [endL]
theorem endL_at {R : List Nat} {l m : Nat} (h : m ≤ maxR R) : (endL R l).getD m 0 = endN R m l := by
  unfold endL
  rw [List.getD_eq_getElem?_getD, List.getElem?_map, List.getElem?_range (by omega)]
  rfl
theorem endL_succ {R : List Nat} {l : Nat} (h : l < R.length) : (endL R l).set (R.getD l 0) (endN R (R.getD l 0) l + 2 ^ l) = endL R (l + 1) := by
  have hm := le_maxR (getD_mem h)
  refine List.ext_getElem (by rw [List.length_set, endL_len, endL_len]) fun m h1 h2 => ?_
  have h1' : m < maxR R + 1 := by rwa [List.length_set, endL_len] at h1
  have g : ∀ l (hx : m < (endL R l).length), (endL R l)[m] = endN R m l := fun l hx => by simp [endL]
  rw [g (l + 1)]
  show _ = endN R m l + (if R.getD l 0 = m then 2 ^ l else 0)
  rw [List.getElem_set]
  by_cases q : R.getD l 0 = m
  · rw [if_pos q, if_pos q, q]
  · rw [if_neg q, if_neg q, g l, Nat.add_zero]
theorem endN_lt (R : List Nat) (m : Nat) : ∀ l, endN R m l < 2 ^ l
  | 0 => (by decide : (0 : Nat) < 1)
  | l + 1 => by
    have ih := endN_lt R m l
    show endN R m l + (if R.getD l 0 = m then 2 ^ l else 0) < 2 ^ (l + 1)
    rw [Nat.pow_succ]
    split <;> omega
/-- the pairs of the last so many lengths, falling -/
def fallP (R : List Nat) (i : Nat) : List (Nat × Nat) := (List.range i).map fun t => (maxR R - t, maskN R (maxR R - t) 11)
theorem fall_rev (R : List Nat) : (fallP R (maxR R + 1 - 3)).reverse = prsR R := by
  unfold fallP prsR
  refine List.ext_getElem (by simp) fun i h1 h2 => ?_
  have hi : i < maxR R + 1 - 3 := by simpa using h1
  rw [List.getElem_reverse, List.getElem_map, List.getElem_map, List.getElem_range, List.getElem_range']
  simp only [List.length_map, List.length_range]
  have e1 : maxR R - (maxR R + 1 - 3 - 1 - i) = 3 + 1 * i := by omega
  rw [e1]
section
variable {P : Program} {w : World} {K : PySem.W.Frag} {mg : Str → Option Value} {base : Heap}
def spPairs : Sp := fun vs H Q _ => ∃ (pa : Addr) (R : List Nat), vs = [.ref pa] ∧ H pa = some (.tup (bys R)) ∧ R.length = 11 ∧ (∀ x ∈ R, x ≤ 18) ∧
  ∀ H' p us, Same H H' → H p = none → H' p = some (.lst us) → Paired (NpAt H') (prsR R) us → Q (.ref p) H'
theorem ok_pairs {f : Addr} {fd : FuncData} {j : Nat} {t1 : Tok} (F : Fun K "pairs_of" "pairs_of" sPairs f fd) (m1 : mg "max" = none) (m2 : mg "enumerate" = none) (m3 : mg "reversed" = none) (m4 : mg "range" = none) (c1 : mg "FEWEST_COPIED" = some (.int 3 t1)) :
    FnOk P w K mg base CX0 (j + 1) f fd ["reached"] spPairs := by
  refine F.ok scPairs (fun vs H Q E h => ?_) (fun cdv A outer s H vs Q E hr h => ?_)
  · obtain ⟨pa, R, rfl, _⟩ := h
    rfl
  · obtain ⟨pa, R, rfl, hpa, hRl, h18, q⟩ := h
    have hz := PySem.sizeLine_eq
    refine ⟨_, pss_cons (ps_set (i := 1) scPairs.nd rfl (.inl rfl) (pe_callB (cr_maxT rfl hr) (by rfl) m1 (by decide +kernel) (pa_cons (pv 0) pa_nil)))
      (pss_cons (ps_set (i := 2) scPairs.nd rfl (.inl rfl) (pe_op op_rep (pe_lst (pa_cons pe_int pa_nil)) (pe_op op_add (pv 1) pe_int)))
      (pss_cons (ps_for PassesOwn.never rfl (pi_enumT (by rfl) m2 (pa_cons (pv 0) pa_nil)) (pg_tup rfl (pgs_cons (pg_name (i := 3) scPairs.nd rfl (.inl rfl)) (pgs_cons (pg_name (i := 4) scPairs.nd rfl (.inl rfl)) pgs_nil)))
        (pss_one (ps_augS (pv 2) (pv 4) get_list (pe_op op_shl pe_int (pv 3)) ip_add set_list)))
      (pss_cons (ps_set (i := 5) scPairs.nd rfl (.inl rfl) (pe_lst pa_nil))
      (pss_cons (ps_set (i := 6) scPairs.nd rfl (.inl rfl) pe_int)
      (pss_cons (ps_for PassesOwn.never rfl (pi_revR (by rfl) m3 (prg_2 (by rfl) m4 (pe_glob (v := .int 3) rfl c1 ⟨_, rfl⟩) (pe_op op_add (pv 1) pe_int))) (pg_name (i := 4) scPairs.nd rfl (.inl rfl))
        (pss_cons (ps_aug (i := 6) scPairs.nd rfl (.inl rfl) (pe_ix ix_list (pv 2) (pv 4) (fun _ _ => rfl)) ip_add)
        (pss_one (ps_expr (pe_bm PySem.F.plainAttrs_list PySem.F.slot_list_append PySem.F.type_list_append mt_append (pv 5) (pa_cons (pe_tup (pa_cons (pv 4) (pa_cons (pv 6) pa_nil))) pa_nil))))))
      (pss_one (ps_ret (pe_revL (pv 5))))))))), ?_⟩
    have hne : R ≠ [] := fun z => by rw [z] at hRl; cases hRl
    refine ⟨_, rfl, pa, R.map fun (k : Nat) => (k : Int), rfl, .inl (.inl hpa), by rw [List.length_map]; omega, fun m hm hmm => ?_⟩
    have em : m = ((maxR R : Nat) : Int) := by
      obtain ⟨k, hk, rfl⟩ := List.mem_map.mp hm
      have h1 := le_maxR hk
      have h2 := hmm _ (List.mem_map.mpr ⟨_, maxR_mem hne, rfl⟩)
      omega
    subst em
    have hM18 : maxR R ≤ 18 := h18 _ (maxR_mem hne)
    dsimp only [gName]
    refine ⟨(by show 1 ≤ sizeLine; omega), fun z nz => ?_⟩
    have s1 := same_upd (o := .lst [.int 0]) nz
    have hz1 : (upd H z (.lst [.int 0])) z = some (.lst [.int 0]) := upd_same
    generalize upd H z (.lst [.int 0]) = H1 at *
    refine ⟨_, rfl, _, _, rfl, rfl, z, _, _, rfl, rfl, hz1, by omega, by omega, (by show 1 * _ ≤ _; omega), fun D nD => ?_⟩
    have nD0 := none_back s1 nD
    have e0 : (List.replicate ((maxR R : Int) + 1).toNat [V.int 0]).flatten = bys (endL R 0) := by
      rw [rep_flat]
      unfold bys endL
      rw [show ((maxR R : Int) + 1).toNat = maxR R + 1 by omega, List.map_map, List.map_map]
      show _ = (List.range (maxR R + 1)).map fun _ => V.int 0
      rw [List.map_const', List.length_range]
    rw [e0]
    have s2 := s1.trans (same_upd (o := .lst (bys (endL R 0))) nD)
    have hD2 : (upd H1 D (.lst (bys (endL R 0)))) D = some (.lst (bys (endL R 0))) := upd_same
    generalize upd H1 D (.lst (bys (endL R 0))) = H2 at *
    dsimp only [gName]
    refine ⟨_, rfl, pa, _, rfl, .inl (.inl (s2 _ _ hpa)), ?_⟩
    have hl0 : (bys R).length = 11 := by
      unfold bys
      rw [List.length_map, List.length_map]
      exact hRl
    refine for_it (walk_enumT (K := K) (a := pa) (xs := bys R)) (fun i σ H' => ∃ y3 y4 : Option V, σ = [some (.ref pa), some (.int (maxR R : Int)), some (.ref D), y3, y4, none, none] ∧ Same H H' ∧ H' D = some (.lst (bys (endL R i)))) ⟨_, _, rfl, s2, hD2⟩ (fun i σ H' _ z => by
      obtain ⟨_, _, _, sm, _⟩ := z
      exact .inl (.inl (sm _ _ hpa))) (fun i x σ H' H3 hi z y => ?_) (fun σ H' z => ?_)
    · obtain ⟨y3, y4, rfl, sm, hD⟩ := z
      rw [hl0] at hi
      obtain ⟨T0, x0, y0, rfl, nT0, rfl, e0, e1⟩ := y
      obtain rfl := Option.some.inj e0
      have hy : y0 = .int ((R.getD i 0 : Nat) : Int) := by
        have := at_of' (ks := R) (i := (i : Int)) rfl (by rw [hRl]; exact hi)
        rw [atI_nat e1] at this
        exact Option.some.inj this
      subst hy
      have sm2 : Same H' (upd H' T0 (.tup [.int (i : Nat), .int ((R.getD i 0 : Nat) : Int)])) := same_upd nT0
      have hD3 := sm2 _ _ hD
      refine ⟨T0, _, rfl, .inl (.inl upd_same), rfl, _, _, rfl, _, _, rfl, rfl, ?_⟩
      generalize upd H' T0 (.tup [.int (i : Nat), .int ((R.getD i 0 : Nat) : Int)]) = H3 at *
      have hm := le_maxR (getD_mem (by rw [hRl]; exact hi) : R.getD i 0 ∈ R)
      have hen := endN_lt R (R.getD i 0) i
      have hg : (bys (endL R i))[R.getD i 0]? = some (.int ((endN R (R.getD i 0) i : Nat) : Int)) := by
        unfold bys
        rw [List.getElem?_map, List.getElem?_map, List.getElem?_eq_getElem (by rw [endL_len]; omega)]
        have := endL_at (R := R) (l := i) hm
        rw [List.getD_eq_getElem?_getD, List.getElem?_eq_getElem (by rw [endL_len]; omega)] at this
        have this : (endL R i)[R.getD i 0]'(by rw [endL_len]; omega) = endN R (R.getD i 0) i := this
        rw [this]
        rfl
      refine ⟨_, rfl, _, rfl, D, _, _, _, rfl, rfl, .inl (.inl hD3), hg, _, rfl, _, _, rfl, rfl, ⟨by omega, by omega, by decide⟩, _, _, rfl, rfl, D, _, _, R.getD i 0, rfl, rfl, hD3, ixN_natK (by unfold bys; rw [List.length_map, List.length_map, endL_len]; omega), ?_⟩
      refine ⟨_, _, rfl, same_put (sm.trans sm2) nD0, ?_⟩
      rw [upd_same, ← endL_succ (by rw [hRl]; exact hi)]
      have e2 : (1 : Int) * 2 ^ (i : Int).toNat = ((2 ^ i : Nat) : Int) := by
        rw [Int.one_mul, Int.toNat_natCast]
        push_cast
        rfl
      rw [e2]
      unfold bys
      rw [List.map_set, List.map_set]
      rfl
    · obtain ⟨y3, y4, rfl, sm, hD⟩ := z
      rw [hl0] at hD
      refine ⟨Nat.zero_le _, fun B nB => ?_⟩
      have nB0 := none_back sm nB
      have s3 := sm.trans (same_upd (o := .lst []) nB)
      have hD3 := same_upd (o := .lst []) nB _ _ hD
      have hB3 : (upd H' B (.lst [])) B = some (.lst []) := upd_same
      have neDB : B ≠ D := Ne.symm (ne_of_none hD nB)
      generalize upd H' B (.lst []) = H3 at *
      dsimp only [gName]
      refine ⟨_, rfl, _, _, rfl, rfl, _, _, rfl, rfl, by omega, by omega, by omega, by omega, ?_⟩
      obtain ⟨N, eN⟩ : ∃ N, N = maxR R + 1 - 3 := ⟨_, rfl⟩
      have hn : ((maxR R : Int) + 1 - 3).toNat = N := by omega
      rw [hn]
      refine for_rangeC (lo := 3 + ((N : Nat) : Int) - 1) (c := -1) (n := N) (fun i σ H' => ∃ (y3 y4 : Option V) (us : List V), σ = [some (.ref pa), some (.int (maxR R : Int)), some (.ref D), y3, y4, some (.ref B), some (.int ((maskN R (maxR R + 1 - i) 11 : Nat) : Int))] ∧ Same H H' ∧ H' D = some (.lst (bys (endL R 11))) ∧ H' B = some (.lst us) ∧ Paired (NpAt H') (fallP R i) us ∧ us.length = i)
        ⟨_, _, [], by rw [Nat.sub_zero, mask_top (Nat.lt_succ_self _)]; rfl, s3, hD3, hB3, .nil, rfl⟩ (fun i σ H' hi z => ?_) (fun σ H' z => ?_)
      · obtain ⟨z3, z4, us, rfl, sm, hD, hB, hus, hul⟩ := z
        obtain ⟨m, hm⟩ : ∃ m : Nat, m = maxR R - i := ⟨_, rfl⟩
        have em : 3 + ((N : Nat) : Int) - 1 + (i : Nat) * -1 = (m : Int) := by omega
        rw [em]
        have hat : atI (bys (endL R 11)) (m : Int) = some (.int ((endN R m 11 : Nat) : Int)) := by
          have := at_of' (ks := endL R 11) (i := (m : Int)) rfl (by rw [endL_len]; omega)
          rw [endL_at (by omega)] at this
          exact this
        refine ⟨_, rfl, _, rfl, _, rfl, D, _, _, _, rfl, rfl, .inl (.inl hD), hat, _, _, rfl, rfl, ?_⟩
        have ek : ((maskN R (maxR R + 1 - i) 11 : Nat) : Int) + ((endN R m 11 : Nat) : Int) = ((maskN R m 11 : Nat) : Int) := by
          have := mask_end R m 11
          rw [show maxR R + 1 - i = m + 1 by omega]
          omega
        dsimp only
        rw [ek]
        refine ⟨_, rfl, .inl ⟨rfl, _, .inl (.inl hB)⟩, _, rfl, _, rfl, (by show 2 ≤ sizeLine; omega), fun tt ntt => ?_⟩
        have st := same_upd (o := .tup [.int (m : Int), .int ((maskN R m 11 : Nat) : Int)]) ntt
        have ht : NpAt (upd H' tt (.tup [.int (m : Int), .int ((maskN R m 11 : Nat) : Int)])) (m, maskN R m 11) (.ref tt) := ⟨tt, rfl, upd_same⟩
        refine ⟨B, _, _, rfl, rfl, st _ _ hB, by omega, ?_⟩
        refine ⟨z3, _, us ++ [.ref tt], by rw [show maxR R + 1 - (i + 1) = m by omega]; rfl, same_put (sm.trans st) nB0, by rw [upd_ne (Ne.symm neDB)]; exact st _ _ hD, upd_same, ?_, by rw [List.length_append, hul]; rfl⟩
        have ef : fallP R (i + 1) = fallP R i ++ [(m, maskN R m 11)] := by
          unfold fallP
          rw [List.range_succ, List.map_append, hm]
          rfl
        rw [ef]
        exact (hus.mono fun _ _ h => (h.same st).put (st _ _ hB)).snoc (ht.put (st _ _ hB))
      · obtain ⟨z3, z4, us, rfl, sm, hD, hB, hus, hul⟩ := z
        refine ⟨_, rfl, B, _, rfl, .inl (.inl hB), fun p np => ?_⟩
        have s5 := same_upd (o := .lst us.reverse) np
        refine q _ p us.reverse (sm.trans s5) (none_back sm np) upd_same ?_
        rw [← fall_rev, ← eN]
        exact paired_rev (hus.mono fun _ _ h => h.same s5)
end
end K4

namespace K4
open PySem PySem.Spec PyProof.Rows L2
/-- {k: v}, k a tuple -/
def tDispT (tk tv : TE) : TE := fun σ H Q => ∀ p, H p = none → tk σ (upd H p (.dT [])) fun x H1 => tv σ H1 fun y H2 => H2 p = some (.dT []) ∧ ∃ (b : Addr) (k : List Key), x = .ref b ∧ H2 b = some (.tup (k.map kV)) ∧ Q (.ref p) (upd H2 p (.dT [(k, y)]))
section
variable {X : Cx} {tk tv : TE} {k v : Expr} {pos : Pos}
theorem pe_dispT {j : Nat} (hr : Room j X.A) (hk : PE X k tk) (hv : PE X v tv) : PE X (.Dict [some k] [v] pos) (tDispT tk tv) := by
  constructor; intro pins s σ H Q I q
  have hn := I.hok.fresh (Nat.le_refl (s.heap.objs.size))
  have I1 := I.laid (a := s.heap.objs.size) (o := .dT []) (h' := s.heap.push { cls := .type "dict", data := .dict #[] }) (t' := s.toks) (fun _ _ q => Heap.get?_push_of_some _ q) (Nat.le_refl _) (dt_empty s.heap I.big)
  have hu : (tupleKind (mixKind X.prog X.w)).room X.A := by
    have := hr.un
    show _ < cLine
    omega
  have hsh : (evalEachOpt [some k] X.env).zip ((evalEach [v] X.env).map fun v => do let x ← v; standAt pos; pure x) = (pairTrees [some k] [v] X.env pos).map fun p => (some p.1, p.2) := zip_pairTrees _ _ _ _ rfl rfl
  rw [arm_eval_Dict, hsh, dictDisplay_pairs (pairTrees [some k] [v] X.env pos) (by intro z; cases z) (show 1 < 17 by decide)]
  refine wpAny_bind (wpAny_standAt (wpAny_bind (wpAny_subDictH (knd := tupleKind (mixKind X.prog X.w)) (Q := fun d s' => wpAny (model X.prog X.w) X.A (pure (Value.ref d)) (EP X pins σ Q) X.xe s') hu (show 1 ≤ 15 by decide) ?_)))
  refine pairTrees_cons_walk (thn (hk.run pins _ σ _ _ I1 (q _ hn)) fun u s1 ⟨x, H1, I1, rx, q1⟩ => thn (hv.run pins s1 σ H1 _ I1 q1) fun w2 s2 ⟨y, H2, I2, ry, e, b, kk, ex, eb, q2⟩ => pairTrees_nil_walk ?_)
  subst ex
  obtain rfl : u = Value.ref b := rx
  obtain ⟨z, hd, xs, rel, dd⟩ := dt_of I2.hok e
  cases rel
  refine ⟨[(kk, b, w2)], ⟨rfl, rfl, key_of I2.hok eb, trivial⟩, dd, fun h' tk2 dd' hs => wpAny_pure ?_⟩
  have es : storedAllH (K := List Key) [] [(kk, b, w2)] = [(kk, b, w2)] := by
    simp [storedAllH, storedH, atKey]
  rw [es] at dd'
  obtain ⟨q, es, ep, hq, h2, h3, h4, _, h5⟩ := (dd')
  have nb : b ≠ s.heap.objs.size := ne_of eb e (fun z => nomatch z)
  refine ⟨.ref s.heap.objs.size, upd H2 s.heap.objs.size (.dT [(kk, y)]), d_write (t' := tk2) (ob := .dT [(kk, y)]) I2 (by rw [e]; exact True.intro) hs ⟨q, hq⟩ ⟨(by show 1 ≤ sizeLine; decide), hd, _, .cons ⟨rfl, ?_, ry⟩ .nil, q, es, ep, hq, h2, h3, h4, h5⟩, rfl, q2⟩
  rw [upd_ne nb]
  exact eb
end
/-! ### Places -/
def keyOf (R : List Nat) : List Key := R.map fun (n : Nat) => Sum.inl (n : Int)
theorem keyOf_bys (R : List Nat) : (keyOf R).map kV = bys R := by
  unfold keyOf bys
  rw [List.map_map, List.map_map]
  rfl
theorem keyOf_inj : ∀ {R R' : List Nat}, keyOf R = keyOf R' → R = R'
  | [], [], _ => rfl
  | [], _ :: _, h => by cases h
  | _ :: _, [], h => by cases h
  | a :: r, b :: r', h => by
    obtain ⟨h1, h2⟩ := List.cons.inj h
    have h1 : (a : Int) = (b : Int) := Sum.inl.inj h1
    rw [show a = b by omega, keyOf_inj (R := r) (R' := r') h2]
theorem putK_lenT {kvs : List (List Key × V)} {k : List Key} {v : V} : (putK kvs k v).length ≤ kvs.length + 1 := by
  unfold putK
  split
  · rw [List.length_map]
    omega
  · rw [List.length_append]
    exact Nat.le_refl _
/-- the list of a place's pairs, apart from p and q -/
def PlsAt (H : Hp) (p q : Addr) (R : List Nat) (v : V) : Prop := ∃ t us, v = .ref t ∧ t ≠ p ∧ t ≠ q ∧ H t = some (.lst us) ∧ Paired (NpAt H) (prsR R) us
theorem NpAt.keep {H H' : Hp} {s : Nat × Nat} {v : V} (h : NpAt H s v) (k : ∀ b xs, H b = some (.tup xs) → H' b = some (.tup xs)) : NpAt H' s v := by
  obtain ⟨t, e, ht⟩ := h
  exact ⟨t, e, k _ _ ht⟩
theorem PlsAt.keep {H H' : Hp} {p q : Addr} {R : List Nat} {v : V} (h : PlsAt H p q R v) (k1 : ∀ b xs, H b = some (.tup xs) → H' b = some (.tup xs)) (k2 : ∀ b xs, b ≠ p → b ≠ q → H b = some (.lst xs) → H' b = some (.lst xs)) : PlsAt H' p q R v := by
  obtain ⟨t, us, e, n1, n2, ht, hp⟩ := h
  exact ⟨t, us, e, n1, n2, k2 _ _ n1 n2 ht, hp.mono fun _ _ z => z.keep k1⟩
theorem PlsAt.same {H H' : Hp} {p q : Addr} {R : List Nat} {v : V} (h : PlsAt H p q R v) (sm : Same H H') : PlsAt H' p q R v := h.keep (fun b xs e => sm _ _ e) fun b xs _ _ e => sm _ _ e
theorem PlsAt.putL {H : Hp} {p q D : Addr} {R : List Nat} {v : V} {xs ys : List V} (h : PlsAt H p q R v) (hD : H D = some (.lst xs)) (hd : D = p ∨ D = q) : PlsAt (upd H D (.lst ys)) p q R v :=
  h.keep (fun b zs e => by rw [upd_ne (ne_of e hD (fun z => nomatch z))]; exact e) fun b zs n1 n2 e => by
    rw [upd_ne (by rcases hd with rfl | rfl <;> assumption)]
    exact e
theorem PlsAt.putD {H : Hp} {p q D : Addr} {R : List Nat} {v : V} {xs ys : List (List Key × V)} (h : PlsAt H p q R v) (hD : H D = some (.dT xs)) : PlsAt (upd H D (.dT ys)) p q R v :=
  h.keep (fun b zs e => by rw [upd_ne (ne_of e hD (fun z => nomatch z))]; exact e) fun b zs n1 n2 e => by
    rw [upd_ne (ne_of e hD (fun z => nomatch z))]
    exact e
def KnOk (H : Hp) (p q : Addr) (ps : List V) (kvs : List (List Key × V)) : Prop := ∀ k v, valV kvs k = some v → ∃ (R : List Nat) (i : Nat) (w : V), k = keyOf R ∧ v = .int (i : Int) ∧ ps[i]? = some w ∧ PlsAt H p q R w
def KdOk (H : Hp) (p q : Addr) (ps : List V) (ks : List Nat) (e : List Nat) (lead : Nat) : Prop := ∀ i, i < ks.length → ∃ (R : List Nat) (w : V), ps[ks.getD i 0]? = some w ∧ Rch e (lead + i) R ∧ PlsAt H p q R w
theorem KnOk.mono {H H' : Hp} {p q : Addr} {ps ps' : List V} {kvs : List (List Key × V)} (h : KnOk H p q ps kvs) (hps : ∀ (i : Nat) (w : V), ps[i]? = some w → ps'[i]? = some w) (k : ∀ R w, PlsAt H p q R w → PlsAt H' p q R w) : KnOk H' p q ps' kvs := fun x v hv => by
  obtain ⟨R, i, w, a1, a2, a3, a4⟩ := h x v hv
  exact ⟨R, i, w, a1, a2, hps _ _ a3, k _ _ a4⟩
theorem KdOk.mono {H H' : Hp} {p q : Addr} {ps ps' : List V} {ks e : List Nat} {lead : Nat} (h : KdOk H p q ps ks e lead) (hps : ∀ (i : Nat) (w : V), ps[i]? = some w → ps'[i]? = some w) (k : ∀ R w, PlsAt H p q R w → PlsAt H' p q R w) : KdOk H' p q ps' ks e lead := fun i hi => by
  obtain ⟨R, w, a1, a2, a3⟩ := h i hi
  exact ⟨R, w, hps _ _ a1, a2, k _ _ a3⟩
theorem app_at {α : Type} {xs ys : List α} : ∀ (i : Nat) (w : α), xs[i]? = some w → (xs ++ ys)[i]? = some w := fun i w h => by
  rw [List.getElem?_append_left (List.getElem?_eq_some_iff.mp h).1]
  exact h
/-- what stands in a Places -/
def plF (y z : Array UInt8) (n : Int) (p q : Addr) : List (Str × V) := [(("data" : Str), V.byt y), (("whole" : Str), V.byt z), (("start" : Str), V.int n), (("pairs" : Str), V.ref p), (("kinds" : Str), V.ref q)]
theorem plF_d (y z : Array UInt8) (n : Int) (p q : Addr) : (plF y z n p q).lookup ("data" : Str) = some (.byt y) := lkH
theorem plF_w (y z : Array UInt8) (n : Int) (p q : Addr) : (plF y z n p q).lookup ("whole" : Str) = some (.byt z) := (lkP (by decide +kernel)).trans lkH
theorem plF_s (y z : Array UInt8) (n : Int) (p q : Addr) : (plF y z n p q).lookup ("start" : Str) = some (.int n) := (lkP (by decide +kernel)).trans ((lkP (by decide +kernel)).trans lkH)
theorem plF_p (y z : Array UInt8) (n : Int) (p q : Addr) : (plF y z n p q).lookup ("pairs" : Str) = some (.ref p) := (lkP (by decide +kernel)).trans ((lkP (by decide +kernel)).trans ((lkP (by decide +kernel)).trans lkH))
theorem plF_k (y z : Array UInt8) (n : Int) (p q : Addr) : (plF y z n p q).lookup ("kinds" : Str) = some (.ref q) := (lkP (by decide +kernel)).trans ((lkP (by decide +kernel)).trans ((lkP (by decide +kernel)).trans ((lkP (by decide +kernel)).trans lkH)))
theorem plF_no {x : Str} (y z : Array UInt8) (n : Int) (p q : Addr) (h1 : (x == ("data" : Str)) = false) (h2 : (x == ("whole" : Str)) = false) (h3 : (x == ("start" : Str)) = false) (h4 : (x == ("pairs" : Str)) = false) (h5 : (x == ("kinds" : Str)) = false) : (plF y z n p q).lookup x = none := (lkP h1).trans ((lkP h2).trans ((lkP h3).trans ((lkP h4).trans ((lkP h5).trans rfl))))
structure PlTxt (K : PySem.W.Frag) (mg : Str → Option Value) (C fI fL fP fB : Addr) : Prop where
  cl : Cls K C
  gC : mg "Places" = some (.ref C)
  made : Mk K C fI
  nD : NoAttr K C "data"
  nW : NoAttr K C "whole"
  nS : NoAttr K C "start"
  nP : NoAttr K C "pairs"
  nK : NoAttr K C "kinds"
  mL : Meth K C "look_at_all" fL
  mP : Meth K C "pairs_at" fP
  mB : Meth K C "least_back" fB
abbrev NLk : List Str := ["self", "reached", "known", "place"]
theorem scLook : FnScope NLk ["self"] (defScope sPlLook) := ⟨rfl, rfl, rfl, by decide +kernel, rfl, by decide +kernel, by decide +kernel⟩
section
variable {P : Program} {w : World} {K : PySem.W.Frag} {mg : Str → Option Value} {base : Heap} {C fI fL fP fB : Addr}
def spLook (C : Addr) : Sp := fun vs H Q _ => ∃ (a dx p q z : Addr) (e data : List Nat) (lead : Nat), vs = [.ref a] ∧ H a = some (.ins C dx (plF (byB data) (byB e) (lead : Int) p q)) ∧ H p = some (.lst [.ref z]) ∧ H q = some (.lst []) ∧ H z = some (.lst []) ∧ p ≠ q ∧ z ≠ p ∧ z ≠ q ∧ (∀ k ∈ e, k < 256) ∧ e.length ≤ 10000 ∧ lead ≤ e.length ∧
  ∀ H' ps ks, (∀ b o, b ≠ p → b ≠ q → H b = some o → H' b = some o) → H' p = some (.lst ps) → H' q = some (.lst (bys ks)) → ks.length = e.length - lead → KdOk H' p q ps ks e lead → Q .non H'
theorem ok_look (T : PlTxt K mg C fI fL fP fB) {f1 f2 : Addr} {fd fd1 fd2 : FuncData} {j k1 k2 : Nat} {t3 : Tok} (F : Fun K "look_at_all" "Places.look_at_all" sPlLook fL fd)
    (G1 : FnOk P w K mg base CX0 k1 f1 fd1 ["whole", "place", "ahead"] spRAt) (b1 : Binds K fd1 ["whole", "place", "ahead"] []) (kk1 : PySem.W.keepIn K (.ref f1) = true) (g1 : mg "reached_at" = some (.ref f1)) (l1 : k1 ≤ j)
    (G2 : FnOk P w K mg base CX0 k2 f2 fd2 ["reached"] spPairs) (b2 : Binds K fd2 ["reached"] []) (kk2 : PySem.W.keepIn K (.ref f2) = true) (g2 : mg "pairs_of" = some (.ref f2)) (l2 : k2 ≤ j)
    (m1 : mg "range" = none) (m2 : mg "len" = none) (c3 : mg "BACKS" = some (.int 11 t3)) :
    FnOk P w K mg base CX0 (j + 1) fL fd ["self"] (spLook C) := by
  refine F.ok scLook (fun vs H Q E h => ?_) (fun cdv A outer s H vs Q E hr h => ?_)
  · obtain ⟨a, dx, p, q, z, e, data, lead, rfl, _⟩ := h
    rfl
  · obtain ⟨a, dx, p, q, z, e, data, lead, rfl, ha, hp, hq, hz0, npq, nzp, nzq, hk, he, hle, fin⟩ := h
    have hz := PySem.sizeLine_eq
    have hu := hu_of hr
    refine ⟨_, pss_cons (ps_set (i := 1) scLook.nd rfl (.inl rfl) (pe_op op_repT (pe_tup (pa_cons pe_int pa_nil)) (pe_glob (v := .int 11) rfl c3 ⟨_, rfl⟩)))
      (pss_cons (ps_set (i := 2) scLook.nd rfl (.inl rfl) (pe_dispT hr (pv 1) pe_int))
      (pss_one (ps_for PassesOwn.never rfl (pi_range2 (by rfl) m1 (pa_cons (pe_fld (pv 0) rfl) (pa_cons (pe_callB call_len (by rfl) m2 PySem.boot_len (pa_cons (pe_fld (pv 0) rfl) pa_nil)) pa_nil))) (pg_name (i := 3) scLook.nd rfl (.inl rfl))
        (pss_cons (ps_set (i := 1) scLook.nd rfl (.inl rfl) (pe_call G1 (hr.mono l1) (by rfl) g1 kk1 b1 .nil pass0 (pa_cons (pe_fld (pv 0) rfl) (pa_cons (pv 3) (pa_cons (pv 1) pa_nil)))))
        (pss_cons (ps_if (pt_cmp (pc_dnotin hu (pv 1) (pv 2)))
            (pss_cons (ps_dput hu (pv 2) (pv 1) (pe_callB call_len_seq (by rfl) m2 PySem.boot_len (pa_cons (pe_fld (pv 0) rfl) pa_nil)) rfl)
            (pss_one (ps_expr (pe_bm PySem.F.plainAttrs_list PySem.F.slot_list_append PySem.F.type_list_append mt_append (pe_fld (pv 0) rfl) (pa_cons (pe_call G2 (hr.mono l2) (by rfl) g2 kk2 b2 .nil pass0 (pa_cons (pv 1) pa_nil)) pa_nil))))) pss_nil)
        (pss_one (ps_expr (pe_bm PySem.F.plainAttrs_list PySem.F.slot_list_append PySem.F.type_list_append mt_append (pe_fld (pv 0) rfl) (pa_cons (pe_dget hu (pv 2) (pv 1) (fun _ _ => rfl)) pa_nil))))))))), ?_⟩
    have hap : a ≠ p := ne_of ha hp (fun z => nomatch z)
    have haq : a ≠ q := ne_of ha hq (fun z => nomatch z)
    refine ⟨(by show 1 ≤ sizeLine; omega), fun t nt => ⟨t, 11, [.int 0], rfl, rfl, .inl (.inl upd_same), by simp, by decide, by decide, by decide, fun r nr => ?_⟩⟩
    rw [zeros_flat]
    have s1 := (same_upd (o := .tup [.int 0]) nt).trans (same_upd (o := .tup (bys zeros)) nr)
    have hr1 : (upd (upd H t (.tup [.int 0])) r (.tup (bys zeros))) r = some (.tup (bys zeros)) := upd_same
    generalize upd (upd H t (.tup [.int 0])) r (.tup (bys zeros)) = H1 at *
    refine fun d nd => ⟨_, rfl, upd_same, r, keyOf zeros, rfl, ?_, ?_⟩
    · rw [keyOf_bys, upd_ne (ne_of_none hr1 nd)]
      exact hr1
    have s2 : Same H (upd (upd H1 d (.dT [])) d (.dT [(keyOf zeros, .int 0)])) := s1.trans (same_put (same_upd nd) nd)
    have hr2 : (upd (upd H1 d (.dT [])) d (.dT [(keyOf zeros, .int 0)])) r = some (.tup (bys zeros)) := same_put (same_upd nd) nd _ _ hr1
    have hd2 : (upd (upd H1 d (.dT [])) d (.dT [(keyOf zeros, .int 0)])) d = some (.dT [(keyOf zeros, .int 0)]) := upd_same
    have nd0 := none_back s1 nd
    generalize upd (upd H1 d (.dT [])) d (.dT [(keyOf zeros, .int 0)]) = H2 at *
    dsimp only [gName]
    refine ⟨_, rfl, a, C, dx, _, _, rfl, s2 _ _ ha, T.cl, T.nS, plF_s _ _ _ _ _, _, rfl, a, C, dx, _, _, rfl, s2 _ _ ha, T.cl, T.nW, plF_w _ _ _ _ _, _, (byB e).size, rfl, ⟨by rw [byB_size]; omega, rfl⟩, _, _, rfl, ⟨by omega, by omega, by rw [byB_size]; omega, by rw [byB_size]; omega⟩, ?_⟩
    have hn : (((byB e).size : Int) - (lead : Int)).toNat = e.length - lead := by
      rw [byB_size]
      omega
    refine for_range (lo := (lead : Int)) (n := (((byB e).size : Int) - (lead : Int)).toNat) (fun i σ H' => ∃ (y3 : Option V) (r : Addr) (R : List Nat) (kvs : List (List Key × V)) (ps : List V) (ks : List Nat), σ = [some (.ref a), some (.ref r), some (.ref d), y3] ∧ (∀ b o, b ≠ p → b ≠ q → H b = some o → H' b = some o) ∧ H' r = some (.tup (bys R)) ∧ Carry e (lead + i) R ∧ H' d = some (.dT kvs) ∧ kvs.length ≤ i + 1 ∧ H' p = some (.lst ps) ∧ ps.length ≤ i + 1 ∧ H' q = some (.lst (bys ks)) ∧ ks.length = i ∧ KnOk H' p q ps kvs ∧ KdOk H' p q ps ks e lead)
      ⟨_, r, zeros, _, _, [], rfl, fun b o _ _ e => s2 _ _ e, hr2, zeros_carry _ _, hd2, Nat.le_refl _, s2 _ _ hp, Nat.le_refl _, s2 _ _ hq, rfl, ?_, fun i hi => absurd hi (Nat.not_lt_zero _)⟩ (fun i σ H' hi h => ?_) (fun σ H' h => ?_)
    · intro k v hv
      have hv' : (if keyOf zeros = k then some (V.int 0) else none) = some v := by
        simpa [valV, eq_comm] using hv
      by_cases qk : keyOf zeros = k
      · rw [if_pos qk] at hv'
        exact ⟨zeros, 0, .ref z, qk.symm, (Option.some.inj hv').symm, rfl, z, [], rfl, nzp, nzq, s2 _ _ hz0, .nil⟩
      · rw [if_neg qk] at hv'
        cases hv'
    · obtain ⟨y3, r, R, kvs, ps, ks, rfl, fr, hr1, hC, hd, hkl, hp1, hpl, hq1, hql, hKn, hKd⟩ := h
      rw [hn] at hi
      have ep : (lead : Int) + (i : Int) = ((lead + i : Nat) : Int) := by push_cast; rfl
      rw [ep]
      refine ⟨_, rfl, a, C, dx, _, _, rfl, fr _ _ hap haq ha, T.cl, T.nW, plF_w _ _ _ _ _, _, rfl, _, rfl, e, lead + i, r, R, rfl, hr1, hC, hk, he, by omega, fun H3 r1 R1 s3 nr1 hr3 hR1 => ?_⟩
      dsimp only [gName]
      have fr3 : ∀ b o, b ≠ p → b ≠ q → H b = some o → H3 b = some o := fun b o n1 n2 e => s3 _ _ (fr b o n1 n2 e)
      have hd3 := s3 _ _ hd
      have hp3 := s3 _ _ hp1
      have hq3 := s3 _ _ hq1
      have hKn3 : KnOk H3 p q ps kvs := hKn.mono (fun _ _ h => h) fun _ _ h => h.same s3
      have hKd3 : KdOk H3 p q ps ks e lead := hKd.mono (fun _ _ h => h) fun _ _ h => h.same s3
      have hdp : d ≠ p := ne_of hd3 hp3 (fun z => nomatch z)
      have hdq : d ≠ q := ne_of hd3 hq3 (fun z => nomatch z)
      obtain ⟨M1, hM1⟩ : ∃ M : L2.St → Hp → Prop, M = (fun σ' H' => ∃ (kvs : List (List Key × V)) (ps : List V) (ix : Nat) (w : V), σ' = [some (.ref a), some (.ref r1), some (.ref d), some (.int ((lead + i : Nat) : Int))] ∧ (∀ b o, b ≠ p → b ≠ q → H b = some o → H' b = some o) ∧ H' r1 = some (.tup (bys R1)) ∧ H' d = some (.dT kvs) ∧ kvs.length ≤ i + 2 ∧ H' p = some (.lst ps) ∧ ps.length ≤ i + 2 ∧ H' q = some (.lst (bys ks)) ∧ KnOk H' p q ps kvs ∧ KdOk H' p q ps ks e lead ∧ valV kvs (keyOf R1) = some (.int (ix : Int)) ∧ ps[ix]? = some w ∧ PlsAt H' p q R1 w) := ⟨_, rfl⟩
      with_reducible refine seq_mid M1 (fun N hN => ?_) (fun σ4 H4 h => ?_)
      · subst hM1
        refine ⟨_, rfl, _, rfl, d, _, rfl, DGet.t (k := keyOf R1) hd3 (by rw [keyOf_bys]; exact hr3), _, rfl, ?_⟩
        cases hv : valV kvs (keyOf R1) with
        | some v =>
          refine iteF ?_
          obtain ⟨R', ix, w, e1, rfl, e3, e4⟩ := hKn3 _ _ hv
          obtain rfl := keyOf_inj e1
          exact hN _ _ ⟨kvs, ps, ix, w, rfl, fr3, hr3, hd3, by omega, hp3, by omega, hq3, hKn3, hKd3, hv, e3, e4⟩
        | none =>
          refine iteT ?_
          refine ⟨_, rfl, a, C, dx, _, _, rfl, fr3 _ _ hap haq ha, T.cl, T.nP, plF_p _ _ _ _ _, p, ps, rfl, .inl (.inl (.inl hp3)), _, rfl, _, rfl, d, _, rfl, DPut.t hd3 (by rw [keyOf_bys]; exact hr3) (by omega), ?_⟩
          have fr5 : ∀ b o, b ≠ p → b ≠ q → H b = some o → (upd H3 d (.dT (putK kvs (keyOf R1) (.int (ps.length : Int))))) b = some o := fun b o n1 n2 e => by
            rw [upd_ne (ne_of_none e nd0)]
            exact fr3 b o n1 n2 e
          have hr5 : (upd H3 d (.dT (putK kvs (keyOf R1) (.int (ps.length : Int))))) r1 = some (.tup (bys R1)) := by
            rw [upd_ne (ne_of hr3 hd3 (fun z => nomatch z))]
            exact hr3
          have hd5 : (upd H3 d (.dT (putK kvs (keyOf R1) (.int (ps.length : Int))))) d = some (.dT (putK kvs (keyOf R1) (.int (ps.length : Int)))) := upd_same
          have hp5 : (upd H3 d (.dT (putK kvs (keyOf R1) (.int (ps.length : Int))))) p = some (.lst ps) := by
            rw [upd_ne (Ne.symm hdp)]
            exact hp3
          have hq5 : (upd H3 d (.dT (putK kvs (keyOf R1) (.int (ps.length : Int))))) q = some (.lst (bys ks)) := by
            rw [upd_ne (Ne.symm hdq)]
            exact hq3
          have kp5 : ∀ R w, PlsAt H3 p q R w → PlsAt (upd H3 d (.dT (putK kvs (keyOf R1) (.int (ps.length : Int))))) p q R w := fun R w h => h.putD hd3
          generalize upd H3 d (.dT (putK kvs (keyOf R1) (.int (ps.length : Int)))) = H5 at *
          refine ⟨_, rfl, a, C, dx, _, _, rfl, fr5 _ _ hap haq ha, T.cl, T.nP, plF_p _ _ _ _ _, .inl ⟨rfl, _, .inl (.inl hp5)⟩, _, rfl, r1, R1, rfl, hr5, hR1.len, hR1.top, fun H6 p2 us s6 np2 hp2 hus => ?_⟩
          have hp6 := s6 _ _ hp5
          have hq6 := s6 _ _ hq5
          have hpp2 : p2 ≠ p := fun z => by rw [z, hp5] at np2; cases np2
          have hpq2 : p2 ≠ q := fun z => by rw [z, hq5] at np2; cases np2
          refine ⟨p, _, _, rfl, rfl, hp6, by omega, ?_⟩
          have kp6 : ∀ R w, PlsAt H3 p q R w → PlsAt (upd H6 p (.lst (ps ++ [.ref p2]))) p q R w := fun R w h => ((kp5 R w h).same s6).putL hp6 (.inl rfl)
          have hnew : PlsAt (upd H6 p (.lst (ps ++ [.ref p2]))) p q R1 (.ref p2) := PlsAt.putL ⟨p2, us, rfl, hpp2, hpq2, hp2, hus⟩ hp6 (.inl rfl)
          have hpl6 : (putK kvs (keyOf R1) (.int (ps.length : Int))).length ≤ i + 2 := Nat.le_trans putK_lenT (by omega)
          refine hN _ _ ⟨putK kvs (keyOf R1) (.int (ps.length : Int)), ps ++ [.ref p2], ps.length, .ref p2, rfl, fun b o n1 n2 e => ?_, ?_, ?_, hpl6, upd_same, by rw [List.length_append]; show _ + 1 ≤ _; omega, ?_, ?_, hKd3.mono app_at kp6, ?_, by rw [List.getElem?_append_right (Nat.le_refl _), Nat.sub_self]; rfl, hnew⟩
          · rw [upd_ne n1]
            exact s6 _ _ (fr5 b o n1 n2 e)
          · rw [upd_ne (ne_of (s6 _ _ hr5) hp6 (fun z => nomatch z))]
            exact s6 _ _ hr5
          · rw [upd_ne hdp]
            exact s6 _ _ hd5
          · rw [upd_ne (Ne.symm npq)]
            exact hq6
          · intro k v hv2
            rw [valV_put] at hv2
            by_cases qk : k = keyOf R1
            · rw [if_pos qk] at hv2
              exact ⟨R1, ps.length, .ref p2, qk, (Option.some.inj hv2).symm, by rw [List.getElem?_append_right (Nat.le_refl _), Nat.sub_self]; rfl, hnew⟩
            · rw [if_neg qk] at hv2
              exact (hKn3.mono app_at kp6) k v hv2
          · rw [valV_put, if_pos rfl]
      · subst hM1
        obtain ⟨kvs4, ps4, ix, w4, rfl, fr4, hr4, hd4, hkl4, hp4, hpl4, hq4, hKn4, hKd4, hv4, hw4, hP4⟩ := h
        refine ⟨_, rfl, a, C, dx, _, _, rfl, fr4 _ _ hap haq ha, T.cl, T.nK, plF_k _ _ _ _ _, .inl ⟨rfl, _, .inl (.inl hq4)⟩, _, rfl, _, rfl, d, .int (ix : Int), rfl, (by rw [← hv4]; exact DGet.t (k := keyOf R1) hd4 (by rw [keyOf_bys]; exact hr4)), ?_⟩
        have hbl : (bys ks).length < sizeLine := by
          unfold bys
          rw [List.length_map, List.length_map]
          omega
        refine ⟨q, _, _, rfl, rfl, hq4, hbl, ?_⟩
        have kp : ∀ R w, PlsAt H4 p q R w → PlsAt (upd H4 q (.lst (bys ks ++ [.int (ix : Int)]))) p q R w := fun R w h => h.putL hq4 (.inr rfl)
        refine ⟨_, r1, R1, kvs4, ps4, ks ++ [ix], rfl, fun b o n1 n2 e => ?_, ?_, hR1.carry (by omega), ?_, by omega, ?_, by omega, ?_, by rw [List.length_append, hql]; rfl, hKn4.mono (fun _ _ h => h) kp, fun i2 hi2 => ?_⟩
        · rw [upd_ne n2]
          exact fr4 b o n1 n2 e
        · rw [upd_ne (ne_of hr4 hq4 (fun z => nomatch z))]
          exact hr4
        · rw [upd_ne hdq]
          exact hd4
        · rw [upd_ne npq]
          exact hp4
        · rw [upd_same]
          unfold bys
          rw [List.map_append, List.map_append]
          rfl
        · by_cases q2 : i2 < ks.length
          · rw [List.getD_eq_getElem?_getD, List.getElem?_append_left q2, ← List.getD_eq_getElem?_getD]
            exact (hKd4.mono (fun _ _ h => h) kp) i2 q2
          · rw [List.length_append] at hi2
            have hi2 : i2 < ks.length + 1 := hi2
            have : i2 = i := by omega
            subst this
            rw [List.getD_eq_getElem?_getD, List.getElem?_append_right (by omega), hql, Nat.sub_self]
            exact ⟨R1, w4, hw4, hR1, kp _ _ hP4⟩
    · obtain ⟨y3, r, R, kvs, ps, ks, rfl, fr, hr1, hC, hd, hkl, hp1, hpl, hq1, hql, hKn, hKd⟩ := h
      exact fin H' ps ks fr hp1 hq1 (by rw [hql, hn]) hKd
end
end K4

namespace K4
open PySem PySem.Spec PyProof.Rows L2
/-! ### Places as an object -/
def PlAt (C : Addr) (H : Hp) (a : Addr) (lead data : List Nat) : Prop := ∃ dx p q ps ks, H a = some (.ins C dx (plF (byB data) (byB (lead ++ data)) (lead.length : Int) p q)) ∧ H p = some (.lst ps) ∧ H q = some (.lst (bys ks)) ∧ ks.length = data.length ∧ KdOk H p q ps ks (lead ++ data) lead.length
theorem PlAt.same {C a : Addr} {H H' : Hp} {lead data : List Nat} (h : PlAt C H a lead data) (sm : Same H H') : PlAt C H' a lead data := by
  obtain ⟨dx, p, q, ps, ks, h1, h2, h3, h4, h5⟩ := h
  exact ⟨dx, p, q, ps, ks, sm _ _ h1, sm _ _ h2, sm _ _ h3, h4, h5.mono (fun _ _ z => z) fun _ _ z => z.same sm⟩
theorem scPlI : FnScope ["self", "data", "ahead"] ["self", "data", "ahead"] (defScope sPlInit) := ⟨rfl, rfl, rfl, by decide +kernel, rfl, by decide +kernel, by decide +kernel⟩
theorem plF_put (y z : Array UInt8) (n : Int) (p q : Addr) : putF "kinds" (.ref q) (putF "pairs" (.ref p) (putF "start" (.int n) (putF "whole" (.byt z) (putF "data" (.byt y) [])))) = plF y z n p q := by
  unfold plF
  rfl
theorem scPlP : FnScope ["self", "at"] ["self", "at"] (defScope sPlPairs) := ⟨rfl, rfl, rfl, by decide +kernel, rfl, by decide +kernel, by decide +kernel⟩
abbrev NLb : List Str := ["self", "at", "many", "letter", "place", "low"]
theorem scLb : FnScope NLb ["self", "at", "many", "letter"] (defScope sPlBack) := ⟨rfl, rfl, rfl, by decide +kernel, rfl, by decide +kernel, by decide +kernel⟩
theorem byB_app (a b : List Nat) : byB a ++ byB b = byB (a ++ b) := by
  unfold byB
  rw [List.map_append]
  exact Array.ext' (by simp)
section
variable {P : Program} {w : World} {K : PySem.W.Frag} {mg : Str → Option Value} {base : Heap} {C fI fL fP fB : Addr}
def spPlInit (CP : Addr) : Sp := fun vs H Q _ => ∃ (x dx : Addr) (lead data : List Nat), vs = [.ref x, .byt (byB data), .byt (byB lead)] ∧ H x = some (.ins CP dx []) ∧ (∀ k ∈ lead ++ data, k < 256) ∧ (lead ++ data).length ≤ 10000 ∧
  ∀ H', (∀ b o, b ≠ x → H b = some o → H' b = some o) → PlAt CP H' x lead data → Q .non H'
theorem ok_plInit (T : PlTxt K mg C fI fL fP fB) {fd fdL : FuncData} {j k1 : Nat} (F : Fun K "__init__" "Places.__init__" sPlInit fI fd)
    (GL : FnOk P w K mg base CX0 k1 fL fdL ["self"] (spLook C)) (bL : Binds K fdL ["self"] []) (l1 : k1 ≤ j) (m2 : mg "len" = none) :
    FnOk P w K mg base CX0 (j + 1) fI fd ["self", "data", "ahead"] (spPlInit C) := by
  refine F.ok scPlI (fun vs H Q E h => ?_) (fun cdv A outer s H vs Q E hr h => ?_)
  · obtain ⟨x, dx, lead, data, rfl, _⟩ := h
    rfl
  · obtain ⟨x, dx, lead, data, rfl, hx, hk, hel, fin⟩ := h
    have hz := PySem.sizeLine_eq
    have elen : (lead ++ data).length = lead.length + data.length := List.length_append
    refine ⟨_, pss_cons (ps_fld (pv 0) (pv 1) rfl)
      (pss_cons (ps_fld (pv 0) (pe_op op_add_byt (pv 2) (pv 1)) rfl)
      (pss_cons (ps_fld (pv 0) (pe_callB call_len (by rfl) m2 PySem.boot_len (pa_cons (pv 2) pa_nil)) rfl)
      (pss_cons (ps_fld (pv 0) (pe_lst (pa_cons (pe_lst pa_nil) pa_nil)) rfl)
      (pss_cons (ps_fld (pv 0) (pe_lst pa_nil) rfl)
      (pss_one (ps_expr (pe_meth0 (pv 0) T.cl T.mL GL (hr.mono l1) bL .nil pass0))))))), ?_⟩
    refine ⟨_, rfl, _, rfl, x, C, dx, _, rfl, hx, T.cl, T.nD, (by show 0 < 1000; decide), ?_⟩
    have k1 : ∀ b o, b ≠ x → H b = some o → (upd H x (.ins C dx (putF "data" (.byt (byB data)) []))) b = some o := fun b o n e => by rw [upd_ne n]; exact e
    have h1 : (upd H x (.ins C dx (putF "data" (.byt (byB data)) []))) x = some (.ins C dx (putF "data" (.byt (byB data)) [])) := upd_same
    generalize upd H x (.ins C dx (putF "data" (.byt (byB data)) [])) = H1 at *
    refine ⟨_, rfl, _, rfl, _, _, rfl, rfl, by rw [byB_size, byB_size]; omega, _, rfl, x, C, dx, _, rfl, h1, T.cl, T.nW, (by show 1 < 1000; decide), ?_⟩
    rw [byB_app]
    have k2 : ∀ b o, b ≠ x → H b = some o → (upd H1 x (.ins C dx (putF "whole" (.byt (byB (lead ++ data))) (putF "data" (.byt (byB data)) [])))) b = some o := fun b o n e => by rw [upd_ne n]; exact k1 b o n e
    have h2 : (upd H1 x (.ins C dx (putF "whole" (.byt (byB (lead ++ data))) (putF "data" (.byt (byB data)) [])))) x = some (.ins C dx (putF "whole" (.byt (byB (lead ++ data))) (putF "data" (.byt (byB data)) []))) := upd_same
    generalize upd H1 x (.ins C dx (putF "whole" (.byt (byB (lead ++ data))) (putF "data" (.byt (byB data)) []))) = H2 at *
    refine ⟨_, rfl, _, (byB lead).size, rfl, ⟨by rw [byB_size]; omega, rfl⟩, _, rfl, x, C, dx, _, rfl, h2, T.cl, T.nS, (by show 2 < 1000; decide), ?_⟩
    rw [byB_size]
    have k3 : ∀ b o, b ≠ x → H b = some o → (upd H2 x (.ins C dx (putF "start" (.int (lead.length : Int)) (putF "whole" (.byt (byB (lead ++ data))) (putF "data" (.byt (byB data)) []))))) b = some o := fun b o n e => by rw [upd_ne n]; exact k2 b o n e
    have h3 : (upd H2 x (.ins C dx (putF "start" (.int (lead.length : Int)) (putF "whole" (.byt (byB (lead ++ data))) (putF "data" (.byt (byB data)) []))))) x = some (.ins C dx (putF "start" (.int (lead.length : Int)) (putF "whole" (.byt (byB (lead ++ data))) (putF "data" (.byt (byB data)) [])))) := upd_same
    generalize upd H2 x (.ins C dx (putF "start" (.int (lead.length : Int)) (putF "whole" (.byt (byB (lead ++ data))) (putF "data" (.byt (byB data)) [])))) = H3 at *
    refine ⟨Nat.zero_le _, fun z nz => ⟨(by show 1 ≤ sizeLine; omega), fun p np => ?_⟩⟩
    have hxz : x ≠ z := ne_of_none h3 nz
    have s4 := same_upd (o := .lst []) nz
    have hz4 : (upd H3 z (.lst [])) z = some (.lst []) := upd_same
    have h4 := s4 _ _ h3
    generalize upd H3 z (.lst []) = H4 at *
    have hxp : x ≠ p := ne_of_none h4 np
    have hzp : z ≠ p := ne_of_none hz4 np
    have s5 := s4.trans (same_upd (o := .lst [.ref z]) np)
    have hz5 := same_upd (o := .lst [.ref z]) np _ _ hz4
    have hp5 : (upd H4 p (.lst [.ref z])) p = some (.lst [.ref z]) := upd_same
    have h5 := same_upd (o := .lst [.ref z]) np _ _ h4
    generalize upd H4 p (.lst [.ref z]) = H5 at *
    refine ⟨_, rfl, x, C, dx, _, rfl, h5, T.cl, T.nP, (by show 3 < 1000; decide), ?_⟩
    have k6 : ∀ b o, b ≠ x → H b = some o → (upd H5 x (.ins C dx (putF "pairs" (.ref p) (putF "start" (.int (lead.length : Int)) (putF "whole" (.byt (byB (lead ++ data))) (putF "data" (.byt (byB data)) [])))))) b = some o := fun b o n e => by rw [upd_ne n]; exact s5 _ _ (k3 b o n e)
    have h6 : (upd H5 x (.ins C dx (putF "pairs" (.ref p) (putF "start" (.int (lead.length : Int)) (putF "whole" (.byt (byB (lead ++ data))) (putF "data" (.byt (byB data)) [])))))) x = some (.ins C dx (putF "pairs" (.ref p) (putF "start" (.int (lead.length : Int)) (putF "whole" (.byt (byB (lead ++ data))) (putF "data" (.byt (byB data)) []))))) := upd_same
    have hp6 : (upd H5 x (.ins C dx (putF "pairs" (.ref p) (putF "start" (.int (lead.length : Int)) (putF "whole" (.byt (byB (lead ++ data))) (putF "data" (.byt (byB data)) [])))))) p = some (.lst [.ref z]) := by rw [upd_ne (Ne.symm hxp)]; exact hp5
    have hz6 : (upd H5 x (.ins C dx (putF "pairs" (.ref p) (putF "start" (.int (lead.length : Int)) (putF "whole" (.byt (byB (lead ++ data))) (putF "data" (.byt (byB data)) [])))))) z = some (.lst []) := by rw [upd_ne (Ne.symm hxz)]; exact hz5
    generalize upd H5 x (.ins C dx (putF "pairs" (.ref p) (putF "start" (.int (lead.length : Int)) (putF "whole" (.byt (byB (lead ++ data))) (putF "data" (.byt (byB data)) []))))) = H6 at *
    refine ⟨Nat.zero_le _, fun q nq => ?_⟩
    have hxq : x ≠ q := ne_of_none h6 nq
    have hzq : z ≠ q := ne_of_none hz6 nq
    have hpq : p ≠ q := ne_of_none hp6 nq
    have s7 := same_upd (o := .lst []) nq
    have hq7 : (upd H6 q (.lst [])) q = some (.lst []) := upd_same
    have h7 := s7 _ _ h6
    have hp7 := s7 _ _ hp6
    have hz7 := s7 _ _ hz6
    have np0 : p = x ∨ H p = none := by
      by_cases e : p = x
      · exact .inl e
      · refine .inr ?_
        cases hh : H p with
        | none => rfl
        | some o =>
          have := s4 _ _ (k3 p o e hh)
          rw [np] at this
          cases this
    have nq0 : q = x ∨ H q = none := by
      by_cases e : q = x
      · exact .inl e
      · refine .inr ?_
        cases hh : H q with
        | none => rfl
        | some o =>
          have := k6 q o e hh
          rw [nq] at this
          cases this
    generalize upd H6 q (.lst []) = H7 at *
    refine ⟨_, rfl, x, C, dx, _, rfl, h7, T.cl, T.nK, (by show 4 < 1000; decide), ?_⟩
    rw [plF_put]
    have k8 : ∀ b o, b ≠ x → H b = some o → (upd H7 x (.ins C dx (plF (byB data) (byB (lead ++ data)) (lead.length : Int) p q))) b = some o := fun b o n e => by rw [upd_ne n]; exact s7 _ _ (k6 b o n e)
    have h8 : (upd H7 x (.ins C dx (plF (byB data) (byB (lead ++ data)) (lead.length : Int) p q))) x = some (.ins C dx (plF (byB data) (byB (lead ++ data)) (lead.length : Int) p q)) := upd_same
    have hp8 : (upd H7 x (.ins C dx (plF (byB data) (byB (lead ++ data)) (lead.length : Int) p q))) p = some (.lst [.ref z]) := by rw [upd_ne (Ne.symm hxp)]; exact hp7
    have hz8 : (upd H7 x (.ins C dx (plF (byB data) (byB (lead ++ data)) (lead.length : Int) p q))) z = some (.lst []) := by rw [upd_ne (Ne.symm hxz)]; exact hz7
    have hq8 : (upd H7 x (.ins C dx (plF (byB data) (byB (lead ++ data)) (lead.length : Int) p q))) q = some (.lst []) := by rw [upd_ne (Ne.symm hxq)]; exact hq7
    generalize upd H7 x (.ins C dx (plF (byB data) (byB (lead ++ data)) (lead.length : Int) p q)) = H8 at *
    refine ⟨_, rfl, x, dx, _, rfl, h8, plF_no _ _ _ _ _ (by decide +kernel) (by decide +kernel) (by decide +kernel) (by decide +kernel) (by decide +kernel), x, dx, p, q, z, lead ++ data, data, lead.length, rfl, h8, hp8, hq8, hz8, hpq, hzp, hzq, hk, hel, by omega, fun H9 ps ks k9 hp9 hq9 hkl hKd => ?_⟩
    refine fin H9 (fun b o n e => ?_) ⟨dx, p, q, ps, ks, k9 _ _ hxp hxq h8, hp9, hq9, by omega, hKd⟩
    refine k9 b o (fun z => ?_) (fun z => ?_) (k8 b o n e)
    · rcases np0 with r | r
      · exact n (z.trans r)
      · rw [z, r] at e
        cases e
    · rcases nq0 with r | r
      · exact n (z.trans r)
      · rw [z, r] at e
        cases e
def spPlPairs (C : Addr) : Sp := fun vs H Q _ => ∃ (a : Addr) (lead data : List Nat) (at_ : Nat), vs = [.ref a, .int (at_ : Int)] ∧ PlAt C H a lead data ∧ at_ < data.length ∧ ∀ t us R, Rch (lead ++ data) (lead.length + at_) R → H t = some (.lst us) → Paired (NpAt H) (prsR R) us → Q (.ref t) H
theorem ok_plPairs (T : PlTxt K mg C fI fL fP fB) {fd : FuncData} {j : Nat} (F : Fun K "pairs_at" "Places.pairs_at" sPlPairs fP fd) : FnOk P w K mg base CX0 (j + 1) fP fd ["self", "at"] (spPlPairs C) := by
  refine F.ok scPlP (fun vs H Q E h => ?_) (fun cdv A outer s H vs Q E hr h => ?_)
  · obtain ⟨a, lead, data, at_, rfl, _⟩ := h
    rfl
  · obtain ⟨a, lead, data, at_, rfl, ⟨dx, p, q, ps, ks, ha, hp, hq, hkl, hKd⟩, hat, fin⟩ := h
    refine ⟨_, pss_one (ps_ret (pe_ix ix_list (pe_fld (pv 0) rfl) (pe_ix ix_list (pe_fld (pv 0) rfl) (pv 1) (fun _ _ => rfl)) (fun _ _ => rfl))), ?_⟩
    obtain ⟨R, w, hw, hR, t, us, rfl, n1, n2, ht, hus⟩ := hKd at_ (by omega)
    exact ⟨_, rfl, a, C, dx, _, _, rfl, ha, T.cl, T.nP, plF_p _ _ _ _ _, _, rfl, a, C, dx, _, _, rfl, ha, T.cl, T.nK, plF_k _ _ _ _ _, _, rfl, q, _, _, _, rfl, rfl, .inl (.inl hq), at_of' rfl (by omega), p, _, _, _, rfl, rfl, .inl (.inl hp), atI_nat hw, fin t us R hR ht hus⟩
def spBack2 (C : Addr) : Sp := fun vs H Q _ => ∃ (a : Addr) (lead data : List Nat) (at_ m l : Nat), vs = [.ref a, .int (at_ : Int), .int (m : Int), .int (l : Int)] ∧ PlAt C H a lead data ∧ (∀ k ∈ lead ++ data, k < 256) ∧ at_ + m ≤ data.length ∧ (lead ++ data).length ≤ 10000 ∧ l < 11 ∧ Hits (lead ++ data) (lead.length + at_) l m ∧
  ∀ b : Nat, 2 ^ l ≤ b → b < 2 ^ (l + 1) → b ≤ min 1024 (lead.length + at_) → m ≤ rn (lead ++ data) (lead.length + at_) b → (∀ b', 2 ^ l ≤ b' → b' ≤ min 1024 (lead.length + at_) → m ≤ rn (lead ++ data) (lead.length + at_) b' → b ≤ b') → Q (.int (b : Int)) H
theorem ok_back2 (T : PlTxt K mg C fI fL fP fB) (FT : FarTab K mg) {fd : FuncData} {j : Nat} (F : Fun K "least_back" "Places.least_back" sPlBack fB fd) (m1 : mg "max" = none) : FnOk P w K mg base CX0 (j + 1) fB fd ["self", "at", "many", "letter"] (spBack2 C) := by
  obtain ⟨TT, gT, hT⟩ := FT
  refine F.ok scLb (fun vs H Q E h => ?_) (fun cdv A outer s H vs Q E hr h => ?_)
  · obtain ⟨a, lead, data, at_, m, l, rfl, _⟩ := h
    rfl
  · obtain ⟨a, lead, data, at_, m, l, rfl, ⟨dx, p, q, ps, ks, ha, _⟩, hk, hl, he, hl11, ⟨b0, g1, g2, g3, g4⟩, fin⟩ := h
    have hz := PySem.sizeLine_eq
    have elen : (lead ++ data).length = lead.length + data.length := List.length_append
    refine ⟨_, pss_cons (ps_set (i := 4) scLb.nd rfl (.inl rfl) (pe_op op_add (pe_fld (pv 0) rfl) (pv 1)))
      (pss_cons (ps_set (i := 5) scLb.nd rfl (.inl rfl) (pe_callB (call_max2 rfl) (by rfl) m1 (by decide +kernel) (pa_cons pe_int (pa_cons (pe_op op_sub (pv 4) (pe_ix ix_tup (pe_glob (v := .ref TT) rfl gT rfl) (pv 3) (fun _ _ => rfl))) pa_nil))))
      (pss_one (ps_ret (pe_op op_sub (pv 4) (pe_bmB PySem.W.KBf.slot_rfind PySem.W.KBf.type_rfind mt_brfind4 (pe_fld (pv 0) rfl) (pa_cons (pe_slice sl_byt (pe_fld (pv 0) rfl) (po_some (pv 4)) (po_some (pe_op op_add (pv 4) (pv 2)))) (pa_cons (pv 5) (pa_cons (pe_op op_add (pe_op op_sub (pv 4) (pe_op op_shl pe_int (pv 3))) (pv 2)) pa_nil)))))))), ?_⟩
    have eh : (lead.length : Int) + (at_ : Int) = ((lead.length + at_ : Nat) : Int) := by push_cast; rfl
    refine ⟨_, rfl, a, C, dx, _, _, rfl, ha, T.cl, T.nS, plF_s _ _ _ _ _, _, rfl, _, _, rfl, rfl, ?_⟩
    dsimp only [gName]
    rw [eh]
    have hm : lead.length + at_ + m ≤ (lead ++ data).length := by omega
    generalize lead.length + at_ = h at *
    generalize hE : lead ++ data = e at *
    refine ⟨_, rfl, _, rfl, TT, _, _, _, rfl, rfl, hT _, far_at hl11, _, _, rfl, rfl, _, _, rfl, ?_⟩
    have hlo : (if (h : Int) - (farB l : Int) > 0 then (h : Int) - (farB l : Int) else 0) = ((h - farB l : Nat) : Int) := by
      split <;> omega
    dsimp only [gName]
    rw [hlo]
    have hb0 : 0 < 2 ^ l := Nat.pow_pos (by decide)
    have e2 : (1 : Int) * 2 ^ (l : Int).toNat = ((2 ^ l : Nat) : Int) := by
      rw [Int.one_mul, Int.toNat_natCast]
      push_cast
      rfl
    refine ⟨_, rfl, _, rfl, a, C, dx, _, _, rfl, ha, T.cl, T.nW, plF_w _ _ _ _ _, ⟨_, rfl⟩, _, rfl, a, C, dx, _, _, rfl, ha, T.cl, T.nW, plF_w _ _ _ _ _, _, rfl, _, rfl, _, rfl, _, rfl, _, _, rfl, rfl, _, rfl, _, rfl, (by rw [byB_size]; omega), _, rfl, _, rfl, _, rfl, _, _, rfl, rfl, ⟨by omega, by omega, by decide⟩, _, _, rfl, rfl, _, rfl, _, _, rfl, rfl, _, _, _, _, rfl, rfl, by omega, by rw [e2]; omega, ?_⟩
    have e1 : PySem.W.KBy.picked (byB e) (some (h : Int)) (some ((h : Int) + (m : Int))) = byB (sliceN e h m) := by
      rw [show (h : Int) + (m : Int) = ((h + m : Nat) : Int) by push_cast; rfl]
      exact picked_slice e h m (by omega)
    have e3 : (h : Int) - ((2 ^ l : Nat) : Int) + (m : Int) = ((h - 2 ^ l + m : Nat) : Int) := by omega
    rw [e1, e2, e3]
    have F1 := rfnd_is hk (slice_lt (i := h) (m := m) hk) (h - farB l) (h - 2 ^ l + m)
    have hs : (sliceN e h m).length = m := by rw [slice_len]; omega
    generalize BFX.rfnd (byB e) (byB (sliceN e h m)) ((h - farB l : Nat) : Int) ((h - 2 ^ l + m : Nat) : Int) = o at *
    have hfb := (farB_iff hl11 g1).mpr ⟨g2, by omega⟩
    cases o with
    | none =>
      refine absurd ?_ (F1.no rfl (h - b0) (by omega) (by rw [hs]; omega))
      rw [hs]
      exact (slice_iff hm (by omega)).mpr g4
    | some i =>
      obtain ⟨a1, a2, a3, a4⟩ := F1.yes i rfl
      rw [hs] at a2 a3
      have ei : i = h - (h - i) := by omega
      have hr : m ≤ rn e h (h - i) := by
        rw [ei] at a3
        exact (slice_iff hm (by omega)).mp a3
      have hf := (farB_iff (b := h - i) hl11 (by omega)).mp (by omega)
      refine ⟨_, _, rfl, rfl, ?_⟩
      have e4 : (h : Int) - PySem.W.KBf.told (some i) = ((h - i : Nat) : Int) := by
        show (h : Int) - (i : Int) = _
        omega
      show Q (.int ((h : Int) - PySem.W.KBf.told (some i))) H
      rw [e4]
      refine fin (h - i) (by omega) hf.1 (by omega) hr fun b' b1 b2 b3 => ?_
      by_cases q1 : b' ≤ farB l
      · by_cases q2 : h - i ≤ b'
        · exact q2
        · refine absurd ?_ (a4 (h - b') (by omega) (by rw [hs]; omega))
          rw [hs]
          exact (slice_iff hm (by omega)).mpr b3
      · omega
end
end K4

namespace K4
open PySem PySem.Spec PyProof.Rows L2
/-! ### worths_of -/
abbrev NWo : List Str := ["backs", "worths", "letter", "bits", "worth", "other"]
theorem scWorths : FnScope NWo ["backs"] (defScope sWorths) := ⟨rfl, rfl, rfl, by decide +kernel, rfl, by decide +kernel, by decide +kernel⟩
section
variable {P : Program} {w : World} {K : PySem.W.Frag} {mg : Str → Option Value} {base : Heap}
def spWorths : Sp := fun vs H Q _ => ∃ (pb : Addr) (B : List Int), vs = [.ref pb] ∧ H pb = some (.lst (B.map V.int)) ∧ B.length = 11 ∧ ∀ H' p, Same H H' → H p = none → H' p = some (.lst ((worthT B 11).map V.int)) → Q (.ref p) H'
theorem ok_worths {f : Addr} {fd : FuncData} {j : Nat} {t1 : Tok} (F : Fun K "worths_of" "worths_of" sWorths f fd) (m1 : mg "enumerate" = none) (c1 : mg "FAR" = some (.int 1000000000 t1)) :
    FnOk P w K mg base CX0 (j + 1) f fd ["backs"] spWorths := by
  refine F.ok scWorths (fun vs H Q E h => ?_) (fun cdv A outer s H vs Q E hr h => ?_)
  · obtain ⟨pb, B, rfl, _⟩ := h
    rfl
  · obtain ⟨pb, B, rfl, hpb, hB, q⟩ := h
    have hz := PySem.sizeLine_eq
    refine ⟨_, pss_cons (ps_set (i := 1) scWorths.nd rfl (.inl rfl) (pe_lst (pa_cons (pe_glob (v := .int 1000000000) rfl c1 ⟨_, rfl⟩) pa_nil)))
      (pss_cons (ps_for PassesOwn.never rfl (pi_enum (by rfl) m1 (pa_cons (pv 0) pa_nil)) (pg_tup rfl (pgs_cons (pg_name (i := 2) scWorths.nd rfl (.inl rfl)) (pgs_cons (pg_name (i := 3) scWorths.nd rfl (.inl rfl)) pgs_nil)))
        (pss_cons (ps_set (i := 4) scWorths.nd rfl (.inr rfl) (pe_ifExp (pt_cmpR op_gt (pv 3) pe_int (nomark _)) (pe_op op_add (pv 3) (pv 2)) (pe_glob (v := .int 1000000000) rfl c1 ⟨_, rfl⟩)))
        (pss_one (ps_set (i := 1) scWorths.nd rfl (.inl rfl) (pe_op op_cat (pv 1) (pe_lc (own := [("other", 5)]) (g := gName 5) (tt := tYes) rfl scWorths.nd (pi_list (pv 1)) (blkOk_by (N := NWo) (sc := defScope sWorths) (by decide +kernel))
          (fun _ _ _ _ _ => pg_name (i := 5) scWorths.nd rfl (.inl rfl)) (fun _ _ _ _ _ => pts_nil) (fun _ _ _ _ _ => pe_ifExp (pt_cmpR op_lt (pv 4) (pv 5) (nomark _)) (pv 4) (pv 5))))))))
      (pss_one (ps_ret (pv 1)))), ?_⟩
    refine ⟨(by show 1 ≤ sizeLine; omega), fun D0 nD0 => ?_⟩
    have s1 := same_upd (o := .lst [.int 1000000000]) nD0
    have hD0 : (upd H D0 (.lst [.int 1000000000])) D0 = some (.lst ((worthT B 0).map V.int)) := upd_same
    generalize upd H D0 (.lst [.int 1000000000]) = H1 at *
    dsimp only [gName]
    refine ⟨_, rfl, pb, _, rfl, .inl (.inl (s1 _ _ hpb)), ?_⟩
    have hl0 : (B.map V.int).length = 11 := by rw [List.length_map]; exact hB
    refine for_it (walk_enum (K := K) (a := pb) (xs := B.map V.int)) (fun i σ H' => ∃ (D : Addr) (y2 y3 y4 y5 : Option V), σ = [some (.ref pb), some (.ref D), y2, y3, y4, y5] ∧ Same H H' ∧ H D = none ∧ H' D = some (.lst ((worthT B i).map V.int))) ⟨D0, _, _, _, _, rfl, s1, nD0, hD0⟩ (fun i σ H' _ z => by
      obtain ⟨_, _, _, _, _, _, sm, _⟩ := z
      exact .inl (.inl (sm _ _ hpb))) (fun i x σ H' H3 hi z y => ?_) (fun σ H' z => ?_)
    · obtain ⟨D, y2, y3, y4, y5, rfl, sm, nD, hD⟩ := z
      rw [hl0] at hi
      obtain ⟨T0, x0, y0, rfl, nT0, rfl, e0, e1⟩ := y
      obtain rfl := Option.some.inj e0
      have hy : y0 = .int (B.getD i 0) := by
        have := at_getD (L := B) (k := i) (by omega)
        rw [atI_nat e1] at this
        exact Option.some.inj this
      subst hy
      have sm2 : Same H' (upd H' T0 (.tup [.int (i : Nat), .int (B.getD i 0)])) := same_upd nT0
      have hD3 := sm2 _ _ hD
      refine ⟨T0, _, rfl, .inl (.inl upd_same), rfl, _, _, rfl, _, _, rfl, rfl, ?_⟩
      generalize upd H' T0 (.tup [.int (i : Nat), .int (B.getD i 0)]) = H3 at *
      have sm3 := sm.trans sm2
      clear sm sm2
      obtain ⟨M1, hM1⟩ : ∃ M : L2.St → Hp → Prop, M = (fun σ' H' => H' = H3 ∧ σ' = [some (.ref pb), some (.ref D), some (.int (i : Int)), some (.int (B.getD i 0)), some (.int (wO B i)), y5]) := ⟨_, rfl⟩
      with_reducible refine seq_mid M1 (fun N hN => ?_) (fun σ4 H4 h => ?_)
      · subst hM1
        refine ⟨_, rfl, _, _, rfl, rfl, _, rfl, ite2 (fun t => ?_) (fun t => ?_)⟩
        · have t : 0 < B.getD i 0 := of_decide_eq_true t
          have ew : wO B i = B.getD i 0 + (i : Int) := if_pos t
          refine ⟨_, rfl, _, rfl, _, _, rfl, rfl, hN _ _ ⟨rfl, ?_⟩⟩
          rw [ew]
          rfl
        · have t : ¬ 0 < B.getD i 0 := fun z => t (decide_eq_true z)
          have ew : wO B i = FARn := if_neg t
          refine hN _ _ ⟨rfl, ?_⟩
          rw [ew]
          rfl
      · subst hM1
        obtain ⟨rfl, rfl⟩ := h
        have hwl := worth_len B i
        have h2i : 2 ^ i ≤ 1024 := by
          have : 2 ^ i ≤ 2 ^ 10 := Nat.pow_le_pow_right (by decide) (by omega)
          exact this
        refine ⟨_, rfl, _, rfl, D, rfl, ⟨_, .inl (.inl hD3)⟩, fun E1 nE1 => ?_⟩
        refine lc_list (K := K) (a := D) (xs := (worthT B i).map V.int) (fun t H' => Same H4 H' ∧ H' E1 = some (.lst ((((worthT B i).take t).map fun o => if wO B i < o then wO B i else o).map V.int))) ⟨same_upd nE1, upd_same⟩ (fun t H' _ z => .inl (.inl (z.1 _ _ hD3))) (fun t x H' hx z => ?_) (fun H' z => ?_)
        · obtain ⟨sm, hE⟩ := z
          obtain ⟨x, rfl, hx'⟩ := int_of hx
          have ht : t < (worthT B i).length := (List.getElem?_eq_some_iff.mp hx').1
          refine ⟨rfl, yes ?_⟩
          have fin : ∀ v : Int, v = (if wO B i < x then wO B i else x) → ∃ acc, H' E1 = some (.lst acc) ∧ acc.length < sizeLine ∧ (Same H4 (upd H' E1 (.lst (acc ++ [.int v]))) ∧ (upd H' E1 (.lst (acc ++ [.int v]))) E1 = some (.lst ((((worthT B i).take (t + 1)).map fun o => if wO B i < o then wO B i else o).map V.int))) := fun v ev => by
            refine ⟨_, hE, by rw [List.length_map, List.length_map, List.length_take]; omega, same_put sm nE1, ?_⟩
            rw [upd_same, List.take_add_one, hx', List.map_append, List.map_append, ev]
            rfl
          refine ⟨_, rfl, _, rfl, _, _, rfl, rfl, _, rfl, ite2 (fun t2 => ?_) (fun t2 => ?_)⟩
          · exact ⟨_, rfl, fin _ (if_pos (of_decide_eq_true t2)).symm⟩
          · exact ⟨_, rfl, fin _ (if_neg (fun z => t2 (decide_eq_true z))).symm⟩
        · obtain ⟨sm, hE⟩ := z
          rw [List.length_map, List.take_length] at hE
          refine ⟨D, E1, _, _, rfl, rfl, sm _ _ hD3, hE, by rw [List.length_map, List.length_map, List.length_map]; omega, fun F1 nF1 => ?_⟩
          have sm4 := sm3.trans sm
          refine ⟨F1, _, _, _, _, rfl, sm4.trans (same_upd nF1), none_back sm4 nF1, ?_⟩
          rw [upd_same, ← List.map_append]
          rfl
    · obtain ⟨D, y2, y3, y4, y5, rfl, sm, nD, hD⟩ := z
      rw [hl0] at hD
      exact ⟨_, rfl, q H' D sm nD hD⟩
end
end K4

namespace K4
open PySem PySem.Spec PyProof.Rows L2
/-! ### Fares -/
def faF (p1 p2 p3 p4 : Addr) : List (Str × V) := [(("letter_bits" : Str), V.ref p1), (("copy_bits" : Str), V.ref p2), (("worths" : Str), V.ref p3), (("cheapest" : Str), V.ref p4)]
theorem faF_l (p1 p2 p3 p4 : Addr) : (faF p1 p2 p3 p4).lookup ("letter_bits" : Str) = some (.ref p1) := lkH
theorem faF_c (p1 p2 p3 p4 : Addr) : (faF p1 p2 p3 p4).lookup ("copy_bits" : Str) = some (.ref p2) := (lkP (by decide +kernel)).trans lkH
theorem faF_w (p1 p2 p3 p4 : Addr) : (faF p1 p2 p3 p4).lookup ("worths" : Str) = some (.ref p3) := (lkP (by decide +kernel)).trans ((lkP (by decide +kernel)).trans lkH)
theorem faF_h (p1 p2 p3 p4 : Addr) : (faF p1 p2 p3 p4).lookup ("cheapest" : Str) = some (.ref p4) := (lkP (by decide +kernel)).trans ((lkP (by decide +kernel)).trans ((lkP (by decide +kernel)).trans lkH))
theorem faF_no {x : Str} (p1 p2 p3 p4 : Addr) (h1 : (x == ("letter_bits" : Str)) = false) (h2 : (x == ("copy_bits" : Str)) = false) (h3 : (x == ("worths" : Str)) = false) (h4 : (x == ("cheapest" : Str)) = false) : (faF p1 p2 p3 p4).lookup x = none := (lkP h1).trans ((lkP h2).trans ((lkP h3).trans ((lkP h4).trans rfl)))
theorem faF_put (p1 p2 p3 p4 : Addr) : putF "cheapest" (.ref p4) (putF "worths" (.ref p3) (putF "copy_bits" (.ref p2) (putF "letter_bits" (.ref p1) []))) = faF p1 p2 p3 p4 := by
  unfold faF
  rfl
def lbx (x : Int) : Int := if 0 < x then x else FARn
theorem lbx_at {L : List Int} {k : Nat} (h : k < L.length) : (L.map lbx).getD k 0 = lb L k := by
  unfold lb
  rw [List.getD_eq_getElem?_getD, List.getElem?_map, List.getD_eq_getElem?_getD, List.getElem?_eq_getElem h]
  rfl
theorem cbx_at {L : List Int} {m : Nat} (h : 254 + m < L.length) : ((L.map lbx).drop 254).getD m 0 = lb L (254 + m) := by
  rw [List.getD_eq_getElem?_getD, List.getElem?_drop, ← List.getD_eq_getElem?_getD]
  exact lbx_at h
def ChAt (H : Hp) (c : Int × Nat) (v : V) : Prop := ∃ t, v = .ref t ∧ H t = some (.tup [.int c.1, .int (c.2 : Int)])
theorem ChAt.same {H H' : Hp} {c : Int × Nat} {v : V} (h : ChAt H c v) (sm : Same H H') : ChAt H' c v := by
  obtain ⟨t, e, ht⟩ := h
  exact ⟨t, e, sm _ _ ht⟩
theorem ChAt.put {H : Hp} {c : Int × Nat} {v : V} {D : Addr} {xs ys : List V} (h : ChAt H c v) (hD : H D = some (.lst xs)) : ChAt (upd H D (.lst ys)) c v := by
  obtain ⟨t, e, ht⟩ := h
  exact ⟨t, e, by rw [upd_ne (ne_of ht hD (fun z => nomatch z))]; exact ht⟩
theorem ChAt.putI {H : Hp} {c : Int × Nat} {v : V} {D C dx : Addr} {xs ys : List (Str × V)} (h : ChAt H c v) (hD : H D = some (.ins C dx xs)) : ChAt (upd H D (.ins C dx ys)) c v := by
  obtain ⟨t, e, ht⟩ := h
  exact ⟨t, e, by rw [upd_ne (ne_of ht hD (fun z => nomatch z))]; exact ht⟩
def kOf (H : Hp) : V → Int × Int
  | .ref t => match H t with
    | some (.tup [.int a, .int b]) => (a, b)
    | _ => (0, 0)
  | _ => (0, 0)
def cOf (H : Hp) (v : V) : Int × Nat := ((kOf H v).1, (kOf H v).2.toNat)
theorem kOf_at {H : Hp} {c : Int × Nat} {v : V} (h : ChAt H c v) : kOf H v = (c.1, (c.2 : Int)) := by
  obtain ⟨t, rfl, ht⟩ := h
  simp [kOf, ht]
theorem cOf_at {H : Hp} {c : Int × Nat} {v : V} (h : ChAt H c v) : cOf H v = c := by
  unfold cOf
  rw [kOf_at h]
  rfl
theorem paired_c {H : Hp} : ∀ {cs : List (Int × Nat)} {us : List V}, Paired (ChAt H) cs us → us.map (cOf H) = cs ∧ ∀ y ∈ us, ChAt H (cOf H y) y
  | _, _, .nil => ⟨rfl, fun y m => by cases m⟩
  | _, _, .cons r rs => by
    obtain ⟨h1, h2⟩ := paired_c rs
    have e := cOf_at r
    refine ⟨by rw [List.map_cons, h1, e], fun y m => ?_⟩
    rcases List.mem_cons.mp m with rfl | m
    · rw [e]
      exact r
    · exact h2 y m
theorem paired_ch {H : Hp} : ∀ {us : List V}, (∀ y ∈ us, ChAt H (cOf H y) y) → Paired (ChAt H) (us.map (cOf H)) us
  | [], _ => .nil
  | y :: r, h => .cons (h y (List.mem_cons_self ..)) (paired_ch fun z m => h z (List.mem_cons_of_mem _ m))
def rawC (B : List Int) (i : Nat) : List (Int × Nat) := (List.range i).filterMap fun l => if 0 < B.getD l 0 then some (B.getD l 0 + (l : Int), l) else none
theorem rawC_succ (B : List Int) (i : Nat) : rawC B (i + 1) = rawC B i ++ (if 0 < B.getD i 0 then [(B.getD i 0 + (i : Int), i)] else []) := by
  unfold rawC
  rw [List.range_succ, List.filterMap_append]
  congr 1
  by_cases q : 0 < B.getD i 0
  · rw [if_pos q]
    exact List.filterMap_cons_some (f := fun l => if 0 < B.getD l 0 then some (B.getD l 0 + (l : Int), l) else none) (a := i) (l := []) (if_pos q)
  · rw [if_neg q]
    exact List.filterMap_cons_none (f := fun l => if 0 < B.getD l 0 then some (B.getD l 0 + (l : Int), l) else none) (a := i) (l := []) (if_neg q)
theorem rawC_len (B : List Int) (i : Nat) : (rawC B i).length ≤ i := by
  unfold rawC
  have := List.length_filterMap_le (fun l => if 0 < B.getD l 0 then some (B.getD l 0 + (l : Int), l) else none) (List.range i)
  rw [List.length_range] at this
  exact this
theorem mem_rawC {B : List Int} {i : Nat} {w : Int} {l : Nat} : (w, l) ∈ rawC B i ↔ l < i ∧ 0 < B.getD l 0 ∧ w = B.getD l 0 + (l : Int) := by
  unfold rawC
  rw [List.mem_filterMap]
  constructor
  · rintro ⟨a, ha, h⟩
    by_cases q : 0 < B.getD a 0
    · rw [if_pos q] at h
      have h := Option.some.inj h
      injection h with h1 h2
      subst h2
      exact ⟨List.mem_range.mp ha, q, h1.symm⟩
    · rw [if_neg q] at h
      cases h
  · rintro ⟨h1, h2, h3⟩
    exact ⟨l, List.mem_range.mpr h1, by rw [if_pos h2, h3]⟩
theorem rawC_nodup (B : List Int) : ∀ i, ((rawC B i).map (·.2)).Nodup
  | 0 => List.nodup_nil
  | i + 1 => by
    rw [rawC_succ, List.map_append]
    refine List.nodup_append.mpr ⟨rawC_nodup B i, ?_, fun x hx y hy => ?_⟩
    · split
      · exact List.nodup_cons.mpr ⟨fun z => (by cases z), List.nodup_nil⟩
      · exact List.nodup_nil
    · obtain ⟨⟨w, l⟩, hm, rfl⟩ := List.mem_map.mp hx
      have h1 := (mem_rawC.mp hm).1
      split at hy
      · have : y = i := by simpa using hy
        show l ≠ y
        omega
      · cases hy
theorem cheap_of {H : Hp} {B : List Int} {us ys : List V} (hp : Paired (ChAt H) (rawC B 11) us) (hs : SrtO.Srtd (ltP (kOf H)) ys) (hb : ys.Perm us) : Paired (ChAt H) (ys.map (cOf H)) ys ∧ CheapOk (ys.map (cOf H)) B ∧ (ys.map (cOf H)).length ≤ 11 := by
  obtain ⟨h1, h2⟩ := paired_c hp
  have hy : ∀ y ∈ ys, ChAt H (cOf H y) y := fun y m => h2 y (hb.mem_iff.mp m)
  have hperm : (ys.map (cOf H)).Perm (rawC B 11) := by
    rw [← h1]
    exact hb.map _
  refine ⟨paired_ch hy, ⟨?_, fun w l => ?_⟩, ?_⟩
  · have hn : ((ys.map (cOf H)).map (·.2)).Nodup := (hperm.map _).nodup_iff.mpr (rawC_nodup B 11)
    have hn2 : (ys.map (cOf H)).Pairwise fun a b => a.2 ≠ b.2 := List.pairwise_map.mp hn
    have hn3 := List.pairwise_map.mp hn2
    refine List.pairwise_map.mpr ?_
    refine (List.Pairwise.imp_of_mem (fun {x y} mx my h => ?_) (hs.and hn3))
    obtain ⟨g1, g2⟩ := h
    have kx := kOf_at (hy x mx)
    have ky := kOf_at (hy y my)
    have g1 : ¬ SrtO.lexB (kOf H y) (kOf H x) = true := by
      rw [Bool.not_eq_true]
      exact g1
    rw [SrtO.lexB_iff, kx, ky] at g1
    have g1 : ¬ ((cOf H y).1 < (cOf H x).1 ∨ ((cOf H y).1 = (cOf H x).1 ∧ ((cOf H y).2 : Int) < ((cOf H x).2 : Int))) := g1
    omega
  · rw [hperm.mem_iff]
    exact mem_rawC
  · rw [hperm.length_eq]
    exact rawC_len B 11
theorem from_254 {ns : List Int} (h : 254 ≤ ns.length) : cutV (ns.map V.int) (some 254) none = (ns.drop 254).map V.int := by
  unfold cutV
  rw [show (254 : Int) = ((254 : Nat) : Int) from rfl, HT.sIx_nat, HT.sIx_none, List.length_map, ← List.map_drop, Nat.min_eq_left h, List.take_of_length_le (by rw [List.length_map, List.length_drop]; omega)]
structure FaTxt (K : PySem.W.Frag) (mg : Str → Option Value) (C fI fB fC : Addr) : Prop where
  cl : Cls K C
  gC : mg "Fares" = some (.ref C)
  made : Mk K C fI
  nL : NoAttr K C "letter_bits"
  nC : NoAttr K C "copy_bits"
  nW : NoAttr K C "worths"
  nH : NoAttr K C "cheapest"
  mB : Meth K C "bits_of_copy" fB
  mC : Meth K C "cheapest_of" fC
def FaAt (C : Addr) (H : Hp) (a : Addr) (L B : List Int) : Prop := ∃ dx p1 p2 p3 p4 us ch, H a = some (.ins C dx (faF p1 p2 p3 p4)) ∧ H p1 = some (.lst ((L.map lbx).map V.int)) ∧ H p2 = some (.lst (((L.map lbx).drop 254).map V.int)) ∧ H p3 = some (.lst ((worthT B 11).map V.int)) ∧ H p4 = some (.lst us) ∧ Paired (ChAt H) ch us ∧ CheapOk ch B ∧ ch.length ≤ 11
theorem FaAt.same {C a : Addr} {H H' : Hp} {L B : List Int} (h : FaAt C H a L B) (sm : Same H H') : FaAt C H' a L B := by
  obtain ⟨dx, p1, p2, p3, p4, us, ch, h1, h2, h3, h4, h5, h6, h7, h8⟩ := h
  exact ⟨dx, p1, p2, p3, p4, us, ch, sm _ _ h1, sm _ _ h2, sm _ _ h3, sm _ _ h4, sm _ _ h5, h6.mono fun _ _ z => z.same sm, h7, h8⟩
def tTruK (K : PySem.W.Frag) (ta : TE) : TT := fun σ H Q => ta σ H fun x H' => ∃ k, TruV K x H' k ∧ Q k H'
theorem pt_truthK {X : Cx} {a : Expr} {ta : TE} (K : PySem.W.Frag) (ha : PE X a ta) (he : ∀ whole, isTrue a X.env whole = (do let v ← whole; standAt a.pos; holding [v] (truthy v))) (h : X.K = K := by rfl) :
    PT X a (tTruK K ta) := by
  subst h
  exact pt_truth ha he
abbrev NFi : List Str := ["self", "letters", "backs", "bits", "letter"]
theorem scFI : FnScope NFi ["self", "letters", "backs"] (defScope sFInit) := ⟨rfl, rfl, rfl, by decide +kernel, rfl, by decide +kernel, by decide +kernel⟩
theorem scFB : FnScope ["self", "many", "letters"] ["self", "many", "letters"] (defScope sFBits) := ⟨rfl, rfl, rfl, by decide +kernel, rfl, by decide +kernel, by decide +kernel⟩
abbrev NFc : List Str := ["self", "letters", "_", "letter"]
theorem scFC : FnScope NFc ["self", "letters"] (defScope sFCheap) := ⟨rfl, rfl, rfl, by decide +kernel, rfl, by decide +kernel, by decide +kernel⟩
def lettersF (ch : List (Int × Nat)) (R : List Nat) (m : Nat) : List Nat := (ch.filter fun c => decide (m ≤ R.getD c.2 0)).map (·.2)
theorem letters_first {ch : List (Int × Nat)} {B : List Int} {R : List Nat} {m : Nat} (C : CheapOk ch B) (h : ∃ w l, (w, l) ∈ ch ∧ m ≤ R.getD l 0) : ∃ w l r, lettersF ch R m = l :: r ∧ (w, l) ∈ ch ∧ m ≤ R.getD l 0 ∧ ∀ w' l', (w', l') ∈ ch → m ≤ R.getD l' 0 → w < w' ∨ (w = w' ∧ l ≤ l') := by
  unfold lettersF
  have hs : (ch.filter fun c => decide (m ≤ R.getD c.2 0)).Pairwise fun a b => a.1 < b.1 ∨ (a.1 = b.1 ∧ a.2 < b.2) := C.srt.sublist List.filter_sublist
  have hm : ∀ c, c ∈ (ch.filter fun c => decide (m ≤ R.getD c.2 0)) ↔ c ∈ ch ∧ m ≤ R.getD c.2 0 := fun c => by
    rw [List.mem_filter]
    exact ⟨fun z => ⟨z.1, of_decide_eq_true z.2⟩, fun z => ⟨z.1, decide_eq_true z.2⟩⟩
  generalize ch.filter (fun c => decide (m ≤ R.getD c.2 0)) = fl at *
  cases fl with
  | nil =>
    obtain ⟨w, l, h1, h2⟩ := h
    have := (hm (w, l)).mpr ⟨h1, h2⟩
    cases this
  | cons c r =>
    obtain ⟨w, l⟩ := c
    obtain ⟨h1, h2⟩ := (hm (w, l)).mp (List.mem_cons_self ..)
    refine ⟨w, l, r.map (·.2), rfl, h1, h2, fun w' l' h3 h4 => ?_⟩
    rcases List.mem_cons.mp ((hm (w', l')).mpr ⟨h3, h4⟩) with e | m'
    · injection e with e1 e2
      exact .inr ⟨e1.symm, by omega⟩
    · rcases (List.pairwise_cons.mp hs).1 (w', l') m' with q | ⟨q1, q2⟩
      · exact .inl q
      · exact .inr ⟨q1, by have : l < l' := q2; omega⟩
section
variable {P : Program} {w : World} {K : PySem.W.Frag} {mg : Str → Option Value} {base : Heap} {C fI fB fC : Addr}
def spFBits (C : Addr) : Sp := fun vs H Q _ => ∃ (a : Addr) (L B : List Int) (R : List Nat) (m : Nat), vs = [.ref a, .int (m : Int), .int ((maskN R m 11 : Nat) : Int)] ∧ FaAt C H a L B ∧ L.length = 273 ∧ m ≤ 18 ∧ Q (.int (lb L (254 + m) + minW B R m 11)) H
theorem ok_fBits (T : FaTxt K mg C fI fB fC) {fd : FuncData} {j : Nat} (F : Fun K "bits_of_copy" "Fares.bits_of_copy" sFBits fB fd) : FnOk P w K mg base CX0 (j + 1) fB fd ["self", "many", "letters"] (spFBits C) := by
  refine F.ok scFB (fun vs H Q E h => ?_) (fun cdv A outer s H vs Q E hr h => ?_)
  · obtain ⟨a, L, B, R, m, rfl, _⟩ := h
    rfl
  · obtain ⟨a, L, B, R, m, rfl, ⟨dx, p1, p2, p3, p4, us, ch, ha, hp1, hp2, hp3, _⟩, hL, hm, q⟩ := h
    refine ⟨_, pss_one (ps_ret (pe_op op_add (pe_ix ix_list (pe_fld (pv 0) rfl) (pv 1) (fun _ _ => rfl)) (pe_ix ix_list (pe_fld (pv 0) rfl) (pv 2) (fun _ _ => rfl)))), ?_⟩
    have h1 : atI (((L.map lbx).drop 254).map V.int) (m : Int) = some (.int (lb L (254 + m))) := by
      rw [at_getD (by rw [List.length_drop, List.length_map]; omega), cbx_at (by omega)]
    have h2 : atI ((worthT B 11).map V.int) ((maskN R m 11 : Nat) : Int) = some (.int (minW B R m 11)) := by
      rw [at_getD (by rw [worth_len]; exact maskN_lt R m 11), worth_at]
    exact ⟨_, rfl, a, C, dx, _, _, rfl, ha, T.cl, T.nC, faF_c _ _ _ _, _, rfl, p2, _, _, _, rfl, rfl, .inl (.inl hp2), h1, _, rfl, a, C, dx, _, _, rfl, ha, T.cl, T.nW, faF_w _ _ _ _, _, rfl, p3, _, _, _, rfl, rfl, .inl (.inl hp3), h2, _, _, rfl, rfl, q⟩
def spCheapO (C : Addr) : Sp := fun vs H Q _ => ∃ (a : Addr) (L B : List Int) (R : List Nat) (m : Nat), vs = [.ref a, .int ((maskN R m 11 : Nat) : Int)] ∧ FaAt C H a L B ∧ (∃ l, l < 11 ∧ 0 < B.getD l 0 ∧ m ≤ R.getD l 0) ∧
  ∀ H' ch w l, Same H H' → CheapOk ch B → (w, l) ∈ ch → m ≤ R.getD l 0 → (∀ w' l', (w', l') ∈ ch → m ≤ R.getD l' 0 → w < w' ∨ (w = w' ∧ l ≤ l')) → Q (.int (l : Int)) H'
theorem ok_cheapO (T : FaTxt K mg C fI fB fC) {fd : FuncData} {j : Nat} (F : Fun K "cheapest_of" "Fares.cheapest_of" sFCheap fC fd) : FnOk P w K mg base CX0 (j + 1) fC fd ["self", "letters"] (spCheapO C) := by
  refine F.ok scFC (fun vs H Q E h => ?_) (fun cdv A outer s H vs Q E hr h => ?_)
  · obtain ⟨a, L, B, R, m, rfl, _⟩ := h
    rfl
  · obtain ⟨a, L, B, R, m, rfl, ⟨dx, p1, p2, p3, p4, us, ch, ha, hp1, hp2, hp3, hp4, hus, hC, hch⟩, ⟨l0, hl0, hB0, hR0⟩, q⟩ := h
    have hz := PySem.sizeLine_eq
    refine ⟨_, pss_one (ps_ret (pe_ix ix_list (pe_lc (own := [("_", 2), ("letter", 3)]) (g := gTup K 2 (gCons (gName 2) (gCons (gName 3) gNil))) (tt := _) rfl scFC.nd (pi_list (pe_fld (pv 0) rfl)) (blkOk_by (N := NFc) (sc := defScope sFCheap) (by decide +kernel))
          (fun _ _ _ _ _ => pg_tup rfl (pgs_cons (pg_name (i := 2) scFC.nd rfl (.inl rfl)) (pgs_cons (pg_name (i := 3) scFC.nd rfl (.inl rfl)) pgs_nil))) (fun _ _ _ _ _ => pts_one (pt_truthK K (pe_op op_odd (pe_op op_shrN (pv 1) (pv 3)) pe_int) (fun _ => rfl))) (fun _ _ _ _ _ => pv 3)) pe_int (fun _ _ => rfl))), ?_⟩
    refine ⟨_, rfl, a, C, dx, _, _, rfl, ha, T.cl, T.nH, faF_h _ _ _ _, p4, rfl, ⟨_, .inl (.inl hp4)⟩, fun D nD => ?_⟩
    have ecl : us.length = ch.length := hus.length.symm
    refine lc_list (K := K) (a := p4) (xs := us) (fun i H' => Same H H' ∧ H' D = some (.lst (bys (lettersF (ch.take i) R m))) ∧ (lettersF (ch.take i) R m).length ≤ i) ⟨same_upd nD, upd_same, Nat.zero_le _⟩ (fun i H' _ h => .inl (.inl (h.1 _ _ hp4))) (fun i x H' hx h => ?_) (fun H' h => ?_)
    · obtain ⟨sm, hD, hfl⟩ := h
      have hi0 : i < us.length := (List.getElem?_eq_some_iff.mp hx).1
      have hi1 : i < ch.length := by omega
      obtain ⟨x', hx', hat⟩ := paired_get hus (List.getElem?_eq_getElem hi1)
      obtain rfl : x' = x := Option.some.inj (hx'.symm.trans hx)
      have hl11 := ((hC.mem ch[i].1 ch[i].2).mp (List.getElem_mem hi1)).1
      have ef : lettersF (ch.take (i + 1)) R m = lettersF (ch.take i) R m ++ (if m ≤ R.getD ch[i].2 0 then [ch[i].2] else []) := by
        unfold lettersF
        rw [List.take_add_one, List.getElem?_eq_getElem hi1, List.filter_append, List.map_append]
        congr 1
        show List.map _ (List.filter _ [ch[i]]) = _
        by_cases q0 : m ≤ R.getD ch[i].2 0
        · rw [if_pos q0, List.filter_cons_of_pos (p := fun c : Int × Nat => decide (m ≤ R.getD c.2 0)) (decide_eq_true q0)]
          rfl
        · rw [if_neg q0, List.filter_cons_of_neg (p := fun c : Int × Nat => decide (m ≤ R.getD c.2 0)) (fun z => q0 (of_decide_eq_true z))]
          rfl
      rw [ef]
      generalize ch[i] = wl at *
      obtain ⟨wv, l⟩ := wl
      obtain ⟨tc, rfl, htc⟩ := hat
      have hl11 : l < 11 := hl11
      have hbit := mask_bit R m l 11 hl11
      refine ⟨tc, _, rfl, .inl (.inl (sm _ _ htc)), rfl, _, _, rfl, _, _, rfl, rfl, ?_⟩
      have esh : ((maskN R m 11 : Nat) : Int) / 2 ^ l = ((maskN R m 11 / 2 ^ l : Nat) : Int) := by
        push_cast
        rfl
      refine ⟨rfl, _, rfl, _, rfl, _, l, rfl, rfl, ?_⟩
      rw [esh]
      refine ⟨_, rfl, rfl, ?_⟩
      refine ⟨_, rfl, ite2 (fun e2 => ?_) (fun e2 => ?_)⟩
      · have q0 : m ≤ R.getD l 0 := by
          refine hbit.mp ?_
          have e2 : (((maskN R m 11 / 2 ^ l % 2 : Nat) : Int) != 0) = true := e2
          have e3 : ((maskN R m 11 / 2 ^ l % 2 : Nat) : Int) ≠ 0 := by simpa using e2
          have := Nat.mod_lt (maskN R m 11 / 2 ^ l) (by decide : 0 < 2)
          omega
        refine ⟨_, rfl, _, hD, (by rw [bys_len]; omega), same_put sm nD, ?_, ?_⟩
        · rw [upd_same, if_pos (show m ≤ R.getD (wv, l).2 0 from q0), ← bys_app]
          rfl
        · rw [if_pos (show m ≤ R.getD (wv, l).2 0 from q0), List.length_append]
          show _ + 1 ≤ _
          omega
      · have q0 : ¬ m ≤ R.getD l 0 := fun z => by
          have := hbit.mpr z
          refine e2 ?_
          show (((maskN R m 11 / 2 ^ l % 2 : Nat) : Int) != 0) = true
          rw [this]
          rfl
        refine ⟨sm, ?_, ?_⟩
        · rw [if_neg (show ¬ m ≤ R.getD (wv, l).2 0 from q0), List.append_nil]
          exact hD
        · rw [if_neg (show ¬ m ≤ R.getD (wv, l).2 0 from q0), List.append_nil]
          omega
    · obtain ⟨sm, hD, _⟩ := h
      rw [ecl, List.take_length] at hD
      obtain ⟨w0, l1, r0, el, f1, f2, f3⟩ := letters_first (m := m) hC ⟨_, l0, (hC.mem _ _).mpr ⟨hl0, hB0, rfl⟩, hR0⟩
      rw [el] at hD
      exact ⟨D, _, 0, _, rfl, rfl, .inl (.inl hD), at_of' (k := 0) rfl (by simp), q H' ch w0 l1 sm hC f1 f2 f3⟩
def spFaInit (CF : Addr) : Sp := fun vs H Q _ => ∃ (x dx pl pb : Addr) (L B : List Int), vs = [.ref x, .ref pl, .ref pb] ∧ H x = some (.ins CF dx []) ∧ H pl = some (.lst (L.map V.int)) ∧ H pb = some (.lst (B.map V.int)) ∧ L.length = 273 ∧ B.length = 11 ∧
  ∀ H', (∀ b o, b ≠ x → H b = some o → H' b = some o) → FaAt CF H' x L B → Q .non H'
theorem ok_faInit (T : FaTxt K mg C fI fB fC) {f1 : Addr} {fd fd1 : FuncData} {j k1 : Nat} {t1 t2 : Tok} (F : Fun K "__init__" "Fares.__init__" sFInit fI fd)
    (G1 : FnOk P w K mg base CX0 k1 f1 fd1 ["backs"] spWorths) (b1 : Binds K fd1 ["backs"] []) (kk1 : PySem.W.keepIn K (.ref f1) = true) (g1 : mg "worths_of" = some (.ref f1)) (l1 : k1 ≤ j)
    (m1 : mg "enumerate" = none) (m2 : mg "sorted" = none) (c1 : mg "FAR" = some (.int 1000000000 t1)) (c2 : mg "AHEAD_OF_COPIES" = some (.int 254 t2)) :
    FnOk P w K mg base CX0 (j + 1) fI fd ["self", "letters", "backs"] (spFaInit C) := by
  refine F.ok scFI (fun vs H Q E h => ?_) (fun cdv A outer s H vs Q E hr h => ?_)
  · obtain ⟨x, dx, pl, pb, L, B, rfl, _⟩ := h
    rfl
  · obtain ⟨x, dx, pl, pb, L, B, rfl, hx, hpl, hpb, hL, hB, fin⟩ := h
    have hz := PySem.sizeLine_eq
    refine ⟨_, pss_cons (ps_fld (pv 0) (pe_lc (own := [("bits", 3)]) (g := gName 3) (tt := tYes) rfl scFI.nd (pi_list (pv 1)) (blkOk_by (N := NFi) (sc := defScope sFInit) (by decide +kernel))
          (fun _ _ _ _ _ => pg_name (i := 3) scFI.nd rfl (.inl rfl)) (fun _ _ _ _ _ => pts_nil) (fun _ _ _ _ _ => pe_ifExp (pt_cmpR op_gt (pv 3) pe_int (nomark _)) (pv 3) (pe_glob (v := .int 1000000000) rfl c1 ⟨_, rfl⟩))) rfl)
      (pss_cons (ps_fld (pv 0) (pe_slice sl_list (pe_fld (pv 0) rfl) (po_some (pe_glob (v := .int 254) rfl c2 ⟨_, rfl⟩)) po_none) rfl)
      (pss_cons (ps_fld (pv 0) (pe_call G1 (hr.mono l1) (by rfl) g1 kk1 b1 .nil pass0 (pa_cons (pv 2) pa_nil)) rfl)
      (pss_one (ps_fld (pv 0) (pe_callB cr_sortedPO (by rfl) m2 (by decide +kernel) (pa_cons (pe_lc (own := [("letter", 4), ("bits", 3)]) (g := gTup K 2 (gCons (gName 4) (gCons (gName 3) gNil))) (tt := _) rfl scFI.nd
          (pi_enum (by rfl) m1 (pa_cons (pv 2) pa_nil)) (blkOk_by (N := NFi) (sc := defScope sFInit) (by decide +kernel))
          (fun _ _ _ _ _ => pg_tup rfl (pgs_cons (pg_name (i := 4) scFI.nd rfl (.inl rfl)) (pgs_cons (pg_name (i := 3) scFI.nd rfl (.inl rfl)) pgs_nil)))
          (fun _ _ _ _ _ => pts_one (pt_cmpR op_gt (pv 3) pe_int (nomark _)))
          (fun _ _ _ _ _ => pe_tup (pa_cons (pe_op op_add (pv 3) (pv 4)) (pa_cons (pv 4) pa_nil)))) pa_nil)) rfl)))), ?_⟩
    have hxl : x ≠ pl := ne_of hx hpl (fun z => nomatch z)
    have hxb : x ≠ pb := ne_of hx hpb (fun z => nomatch z)
    refine ⟨_, rfl, pl, rfl, ⟨_, .inl (.inl hpl)⟩, fun D1 nD1 => ?_⟩
    refine lc_list (K := K) (a := pl) (xs := L.map V.int) (fun t H' => Same H H' ∧ H' D1 = some (.lst (((L.take t).map lbx).map V.int))) ⟨same_upd nD1, upd_same⟩ (fun t H' _ z => .inl (.inl (z.1 _ _ hpl))) (fun t y H' hy z => ?_) (fun H1 z => ?_)
    · obtain ⟨sm, hE⟩ := z
      obtain ⟨y, rfl, hy'⟩ := int_of hy
      have ht : t < L.length := (List.getElem?_eq_some_iff.mp hy').1
      refine ⟨rfl, yes ?_⟩
      have fin : ∀ v : Int, v = lbx y → ∃ acc, H' D1 = some (.lst acc) ∧ acc.length < sizeLine ∧ (Same H (upd H' D1 (.lst (acc ++ [.int v]))) ∧ (upd H' D1 (.lst (acc ++ [.int v]))) D1 = some (.lst (((L.take (t + 1)).map lbx).map V.int))) := fun v ev => by
        refine ⟨_, hE, by rw [List.length_map, List.length_map, List.length_take]; omega, same_put sm nD1, ?_⟩
        rw [upd_same, List.take_add_one, hy', List.map_append, List.map_append, ev]
        rfl
      refine ⟨_, rfl, _, _, rfl, rfl, _, rfl, ite2 (fun t2 => ?_) (fun t2 => ?_)⟩
      · exact ⟨_, rfl, fin _ (if_pos (of_decide_eq_true t2)).symm⟩
      · exact fin _ (if_neg (fun z => t2 (decide_eq_true z))).symm
    obtain ⟨s1, hD1⟩ := z
    rw [List.length_map, List.take_length] at hD1
    have hll : (L.map lbx).length = 273 := by rw [List.length_map]; exact hL
    have h1 := s1 _ _ hx
    have hxD : x ≠ D1 := ne_of_none hx nD1
    have hb1 := s1 _ _ hpb
    refine ⟨_, rfl, x, C, dx, _, rfl, h1, T.cl, T.nL, (by show 0 < 1000; decide), ?_⟩
    have k2 : ∀ b o, b ≠ x → H b = some o → (upd H1 x (.ins C dx (putF "letter_bits" (.ref D1) []))) b = some o := fun b o n e => by rw [upd_ne n]; exact s1 _ _ e
    have h2 : (upd H1 x (.ins C dx (putF "letter_bits" (.ref D1) []))) x = some (.ins C dx (putF "letter_bits" (.ref D1) [])) := upd_same
    have hD2 : (upd H1 x (.ins C dx (putF "letter_bits" (.ref D1) []))) D1 = some (.lst ((L.map lbx).map V.int)) := by rw [upd_ne (Ne.symm hxD)]; exact hD1
    generalize upd H1 x (.ins C dx (putF "letter_bits" (.ref D1) [])) = H2 at *
    refine ⟨_, rfl, x, C, dx, _, _, rfl, h2, T.cl, T.nL, rfl, _, rfl, D1, _, rfl, .inl (.inl hD2), fun D2 nD2 => ?_⟩
    rw [from_254 (by omega)]
    have s3 := same_upd (o := .lst (((L.map lbx).drop 254).map V.int)) nD2
    have hE3 : (upd H2 D2 (.lst (((L.map lbx).drop 254).map V.int))) D2 = some (.lst (((L.map lbx).drop 254).map V.int)) := upd_same
    have hxE : x ≠ D2 := ne_of_none h2 nD2
    have hDE : D1 ≠ D2 := ne_of_none hD2 nD2
    generalize upd H2 D2 (.lst (((L.map lbx).drop 254).map V.int)) = H3 at *
    refine ⟨_, rfl, x, C, dx, _, rfl, s3 _ _ h2, T.cl, T.nC, (by show 1 < 1000; decide), ?_⟩
    have k4 : ∀ b o, b ≠ x → H2 b = some o → (upd H3 x (.ins C dx (putF "copy_bits" (.ref D2) (putF "letter_bits" (.ref D1) [])))) b = some o := fun b o n e => by rw [upd_ne n]; exact s3 _ _ e
    have h4 : (upd H3 x (.ins C dx (putF "copy_bits" (.ref D2) (putF "letter_bits" (.ref D1) [])))) x = some (.ins C dx (putF "copy_bits" (.ref D2) (putF "letter_bits" (.ref D1) []))) := upd_same
    have hE4 : (upd H3 x (.ins C dx (putF "copy_bits" (.ref D2) (putF "letter_bits" (.ref D1) [])))) D2 = some (.lst (((L.map lbx).drop 254).map V.int)) := by rw [upd_ne (Ne.symm hxE)]; exact hE3
    generalize upd H3 x (.ins C dx (putF "copy_bits" (.ref D2) (putF "letter_bits" (.ref D1) []))) = H4 at *
    have hD4 := k4 _ _ (Ne.symm hxD) hD2
    have hb4 := k4 _ _ (Ne.symm hxb) (k2 _ _ (Ne.symm hxb) hpb)
    refine ⟨_, rfl, pb, B, rfl, hb4, hB, fun H5 D3 s5 nD3 hF5 => ?_⟩
    have h5 := s5 _ _ h4
    have hxF : x ≠ D3 := ne_of_none h4 nD3
    refine ⟨_, rfl, x, C, dx, _, rfl, h5, T.cl, T.nW, (by show 2 < 1000; decide), ?_⟩
    have k6 : ∀ b o, b ≠ x → H4 b = some o → (upd H5 x (.ins C dx (putF "worths" (.ref D3) (putF "copy_bits" (.ref D2) (putF "letter_bits" (.ref D1) []))))) b = some o := fun b o n e => by rw [upd_ne n]; exact s5 _ _ e
    have h6 : (upd H5 x (.ins C dx (putF "worths" (.ref D3) (putF "copy_bits" (.ref D2) (putF "letter_bits" (.ref D1) []))))) x = some (.ins C dx (putF "worths" (.ref D3) (putF "copy_bits" (.ref D2) (putF "letter_bits" (.ref D1) [])))) := upd_same
    have hF6 : (upd H5 x (.ins C dx (putF "worths" (.ref D3) (putF "copy_bits" (.ref D2) (putF "letter_bits" (.ref D1) []))))) D3 = some (.lst ((worthT B 11).map V.int)) := by rw [upd_ne (Ne.symm hxF)]; exact hF5
    generalize upd H5 x (.ins C dx (putF "worths" (.ref D3) (putF "copy_bits" (.ref D2) (putF "letter_bits" (.ref D1) [])))) = H6 at *
    have hb6 := k6 _ _ (Ne.symm hxb) hb4
    refine ⟨_, rfl, pb, _, rfl, .inl (.inl hb6), fun G nG => ?_⟩
    have hl0 : (B.map V.int).length = 11 := by rw [List.length_map]; exact hB
    refine lc_it (walk_enum (K := K) (a := pb) (xs := B.map V.int)) (fun i H' => Same H6 H' ∧ ∃ us, H' G = some (.lst us) ∧ Paired (ChAt H') (rawC B i) us ∧ us.length ≤ i) ⟨same_upd nG, [], upd_same, .nil, Nat.le_refl _⟩ (fun i H' _ z => .inl (.inl (z.1 _ _ hb6))) (fun i y H' H3 hi z yy => ?_) (fun H7 z => ?_)
    · obtain ⟨sm, us, hG, hus, hul⟩ := z
      rw [hl0] at hi
      obtain ⟨T0, x0, y0, rfl, nT0, rfl, e0, e1⟩ := yy
      obtain rfl := Option.some.inj e0
      have hy : y0 = .int (B.getD i 0) := by
        have := at_getD (L := B) (k := i) (by omega)
        rw [atI_nat e1] at this
        exact Option.some.inj this
      subst hy
      have sm2 : Same H' (upd H' T0 (.tup [.int (i : Nat), .int (B.getD i 0)])) := same_upd nT0
      refine ⟨T0, _, rfl, .inl (.inl upd_same), rfl, _, _, rfl, _, _, rfl, rfl, rfl, ?_⟩
      have hG2 := sm2 _ _ hG
      have hus2 : Paired (ChAt (upd H' T0 (.tup [.int (i : Nat), .int (B.getD i 0)]))) (rawC B i) us := hus.mono fun _ _ h => h.same sm2
      generalize upd H' T0 (.tup [.int (i : Nat), .int (B.getD i 0)]) = H8 at *
      rw [rawC_succ]
      refine ⟨_, rfl, _, _, rfl, rfl, _, rfl, ite2 (fun e2 => ?_) (fun e2 => ?_)⟩
      · have e2 : 0 < B.getD i 0 := of_decide_eq_true e2
        refine ⟨_, rfl, _, rfl, _, _, rfl, rfl, _, rfl, (by show 2 ≤ sizeLine; omega), fun tt ntt => ?_⟩
        have st := same_upd (o := .tup [.int (B.getD i 0 + (i : Int)), .int (i : Int)]) ntt
        have ht : ChAt (upd H8 tt (.tup [.int (B.getD i 0 + (i : Int)), .int (i : Int)])) (B.getD i 0 + (i : Int), i) (.ref tt) := ⟨tt, rfl, upd_same⟩
        refine ⟨_, st _ _ hG2, by omega, same_put ((sm.trans sm2).trans st) nG, us ++ [.ref tt], upd_same, ?_, by rw [List.length_append]; show _ + 1 ≤ _; omega⟩
        rw [if_pos e2]
        exact (hus2.mono fun _ _ h => (h.same st).put (st _ _ hG2)).snoc (ht.put (st _ _ hG2))
      · have e2 : ¬ 0 < B.getD i 0 := fun z => e2 (decide_eq_true z)
        rw [if_neg e2, List.append_nil]
        exact ⟨sm.trans sm2, us, hG2, hus2, by omega⟩
    · obtain ⟨s7, us, hG, hus, hul⟩ := z
      rw [hl0] at hus hul
      obtain ⟨e1, e2⟩ := paired_c hus
      refine ⟨G, us, kOf H7, rfl, .inl (.inl hG), fun y hy => ?_, fun ys p4 hs hst np4 => ?_⟩
      · have hc := e2 y hy
        have ek := kOf_at hc
        obtain ⟨t, rfl, ht⟩ := id hc
        refine ⟨t, rfl, ?_⟩
        rw [ek]
        exact ht
      · obtain ⟨c1, c2, c3⟩ := cheap_of hus hs hst.perm
        have s8 := same_upd (o := .lst ys) np4
        have h8 := s8 _ _ (s7 _ _ h6)
        have hp8 : (upd H7 p4 (.lst ys)) p4 = some (.lst ys) := upd_same
        have hxp : x ≠ p4 := ne_of_none (s7 _ _ h6) np4
        have c1 : Paired (ChAt (upd H7 p4 (.lst ys))) (ys.map (cOf H7)) ys := c1.mono fun _ _ h => h.same s8
        have k8 : ∀ b o, b ≠ x → H b = some o → (upd H7 p4 (.lst ys)) b = some o := fun b o n e => s8 _ _ (s7 _ _ (k6 _ _ n (k4 _ _ n (k2 _ _ n e))))
        have a1 := s8 _ _ (s7 _ _ (k6 _ _ (Ne.symm hxD) hD4))
        have a2 := s8 _ _ (s7 _ _ (k6 _ _ (Ne.symm hxE) hE4))
        have a3 := s8 _ _ (s7 _ _ hF6)
        generalize upd H7 p4 (.lst ys) = H8 at *
        refine ⟨_, rfl, x, C, dx, _, rfl, h8, T.cl, T.nH, (by show 3 < 1000; decide), ?_⟩
        rw [faF_put]
        refine fin _ (fun b o n e => by rw [upd_ne n]; exact k8 b o n e) ⟨dx, D1, D2, D3, p4, ys, _, upd_same, ?_, ?_, ?_, ?_, c1.mono fun _ _ h => h.putI h8, c2, c3⟩
        · rw [upd_ne (Ne.symm hxD)]
          exact a1
        · rw [upd_ne (Ne.symm hxE)]
          exact a2
        · rw [upd_ne (Ne.symm hxF)]
          exact a3
        · rw [upd_ne (Ne.symm hxp)]
          exact hp8
end
end K4

namespace K4
open PySem PySem.Spec PyProof.Rows L2
/-! ### costs_of -/
abbrev NCo : List Str := ["places", "fares", "start", "end", "costs", "copy_bits", "worths", "at", "best", "many", "letters", "bits"]
theorem scCosts : FnScope NCo ["places", "fares", "start", "end"] (defScope sCosts) := ⟨rfl, rfl, rfl, by decide +kernel, rfl, by decide +kernel, by decide +kernel⟩
structure CostsIs (cs : List Int) (e : List Nat) (lead st en : Nat) (L B : List Int) : Prop where
  len : cs.length = en + 19
  at_ : ∀ q, st ≤ q → q ≤ en → cs.getD q 0 = enc (tab e lead en L B en q).1
  far : ∀ q, en < q → q < en + 19 → cs.getD q 0 = FARn
def stS (f : Nat → Int) (b : Int) (s : Nat × Int) : Int := if s.2 + f s.1 < b then s.2 + f s.1 else b
theorem minS_eq (L B : List Int) (R : List Nat) (k : Nat) (f : Nat → Int) : minS L B R k f = (stepsR L B R k).foldl (stS f) FARn := rfl
theorem fold_top (f : Nat → Int) (l : List (Nat × Int)) : l.foldl (stS f) FARn ≤ FARn := (fold_small f l FARn).1
theorem app_get (lead data : List Nat) (i : Nat) : (lead ++ data).getD (lead.length + i) 0 = data.getD i 0 := by
  rw [List.getD_eq_getElem?_getD, List.getElem?_append_right (by omega), Nat.add_sub_cancel_left, ← List.getD_eq_getElem?_getD]
theorem prsR_at {R : List Nat} {i : Nat} (h : i < maxR R + 1 - 3) : (prsR R)[i]? = some (3 + i, maskN R (3 + i) 11) := by
  unfold prsR
  rw [List.getElem?_map, List.getElem?_range' h, Nat.one_mul]
  rfl
theorem prsR_len (R : List Nat) : (prsR R).length = maxR R + 1 - 3 := by unfold prsR; rw [List.length_map, List.length_range']
theorem enc_nn {o : Option Int} (h : ∀ c, o = some c → 0 ≤ c) : 0 ≤ enc o := by
  cases o with
  | none => decide
  | some c => exact h c rfl
structure AskR (lead data : List Nat) (st en : Nat) (L B : List Int) : Prop where
  lt : ∀ k ∈ lead ++ data, k < 256
  len : (lead ++ data).length ≤ 10000
  se : st ≤ en
  en : en ≤ data.length
  l273 : L.length = 273
  b11 : B.length = 11
  lnn : ∀ x ∈ L, 0 ≤ x
  bnn : ∀ x ∈ B, 0 ≤ x
  l12 : Len12 L
  b12 : Len12 B
section
variable {lead data : List Nat} {st en : Nat} {L B : List Int}
theorem AskR.tab_nn (A : AskR lead data st en L B) {q : Nat} {c : Int} (hq : q ≤ en) (h : (tab (lead ++ data) lead.length en L B en q).1 = some c) : 0 ≤ c := tab_nonneg A.lt A.lnn A.bnn (en - q) q c hq (Nat.le_refl _) h
theorem AskR.tab_far (A : AskR lead data st en L B) {q : Nat} {c : Int} (hq : q ≤ en) (h : (tab (lead ++ data) lead.length en L B en q).1 = some c) : c < FARn := by
  have := tab_top A.lt A.lnn A.bnn A.l12 A.b12 (en - q) q c hq (Nat.le_refl _) h
  have hl := A.len
  have he := A.en
  rw [List.length_append] at hl
  unfold FARn
  omega
/-- one place's cost, by those behind it -/
theorem AskR.step (A : AskR lead data st en L B) {p : Nat} (hp : p < en) {R : List Nat} (hR : Rch (lead ++ data) (lead.length + p) R) {cs : List Int} (h1 : ∀ q, p < q → q ≤ en → cs.getD q 0 = enc (tab (lead ++ data) lead.length en L B en q).1) (h2 : ∀ q, en < q → q < en + 19 → cs.getD q 0 = FARn) {f : Nat → Int} (hf : ∀ m, 1 ≤ m → m ≤ 18 → f m = cs.getD (p + m) 0) :
    minS L B R (data.getD p 0) f = enc (tab (lead ++ data) lead.length en L B en p).1 := by
  have hl := A.len
  have he := A.en
  rw [List.length_append] at hl
  have h18 := hR.max18
  have ec : ∀ (f g : Nat → Int) (l : List (Nat × Int)) (a : Int), (∀ s ∈ l, f s.1 = g s.1) → l.foldl (stS f) a = l.foldl (stS g) a := by
    intro f g l
    induction l with
    | nil => exact fun _ _ => rfl
    | cons x r ih =>
      intro a h
      rw [List.foldl_cons, List.foldl_cons]
      have : stS f a x = stS g a x := by
        unfold stS
        rw [h x (List.mem_cons_self ..)]
      rw [this]
      exact ih _ fun s m => h s (List.mem_cons_of_mem _ m)
  have hm : ∀ s ∈ stepsR L B R (data.getD p 0), 1 ≤ s.1 ∧ s.1 ≤ 18 := fun s m => by
    rcases mem_stepsR.mp m with rfl | ⟨q1, q2, _⟩
    · exact ⟨Nat.le_refl _, (by decide : (1 : Nat) ≤ 18)⟩
    · omega
  obtain ⟨cf, hcf⟩ : ∃ cf : Nat → Option Int, cf = fun q => if q ≤ en then (tab (lead ++ data) lead.length en L B en q).1 else none := ⟨_, rfl⟩
  have e1 : minS L B R (data.getD p 0) f = minS L B R (data.getD p 0) (fun m => enc (cf (p + m))) := by
    rw [minS_eq, minS_eq]
    refine ec _ _ _ _ fun s m => ?_
    obtain ⟨a1, a2⟩ := hm s m
    rw [hf _ a1 a2, hcf]
    by_cases q : p + s.1 ≤ en
    · rw [h1 _ (by omega) q]
      show _ = enc (if p + s.1 ≤ en then _ else none)
      rw [if_pos q]
    · rw [h2 _ (by omega) (by omega)]
      show FARn = enc (if p + s.1 ≤ en then _ else none)
      rw [if_neg q]
      rfl
  rw [e1]
  have e2 : (tab (lead ++ data) lead.length en L B en p).1 = (bestF L B cf p (itemsF (lead ++ data) (lead.length + p) (min 18 (en - p)))).1 := by
    rw [tab_fix A.lt hp]
    refine congrArg Prod.fst (fold_congr fun it m => ?_)
    obtain ⟨_, a1, a2⟩ := itemsF_ok A.lt (by omega) (by omega) m
    rw [hcf]
    show _ = if p + lenI it ≤ en then _ else none
    rw [if_pos (by omega)]
  rw [e2, ← app_get lead data p]
  refine enc_best A.lnn A.bnn A.l12 A.b12 hR (by rw [List.length_append]; omega) (by omega) (fun m => rfl) (fun q c h => ?_) (fun q h => ?_) (fun c h => ?_)
  · rw [hcf] at h
    by_cases q1 : q ≤ en
    · have h : (if q ≤ en then (tab (lead ++ data) lead.length en L B en q).1 else none) = some c := h
      rw [if_pos q1] at h
      exact A.tab_nn q1 h
    · have h : (if q ≤ en then (tab (lead ++ data) lead.length en L B en q).1 else none) = some c := h
      rw [if_neg q1] at h
      cases h
  · rw [hcf]
    exact if_neg (by omega)
  · rw [← e2] at h
    exact A.tab_far (by omega) h
end
theorem int_at {cs : List Int} {i : Int} {k : Nat} (e : i = (k : Int)) (h : k < cs.length) : atI (cs.map V.int) i = some (.int (cs.getD k 0)) := by
  rw [e]
  exact at_getD h
theorem stepsR_at {L B : List Int} {R : List Nat} {k i : Nat} (h : i < maxR R + 1 - 3) : (stepsR L B R k)[i + 1]? = some (3 + i, lb L (254 + (3 + i)) + minW B R (3 + i) 11) := by
  unfold stepsR
  rw [List.getElem?_cons_succ, List.getElem?_map, prsR_at h]
  rfl
section
variable {P : Program} {w : World} {K : PySem.W.Frag} {mg : Str → Option Value} {base : Heap} {CP CF fPI fPL fPP fPB fFI fFB fFC : Addr}
def spCosts (CP CF : Addr) : Sp := fun vs H Q _ => ∃ (a b : Addr) (lead data : List Nat) (st en : Nat) (L B : List Int), vs = [.ref a, .ref b, .int (st : Int), .int (en : Int)] ∧ PlAt CP H a lead data ∧ FaAt CF H b L B ∧ AskR lead data st en L B ∧
  ∀ H' p cs, Same H H' → H p = none → H' p = some (.lst (cs.map V.int)) → CostsIs cs (lead ++ data) lead.length st en L B → Q (.ref p) H'
theorem ok_costs (T : PlTxt K mg CP fPI fPL fPP fPB) (TF : FaTxt K mg CF fFI fFB fFC) {f : Addr} {fd : FuncData} {j : Nat} {t1 t2 : Tok} (F : Fun K "costs_of" "costs_of" sCosts f fd)
    (m1 : mg "range" = none) (m2 : mg "reversed" = none) (m3 : mg "min" = none) (c1 : mg "FAR" = some (.int 1000000000 t1)) (c2 : mg "MOST_COPIED" = some (.int 18 t2)) :
    FnOk P w K mg base CX0 (j + 1) f fd ["places", "fares", "start", "end"] (spCosts CP CF) := by
  refine F.ok scCosts (fun vs H Q E h => ?_) (fun cdv A outer s H vs Q E hr h => ?_)
  · obtain ⟨a, b, lead, data, st, en, L, B, rfl, _⟩ := h
    rfl
  · obtain ⟨a, b, lead, data, st, en, L, B, rfl, ⟨dxa, pp, pk, ps, ks, ha0, hpp0, hpk0, hkl, hKd⟩, ⟨dxb, q1, q2, q3, q4, us4, ch, hb0, hq10, hq20, hq30, _⟩, AS, fin⟩ := h
    have hz := PySem.sizeLine_eq
    have hlen := AS.len
    rw [List.length_append] at hlen
    have hen := AS.en
    have hse := AS.se
    refine ⟨_, pss_cons (ps_set (i := 4) scCosts.nd rfl (.inl rfl) (pe_op op_cat (pe_op op_cat (pe_op op_rep (pe_lst (pa_cons (pe_glob (v := .int 1000000000) rfl c1 ⟨_, rfl⟩) pa_nil)) (pv 3)) (pe_lst (pa_cons pe_int pa_nil))) (pe_op op_rep (pe_lst (pa_cons (pe_glob (v := .int 1000000000) rfl c1 ⟨_, rfl⟩) pa_nil)) (pe_glob (v := .int 18) rfl c2 ⟨_, rfl⟩))))
      (pss_cons (ps_set (i := 5) scCosts.nd rfl (.inl rfl) (pe_fld (pv 1) rfl))
      (pss_cons (ps_set (i := 6) scCosts.nd rfl (.inl rfl) (pe_fld (pv 1) rfl))
      (pss_cons (ps_for PassesOwn.never rfl (pi_revR (by rfl) m2 (prg_2 (by rfl) m1 (pv 2) (pv 3))) (pg_name (i := 7) scCosts.nd rfl (.inl rfl))
        (pss_cons (ps_set (i := 8) scCosts.nd rfl (.inl rfl) (pe_callB (call_min2 rfl) (by rfl) m3 (by decide +kernel) (pa_cons (pe_glob (v := .int 1000000000) rfl c1 ⟨_, rfl⟩) (pa_cons (pe_op op_add (pe_ix ix_list (pe_fld (pv 1) rfl) (pe_item_byt (pe_fld (pv 0) rfl) (pv 7) (fun _ _ => rfl)) (fun _ _ => rfl)) (pe_ix ix_list (pv 4) (pe_op op_add (pv 7) pe_int) (fun _ _ => rfl))) pa_nil))))
        (pss_cons (ps_for PassesOwn.never rfl (pi_list (pe_ix ix_list (pe_fld (pv 0) rfl) (pe_ix ix_list (pe_fld (pv 0) rfl) (pv 7) (fun _ _ => rfl)) (fun _ _ => rfl))) (pg_tup rfl (pgs_cons (pg_name (i := 9) scCosts.nd rfl (.inl rfl)) (pgs_cons (pg_name (i := 10) scCosts.nd rfl (.inl rfl)) pgs_nil)))
          (pss_one (ps_if (pt_cmpR op_lt (pe_ix ix_list (pv 5) (pv 9) (fun _ _ => rfl)) (pe_glob (v := .int 1000000000) rfl c1 ⟨_, rfl⟩) (nomark _))
            (pss_cons (ps_set (i := 11) scCosts.nd rfl (.inl rfl) (pe_op op_add (pe_op op_add (pe_ix ix_list (pv 5) (pv 9) (fun _ _ => rfl)) (pe_ix ix_list (pv 6) (pv 10) (fun _ _ => rfl))) (pe_ix ix_list (pv 4) (pe_op op_add (pv 7) (pv 9)) (fun _ _ => rfl))))
            (pss_one (ps_if (pt_cmpR op_lt (pv 11) (pv 8) (nomark _)) (pss_one (ps_set (i := 8) scCosts.nd rfl (.inl rfl) (pv 11))) pss_nil))) pss_nil)))
        (pss_one (ps_asg (pv 8) (pg_sub (pv 4) (pv 7) set_list))))))
      (pss_one (ps_ret (pv 4)))))), ?_⟩
    obtain ⟨cs0, hcs0⟩ : ∃ cs0 : List Int, cs0 = (List.replicate en FARn ++ [0]) ++ List.replicate 18 FARn := ⟨_, rfl⟩
    have hc0l : cs0.length = en + 19 := by rw [hcs0]; simp
    have hc0e : cs0.getD en 0 = 0 := by
      rw [hcs0, List.getD_eq_getElem?_getD, List.getElem?_append_left (by simp), List.getElem?_append_right (by simp)]
      simp
    have hc0f : ∀ q, en < q → q < en + 19 → cs0.getD q 0 = FARn := fun q g1 g2 => by
      rw [hcs0, List.getD_eq_getElem?_getD, List.getElem?_append_right (by simp; omega), List.getElem?_replicate, if_pos (by simp; omega)]
      rfl
    refine ⟨(by show 1 ≤ sizeLine; omega), fun z1 nz1 => ?_⟩
    have s1 := same_upd (o := .lst [.int 1000000000]) nz1
    have hz1 : (upd H z1 (.lst [.int 1000000000])) z1 = some (.lst [.int 1000000000]) := upd_same
    generalize upd H z1 (.lst [.int 1000000000]) = H1 at *
    refine ⟨_, rfl, z1, (en : Int), _, rfl, rfl, hz1, by omega, by omega, (by show 1 * _ ≤ _; omega), fun r1 nr1 => ?_⟩
    rw [rep_flat, Int.toNat_natCast]
    have s2 := s1.trans (same_upd (o := .lst (List.replicate en (.int 1000000000))) nr1)
    have hr1 : (upd H1 r1 (.lst (List.replicate en (.int 1000000000)))) r1 = some (.lst (List.replicate en (.int 1000000000))) := upd_same
    generalize upd H1 r1 (.lst (List.replicate en (.int 1000000000))) = H2 at *
    refine ⟨(by show 1 ≤ sizeLine; omega), fun z2 nz2 => ?_⟩
    have s3 := s2.trans (same_upd (o := .lst [.int 0]) nz2)
    have hz2 : (upd H2 z2 (.lst [.int 0])) z2 = some (.lst [.int 0]) := upd_same
    have hr1 := same_upd (o := .lst [.int 0]) nz2 _ _ hr1
    generalize upd H2 z2 (.lst [.int 0]) = H3 at *
    refine ⟨r1, z2, _, _, rfl, rfl, hr1, hz2, (by rw [List.length_replicate]; show en + 1 ≤ _; omega), fun r2 nr2 => ?_⟩
    have s4 := s3.trans (same_upd (o := .lst (List.replicate en (.int 1000000000) ++ [.int 0])) nr2)
    have hr2 : (upd H3 r2 (.lst (List.replicate en (.int 1000000000) ++ [.int 0]))) r2 = some (.lst (List.replicate en (.int 1000000000) ++ [.int 0])) := upd_same
    generalize upd H3 r2 (.lst (List.replicate en (.int 1000000000) ++ [.int 0])) = H4 at *
    refine ⟨(by show 1 ≤ sizeLine; omega), fun z3 nz3 => ?_⟩
    have s5 := s4.trans (same_upd (o := .lst [.int 1000000000]) nz3)
    have hz3 : (upd H4 z3 (.lst [.int 1000000000])) z3 = some (.lst [.int 1000000000]) := upd_same
    have hr2 := same_upd (o := .lst [.int 1000000000]) nz3 _ _ hr2
    generalize upd H4 z3 (.lst [.int 1000000000]) = H5 at *
    refine ⟨z3, (18 : Int), _, rfl, rfl, hz3, by omega, by omega, (by show 1 * _ ≤ _; omega), fun r3 nr3 => ?_⟩
    rw [rep_flat, show (18 : Int).toNat = 18 from rfl]
    have s6 := s5.trans (same_upd (o := .lst (List.replicate 18 (.int 1000000000))) nr3)
    have hr3 : (upd H5 r3 (.lst (List.replicate 18 (.int 1000000000)))) r3 = some (.lst (List.replicate 18 (.int 1000000000))) := upd_same
    have hr2 := same_upd (o := .lst (List.replicate 18 (.int 1000000000))) nr3 _ _ hr2
    generalize upd H5 r3 (.lst (List.replicate 18 (.int 1000000000))) = H6 at *
    refine ⟨r2, r3, _, _, rfl, rfl, hr2, hr3, (by simp; omega), fun D nD => ?_⟩
    have nD0 := none_back s6 nD
    have s7 := s6.trans (same_upd (o := .lst ((List.replicate en (.int 1000000000) ++ [.int 0]) ++ List.replicate 18 (.int 1000000000))) nD)
    have hD7 : (upd H6 D (.lst ((List.replicate en (.int 1000000000) ++ [.int 0]) ++ List.replicate 18 (.int 1000000000)))) D = some (.lst (cs0.map V.int)) := by
      rw [upd_same, hcs0, List.map_append, List.map_append, List.map_replicate, List.map_replicate]
      rfl
    generalize upd H6 D (.lst ((List.replicate en (.int 1000000000) ++ [.int 0]) ++ List.replicate 18 (.int 1000000000))) = H7 at *
    clear s1 s2 s3 s4 s5 s6 hz1 hz2 hz3 hr1 hr2 hr3 nz1 nz2 nz3 nr1 nr2 nr3 nD hcs0
    dsimp only [gName]
    refine ⟨_, rfl, b, CF, dxb, _, _, rfl, s7 _ _ hb0, TF.cl, TF.nC, faF_c _ _ _ _, ?_⟩
    refine ⟨_, rfl, b, CF, dxb, _, _, rfl, s7 _ _ hb0, TF.cl, TF.nW, faF_w _ _ _ _, ?_⟩
    refine ⟨_, rfl, _, rfl, _, _, rfl, rfl, by omega, by omega, by omega, by omega, ?_⟩
    have hn : ((en : Int) - (st : Int)).toNat = en - st := by omega
    refine for_rangeC (lo := (st : Int) + ((((en : Int) - (st : Int)).toNat : Nat) : Int) - 1) (c := -1) (n := ((en : Int) - (st : Int)).toNat) (fun i σ H' => ∃ (y7 y8 y9 y10 y11 : Option V) (cs : List Int), σ = [some (.ref a), some (.ref b), some (.int (st : Int)), some (.int (en : Int)), some (.ref D), some (.ref q2), some (.ref q3), y7, y8, y9, y10, y11] ∧ Same H H' ∧ H' D = some (.lst (cs.map V.int)) ∧ cs.length = en + 19 ∧ (∀ q, en - i ≤ q → q ≤ en → cs.getD q 0 = enc (tab (lead ++ data) lead.length en L B en q).1) ∧ ∀ q, en < q → q < en + 19 → cs.getD q 0 = FARn)
      ⟨_, _, _, _, _, cs0, rfl, s7, hD7, hc0l, fun q g1 g2 => ?_, hc0f⟩ (fun i σ H' hi h => ?_) (fun σ H' h => ?_)
    · have : q = en := by omega
      subst this
      rw [tab_end, hc0e]
      rfl
    · obtain ⟨y7, y8, y9, y10, y11, cs, rfl, sm, hD, hcl, hcs, hfar⟩ := h
      rw [hn] at hi ⊢
      obtain ⟨p, hp⟩ : ∃ p : Nat, p = en - (i + 1) := ⟨_, rfl⟩
      have ep : (st : Int) + ((en - st : Nat) : Int) - 1 + (i : Nat) * -1 = (p : Int) := by omega
      rw [ep]
      have hpn : p < en := by omega
      have hk : ∀ k ∈ data, k < 256 := fun k m => AS.lt k (List.mem_append_right _ m)
      refine ⟨_, rfl, b, CF, dxb, _, _, rfl, sm _ _ hb0, TF.cl, TF.nL, faF_l _ _ _ _, _, rfl, a, CP, dxa, _, _, rfl, sm _ _ ha0, T.cl, T.nD, plF_d _ _ _ _ _, _, rfl, data.map Nat.toUInt8, (p : Int), rfl, rfl, by rw [List.length_map]; omega, by omega, by rw [List.length_map]; omega, ?_⟩
      rw [Int.toNat_natCast, byB_get hk]
      have hk0 : data.getD p 0 < 256 := by
        rw [List.getD_eq_getElem?_getD, List.getElem?_eq_getElem (by omega)]
        exact hk _ (List.getElem_mem _)
      refine ⟨q1, _, _, _, rfl, rfl, .inl (.inl (sm _ _ hq10)), int_at (k := data.getD p 0) rfl (by rw [List.length_map, AS.l273]; omega), _, rfl, _, rfl, _, _, rfl, rfl, D, _, _, _, rfl, rfl, .inl (.inl hD), int_at (k := p + 1) (by push_cast; rfl) (by omega), _, _, rfl, rfl, _, _, rfl, ?_⟩
      rw [lbx_at (by rw [AS.l273]; omega)]
      obtain ⟨f, hf⟩ : ∃ f : Nat → Int, f = fun m => cs.getD (p + m) 0 := ⟨_, rfl⟩
      obtain ⟨R, v, hv, hR, t, us, rfl, _, _, ht, hus⟩ := hKd p (by omega)
      have hv := hv
      obtain ⟨k, hk'⟩ : ∃ k, k = data.getD p 0 := ⟨_, rfl⟩
      have ebest : (if lb L (data.getD p 0) + cs.getD (p + 1) 0 < 1000000000 then lb L (data.getD p 0) + cs.getD (p + 1) 0 else 1000000000) = ((stepsR L B R k).take 1).foldl (stS f) FARn := by
        rw [hf, hk']
        rfl
      dsimp only [gName]
      rw [ebest]
      have hM18 := hR.max18
      have hul : us.length = maxR R + 1 - 3 := by
        rw [← hus.length]
        exact prsR_len R
      refine ⟨_, rfl, a, CP, dxa, _, _, rfl, sm _ _ ha0, T.cl, T.nP, plF_p _ _ _ _ _, _, rfl, a, CP, dxa, _, _, rfl, sm _ _ ha0, T.cl, T.nK, plF_k _ _ _ _ _, _, rfl, pk, _, _, _, rfl, rfl, .inl (.inl (sm _ _ hpk0)), at_of' rfl (by omega), pp, _, _, _, rfl, rfl, .inl (.inl (sm _ _ hpp0)), atI_nat hv, t, rfl, ⟨_, .inl (.inl (sm _ _ ht))⟩, ?_⟩
      have hsl : (stepsR L B R k).length = us.length + 1 := by
        unfold stepsR
        rw [List.length_cons, List.length_map, prsR_len, hul]
      refine for_list (K := K) (a := t) (xs := us) (fun i2 σ H2 => ∃ (y9 y10 y11 : Option V), σ = [some (.ref a), some (.ref b), some (.int (st : Int)), some (.int (en : Int)), some (.ref D), some (.ref q2), some (.ref q3), some (.int (p : Int)), some (.int (((stepsR L B R k).take (i2 + 1)).foldl (stS f) FARn)), y9, y10, y11] ∧ H2 = H')
        ⟨_, _, _, rfl, rfl⟩ (fun i2 σ H2 _ h => by obtain ⟨_, _, _, _, rfl⟩ := h; exact .inl (.inl (sm _ _ ht))) (fun i2 x σ H2 hx h => ?_) (fun σ H2 h => ?_)
      · obtain ⟨z9, z10, z11, rfl, rfl⟩ := h
        have hi2 : i2 < us.length := (List.getElem?_eq_some_iff.mp hx).1
        obtain ⟨x', hx', hat⟩ := paired_get hus (prsR_at (R := R) (i := i2) (by omega))
        obtain rfl : x' = x := Option.some.inj (hx'.symm.trans hx)
        obtain ⟨tc, rfl, htc⟩ := hat
        have htc := sm _ _ htc
        obtain ⟨best, hbest⟩ : ∃ best, best = ((stepsR L B R k).take (i2 + 1)).foldl (stS f) FARn := ⟨_, rfl⟩
        have htop : best ≤ FARn := by rw [hbest]; exact fold_top f _
        have enext : ((stepsR L B R k).take (i2 + 1 + 1)).foldl (stS f) FARn = stS f best (3 + i2, lb L (254 + (3 + i2)) + minW B R (3 + i2) 11) := by
          rw [List.take_add_one, stepsR_at (by omega), List.foldl_append, hbest]
          rfl
        rw [enext, ← hbest]
        refine ⟨tc, _, rfl, .inl (.inl htc), rfl, _, _, rfl, _, _, rfl, rfl, ?_⟩
        have ecb : ∀ h : 3 + i2 < ((L.map lbx).drop 254).length, ((L.map lbx).drop 254).getD (3 + i2) 0 = lb L (254 + (3 + i2)) := fun _ => cbx_at (by rw [AS.l273]; omega)
        have hcb : 3 + i2 < ((L.map lbx).drop 254).length := by rw [List.length_drop, List.length_map, AS.l273]; omega
        refine ⟨_, rfl, _, rfl, q2, _, _, _, rfl, rfl, .inl (.inl (sm _ _ hq20)), int_at (k := 3 + i2) rfl hcb, _, _, rfl, rfl, _, rfl, ?_⟩
        rw [ecb hcb]
        have hfp : f (3 + i2) = cs.getD (p + (3 + i2)) 0 := by rw [hf]
        have hf0 : 0 ≤ f (3 + i2) := by
          rw [hfp]
          by_cases g : p + (3 + i2) ≤ en
          · rw [hcs _ (by omega) g]
            exact enc_nn fun c hc => AS.tab_nn g hc
          · rw [hfar _ (by omega) (by omega)]
            decide
        have hw0 := minW_nn AS.bnn R (3 + i2) 11
        refine ite2 (fun t1 => ?_) (fun t1 => ?_)
        · have t1 : lb L (254 + (3 + i2)) < FARn := of_decide_eq_true t1
          have hwt : 3 + i2 < 2 ^ 11 := by omega
          refine ⟨_, rfl, _, rfl, q2, _, _, _, rfl, rfl, .inl (.inl (sm _ _ hq20)), int_at (k := 3 + i2) rfl hcb, _, rfl, _, rfl, q3, _, _, _, rfl, rfl, .inl (.inl (sm _ _ hq30)), int_at (k := maskN R (3 + i2) 11) rfl (by rw [worth_len]; exact maskN_lt R _ 11), _, _, rfl, rfl, _, rfl, _, rfl, _, rfl, _, _, rfl, rfl, D, _, _, _, rfl, rfl, .inl (.inl hD), int_at (k := p + (3 + i2)) (by push_cast; rfl) (by omega), _, _, rfl, rfl, ?_⟩
          rw [ecb hcb, worth_at, ← hfp]
          dsimp only [gName]
          refine ⟨_, rfl, _, rfl, _, _, rfl, rfl, _, rfl, ite2 (fun t2 => ?_) (fun t2 => ?_)⟩
          · refine ⟨_, rfl, ?_⟩
            have : stS f best (3 + i2, lb L (254 + (3 + i2)) + minW B R (3 + i2) 11) = lb L (254 + (3 + i2)) + minW B R (3 + i2) 11 + f (3 + i2) := if_pos (of_decide_eq_true t2)
            exact ⟨_, _, _, by rw [this]; rfl, rfl⟩
          · have : stS f best (3 + i2, lb L (254 + (3 + i2)) + minW B R (3 + i2) 11) = best := if_neg (fun z => t2 (decide_eq_true z))
            exact ⟨_, _, _, by rw [this]; rfl, rfl⟩
        · have t1 : ¬ lb L (254 + (3 + i2)) < FARn := fun z => t1 (decide_eq_true z)
          have : stS f best (3 + i2, lb L (254 + (3 + i2)) + minW B R (3 + i2) 11) = best := if_neg (by show ¬ lb L (254 + (3 + i2)) + minW B R (3 + i2) 11 + f (3 + i2) < best; omega)
          exact ⟨_, _, _, by rw [this]; rfl, rfl⟩
      · obtain ⟨z9, z10, z11, rfl, rfl⟩ := h
        rw [← hsl, List.take_length, ← minS_eq, hk', AS.step hpn hR (fun q g1 g2 => hcs q (by omega) g2) hfar (fun m _ _ => by rw [hf])]
        refine ⟨_, rfl, _, rfl, _, rfl, D, _, _, p, rfl, rfl, hD, ixN_natK (by rw [List.length_map]; omega), ?_⟩
        refine ⟨_, _, _, _, _, cs.set p (enc (tab (lead ++ data) lead.length en L B en p).1), rfl, same_put sm nD0, by rw [upd_same, List.map_set], by rw [List.length_set]; exact hcl, fun q g1 g2 => ?_, fun q g1 g2 => ?_⟩
        · by_cases e0 : q = p
          · subst e0
            rw [List.getD_eq_getElem?_getD, List.getElem?_set_self (by omega)]
            rfl
          · rw [List.getD_eq_getElem?_getD, List.getElem?_set_ne (Ne.symm e0), ← List.getD_eq_getElem?_getD]
            exact hcs q (by omega) g2
        · rw [List.getD_eq_getElem?_getD, List.getElem?_set_ne (by omega), ← List.getD_eq_getElem?_getD]
          exact hfar q g1 g2
    · obtain ⟨y7, y8, y9, y10, y11, cs, rfl, sm, hD, hcl, hcs, hfar⟩ := h
      rw [hn] at hcs
      exact ⟨_, rfl, fin H' D cs sm nD0 hD ⟨hcl, fun q g1 g2 => hcs q (by omega) g2, hfar⟩⟩
end
end K4

namespace K4
open PySem PySem.Spec PyProof.Rows L2
/-! ### first_of, item_at -/
def TakenIs (e : List Nat) (lead en : Nat) (L B : List Int) (p m l : Nat) : Prop :=
  (m = 1 ∧ l = 0 ∧ (tab e lead en L B en p).2 = some (.b (e.getD (lead + p) 0))) ∨
  (3 ≤ m ∧ m ≤ 18 ∧ p + m ≤ en ∧ l < 11 ∧ Hits e (lead + p) l m ∧ ∀ b, 2 ^ l ≤ b → b < 2 ^ (l + 1) → b ≤ min 1024 (lead + p) → m ≤ rn e (lead + p) b → (∀ b', 2 ^ l ≤ b' → b' ≤ min 1024 (lead + p) → m ≤ rn e (lead + p) b' → b ≤ b') → (tab e lead en L B en p).2 = some (.c m b))
def bitsR (L B : List Int) (R : List Nat) (k m : Nat) : Int := if m = 1 then lb L k else lb L (254 + m) + minW B R m 11
def leastL (L B : List Int) (R : List Nat) (f : Nat → Int) (c : Int) (i : Nat) : List (Nat × Nat) := ((prsR R).take i).filter fun s => decide (lb L (254 + s.1) + minW B R s.1 11 + f s.1 = c)
section
variable {lead data : List Nat} {st en : Nat} {L B : List Int}
theorem AskR.cell (A : AskR lead data st en L B) {p : Nat} (hp : p < en) (cf : Nat → Option Int) (hcf : cf = fun q => if q ≤ en then (tab (lead ++ data) lead.length en L B en q).1 else none) :
    tab (lead ++ data) lead.length en L B en p = bestF L B cf p (itemsF (lead ++ data) (lead.length + p) (min 18 (en - p))) := by
  have hl := A.len
  have he := A.en
  rw [List.length_append] at hl
  rw [tab_fix A.lt hp]
  refine fold_congr fun it m => ?_
  obtain ⟨_, a1, a2⟩ := itemsF_ok A.lt (by omega) (by omega) m
  rw [hcf]
  show _ = if p + lenI it ≤ en then _ else none
  rw [if_pos (by omega)]
theorem AskR.taken_iff (A : AskR lead data st en L B) {p : Nat} (hp : p < en) {R : List Nat} (hR : Rch (lead ++ data) (lead.length + p) R) {f : Nat → Int} {cf : Nat → Option Int} (hcf : cf = fun q => if q ≤ en then (tab (lead ++ data) lead.length en L B en q).1 else none) (hf : ∀ m, 1 ≤ m → m ≤ 18 → f m = enc (cf (p + m))) {c : Int} (hc : c < FARn) {m : Nat} (hm : m = 1 ∨ (3 ≤ m ∧ m ≤ maxR R)) :
    m ∈ takenF (useR L B R (data.getD p 0) (en - p)) cf p c ↔ bitsR L B R (data.getD p 0) m + f m = c := by
  have h18 := hR.max18
  have hb0 : 0 ≤ bitsR L B R (data.getD p 0) m := by
    unfold bitsR
    have h1 := lb_nn (L := L) (data.getD p 0)
    have h2 := lb_nn (L := L) (254 + m)
    have h3 := minW_nn A.bnn R m 11
    split <;> omega
  have hs : (m, bitsR L B R (data.getD p 0) m) ∈ stepsR L B R (data.getD p 0) := by
    rcases hm with rfl | ⟨h1, h2⟩
    · exact mem_stepsR.mpr (.inl (by unfold bitsR; rw [if_pos rfl]))
    · refine mem_stepsR.mpr (.inr ⟨h1, h2, ?_⟩)
      unfold bitsR
      rw [if_neg (by omega)]
  rw [mem_taken]
  constructor
  · rintro ⟨s, h1, h2, r, h3, h4⟩
    obtain ⟨h5, _, _⟩ := mem_useR.mp h1
    have e1 : s.2 = bitsR L B R (data.getD p 0) m := by
      rcases mem_stepsR.mp h5 with rfl | ⟨g1, _, g2⟩
      · have h2 : 1 = m := h2
        subst h2
        unfold bitsR
        rw [if_pos rfl]
      · rw [h2] at g1 g2
        unfold bitsR
        rw [if_neg (by omega)]
        exact g2
    rw [hf m (by omega) (by omega), h3, ← e1]
    exact h4
  · intro h
    rw [hf m (by omega) (by omega)] at h
    cases hr : cf (p + m) with
    | none =>
      rw [hr] at h
      have h : bitsR L B R (data.getD p 0) m + FARn = c := h
      omega
    | some r =>
      rw [hr] at h
      have h : bitsR L B R (data.getD p 0) m + r = c := h
      have hpm : p + m ≤ en := by
        by_cases q : p + m ≤ en
        · exact q
        · rw [hcf] at hr
          have hr : (if p + m ≤ en then (tab (lead ++ data) lead.length en L B en (p + m)).1 else none) = some r := hr
          rw [if_neg q] at hr
          cases hr
      have hr0 : 0 ≤ r := by
        rw [hcf] at hr
        have hr : (if p + m ≤ en then (tab (lead ++ data) lead.length en L B en (p + m)).1 else none) = some r := hr
        rw [if_pos hpm] at hr
        exact A.tab_nn hpm hr
      exact ⟨_, mem_useR.mpr ⟨hs, by show bitsR L B R (data.getD p 0) m < FARn; omega, by show m ≤ en - p; omega⟩, rfl, r, rfl, h⟩
theorem AskR.first (A : AskR lead data st en L B) {p : Nat} (hp : p < en) {R : List Nat} (hR : Rch (lead ++ data) (lead.length + p) R) {ch : List (Int × Nat)} (C : CheapOk ch B) {f : Nat → Int} {cf : Nat → Option Int} (hcf : cf = fun q => if q ≤ en then (tab (lead ++ data) lead.length en L B en q).1 else none) (hf : ∀ m, 1 ≤ m → m ≤ 18 → f m = enc (cf (p + m))) {c : Int} (hc : (tab (lead ++ data) lead.length en L B en p).1 = some c) :
    (lb L (data.getD p 0) + f 1 = c → TakenIs (lead ++ data) lead.length en L B p 1 0) ∧
    (lb L (data.getD p 0) + f 1 ≠ c → ∃ m r, leastL L B R f c (prsR R).length = r ++ [(m, maskN R m 11)] ∧ (∃ l, l < 11 ∧ 0 < B.getD l 0 ∧ m ≤ R.getD l 0) ∧ ∀ ch w l, CheapOk ch B → (w, l) ∈ ch → m ≤ R.getD l 0 → (∀ w' l', (w', l') ∈ ch → m ≤ R.getD l' 0 → w < w' ∨ (w = w' ∧ l ≤ l')) → TakenIs (lead ++ data) lead.length en L B p m l) := by
  have hl := A.len
  have he := A.en
  rw [List.length_append] at hl
  have hcF := A.tab_far (by omega) hc
  have ec := A.cell hp cf hcf
  have hn : en - p ≤ (lead ++ data).length - (lead.length + p) := by rw [List.length_append]; omega
  have hb : (bestF L B cf p (itemsF (lead ++ data) (lead.length + p) (min 18 (en - p)))).1 = some c := by rw [← ec]; exact hc
  have eb : ∀ m, bitsR L B R (data.getD p 0) m = if m = 1 then lb L (data.getD p 0) else lb L (254 + m) + minW B R m 11 := fun m => rfl
  have t1 := A.taken_iff hp hR hcf hf hcF (m := 1) (.inl rfl)
  rw [eb 1, if_pos rfl, ← app_get lead data p] at t1
  rw [← app_get lead data p]
  constructor
  · intro h
    refine .inl ⟨rfl, rfl, ?_⟩
    rw [ec]
    exact use_byte A.lnn A.bnn A.l12 A.b12 hR hn (by omega) hb (t1.mpr h)
  · intro h
    have h1 : 1 ∉ takenF (useR L B R ((lead ++ data).getD (lead.length + p) 0) (en - p)) cf p c := fun z => h (t1.mp z)
    have S := use_ok (n := en - p) A.lnn A.bnn A.l12 A.b12 hR hn (by omega)
    have hne := use_some S hb
    have hms : ∀ x ∈ takenF (useR L B R ((lead ++ data).getD (lead.length + p) 0) (en - p)) cf p c, 3 ≤ x ∧ x ≤ maxR R := fun x hx => by
      obtain ⟨s, hs, rfl, _⟩ := mem_taken.mp hx
      rcases mem_stepsR.mp (mem_useR.mp hs).1 with q | ⟨q1, q2, _⟩
      · rw [q] at hx
        exact absurd hx h1
      · exact ⟨q1, q2⟩
    have hfull : leastL L B R f c (prsR R).length = (prsR R).filter fun s => decide (lb L (254 + s.1) + minW B R s.1 11 + f s.1 = c) := by
      unfold leastL
      rw [List.take_length]
    have hmem : ∀ x, x ∈ takenF (useR L B R ((lead ++ data).getD (lead.length + p) 0) (en - p)) cf p c ↔ (x, maskN R x 11) ∈ leastL L B R f c (prsR R).length := fun x => by
      rw [hfull, List.mem_filter]
      constructor
      · intro hx
        obtain ⟨g1, g2⟩ := hms x hx
        refine ⟨List.mem_map.mpr ⟨x, List.mem_range'_1.mpr ⟨g1, by omega⟩, rfl⟩, decide_eq_true ?_⟩
        have := (A.taken_iff hp hR hcf hf hcF (m := x) (.inr ⟨g1, g2⟩)).mp (by rw [← app_get lead data p]; exact hx)
        rw [eb x, if_neg (by omega)] at this
        exact this
      · rintro ⟨g1, g2⟩
        obtain ⟨y, g3, g4⟩ := List.mem_map.mp g1
        have g4 : y = x := congrArg Prod.fst g4
        subst g4
        have g3 := List.mem_range'_1.mp g3
        have := (A.taken_iff hp hR hcf hf hcF (m := y) (.inr ⟨g3.1, by omega⟩)).mpr (by rw [eb y, if_neg (by omega)]; exact of_decide_eq_true g2)
        rw [← app_get lead data p] at this
        exact this
    have hsrt : (leastL L B R f c (prsR R).length).Pairwise fun a b => a.1 < b.1 := by
      rw [hfull]
      refine List.Pairwise.sublist List.filter_sublist ?_
      unfold prsR
      refine List.pairwise_map.mpr ?_
      exact (List.pairwise_lt_range' (s := 3) (n := maxR R + 1 - 3) (step := 1)).imp fun {a b} h => h
    have hall : ∀ s ∈ leastL L B R f c (prsR R).length, s.2 = maskN R s.1 11 := fun s hs => by
      rw [hfull] at hs
      obtain ⟨y, _, rfl⟩ := List.mem_map.mp (List.mem_filter.mp hs).1
      rfl
    have hne2 : leastL L B R f c (prsR R).length ≠ [] := fun z => by
      cases hT : takenF (useR L B R ((lead ++ data).getD (lead.length + p) 0) (en - p)) cf p c with
      | nil => exact hne hT
      | cons x r =>
        have := (hmem x).mp (by rw [hT]; exact List.mem_cons_self ..)
        rw [z] at this
        cases this
    generalize leastL L B R f c (prsR R).length = LL at *
    obtain ⟨r, s, rfl⟩ : ∃ r s, LL = r ++ [s] := ⟨LL.dropLast, LL.getLast hne2, (List.dropLast_concat_getLast hne2).symm⟩
    have hs2 := hall s (by simp)
    have hsm : s.1 ∈ takenF (useR L B R ((lead ++ data).getD (lead.length + p) 0) (en - p)) cf p c := (hmem s.1).mpr (by rw [← hs2]; simp)
    have hmax : ∀ x ∈ takenF (useR L B R ((lead ++ data).getD (lead.length + p) 0) (en - p)) cf p c, x ≤ s.1 := fun x hx => by
      have := (hmem x).mp hx
      rcases List.mem_append.mp this with q | q
      · have := (List.pairwise_append.mp hsrt).2.2 _ q s (by simp)
        exact Nat.le_of_lt this
      · rw [← List.mem_singleton.mp q]
        exact Nat.le_refl _
    refine ⟨s.1, r, by rw [← hs2], ?_, fun ch w l C h3 h4 h5 => ?_⟩
    · obtain ⟨_, g3, g18, gn, ⟨w, l, gm, gR⟩, _⟩ := use_copy_is A.lnn A.bnn A.l12 A.b12 C hR hn (by omega) hb h1 hsm hmax
      obtain ⟨a1, a2, _⟩ := (C.mem w l).mp gm
      exact ⟨l, a1, a2, gR⟩
    · obtain ⟨_, g3, g18, gn, _, g⟩ := use_copy_is A.lnn A.bnn A.l12 A.b12 C hR hn (by omega) hb h1 hsm hmax
      obtain ⟨ghit, gb⟩ := g w l h3 h4 h5
      refine .inr ⟨g3, g18, by omega, ((C.mem w l).mp h3).1, ghit, fun b b1 b2 b3 b4 b5 => ?_⟩
      rw [ec]
      exact gb b b1 b2 b3 b4 b5
end
end K4

namespace K4
open PySem PySem.Spec PyProof.Rows L2
abbrev NFo : List Str := ["places", "fares", "costs", "at", "least", "many", "letters"]
theorem scFirstOf : FnScope NFo ["places", "fares", "costs", "at"] (defScope sFirstOf) := ⟨rfl, rfl, rfl, by decide +kernel, rfl, by decide +kernel, by decide +kernel⟩
abbrev NIa : List Str := ["places", "step", "at", "many", "letter"]
theorem scItemAt : FnScope NIa ["places", "step"] (defScope sItemAt) := ⟨rfl, rfl, rfl, by decide +kernel, rfl, by decide +kernel, by decide +kernel⟩
theorem least_succ {L B : List Int} {R : List Nat} {f : Nat → Int} {c : Int} {i : Nat} (h : i < maxR R + 1 - 3) : leastL L B R f c (i + 1) = leastL L B R f c i ++ (if lb L (254 + (3 + i)) + minW B R (3 + i) 11 + f (3 + i) = c then [(3 + i, maskN R (3 + i) 11)] else []) := by
  unfold leastL
  rw [List.take_add_one, prsR_at h, List.filter_append]
  congr 1
  show List.filter _ [(3 + i, maskN R (3 + i) 11)] = _
  by_cases q : lb L (254 + (3 + i)) + minW B R (3 + i) 11 + f (3 + i) = c
  · rw [if_pos q, List.filter_cons_of_pos (p := fun s : Nat × Nat => decide (lb L (254 + s.1) + minW B R s.1 11 + f s.1 = c)) (decide_eq_true q)]
    rfl
  · rw [if_neg q, List.filter_cons_of_neg (p := fun s : Nat × Nat => decide (lb L (254 + s.1) + minW B R s.1 11 + f s.1 = c)) (fun z => q (of_decide_eq_true z))]
    rfl
theorem least_len (L B : List Int) (R : List Nat) (f : Nat → Int) (c : Int) (i : Nat) : (leastL L B R f c i).length ≤ i := by
  unfold leastL
  refine Nat.le_trans (List.length_filter_le _ _) ?_
  rw [List.length_take]
  omega
theorem cl_last {α : Type} {xs : List α} {v : α} : atI (xs ++ [v]) (-1) = some v := by
  unfold atI ixN
  rw [List.length_append]
  simp
  rw [if_pos (by omega), show (-1 + ((xs.length : Int) + 1)).toNat = xs.length by omega]
  simp
theorem paired_last {α β : Type} {R : α → β → Prop} : ∀ {xs : List α} {x : α} {ys : List β}, Paired R (xs ++ [x]) ys → ∃ zs y, ys = zs ++ [y] ∧ R x y
  | [], x, _, .cons r .nil => ⟨[], _, rfl, r⟩
  | a :: xs, x, _, .cons r rs => by
    obtain ⟨zs, y, rfl, h⟩ := paired_last rs
    exact ⟨_ :: zs, y, rfl, h⟩
section
variable {P : Program} {w : World} {K : PySem.W.Frag} {mg : Str → Option Value} {base : Heap} {CP CF fPI fPL fPP fPB fFI fFB fFC : Addr}
def spFirstOf (CP CF : Addr) : Sp := fun vs H Q _ => ∃ (a b pc : Addr) (lead data : List Nat) (st en p : Nat) (L B cs : List Int) (c : Int), vs = [.ref a, .ref b, .ref pc, .int (p : Int)] ∧ PlAt CP H a lead data ∧ FaAt CF H b L B ∧ AskR lead data st en L B ∧ H pc = some (.lst (cs.map V.int)) ∧ CostsIs cs (lead ++ data) lead.length st en L B ∧ st ≤ p ∧ p < en ∧ (tab (lead ++ data) lead.length en L B en p).1 = some c ∧
  ∀ H' t (m l : Nat), Same H H' → H t = none → H' t = some (.tup [.int (m : Int), .int (l : Int)]) → TakenIs (lead ++ data) lead.length en L B p m l → Q (.ref t) H'
theorem ok_firstOf (T : PlTxt K mg CP fPI fPL fPP fPB) (TF : FaTxt K mg CF fFI fFB fFC) {f : Addr} {fd fdP fdB fdC : FuncData} {j k1 k2 k3 : Nat} (F : Fun K "first_of" "first_of" sFirstOf f fd)
    (GP : FnOk P w K mg base CX0 k1 fPP fdP ["self", "at"] (spPlPairs CP)) (bP : Binds K fdP ["self", "at"] []) (l1 : k1 ≤ j)
    (GB : FnOk P w K mg base CX0 k2 fFB fdB ["self", "many", "letters"] (spFBits CF)) (bB : Binds K fdB ["self", "many", "letters"] []) (l2 : k2 ≤ j)
    (GC : FnOk P w K mg base CX0 k3 fFC fdC ["self", "letters"] (spCheapO CF)) (bC : Binds K fdC ["self", "letters"] []) (l3 : k3 ≤ j) :
    FnOk P w K mg base CX0 (j + 1) f fd ["places", "fares", "costs", "at"] (spFirstOf CP CF) := by
  refine F.ok scFirstOf (fun vs H Q E h => ?_) (fun cdv A outer s H vs Q E hr h => ?_)
  · obtain ⟨a, b, pc, lead, data, st, en, p, L, B, cs, c, rfl, _⟩ := h
    rfl
  · obtain ⟨a, b, pc, lead, data, st, en, p, L, B, cs, c, rfl, hPl, hFa, AS, hpc, hCs, hsp, hpn, hc, fin⟩ := h
    have hz := PySem.sizeLine_eq
    have hlen := AS.len
    rw [List.length_append] at hlen
    have hen := AS.en
    refine ⟨_, pss_cons (ps_if (pt_cmpR op_eq (pe_op op_add (pe_ix ix_list (pe_fld (pv 1) rfl) (pe_item_byt (pe_fld (pv 0) rfl) (pv 3) (fun _ _ => rfl)) (fun _ _ => rfl)) (pe_ix ix_list (pv 2) (pe_op op_add (pv 3) pe_int) (fun _ _ => rfl))) (pe_ix ix_list (pv 2) (pv 3) (fun _ _ => rfl)) (nomark _))
        (pss_one (ps_ret (pe_tup (pa_cons pe_int (pa_cons pe_int pa_nil))))) pss_nil)
      (pss_cons (ps_setLc (i := 4) (own := [("many", 5), ("letters", 6)]) (g := gTup K 2 (gCons (gName 5) (gCons (gName 6) gNil))) (tt := _) rfl scFirstOf.nd rfl rfl (sw_true rfl rfl rfl (by decide +kernel)) (pi_list (pe_meth (pv 0) T.cl T.mP GP (hr.mono l1) bP .nil pass0 (pa_cons (pv 3) pa_nil))) (blkOk_by (N := NFo) (sc := defScope sFirstOf) (by decide +kernel))
          (fun _ _ _ _ _ => pg_tup rfl (pgs_cons (pg_name (i := 5) scFirstOf.nd rfl (.inl rfl)) (pgs_cons (pg_name (i := 6) scFirstOf.nd rfl (.inl rfl)) pgs_nil)))
          (fun _ _ _ _ _ => pts_one (pt_cmpR op_eq (pe_op op_add (pe_meth (pv 1) TF.cl TF.mB GB (hr.mono l2) bB .nil pass0 (pa_cons (pv 5) (pa_cons (pv 6) pa_nil))) (pe_ix (ixL K) (pv 2) (pe_op op_add (pv 3) (pv 5)) (fun _ _ => rfl))) (pe_ix (ixL K) (pv 2) (pv 3) (fun _ _ => rfl)) (nomark _)))
          (fun _ _ _ _ _ => pe_tup (pa_cons (pv 5) (pa_cons (pv 6) pa_nil))))
      (pss_cons (ps_asg (pe_ix ix_list (pv 4) (pe_un un_neg pe_int) (fun _ _ => rfl)) (pg_tup rfl (pgs_cons (pg_name (i := 5) scFirstOf.nd rfl (.inl rfl)) (pgs_cons (pg_name (i := 6) scFirstOf.nd rfl (.inl rfl)) pgs_nil))))
      (pss_one (ps_ret (pe_tup (pa_cons (pv 5) (pa_cons (pe_meth (pv 1) TF.cl TF.mC GC (hr.mono l3) bC .nil pass0 (pa_cons (pv 6) pa_nil)) pa_nil))))))), ?_⟩
    obtain ⟨dxa, pp, pk, ps, ks, ha0, hpp0, hpk0, hkl, hKd⟩ := id hPl
    obtain ⟨dxb, q1, q2, q3, q4, us4, ch0, hb0, hq10, hq20, hq30, hq40, hus4, hC0, hch0⟩ := id hFa
    have hk : ∀ k ∈ data, k < 256 := fun k m => AS.lt k (List.mem_append_right _ m)
    obtain ⟨cf, hcf⟩ : ∃ cf : Nat → Option Int, cf = fun q => if q ≤ en then (tab (lead ++ data) lead.length en L B en q).1 else none := ⟨_, rfl⟩
    obtain ⟨g, hg⟩ : ∃ g : Nat → Int, g = fun m => cs.getD (p + m) 0 := ⟨_, rfl⟩
    have hf : ∀ m, 1 ≤ m → m ≤ 18 → g m = enc (cf (p + m)) := fun m m1 m2 => by
      rw [hg, hcf]
      show cs.getD (p + m) 0 = enc (if p + m ≤ en then _ else none)
      by_cases q : p + m ≤ en
      · rw [if_pos q, hCs.at_ _ (by omega) q]
      · rw [if_neg q, hCs.far _ (by omega) (by omega)]
        rfl
    have hcp : cs.getD p 0 = c := by
      rw [hCs.at_ p hsp (by omega), hc]
      rfl
    have hg1 : ∀ m, cs.getD (p + m) 0 = g m := fun m => by rw [hg]
    have hcl := hCs.len
    have hk0 : data.getD p 0 < 256 := by
      rw [List.getD_eq_getElem?_getD, List.getElem?_eq_getElem (by omega)]
      exact hk _ (List.getElem_mem _)
    refine ⟨_, rfl, b, CF, dxb, _, _, rfl, hb0, TF.cl, TF.nL, faF_l _ _ _ _, _, rfl, a, CP, dxa, _, _, rfl, ha0, T.cl, T.nD, plF_d _ _ _ _ _, _, rfl, data.map Nat.toUInt8, (p : Int), rfl, rfl, by rw [List.length_map]; omega, by omega, by rw [List.length_map]; omega, ?_⟩
    rw [Int.toNat_natCast, byB_get hk]
    refine ⟨q1, _, _, _, rfl, rfl, .inl (.inl hq10), int_at (k := data.getD p 0) rfl (by rw [List.length_map, AS.l273]; omega), _, rfl, _, rfl, _, _, rfl, rfl, pc, _, _, _, rfl, rfl, .inl (.inl hpc), int_at (k := p + 1) (by push_cast; rfl) (by omega), _, _, rfl, rfl, _, rfl, _, rfl, pc, _, _, _, rfl, rfl, .inl (.inl hpc), int_at (k := p) rfl (by omega), rfl, _, rfl, ?_⟩
    rw [lbx_at (by rw [AS.l273]; omega), hg1, hcp]
    refine ite2 (fun t1 => ?_) (fun t1 => ?_)
    · have t1 := V.int.inj (of_decide_eq_true t1)
      obtain ⟨R, v, hv, hR, _⟩ := hKd p (by omega)
      refine ⟨(by show 2 ≤ sizeLine; omega), fun tt ntt => ?_⟩
      exact fin _ tt 1 0 (same_upd ntt) ntt upd_same ((AS.first hpn hR hC0 hcf hf hc).1 t1)
    · have t1 : lb L (data.getD p 0) + g 1 ≠ c := fun z => t1 (decide_eq_true (congrArg V.int z))
      refine ⟨_, rfl, a, dxa, _, rfl, ha0, plF_no _ _ _ _ _ (by decide +kernel) (by decide +kernel) (by decide +kernel) (by decide +kernel) (by decide +kernel), _, rfl, a, lead, data, p, rfl, hPl, by omega, fun t us R hR ht hus => ?_⟩
      obtain ⟨m, r, em, hex, htk⟩ := (AS.first hpn hR hC0 hcf hf hc).2 t1
      have hM18 := hR.max18
      have hul : us.length = (prsR R).length := hus.length.symm
      have hpl := prsR_len R
      refine ⟨t, rfl, ⟨_, .inl (.inl ht)⟩, fun D nD => ?_⟩
      refine lc_list (K := K) (a := t) (xs := us) (fun i H' => Same H H' ∧ ∃ vs, H' D = some (.lst vs) ∧ Paired (NpAt H') (leastL L B R g c i) vs) ⟨same_upd nD, [], upd_same, .nil⟩ (fun i H' _ z => .inl (.inl (z.1 _ _ ht))) (fun i x H' hx z => ?_) (fun H' z => ?_)
      · obtain ⟨sm, vs, hD, hvs⟩ := z
        have hi : i < us.length := (List.getElem?_eq_some_iff.mp hx).1
        obtain ⟨x', hx', hat⟩ := paired_get hus (prsR_at (R := R) (i := i) (by omega))
        obtain rfl : x' = x := Option.some.inj (hx'.symm.trans hx)
        obtain ⟨tc, rfl, htc⟩ := hat
        have htc := sm _ _ htc
        rw [least_succ (by omega)]
        have hvl : vs.length ≤ i := by
          rw [← hvs.length]
          exact least_len L B R g c i
        refine ⟨tc, _, rfl, .inl (.inl htc), rfl, _, _, rfl, _, _, rfl, rfl, ?_⟩
        refine ⟨rfl, _, rfl, b, dxb, _, rfl, sm _ _ hb0, faF_no _ _ _ _ (by decide +kernel) (by decide +kernel) (by decide +kernel) (by decide +kernel), _, rfl, _, rfl, b, L, B, R, 3 + i, rfl, hFa.same sm, AS.l273, by omega, _, rfl, _, rfl, _, rfl, _, _, rfl, rfl, pc, _, _, _, rfl, rfl, .inl (.inl (sm _ _ hpc)), int_at (k := p + (3 + i)) (by push_cast; rfl) (by omega), _, _, rfl, rfl, _, rfl, _, rfl, pc, _, _, _, rfl, rfl, .inl (.inl (sm _ _ hpc)), int_at (k := p) rfl (by omega), rfl, _, rfl, ?_⟩
        rw [hg1, hcp]
        refine ite2 (fun t2 => ?_) (fun t2 => ?_)
        · have t2 := V.int.inj (of_decide_eq_true t2)
          refine ⟨_, rfl, _, rfl, (by show 2 ≤ sizeLine; omega), fun tt ntt => ?_⟩
          have st' := same_upd (o := .tup [.int ((3 + i : Nat) : Int), .int ((maskN R (3 + i) 11 : Nat) : Int)]) ntt
          have hnew : NpAt (upd H' tt (.tup [.int ((3 + i : Nat) : Int), .int ((maskN R (3 + i) 11 : Nat) : Int)])) (3 + i, maskN R (3 + i) 11) (.ref tt) := ⟨tt, rfl, upd_same⟩
          refine ⟨_, st' _ _ hD, by omega, same_put (sm.trans st') nD, vs ++ [.ref tt], upd_same, ?_⟩
          rw [if_pos t2]
          exact (hvs.mono fun _ _ h => (h.same st').put (st' _ _ hD)).snoc (hnew.put (st' _ _ hD))
        · have t2 : ¬ lb L (254 + (3 + i)) + minW B R (3 + i) 11 + g (3 + i) = c := fun z => t2 (decide_eq_true (congrArg V.int z))
          rw [if_neg t2, List.append_nil]
          exact ⟨sm, vs, hD, hvs⟩
      · obtain ⟨sm, vs, hD, hvs⟩ := z
        rw [hul, em] at hvs
        obtain ⟨zs, y, rfl, hy⟩ := paired_last hvs
        obtain ⟨ty, rfl, hty⟩ := hy
        dsimp only [gName]
        refine ⟨_, rfl, 1, rfl, D, _, -1, _, rfl, rfl, .inl (.inl hD), cl_last, ty, _, rfl, .inl (.inl hty), rfl, _, _, rfl, _, _, rfl, rfl, ?_⟩
        refine ⟨_, rfl, _, rfl, b, dxb, _, rfl, sm _ _ hb0, faF_no _ _ _ _ (by decide +kernel) (by decide +kernel) (by decide +kernel) (by decide +kernel), _, rfl, b, L, B, R, m, rfl, hFa.same sm, hex, fun H3 ch w l s3 C h1 h2 h3 => ⟨(by show 2 ≤ sizeLine; omega), fun tt ntt => ?_⟩⟩
        have s13 := sm.trans s3
        exact fin _ tt m l (s13.trans (same_upd ntt)) (none_back s13 ntt) upd_same (htk ch w l C h1 h2 h3)
end
end K4

namespace K4
open PySem PySem.Spec PyProof.Rows L2
/-! ### item_at; Road -/
theorem bytes_in {data lead : List Nat} (h : ∀ k ∈ lead ++ data, k < 256) : ∀ k ∈ data, k < 256 := fun k m => h k (List.mem_append_right _ m)
theorem nodup_len : ∀ (n : Nat) (l : List Nat), l.Nodup → (∀ x ∈ l, x < n) → l.length ≤ n
  | 0, [], _, _ => Nat.le_refl _
  | 0, a :: r, _, h => absurd (h a (List.mem_cons_self ..)) (Nat.not_lt_zero _)
  | n + 1, l, hn, h => by
    by_cases q : n ∈ l
    · have h1 := nodup_len n (l.erase n) (hn.erase n) fun x m => by
        have h2 := (hn.mem_erase_iff).mp m
        have := h x h2.2
        omega
      have := List.length_erase_of_mem q
      have := List.length_pos_of_mem q
      omega
    · have := nodup_len n l hn fun x m => by
        have := h x m
        have : x ≠ n := fun z => q (z ▸ m)
        omega
      omega
def roF (a b : Addr) (n : Int) (c d : Addr) : List (Str × V) := [(("places" : Str), V.ref a), (("fares" : Str), V.ref b), (("end" : Str), V.int n), (("costs" : Str), V.ref c), (("_taken" : Str), V.ref d)]
theorem roF_p (a b : Addr) (n : Int) (c d : Addr) : (roF a b n c d).lookup ("places" : Str) = some (.ref a) := lkH
theorem roF_f (a b : Addr) (n : Int) (c d : Addr) : (roF a b n c d).lookup ("fares" : Str) = some (.ref b) := (lkP (by decide +kernel)).trans lkH
theorem roF_e (a b : Addr) (n : Int) (c d : Addr) : (roF a b n c d).lookup ("end" : Str) = some (.int n) := (lkP (by decide +kernel)).trans ((lkP (by decide +kernel)).trans lkH)
theorem roF_c (a b : Addr) (n : Int) (c d : Addr) : (roF a b n c d).lookup ("costs" : Str) = some (.ref c) := (lkP (by decide +kernel)).trans ((lkP (by decide +kernel)).trans ((lkP (by decide +kernel)).trans lkH))
theorem roF_t (a b : Addr) (n : Int) (c d : Addr) : (roF a b n c d).lookup ("_taken" : Str) = some (.ref d) := (lkP (by decide +kernel)).trans ((lkP (by decide +kernel)).trans ((lkP (by decide +kernel)).trans ((lkP (by decide +kernel)).trans lkH)))
theorem roF_no {x : Str} (a b : Addr) (n : Int) (c d : Addr) (h1 : (x == ("places" : Str)) = false) (h2 : (x == ("fares" : Str)) = false) (h3 : (x == ("end" : Str)) = false) (h4 : (x == ("costs" : Str)) = false) (h5 : (x == ("_taken" : Str)) = false) : (roF a b n c d).lookup x = none := (lkP h1).trans ((lkP h2).trans ((lkP h3).trans ((lkP h4).trans ((lkP h5).trans rfl))))
theorem roF_put (a b : Addr) (n : Int) (c d : Addr) : putF "_taken" (.ref d) (putF "costs" (.ref c) (putF "end" (.int n) (putF "fares" (.ref b) (putF "places" (.ref a) [])))) = roF a b n c d := by
  unfold roF
  rfl
structure RoTxt (K : PySem.W.Frag) (mg : Str → Option Value) (C fI fT fS fR fC : Addr) : Prop where
  cl : Cls K C
  gC : mg "Road" = some (.ref C)
  made : Mk K C fI
  nP : NoAttr K C "places"
  nF : NoAttr K C "fares"
  nE : NoAttr K C "end"
  nC : NoAttr K C "costs"
  nT : NoAttr K C "_taken"
  mT : Meth K C "taken_at" fT
  mS : Meth K C "steps_from" fS
  mR : Meth K C "row_from" fR
  mC : Meth K C "told_costs" fC
/-- what was found of places, kept -/
def MemoOk (H : Hp) (d : Addr) (e : List Nat) (lead st en : Nat) (L B : List Int) (kvs : List (Key × V)) : Prop :=
  (∃ ks : List Nat, kvs.map (·.1) = ks.map (fun (n : Nat) => (Sum.inl (n : Int) : Key)) ∧ ks.Nodup ∧ ∀ k ∈ ks, k < en) ∧
  ∀ k v, valV kvs k = some v → ∃ (p m l : Nat) (t : Addr), k = Sum.inl (p : Int) ∧ v = .ref t ∧ H t = some (.tup [.int (m : Int), .int (l : Int)]) ∧ TakenIs e lead en L B p m l
theorem MemoOk.keep {H H' : Hp} {d : Addr} {e : List Nat} {lead st en : Nat} {L B : List Int} {kvs : List (Key × V)} (h : MemoOk H d e lead st en L B kvs) (k : ∀ b xs, H b = some (.tup xs) → H' b = some (.tup xs)) : MemoOk H' d e lead st en L B kvs :=
  ⟨h.1, fun x v hv => by
    obtain ⟨p, m, l, t, e1, e2, e3, e4⟩ := h.2 x v hv
    exact ⟨p, m, l, t, e1, e2, k _ _ e3, e4⟩⟩
def RoAt (CP CF C : Addr) (H : Hp) (x d : Addr) (lead data : List Nat) (st en : Nat) (L B : List Int) : Prop := ∃ dx a b c cs kvs, H x = some (.ins C dx (roF a b (en : Int) c d)) ∧ PlAt CP H a lead data ∧ FaAt CF H b L B ∧ H c = some (.lst (cs.map V.int)) ∧ CostsIs cs (lead ++ data) lead.length st en L B ∧ H d = some (.dK kvs) ∧ MemoOk H d (lead ++ data) lead.length st en L B kvs
/-- all but one thing as it was -/
def But (d : Addr) (H H' : Hp) : Prop := ∀ b o, b ≠ d → H b = some o → H' b = some o
theorem But.trans {d : Addr} {H1 H2 H3 : Hp} (h : But d H1 H2) (g : But d H2 H3) : But d H1 H3 := fun b o n e => g b o n (h b o n e)
theorem But.of {d : Addr} {H1 H2 : Hp} (h : Same H1 H2) : But d H1 H2 := fun b o _ e => h b o e
theorem memo_len {H : Hp} {d : Addr} {e : List Nat} {lead st en : Nat} {L B : List Int} {kvs : List (Key × V)} (h : MemoOk H d e lead st en L B kvs) : kvs.length ≤ en := by
  obtain ⟨⟨ks, e1, e2, e3⟩, _⟩ := h
  have := nodup_len en ks e2 e3
  have e4 := congrArg List.length e1
  rw [List.length_map, List.length_map] at e4
  omega
theorem PlAt.but {C a d : Addr} {H H' : Hp} {lead data : List Nat} (h : PlAt C H a lead data) (k : But d H H') {kvs : List (Key × V)} (hd : H d = some (.dK kvs)) : PlAt C H' a lead data := by
  obtain ⟨dx, p, q, ps, ks, h1, h2, h3, h4, h5⟩ := h
  have ne : ∀ {b : Addr} {o : HO}, H b = some o → (∀ kvs, o ≠ .dK kvs) → b ≠ d := fun {b o} e n z => by
    rw [z, hd] at e
    exact n _ (Option.some.inj e).symm
  exact ⟨dx, p, q, ps, ks, k _ _ (ne h1 fun _ z => nomatch z) h1, k _ _ (ne h2 fun _ z => nomatch z) h2, k _ _ (ne h3 fun _ z => nomatch z) h3, h4, h5.mono (fun _ _ z => z) fun _ _ z => z.keep (fun b xs e => k _ _ (ne e fun _ z => nomatch z) e) fun b xs _ _ e => k _ _ (ne e fun _ z => nomatch z) e⟩
theorem FaAt.but {C a d : Addr} {H H' : Hp} {L B : List Int} (h : FaAt C H a L B) (k : But d H H') {kvs : List (Key × V)} (hd : H d = some (.dK kvs)) : FaAt C H' a L B := by
  obtain ⟨dx, p1, p2, p3, p4, us, ch, h1, h2, h3, h4, h5, h6, h7, h8⟩ := h
  have ne : ∀ {b : Addr} {o : HO}, H b = some o → (∀ kvs, o ≠ .dK kvs) → b ≠ d := fun {b o} e n z => by
    rw [z, hd] at e
    exact n _ (Option.some.inj e).symm
  exact ⟨dx, p1, p2, p3, p4, us, ch, k _ _ (ne h1 fun _ z => nomatch z) h1, k _ _ (ne h2 fun _ z => nomatch z) h2, k _ _ (ne h3 fun _ z => nomatch z) h3, k _ _ (ne h4 fun _ z => nomatch z) h4, k _ _ (ne h5 fun _ z => nomatch z) h5, h6.mono fun _ _ ⟨t, e, ht⟩ => ⟨t, e, k _ _ (ne ht fun _ z => nomatch z) ht⟩, h7, h8⟩
theorem RoAt.same {CP CF C x d : Addr} {H H' : Hp} {lead data : List Nat} {st en : Nat} {L B : List Int} (h : RoAt CP CF C H x d lead data st en L B) (sm : Same H H') : RoAt CP CF C H' x d lead data st en L B := by
  obtain ⟨dx, a, b, c, cs, kvs, h1, h2, h3, h4, h5, h6, h7⟩ := h
  exact ⟨dx, a, b, c, cs, kvs, sm _ _ h1, h2.same sm, h3.same sm, sm _ _ h4, h5, sm _ _ h6, h7.keep fun b xs e => sm _ _ e⟩
section
variable {P : Program} {w : World} {K : PySem.W.Frag} {mg : Str → Option Value} {base : Heap} {CP CF CR fPI fPL fPP fPB fFI fFB fFC fRI fRT fRS fRR fRC : Addr}
def spItemAt (CP : Addr) : Sp := fun vs H Q _ => ∃ (a ps : Addr) (lead data : List Nat) (en p m l : Nat) (L B : List Int), vs = [.ref a, .ref ps] ∧ H ps = some (.tup [.int (p : Int), .int (m : Int), .int (l : Int)]) ∧ PlAt CP H a lead data ∧ (∀ k ∈ lead ++ data, k < 256) ∧ (lead ++ data).length ≤ 10000 ∧ p < en ∧ en ≤ data.length ∧ TakenIs (lead ++ data) lead.length en L B p m l ∧
  ∀ H' v it, Same H H' → (tab (lead ++ data) lead.length en L B en p).2 = some it → lenI it = m → ItmAt H' it v → Q v H'
theorem ok_itemAt (T : PlTxt K mg CP fPI fPL fPP fPB) {f : Addr} {fd fdB : FuncData} {j k1 : Nat} (F : Fun K "item_at" "item_at" sItemAt f fd)
    (GB : FnOk P w K mg base CX0 k1 fPB fdB ["self", "at", "many", "letter"] (spBack2 CP)) (bB : Binds K fdB ["self", "at", "many", "letter"] []) (l1 : k1 ≤ j) :
    FnOk P w K mg base CX0 (j + 1) f fd ["places", "step"] (spItemAt CP) := by
  refine F.ok scItemAt (fun vs H Q E h => ?_) (fun cdv A outer s H vs Q E hr h => ?_)
  · obtain ⟨a, ps, lead, data, en, p, m, l, L, B, rfl, _⟩ := h
    rfl
  · obtain ⟨a, ps, lead, data, en, p, m, l, L, B, rfl, hps, hPl, hk, hlen, hpn, hen, hT, fin⟩ := h
    have hz := PySem.sizeLine_eq
    have elen : (lead ++ data).length = lead.length + data.length := List.length_append
    refine ⟨_, pss_cons (ps_asg (pv 1) (pg_tup rfl (pgs_cons (pg_name (i := 2) scItemAt.nd rfl (.inl rfl)) (pgs_cons (pg_name (i := 3) scItemAt.nd rfl (.inl rfl)) (pgs_cons (pg_name (i := 4) scItemAt.nd rfl (.inl rfl)) pgs_nil)))))
      (pss_cons (ps_if (pt_cmpR op_eq (pv 3) pe_int (nomark _)) (pss_one (ps_ret (pe_item_byt (pe_fld (pv 0) rfl) (pv 2) (fun _ _ => rfl)))) pss_nil)
      (pss_one (ps_ret (pe_tup (pa_cons (pv 3) (pa_cons (pe_meth (pv 0) T.cl T.mB GB (hr.mono l1) bB .nil pass0 (pa_cons (pv 2) (pa_cons (pv 3) (pa_cons (pv 4) pa_nil)))) pa_nil)))))), ?_⟩
    obtain ⟨dxa, pp, pk, pps, ks, ha0, _⟩ := id hPl
    refine ⟨_, rfl, ps, _, rfl, .inl (.inl hps), rfl, _, _, rfl, _, _, rfl, _, _, rfl, rfl, ?_⟩
    refine ⟨_, rfl, rfl, _, rfl, ite2 (fun e1 => ?_) (fun e1 => ?_)⟩
    · have em : m = 1 := by
        have := V.int.inj (of_decide_eq_true e1)
        omega
      rcases hT with ⟨_, _, hT⟩ | ⟨g, _⟩
      · refine ⟨_, rfl, a, CP, dxa, _, _, rfl, ha0, T.cl, T.nD, plF_d _ _ _ _ _, _, rfl, data.map Nat.toUInt8, (p : Int), rfl, rfl, by rw [List.length_map]; omega, by omega, by rw [List.length_map]; omega, ?_⟩
        rw [Int.toNat_natCast, byB_get (bytes_in hk), ← app_get lead data p]
        exact fin H _ _ (fun _ _ e => e) hT em.symm rfl
      · omega
    · have em : m ≠ 1 := fun z => e1 (decide_eq_true (by rw [z]; rfl))
      rcases hT with ⟨g, _⟩ | ⟨g3, g18, gen, gl, gh, gb⟩
      · exact absurd g em
      · refine ⟨_, rfl, _, rfl, a, dxa, _, rfl, ha0, plF_no _ _ _ _ _ (by decide +kernel) (by decide +kernel) (by decide +kernel) (by decide +kernel) (by decide +kernel), _, rfl, _, rfl, _, rfl, a, lead, data, p, m, l, rfl, hPl, hk, by omega, hlen, gl, gh, fun bb b1 b2 b3 b4 b5 => ⟨(by show 2 ≤ sizeLine; omega), fun tt ntt => ?_⟩⟩
        exact fin _ _ _ (same_upd ntt) (gb bb b1 b2 b3 b4 b5) rfl ⟨tt, rfl, upd_same⟩
end
end K4

namespace K4
open PySem PySem.Spec PyProof.Rows L2
/-! ### Road: its methods -/
theorem PlAt.other {C a x CX dx : Addr} {H H' : Hp} {lead data : List Nat} {fs : List (Str × V)} (h : PlAt C H a lead data) (hx : H x = some (.ins CX dx fs)) (n : a ≠ x) (k : ∀ b o, b ≠ x → H b = some o → H' b = some o) : PlAt C H' a lead data := by
  obtain ⟨da, p, q, ps, ks, h1, h2, h3, h4, h5⟩ := h
  have ne : ∀ {b : Addr} {o : HO}, H b = some o → (∀ C d f, o ≠ .ins C d f) → b ≠ x := fun {b o} e n z => by
    rw [z, hx] at e
    exact n _ _ _ (Option.some.inj e).symm
  exact ⟨da, p, q, ps, ks, k _ _ n h1, k _ _ (ne h2 fun _ _ _ z => nomatch z) h2, k _ _ (ne h3 fun _ _ _ z => nomatch z) h3, h4, h5.mono (fun _ _ z => z) fun _ _ z => z.keep (fun b xs e => k _ _ (ne e fun _ _ _ z => nomatch z) e) fun b xs _ _ e => k _ _ (ne e fun _ _ _ z => nomatch z) e⟩
theorem FaAt.other {C a x CX dx : Addr} {H H' : Hp} {L B : List Int} {fs : List (Str × V)} (h : FaAt C H a L B) (hx : H x = some (.ins CX dx fs)) (n : a ≠ x) (k : ∀ b o, b ≠ x → H b = some o → H' b = some o) : FaAt C H' a L B := by
  obtain ⟨da, p1, p2, p3, p4, us, ch, h1, h2, h3, h4, h5, h6, h7, h8⟩ := h
  have ne : ∀ {b : Addr} {o : HO}, H b = some o → (∀ C d f, o ≠ .ins C d f) → b ≠ x := fun {b o} e n z => by
    rw [z, hx] at e
    exact n _ _ _ (Option.some.inj e).symm
  exact ⟨da, p1, p2, p3, p4, us, ch, k _ _ n h1, k _ _ (ne h2 fun _ _ _ z => nomatch z) h2, k _ _ (ne h3 fun _ _ _ z => nomatch z) h3, k _ _ (ne h4 fun _ _ _ z => nomatch z) h4, k _ _ (ne h5 fun _ _ _ z => nomatch z) h5, h6.mono fun _ _ ⟨t, e, ht⟩ => ⟨t, e, k _ _ (ne ht fun _ _ _ z => nomatch z) ht⟩, h7, h8⟩
theorem PlAt.ne {C a x CX dx : Addr} {H : Hp} {lead data : List Nat} (h : PlAt C H a lead data) (hx : H x = some (.ins CX dx [])) : a ≠ x := fun z => by
  obtain ⟨da, p, q, ps, ks, h1, _⟩ := h
  rw [z, hx] at h1
  have := Option.some.inj h1
  injection this with _ _ e
  cases e
theorem FaAt.ne {C a x CX dx : Addr} {H : Hp} {L B : List Int} (h : FaAt C H a L B) (hx : H x = some (.ins CX dx [])) : a ≠ x := fun z => by
  obtain ⟨da, p1, p2, p3, p4, us, ch, h1, _⟩ := h
  rw [z, hx] at h1
  have := Option.some.inj h1
  injection this with _ _ e
  cases e
theorem hit_least {e : List Nat} {h l m : Nat} : ∀ (n b : Nat), b ≤ n → 2 ^ l ≤ b → b < 2 ^ (l + 1) → b ≤ min 1024 h → m ≤ rn e h b → ∃ b, 2 ^ l ≤ b ∧ b < 2 ^ (l + 1) ∧ b ≤ min 1024 h ∧ m ≤ rn e h b ∧ ∀ b', 2 ^ l ≤ b' → b' ≤ min 1024 h → m ≤ rn e h b' → b ≤ b'
  | n, b, hn, h1, h2, h3, h4 => by
    by_cases q : ∃ b', 2 ^ l ≤ b' ∧ b' ≤ min 1024 h ∧ m ≤ rn e h b' ∧ b' < b
    · obtain ⟨b', g1, g2, g3, g4⟩ := q
      cases n with
      | zero => omega
      | succ n => exact hit_least n b' (by omega) g1 (by omega) g2 g3
    · refine ⟨b, h1, h2, h3, h4, fun b' g1 g2 g3 => ?_⟩
      by_cases z : b ≤ b'
      · exact z
      · exact absurd ⟨b', g1, g2, g3, by omega⟩ q
theorem TakenIs.item {e : List Nat} {lead en : Nat} {L B : List Int} {p m l : Nat} (h : TakenIs e lead en L B p m l) : ∃ it, (tab e lead en L B en p).2 = some it ∧ lenI it = m ∧ 1 ≤ m := by
  rcases h with ⟨rfl, _, h⟩ | ⟨h3, _, _, _, ⟨b, b1, b2, b3, b4⟩, h⟩
  · exact ⟨_, h, rfl, Nat.le_refl _⟩
  · obtain ⟨b0, g1, g2, g3, g4, g5⟩ := hit_least b b (Nat.le_refl _) b1 b2 b3 b4
    exact ⟨_, h b0 g1 g2 g3 g4 g5, rfl, by omega⟩
def StepsIs (e : List Nat) (lead en : Nat) (L B : List Int) : Nat → List (Nat × Nat × Nat) → Prop
  | p, [] => p = en
  | p, (q, m, l) :: r => q = p ∧ p < en ∧ TakenIs e lead en L B p m l ∧ StepsIs e lead en L B (p + m) r
def itOf (e : List Nat) (lead en : Nat) (L B : List Int) (t : Nat × Nat × Nat) : Itm := ((tab e lead en L B en t.1).2).getD (.b 0)
theorem steps_row {e : List Nat} {lead en : Nat} {L B : List Int} : ∀ (trs : List (Nat × Nat × Nat)) (p f : Nat), en - p ≤ f → StepsIs e lead en L B p trs → rowS (tab e lead en L B en) en f p = trs.map (itOf e lead en L B)
  | [], p, f, _, h => by
    have h : p = en := h
    subst h
    cases f with
    | zero => rfl
    | succ f => exact if_neg (Nat.lt_irrefl _)
  | (q, m, l) :: r, p, f, hf, h => by
    obtain ⟨rfl, hp, hT, hr⟩ := h
    obtain ⟨it, h1, h2, h3⟩ := hT.item
    cases f with
    | zero => omega
    | succ f =>
      have ih := steps_row r (q + m) f (by omega) hr
      show (if q < en then (match (tab e lead en L B en q).2 with
        | some it => it :: rowS (tab e lead en L B en) en f (q + lenI it)
        | none => []) else []) = itOf e lead en L B (q, m, l) :: r.map (itOf e lead en L B)
      rw [if_pos hp, h1]
      show it :: rowS (tab e lead en L B en) en f (q + lenI it) = _
      rw [h2, ih]
      congr 1
      show it = ((tab e lead en L B en q).2).getD (.b 0)
      rw [h1]
      rfl
theorem steps_le {e : List Nat} {lead en : Nat} {L B : List Int} : ∀ (trs : List (Nat × Nat × Nat)) (p : Nat), StepsIs e lead en L B p trs → p ≤ en ∧ trs.length ≤ en - p ∧ ∀ t ∈ trs, t.1 < en ∧ TakenIs e lead en L B t.1 t.2.1 t.2.2
  | [], p, h => by
    have h : p = en := h
    exact ⟨by omega, Nat.zero_le _, fun t m => by cases m⟩
  | (q, m, l) :: r, p, h => by
    obtain ⟨rfl, hp, hT, hr⟩ := h
    obtain ⟨_, _, _, h3⟩ := hT.item
    obtain ⟨i1, i2, i3⟩ := steps_le r (q + m) hr
    refine ⟨by omega, by rw [List.length_cons]; omega, fun t mt => ?_⟩
    rcases List.mem_cons.mp mt with rfl | mt
    · exact ⟨hp, hT⟩
    · exact i3 t mt
def TrAt (H : Hp) (s : Nat × Nat × Nat) (v : V) : Prop := ∃ t, v = .ref t ∧ H t = some (.tup [.int (s.1 : Int), .int (s.2.1 : Int), .int (s.2.2 : Int)])
theorem TrAt.keep {H H' : Hp} {s : Nat × Nat × Nat} {v : V} (h : TrAt H s v) (k : ∀ b xs, H b = some (.tup xs) → H' b = some (.tup xs)) : TrAt H' s v := by
  obtain ⟨t, e, ht⟩ := h
  exact ⟨t, e, k _ _ ht⟩
theorem TrAt.put {H : Hp} {s : Nat × Nat × Nat} {v : V} {D : Addr} {xs ys : List V} (h : TrAt H s v) (hD : H D = some (.lst xs)) : TrAt (upd H D (.lst ys)) s v :=
  h.keep fun b zs e => by rw [upd_ne (ne_of e hD (fun z => nomatch z))]; exact e
theorem but_tup {d : Addr} {H H' : Hp} (k : But d H H') {kvs : List (Key × V)} (hd : H d = some (.dK kvs)) : ∀ b xs, H b = some (.tup xs) → H' b = some (.tup xs) := fun b xs e => k _ _ (fun z => by rw [z, hd] at e; cases e) e
theorem scRoI : FnScope ["self", "places", "fares", "start", "end"] ["self", "places", "fares", "start", "end"] (defScope sRoInit) := ⟨rfl, rfl, rfl, by decide +kernel, rfl, by decide +kernel, by decide +kernel⟩
theorem scRoT : FnScope ["self", "at"] ["self", "at"] (defScope sRoTaken) := ⟨rfl, rfl, rfl, by decide +kernel, rfl, by decide +kernel, by decide +kernel⟩
abbrev NRs : List Str := ["self", "start", "steps", "at", "many", "letter"]
theorem scRoS : FnScope NRs ["self", "start"] (defScope sRoSteps) := ⟨rfl, rfl, rfl, by decide +kernel, rfl, by decide +kernel, by decide +kernel⟩
abbrev NRr : List Str := ["self", "start", "step"]
theorem scRoR : FnScope NRr ["self", "start"] (defScope sRoRow) := ⟨rfl, rfl, rfl, by decide +kernel, rfl, by decide +kernel, by decide +kernel⟩
abbrev NRc : List Str := ["self", "bits"]
theorem scRoC : FnScope NRc ["self"] (defScope sRoTold) := ⟨rfl, rfl, rfl, by decide +kernel, rfl, by decide +kernel, by decide +kernel⟩
section
variable {P : Program} {w : World} {K : PySem.W.Frag} {mg : Str → Option Value} {base : Heap} {CP CF CR fPI fPL fPP fPB fFI fFB fFC fRI fRT fRS fRR fRC : Addr}
def spRoInit (CP CF CR : Addr) : Sp := fun vs H Q _ => ∃ (x dx a b : Addr) (lead data : List Nat) (st en : Nat) (L B : List Int), vs = [.ref x, .ref a, .ref b, .int (st : Int), .int (en : Int)] ∧ H x = some (.ins CR dx []) ∧ PlAt CP H a lead data ∧ FaAt CF H b L B ∧ AskR lead data st en L B ∧
  ∀ H' d, (∀ b o, b ≠ x → H b = some o → H' b = some o) → d ≠ x → H d = none → RoAt CP CF CR H' x d lead data st en L B → Q .non H'
theorem ok_roInit (T : RoTxt K mg CR fRI fRT fRS fRR fRC) {f1 : Addr} {fd fd1 : FuncData} {j k1 : Nat} (F : Fun K "__init__" "Road.__init__" sRoInit fRI fd)
    (G1 : FnOk P w K mg base CX0 k1 f1 fd1 ["places", "fares", "start", "end"] (spCosts CP CF)) (b1 : Binds K fd1 ["places", "fares", "start", "end"] []) (kk1 : PySem.W.keepIn K (.ref f1) = true) (g1 : mg "costs_of" = some (.ref f1)) (l1 : k1 ≤ j) :
    FnOk P w K mg base CX0 (j + 1) fRI fd ["self", "places", "fares", "start", "end"] (spRoInit CP CF CR) := by
  refine F.ok scRoI (fun vs H Q E h => ?_) (fun cdv A outer s H vs Q E hr h => ?_)
  · obtain ⟨x, dx, a, b, lead, data, st, en, L, B, rfl, _⟩ := h
    rfl
  · obtain ⟨x, dx, a, b, lead, data, st, en, L, B, rfl, hx, hPl, hFa, AS, fin⟩ := h
    have hz := PySem.sizeLine_eq
    refine ⟨_, pss_cons (ps_fld (pv 0) (pv 1) rfl) (pss_cons (ps_fld (pv 0) (pv 2) rfl) (pss_cons (ps_fld (pv 0) (pv 4) rfl)
      (pss_cons (ps_fld (pv 0) (pe_call G1 (hr.mono l1) (by rfl) g1 kk1 b1 .nil pass0 (pa_cons (pv 1) (pa_cons (pv 2) (pa_cons (pv 3) (pa_cons (pv 4) pa_nil))))) rfl)
      (pss_one (ps_fld (pv 0) pe_dnewK rfl))))), ?_⟩
    have nax := hPl.ne hx
    have nbx := hFa.ne hx
    refine ⟨_, rfl, _, rfl, x, CR, dx, _, rfl, hx, T.cl, T.nP, (by show 0 < 1000; decide), ?_⟩
    have k1 : ∀ u o, u ≠ x → H u = some o → (upd H x (.ins CR dx (putF "places" (.ref a) []))) u = some o := fun u o n e => by rw [upd_ne n]; exact e
    have h1 : (upd H x (.ins CR dx (putF "places" (.ref a) []))) x = some (.ins CR dx (putF "places" (.ref a) [])) := upd_same
    generalize upd H x (.ins CR dx (putF "places" (.ref a) [])) = H1 at *
    refine ⟨_, rfl, _, rfl, x, CR, dx, _, rfl, h1, T.cl, T.nF, (by show 1 < 1000; decide), ?_⟩
    have k2 : ∀ u o, u ≠ x → H u = some o → (upd H1 x (.ins CR dx (putF "fares" (.ref b) (putF "places" (.ref a) [])))) u = some o := fun u o n e => by rw [upd_ne n]; exact k1 u o n e
    have h2 : (upd H1 x (.ins CR dx (putF "fares" (.ref b) (putF "places" (.ref a) [])))) x = some (.ins CR dx (putF "fares" (.ref b) (putF "places" (.ref a) []))) := upd_same
    generalize upd H1 x (.ins CR dx (putF "fares" (.ref b) (putF "places" (.ref a) []))) = H2 at *
    refine ⟨_, rfl, _, rfl, x, CR, dx, _, rfl, h2, T.cl, T.nE, (by show 2 < 1000; decide), ?_⟩
    have k3 : ∀ u o, u ≠ x → H u = some o → (upd H2 x (.ins CR dx (putF "end" (.int (en : Int)) (putF "fares" (.ref b) (putF "places" (.ref a) []))))) u = some o := fun u o n e => by rw [upd_ne n]; exact k2 u o n e
    have h3 : (upd H2 x (.ins CR dx (putF "end" (.int (en : Int)) (putF "fares" (.ref b) (putF "places" (.ref a) []))))) x = some (.ins CR dx (putF "end" (.int (en : Int)) (putF "fares" (.ref b) (putF "places" (.ref a) [])))) := upd_same
    generalize upd H2 x (.ins CR dx (putF "end" (.int (en : Int)) (putF "fares" (.ref b) (putF "places" (.ref a) [])))) = H3 at *
    refine ⟨_, rfl, _, rfl, _, rfl, _, rfl, a, b, lead, data, st, en, L, B, rfl, hPl.other hx nax k3, hFa.other hx nbx k3, AS, fun H4 c cs s4 nc hc hCs => ?_⟩
    have h4 := s4 _ _ h3
    have nxc : x ≠ c := ne_of_none h3 nc
    have nc0 : H c = none := by
      cases hh : H c with
      | none => rfl
      | some o =>
        have := k3 c o (Ne.symm nxc) hh
        rw [nc] at this
        cases this
    refine ⟨_, rfl, x, CR, dx, _, rfl, h4, T.cl, T.nC, (by show 3 < 1000; decide), ?_⟩
    have k5 : ∀ u o, u ≠ x → H u = some o → (upd H4 x (.ins CR dx (putF "costs" (.ref c) (putF "end" (.int (en : Int)) (putF "fares" (.ref b) (putF "places" (.ref a) [])))))) u = some o := fun u o n e => by rw [upd_ne n]; exact s4 _ _ (k3 u o n e)
    have h5 : (upd H4 x (.ins CR dx (putF "costs" (.ref c) (putF "end" (.int (en : Int)) (putF "fares" (.ref b) (putF "places" (.ref a) [])))))) x = some (.ins CR dx (putF "costs" (.ref c) (putF "end" (.int (en : Int)) (putF "fares" (.ref b) (putF "places" (.ref a) []))))) := upd_same
    have hc5 : (upd H4 x (.ins CR dx (putF "costs" (.ref c) (putF "end" (.int (en : Int)) (putF "fares" (.ref b) (putF "places" (.ref a) [])))))) c = some (.lst (cs.map V.int)) := by rw [upd_ne (Ne.symm nxc)]; exact hc
    generalize upd H4 x (.ins CR dx (putF "costs" (.ref c) (putF "end" (.int (en : Int)) (putF "fares" (.ref b) (putF "places" (.ref a) []))))) = H5 at *
    refine fun d nd => ?_
    have nxd : x ≠ d := ne_of_none h5 nd
    have nd0 : H d = none := by
      cases hh : H d with
      | none => rfl
      | some o =>
        have := k5 d o (Ne.symm nxd) hh
        rw [nd] at this
        cases this
    have s6 := same_upd (o := .dK []) nd
    have hd6 : (upd H5 d (.dK [])) d = some (.dK []) := upd_same
    generalize upd H5 d (.dK []) = H6 at *
    refine ⟨_, rfl, x, CR, dx, _, rfl, s6 _ _ h5, T.cl, T.nT, (by show 4 < 1000; decide), ?_⟩
    rw [roF_put]
    have k7 : ∀ b' o, b' ≠ x → H b' = some o → (upd H6 x (.ins CR dx (roF a b (en : Int) c d))) b' = some o := fun b' o n e => by rw [upd_ne n]; exact s6 _ _ (k5 b' o n e)
    refine fin _ d k7 (Ne.symm nxd) nd0 ⟨dx, a, b, c, cs, [], upd_same, hPl.other hx nax k7, hFa.other hx nbx k7, ?_, hCs, ?_, ⟨⟨[], rfl, List.nodup_nil, fun k m => by cases m⟩, fun k v z => by cases z⟩⟩
    · rw [upd_ne (Ne.symm nxc)]
      exact s6 _ _ hc5
    · rw [upd_ne (Ne.symm nxd)]
      exact hd6
end
end K4

namespace K4
open PySem PySem.Spec PyProof.Rows L2
theorem pe_fldK {X : Cx} {e : Expr} {f : Str} {pos : Pos} {ta : TE} (K : PySem.W.Frag) (ha : PE X e ta) (hb : attributeBase e f X.env (eval e X.env) = eval e X.env) (h : X.K = K := by rfl) : PE X (.Attribute e f pos) (tFld K ta f) := by
  subst h
  exact pe_fld ha hb
theorem putK_keys {kvs : List (Key × V)} {k : Key} {v : V} (h : valV kvs k = none) : (putK kvs k v).map (·.1) = kvs.map (·.1) ++ [k] := by
  unfold putK
  rw [valV_any, h, if_neg (fun z => by cases z), List.map_append]
  rfl
theorem key_in {kvs : List (Key × V)} {k : Key} (h : k ∈ kvs.map (·.1)) : valV kvs k ≠ none := fun z => by
  have := valV_any k kvs
  rw [z] at this
  obtain ⟨y, hy, e⟩ := List.mem_map.mp h
  have h2 : (kvs.any fun kv => decide (kv.1 = k)) = true := List.any_eq_true.mpr ⟨y, hy, decide_eq_true e⟩
  rw [h2] at this
  cases this
theorem RoAt.memo {CP CF C x d : Addr} {H : Hp} {lead data : List Nat} {st en : Nat} {L B : List Int} (h : RoAt CP CF C H x d lead data st en L B) : ∃ kvs, H d = some (.dK kvs) ∧ MemoOk H d (lead ++ data) lead.length st en L B kvs := by
  obtain ⟨dx, a, b, c, cs, kvs, _, _, _, _, _, h6, h7⟩ := h
  exact ⟨kvs, h6, h7⟩
/-- what a road is made of stays; what it keeps is as it is now -/
theorem RoAt.back {CP CF C x d : Addr} {H H' : Hp} {lead data : List Nat} {st en : Nat} {L B : List Int} (h : RoAt CP CF C H x d lead data st en L B) (k : But d H H') (hm : ∃ kvs, H' d = some (.dK kvs) ∧ MemoOk H' d (lead ++ data) lead.length st en L B kvs) : RoAt CP CF C H' x d lead data st en L B := by
  obtain ⟨dx, a, b, c, cs, kvs, h1, h2, h3, h4, h5, h6, h7⟩ := h
  obtain ⟨kvs', g1, g2⟩ := hm
  exact ⟨dx, a, b, c, cs, kvs', k _ _ (ne_of h1 h6 (fun z => nomatch z)) h1, h2.but k h6, h3.but k h6, k _ _ (ne_of h4 h6 (fun z => nomatch z)) h4, h5, g1, g2⟩
section
variable {P : Program} {w : World} {K : PySem.W.Frag} {mg : Str → Option Value} {base : Heap} {CP CF CR fPI fPL fPP fPB fFI fFB fFC fRI fRT fRS fRR fRC : Addr}
def spRoTaken (CP CF CR : Addr) : Sp := fun vs H Q _ => ∃ (x d : Addr) (lead data : List Nat) (st en p : Nat) (L B : List Int), vs = [.ref x, .int (p : Int)] ∧ RoAt CP CF CR H x d lead data st en L B ∧ AskR lead data st en L B ∧ st ≤ p ∧ p < en ∧ (tab (lead ++ data) lead.length en L B en p).1 ≠ none ∧
  ∀ H' t (m l : Nat), But d H H' → RoAt CP CF CR H' x d lead data st en L B → H' t = some (.tup [.int (m : Int), .int (l : Int)]) → TakenIs (lead ++ data) lead.length en L B p m l → Q (.ref t) H'
theorem ok_roTaken (T : RoTxt K mg CR fRI fRT fRS fRR fRC) {f1 : Addr} {fd fd1 : FuncData} {j k1 : Nat} (F : Fun K "taken_at" "Road.taken_at" sRoTaken fRT fd)
    (G1 : FnOk P w K mg base CX0 k1 f1 fd1 ["places", "fares", "costs", "at"] (spFirstOf CP CF)) (b1 : Binds K fd1 ["places", "fares", "costs", "at"] []) (kk1 : PySem.W.keepIn K (.ref f1) = true) (g1 : mg "first_of" = some (.ref f1)) (l1 : k1 ≤ j) :
    FnOk P w K mg base CX0 (j + 1) fRT fd ["self", "at"] (spRoTaken CP CF CR) := by
  refine F.ok scRoT (fun vs H Q E h => ?_) (fun cdv A outer s H vs Q E hr h => ?_)
  · obtain ⟨x, d, lead, data, st, en, p, L, B, rfl, _⟩ := h
    rfl
  · obtain ⟨x, d, lead, data, st, en, p, L, B, rfl, ⟨dx, a, b, c, cs, kvs, hx, hPl, hFa, hc, hCs, hd, hM⟩, AS, hsp, hpn, hne, fin⟩ := h
    have hz := PySem.sizeLine_eq
    have hu := hu_of hr
    have hlen := AS.len
    rw [List.length_append] at hlen
    have hen := AS.en
    have hxd : x ≠ d := ne_of hx hd (fun z => nomatch z)
    refine ⟨_, pss_cons (ps_if (pt_cmp (pc_dnotin hu (pv 1) (pe_fld (pv 0) rfl)))
        (pss_one (ps_dput hu (pe_fld (pv 0) rfl) (pv 1) (pe_call G1 (hr.mono l1) (by rfl) g1 kk1 b1 .nil pass0 (pa_cons (pe_fld (pv 0) rfl) (pa_cons (pe_fld (pv 0) rfl) (pa_cons (pe_fld (pv 0) rfl) (pa_cons (pv 1) pa_nil))))) rfl)) pss_nil)
      (pss_one (ps_ret (pe_dget hu (pe_fld (pv 0) rfl) (pv 1) (fun _ _ => rfl)))), ?_⟩
    obtain ⟨M1, hM1⟩ : ∃ M : L2.St → Hp → Prop, M = (fun σ' H' => ∃ (kvs : List (Key × V)) (m l : Nat) (t : Addr), σ' = [some (.ref x), some (.int (p : Int))] ∧ But d H H' ∧ RoAt CP CF CR H' x d lead data st en L B ∧ H' x = some (.ins CR dx (roF a b (en : Int) c d)) ∧ H' d = some (.dK kvs) ∧ valV kvs (Sum.inl (p : Int)) = some (.ref t) ∧ H' t = some (.tup [.int (m : Int), .int (l : Int)]) ∧ TakenIs (lead ++ data) lead.length en L B p m l) := ⟨_, rfl⟩
    with_reducible refine seq_mid M1 (fun N hN => ?_) (fun σ4 H4 h => ?_)
    · subst hM1
      refine ⟨_, rfl, _, rfl, x, CR, dx, _, _, rfl, hx, T.cl, T.nT, roF_t _ _ _ _ _, d, _, rfl, DGet.k (k := Sum.inl (p : Int)) hd, _, rfl, ?_⟩
      cases hv : valV kvs (Sum.inl (p : Int)) with
      | some v =>
        refine iteF ?_
        obtain ⟨p', m, l, t, e1, rfl, e3, e4⟩ := hM.2 _ _ hv
        have e1 : (p : Int) = (p' : Int) := Sum.inl.inj e1
        obtain rfl : p = p' := by omega
        exact hN _ _ ⟨kvs, m, l, t, rfl, fun _ _ _ e => e, ⟨dx, a, b, c, cs, kvs, hx, hPl, hFa, hc, hCs, hd, hM⟩, hx, hd, hv, e3, e4⟩
      | none =>
        refine iteT ?_
        obtain ⟨cc, hcc⟩ : ∃ cc, (tab (lead ++ data) lead.length en L B en p).1 = some cc := by
          cases q : (tab (lead ++ data) lead.length en L B en p).1 with
          | none => exact absurd q hne
          | some cc => exact ⟨cc, rfl⟩
        refine ⟨_, rfl, x, CR, dx, _, _, rfl, hx, T.cl, T.nP, roF_p _ _ _ _ _, _, rfl, x, CR, dx, _, _, rfl, hx, T.cl, T.nF, roF_f _ _ _ _ _, _, rfl, x, CR, dx, _, _, rfl, hx, T.cl, T.nC, roF_c _ _ _ _ _, _, rfl, a, b, c, lead, data, st, en, p, L, B, cs, cc, rfl, hPl, hFa, AS, hc, hCs, hsp, hpn, hcc, fun H1 t m l s1 nt ht hT => ?_⟩
        have hx1 := s1 _ _ hx
        have hd1 := s1 _ _ hd
        have hml := memo_len hM
        refine ⟨_, rfl, x, CR, dx, _, _, rfl, hx1, T.cl, T.nT, roF_t _ _ _ _ _, _, rfl, d, _, rfl, DPut.k (k := Sum.inl (p : Int)) hd1 (by omega), ?_⟩
        have kb : But d H1 (upd H1 d (.dK (putK kvs (Sum.inl (p : Int)) (.ref t)))) := fun u o n e => by rw [upd_ne n]; exact e
        have hd2 : (upd H1 d (.dK (putK kvs (Sum.inl (p : Int)) (.ref t)))) d = some (.dK (putK kvs (Sum.inl (p : Int)) (.ref t))) := upd_same
        generalize upd H1 d (.dK (putK kvs (Sum.inl (p : Int)) (.ref t))) = H2 at *
        have ktup := but_tup kb hd1
        have ht2 := ktup _ _ ht
        have hM2 : MemoOk H2 d (lead ++ data) lead.length st en L B (putK kvs (Sum.inl (p : Int)) (.ref t)) := by
          obtain ⟨⟨ks, e1, e2, e3⟩, e4⟩ := (hM.keep fun b xs e => ktup _ _ (s1 _ _ e))
          refine ⟨⟨ks ++ [p], ?_, ?_, ?_⟩, fun k v hkv => ?_⟩
          · rw [putK_keys hv, e1, List.map_append]
            rfl
          · refine List.nodup_append.mpr ⟨e2, List.nodup_cons.mpr ⟨fun z => (by cases z), List.nodup_nil⟩, fun y hy z hz => ?_⟩
            obtain rfl := List.mem_singleton.mp hz
            rintro rfl
            have hk : (Sum.inl (y : Int) : Key) ∈ kvs.map (·.1) := by
              rw [e1]
              exact List.mem_map.mpr ⟨y, hy, rfl⟩
            exact key_in hk hv
          · intro k hk
            rcases List.mem_append.mp hk with q | q
            · exact e3 k q
            · rw [List.mem_singleton.mp q]
              exact hpn
          · rw [valV_put] at hkv
            by_cases q : k = Sum.inl (p : Int)
            · rw [if_pos q] at hkv
              exact ⟨p, m, l, t, q, (Option.some.inj hkv).symm, ht2, hT⟩
            · rw [if_neg q] at hkv
              exact e4 k v hkv
        have hx2 := kb _ _ hxd hx1
        refine hN _ _ ⟨_, m, l, t, rfl, (But.of s1).trans kb, ⟨dx, a, b, c, cs, _, hx2, (hPl.same s1).but kb hd1, (hFa.same s1).but kb hd1, kb _ _ (ne_of (s1 _ _ hc) hd1 (fun z => nomatch z)) (s1 _ _ hc), hCs, hd2, hM2⟩, hx2, hd2, by rw [valV_put, if_pos rfl], ht2, hT⟩
    · subst hM1
      obtain ⟨kvs4, m, l, t, rfl, kb, hRo, hx4, hd4, hv4, ht4, hT4⟩ := h
      refine ⟨_, rfl, x, CR, dx, _, _, rfl, hx4, T.cl, T.nT, roF_t _ _ _ _ _, _, rfl, d, .ref t, rfl, (by rw [← hv4]; exact DGet.k (k := Sum.inl (p : Int)) hd4), fin _ t m l kb hRo ht4 hT4⟩
def spRoSteps (CP CF CR : Addr) : Sp := fun vs H Q _ => ∃ (x d : Addr) (lead data : List Nat) (st en p : Nat) (L B : List Int), vs = [.ref x, .int (p : Int)] ∧ RoAt CP CF CR H x d lead data st en L B ∧ AskR lead data st en L B ∧ st ≤ p ∧ p ≤ en ∧ (p < en → (tab (lead ++ data) lead.length en L B en p).1 ≠ none) ∧
  ∀ H' r us trs, But d H H' → H r = none → RoAt CP CF CR H' x d lead data st en L B → H' r = some (.lst us) → Paired (TrAt H') trs us → StepsIs (lead ++ data) lead.length en L B p trs → Q (.ref r) H'
theorem ok_roSteps (T : RoTxt K mg CR fRI fRT fRS fRR fRC) {fd fdT : FuncData} {j k1 : Nat} (F : Fun K "steps_from" "Road.steps_from" sRoSteps fRS fd)
    (GT : FnOk P w K mg base CX0 k1 fRT fdT ["self", "at"] (spRoTaken CP CF CR)) (bT : Binds K fdT ["self", "at"] []) (l1 : k1 ≤ j) :
    FnOk P w K mg base CX0 (j + 1) fRS fd ["self", "start"] (spRoSteps CP CF CR) := by
  refine F.ok scRoS (fun vs H Q E h => ?_) (fun cdv A outer s H vs Q E hr h => ?_)
  · obtain ⟨x, d, lead, data, st, en, p, L, B, rfl, _⟩ := h
    rfl
  · obtain ⟨x, d, lead, data, st, en, p0, L, B, rfl, hRo, AS, hsp, hpn, hne, fin⟩ := h
    have hz := PySem.sizeLine_eq
    have hlen := AS.len
    rw [List.length_append] at hlen
    have hen := AS.en
    obtain ⟨dx, a, b, c, cs0, kvs0, hx0, _, _, _, _, hd0, _⟩ := id hRo
    have hxd : x ≠ d := ne_of hx0 hd0 (fun z => nomatch z)
    refine ⟨_, pss_cons (ps_set (i := 2) scRoS.nd rfl (.inl rfl) (pe_lst pa_nil))
      (pss_cons (ps_set (i := 3) scRoS.nd rfl (.inl rfl) (pv 1))
      (pss_cons (ps_while PassesOwn.never (pt_cmpR op_lt (pv 3) (pe_fld (pv 0) rfl) (nomark _))
        (pss_cons (ps_asg (pe_meth (pv 0) T.cl T.mT GT (hr.mono l1) bT .nil pass0 (pa_cons (pv 3) pa_nil)) (pg_tup rfl (pgs_cons (pg_name (i := 4) scRoS.nd rfl (.inl rfl)) (pgs_cons (pg_name (i := 5) scRoS.nd rfl (.inl rfl)) pgs_nil))))
        (pss_cons (ps_expr (pe_bm PySem.F.plainAttrs_list PySem.F.slot_list_append PySem.F.type_list_append mt_append (pv 2) (pa_cons (pe_tup (pa_cons (pv 3) (pa_cons (pv 4) (pa_cons (pv 5) pa_nil)))) pa_nil)))
        (pss_one (ps_aug (i := 3) scRoS.nd rfl (.inl rfl) (pv 4) ip_add)))))
      (pss_one (ps_ret (pv 2))))), ?_⟩
    refine ⟨Nat.zero_le _, fun D nD => ?_⟩
    have s1 := same_upd (o := .lst []) nD
    have hD1 : (upd H D (.lst [])) D = some (.lst []) := upd_same
    generalize upd H D (.lst []) = H1 at *
    have ndD : D ≠ d := Ne.symm (ne_of_none hd0 nD)
    have nDx : D ≠ x := Ne.symm (ne_of_none hx0 nD)
    dsimp only [gName]
    refine ⟨_, rfl, ?_⟩
    dsimp only [gName]
    refine ⟨fun n σ H' => ∃ (y4 y5 : Option V) (p : Nat) (us : List V) (trs : List (Nat × Nat × Nat)), σ = [some (.ref x), some (.int (p0 : Int)), some (.ref D), some (.int (p : Int)), y4, y5] ∧ But d H H' ∧ RoAt CP CF CR H' x d lead data st en L B ∧ H' x = some (.ins CR dx (roF a b (en : Int) c d)) ∧ (∃ kvs, H' d = some (.dK kvs)) ∧ H' D = some (.lst us) ∧ Paired (TrAt H') trs us ∧ us.length ≤ p - p0 ∧ (∀ rest, StepsIs (lead ++ data) lead.length en L B p rest → StepsIs (lead ++ data) lead.length en L B p0 (trs ++ rest)) ∧ p0 ≤ p ∧ p ≤ en ∧ (p < en → (tab (lead ++ data) lead.length en L B en p).1 ≠ none) ∧ n = en - p,
      ⟨_, _, _, p0, [], [], rfl, But.of s1, hRo.same s1, s1 _ _ hx0, ⟨_, s1 _ _ hd0⟩, hD1, .nil, Nat.zero_le _, fun rest h => h, Nat.le_refl _, hpn, hne, rfl⟩, fun n σ H' hW => ?_⟩
    obtain ⟨y4, y5, p, us, trs, rfl, kb, hRo', hx', ⟨kvs', hd'⟩, hD', hus, hul, hch, hp0, hpe, hnep, rfl⟩ := hW
    refine ⟨_, rfl, _, rfl, x, CR, dx, _, _, rfl, hx', T.cl, T.nE, roF_e _ _ _ _ _, _, _, rfl, rfl, _, rfl, ite2 (fun t1 => ?_) (fun t1 => ?_)⟩
    · have hlt : p < en := by
        have t1 : (p : Int) < (en : Int) := of_decide_eq_true t1
        omega
      refine ⟨_, fun _ _ h => h, ?_⟩
      refine ⟨_, rfl, x, dx, _, rfl, hx', roF_no _ _ _ _ _ (by decide +kernel) (by decide +kernel) (by decide +kernel) (by decide +kernel) (by decide +kernel), _, rfl, x, d, lead, data, st, en, p, L, B, rfl, hRo', AS, by omega, hlt, hnep hlt, fun H2 t m l k2 hRo2 ht hT => ?_⟩
      obtain ⟨it, i1, i2, i3⟩ := hT.item
      obtain ⟨dx2, a2, b2, c2, cs2, kvs2, hx2, _, _, _, _, hd2, _⟩ := id hRo2
      have hx2' := k2 _ _ hxd hx'
      have hD2 := k2 _ _ ndD hD'
      refine ⟨t, _, rfl, .inl (.inl ht), rfl, _, _, rfl, _, _, rfl, rfl, ?_⟩
      refine ⟨_, rfl, .inl ⟨rfl, _, .inl (.inl hD2)⟩, _, rfl, _, rfl, _, rfl, (by show 3 ≤ sizeLine; omega), fun tt ntt => ?_⟩
      have st' := same_upd (o := .tup [.int (p : Int), .int (m : Int), .int (l : Int)]) ntt
      have hnew : TrAt (upd H2 tt (.tup [.int (p : Int), .int (m : Int), .int (l : Int)])) (p, m, l) (.ref tt) := ⟨tt, rfl, upd_same⟩
      refine ⟨D, _, _, rfl, rfl, st' _ _ hD2, by omega, ?_⟩
      have hD3 := st' _ _ hD2
      have hd3 := st' _ _ hd2
      have hx3 := st' _ _ hx2'
      have hRo3 := hRo2.same st'
      have hus3 : Paired (TrAt (upd H2 tt (.tup [.int (p : Int), .int (m : Int), .int (l : Int)]))) trs us := hus.mono fun _ _ h => h.keep fun b xs e => st' _ _ (but_tup k2 hd' _ _ e)
      have k3 : But d H (upd H2 tt (.tup [.int (p : Int), .int (m : Int), .int (l : Int)])) := (kb.trans k2).trans (But.of st')
      generalize upd H2 tt (.tup [.int (p : Int), .int (m : Int), .int (l : Int)]) = H3 at *
      obtain ⟨it', f1, f2, f3, f4⟩ := tab_first AS.lt (Nat.le_refl en) (by omega) hlt (hnep hlt)
      have eit : it' = it := Option.some.inj (f1.symm.trans i1)
      subst eit
      rw [i2] at f2 f3 f4
      have s4 : ∀ u o, u ≠ D → H3 u = some o → (upd H3 D (.lst (us ++ [.ref tt]))) u = some o := fun u o n e => by rw [upd_ne n]; exact e
      have hRo4 : RoAt CP CF CR (upd H3 D (.lst (us ++ [.ref tt]))) x d lead data st en L B := by
        obtain ⟨kvs3, g1, g2⟩ := hRo3.memo
        refine hRo.back (fun u o n e => s4 _ _ (ne_of_none e nD) (k3 u o n e)) ⟨kvs3, s4 _ _ (Ne.symm ndD) g1, g2.keep fun b xs e => s4 _ _ (ne_of e hD3 (fun z => nomatch z)) e⟩
      refine ⟨_, rfl, _, rfl, _, _, rfl, rfl, ?_⟩
      refine ⟨en - (p + m), by omega, _, _, p + m, us ++ [.ref tt], trs ++ [(p, m, l)], by push_cast; rfl, fun u o n e => ?_, hRo4, s4 _ _ (Ne.symm nDx) hx3, ⟨_, s4 _ _ (Ne.symm ndD) hd3⟩, upd_same, ?_, by rw [List.length_append]; show us.length + 1 ≤ _; omega, fun rest h => ?_, by omega, f3, fun _ => f4, rfl⟩
      · rw [upd_ne (ne_of_none e nD)]
        exact k3 u o n e
      · exact (hus3.mono fun _ _ h => h.put hD3).snoc (hnew.put hD3)
      · rw [List.append_assoc]
        exact hch _ ⟨rfl, hlt, hT, h⟩
    · have hpe' : p = en := by
        have t1 : ¬ (p : Int) < (en : Int) := fun z => t1 (decide_eq_true z)
        omega
      refine ⟨_, rfl, fin H' D us trs kb nD hRo' hD' hus ?_⟩
      have := hch [] hpe'
      rw [List.append_nil] at this
      exact this
def spRoRow (CP CF CR : Addr) : Sp := fun vs H Q _ => ∃ (x d : Addr) (lead data : List Nat) (st en p : Nat) (L B : List Int), vs = [.ref x, .int (p : Int)] ∧ RoAt CP CF CR H x d lead data st en L B ∧ AskR lead data st en L B ∧ st ≤ p ∧ p ≤ en ∧ (p < en → (tab (lead ++ data) lead.length en L B en p).1 ≠ none) ∧
  ∀ H' r us, But d H H' → H r = none → RoAt CP CF CR H' x d lead data st en L B → H' r = some (.lst us) → RowAt H' (rowS (tab (lead ++ data) lead.length en L B en) en (en - p) p) us → Q (.ref r) H'
theorem ok_roRow (T : RoTxt K mg CR fRI fRT fRS fRR fRC) {f1 : Addr} {fd fd1 fdS : FuncData} {j k1 k2 : Nat} (F : Fun K "row_from" "Road.row_from" sRoRow fRR fd)
    (G1 : FnOk P w K mg base CX0 k1 f1 fd1 ["places", "step"] (spItemAt CP)) (b1 : Binds K fd1 ["places", "step"] []) (kk1 : PySem.W.keepIn K (.ref f1) = true) (g1 : mg "item_at" = some (.ref f1)) (l1 : k1 ≤ j)
    (GS : FnOk P w K mg base CX0 k2 fRS fdS ["self", "start"] (spRoSteps CP CF CR)) (bS : Binds K fdS ["self", "start"] []) (l2 : k2 ≤ j) :
    FnOk P w K mg base CX0 (j + 1) fRR fd ["self", "start"] (spRoRow CP CF CR) := by
  refine F.ok scRoR (fun vs H Q E h => ?_) (fun cdv A outer s H vs Q E hr h => ?_)
  · obtain ⟨x, d, lead, data, st, en, p, L, B, rfl, _⟩ := h
    rfl
  · obtain ⟨x, d, lead, data, st, en, p, L, B, rfl, hRo, AS, hsp, hpn, hne, fin⟩ := h
    have hz := PySem.sizeLine_eq
    have hlen := AS.len
    rw [List.length_append] at hlen
    have hen := AS.en
    obtain ⟨dx, a, b, c, cs0, kvs0, hx0, hPl0, hFa0, _, _, hd0, _⟩ := id hRo
    have hxd : x ≠ d := ne_of hx0 hd0 (fun z => nomatch z)
    refine ⟨_, pss_one (ps_ret (pe_lc (own := [("step", 2)]) (g := gName 2) (tt := tYes) rfl scRoR.nd (pi_list (pe_meth (pv 0) T.cl T.mS GS (hr.mono l2) bS .nil pass0 (pa_cons (pv 1) pa_nil))) (blkOk_by (N := NRr) (sc := defScope sRoRow) (by decide +kernel))
        (fun _ _ _ _ _ => pg_name (i := 2) scRoR.nd rfl (.inl rfl)) (fun _ _ _ _ _ => pts_nil)
        (fun _ _ _ _ _ => pe_call G1 (hr.mono l1) (by rfl) g1 kk1 b1 .nil pass0 (pa_cons (pe_fldK K (pv 0) rfl) (pa_cons (pv 2) pa_nil))))), ?_⟩
    refine ⟨_, rfl, x, dx, _, rfl, hx0, roF_no _ _ _ _ _ (by decide +kernel) (by decide +kernel) (by decide +kernel) (by decide +kernel) (by decide +kernel), _, rfl, x, d, lead, data, st, en, p, L, B, rfl, hRo, AS, hsp, hpn, hne, fun H1 r us trs kb nr hRo1 hr1 hus hSt => ?_⟩
    obtain ⟨sl1, sl2, sl3⟩ := steps_le _ _ hSt
    have ndr : r ≠ d := Ne.symm (ne_of_none hd0 nr)
    have hx1 := kb _ _ hxd hx0
    have hPl1 := hPl0.but kb hd0
    refine ⟨r, rfl, ⟨_, .inl (.inl hr1)⟩, fun D nD => ?_⟩
    have eul : us.length = trs.length := hus.length.symm
    have nD0 : H D = none := by
      cases hh : H D with
      | none => rfl
      | some o =>
        by_cases q : D = d
        · obtain ⟨kvs1, g1, _⟩ := hRo1.memo
          rw [q, g1] at nD
          cases nD
        · rw [kb _ _ q hh] at nD
          cases nD
    refine lc_list (K := K) (a := r) (xs := us) (fun i H' => Same H1 H' ∧ ∃ vs, H' D = some (.lst vs) ∧ RowAt H' ((trs.take i).map (itOf (lead ++ data) lead.length en L B)) vs) ⟨same_upd nD, [], upd_same, .nil⟩ (fun i H' _ z => .inl (.inl (z.1 _ _ hr1))) (fun i y H' hy z => ?_) (fun H' z => ?_)
    · obtain ⟨sm, vs, hD, hvs⟩ := z
      have hi : i < us.length := (List.getElem?_eq_some_iff.mp hy).1
      have hi2 : i < trs.length := by omega
      obtain ⟨y', hy', hat⟩ := paired_get hus (List.getElem?_eq_getElem hi2)
      obtain rfl : y' = y := Option.some.inj (hy'.symm.trans hy)
      obtain ⟨tc, rfl, htc⟩ := hat
      obtain ⟨s1, s2⟩ := sl3 _ (List.getElem_mem hi2)
      have hvl : vs.length ≤ i := by
        rw [← hvs.length, List.length_map, List.length_take]
        omega
      refine ⟨rfl, yes ?_⟩
      refine ⟨_, rfl, x, CR, dx, _, _, rfl, sm _ _ hx1, T.cl, T.nP, roF_p _ _ _ _ _, _, rfl, a, tc, lead, data, en, trs[i].1, trs[i].2.1, trs[i].2.2, L, B, rfl, sm _ _ htc, hPl1.same sm, AS.lt, AS.len, s1, hen, s2, fun H2 v it s3 i1 i2 hv => ?_⟩
      have hD2 := s3 _ _ hD
      refine ⟨_, hD2, by omega, same_put (sm.trans s3) nD, vs ++ [v], upd_same, ?_⟩
      have eit : itOf (lead ++ data) lead.length en L B trs[i] = it := by
        unfold itOf
        rw [i1]
        rfl
      rw [List.take_add_one, List.getElem?_eq_getElem hi2, List.map_append]
      show Paired (ItmAt _) (_ ++ [itOf (lead ++ data) lead.length en L B trs[i]]) _
      rw [eit]
      exact (hvs.mono fun _ _ h => (h.same s3).put hD2).snoc (hv.put hD2)
    · obtain ⟨sm, vs, hD, hvs⟩ := z
      rw [eul, List.take_length] at hvs
      have hRo' : RoAt CP CF CR H' x d lead data st en L B := hRo1.same sm
      refine fin H' D vs (kb.trans (But.of sm)) nD0 hRo' hD ?_
      rw [steps_row trs p (en - p) (Nat.le_refl _) hSt]
      exact hvs
theorem cut_ints (ns : List Int) {n : Int} {b : Nat} (e : n = (b : Int)) : cutV (ns.map V.int) none (some n) = (ns.take b).map V.int := by
  rw [e]
  exact ints_to ns b
def decO (x : Int) : Option Int := if x < FARn then some x else none
theorem dec_enc {o : Option Int} (h : ∀ c, o = some c → c < FARn) : decO (enc o) = o := by
  cases o with
  | none => rfl
  | some c => exact if_pos (h c rfl)
def spRoTold (CP CF CR : Addr) : Sp := fun vs H Q _ => ∃ (x d : Addr) (lead data : List Nat) (en : Nat) (L B : List Int), vs = [.ref x] ∧ RoAt CP CF CR H x d lead data 0 en L B ∧ AskR lead data 0 en L B ∧
  ∀ H' p, Same H H' → H p = none → H' p = some (.lst ((costsF (lead ++ data) lead.length en L B).map optV)) → Q (.ref p) H'
theorem ok_roTold (T : RoTxt K mg CR fRI fRT fRS fRR fRC) {fd : FuncData} {j : Nat} {t1 : Tok} (F : Fun K "told_costs" "Road.told_costs" sRoTold fRC fd) (c1 : mg "FAR" = some (.int 1000000000 t1)) :
    FnOk P w K mg base CX0 (j + 1) fRC fd ["self"] (spRoTold CP CF CR) := by
  refine F.ok scRoC (fun vs H Q E h => ?_) (fun cdv A outer s H vs Q E hr h => ?_)
  · obtain ⟨x, d, lead, data, en, L, B, rfl, _⟩ := h
    rfl
  · obtain ⟨x, d, lead, data, en, L, B, rfl, ⟨dx, a, b, c, cs, kvs, hx, hPl, hFa, hc, hCs, hd, hM⟩, AS, fin⟩ := h
    have hz := PySem.sizeLine_eq
    have hlen := AS.len
    rw [List.length_append] at hlen
    have hen := AS.en
    have hcl := hCs.len
    refine ⟨_, pss_one (ps_ret (pe_lc (own := [("bits", 1)]) (g := gName 1) (tt := tYes) rfl scRoC.nd (pi_list (pe_slice sl_list (pe_fld (pv 0) rfl) po_none (po_some (pe_op op_add (pe_fld (pv 0) rfl) pe_int)))) (blkOk_by (N := NRc) (sc := defScope sRoTold) (by decide +kernel))
        (fun _ _ _ _ _ => pg_name (i := 1) scRoC.nd rfl (.inl rfl)) (fun _ _ _ _ _ => pts_nil)
        (fun _ _ _ _ _ => pe_ifExp (pt_cmpR op_lt (pv 1) (pe_glob (v := .int 1000000000) rfl c1 ⟨_, rfl⟩) (nomark _)) (pv 1) pe_non))), ?_⟩
    refine ⟨_, rfl, x, CR, dx, _, _, rfl, hx, T.cl, T.nC, roF_c _ _ _ _ _, _, rfl, x, CR, dx, _, _, rfl, hx, T.cl, T.nE, roF_e _ _ _ _ _, _, _, rfl, rfl, _, rfl, c, _, rfl, .inl (.inl hc), fun r nr => ?_⟩
    rw [cut_ints cs (b := en + 1) (by push_cast; rfl)]
    have s1 := same_upd (o := .lst ((cs.take (en + 1)).map V.int)) nr
    have hr1 : (upd H r (.lst ((cs.take (en + 1)).map V.int))) r = some (.lst ((cs.take (en + 1)).map V.int)) := upd_same
    generalize upd H r (.lst ((cs.take (en + 1)).map V.int)) = H1 at *
    refine ⟨r, rfl, ⟨_, .inl (.inl hr1)⟩, fun D nD => ?_⟩
    have etk : (cs.take (en + 1)).map decO = costsF (lead ++ data) lead.length en L B := by
      refine List.ext_getElem (by rw [List.length_map, List.length_take, costsF_len]; omega) fun i h1 h2 => ?_
      have hi : i < en + 1 := by rwa [costsF_len] at h2
      have g1 := hCs.at_ i (Nat.zero_le _) (by omega)
      have g2 := costsF_at (e := lead ++ data) (lead := lead.length) (en := en) (L := L) (B := B) (q := i) (by omega)
      rw [List.getD_eq_getElem?_getD, List.getElem?_eq_getElem h2] at g2
      rw [List.getD_eq_getElem?_getD, List.getElem?_eq_getElem (by omega)] at g1
      have g1 : cs[i]'(by omega) = enc (tab (lead ++ data) lead.length en L B en i).1 := g1
      have g2 : (costsF (lead ++ data) lead.length en L B)[i] = (tab (lead ++ data) lead.length en L B en i).1 := g2
      rw [List.getElem_map, List.getElem_take, g1, g2]
      exact dec_enc fun c hc => AS.tab_far (by omega) hc
    refine lc_list (K := K) (a := r) (xs := (cs.take (en + 1)).map V.int) (fun t H' => Same H1 H' ∧ H' D = some (.lst ((((cs.take (en + 1)).take t).map decO).map optV))) ⟨same_upd nD, upd_same⟩ (fun t H' _ z => .inl (.inl (z.1 _ _ hr1))) (fun t y H' hy z => ?_) (fun H' z => ?_)
    · obtain ⟨sm, hE⟩ := z
      obtain ⟨y, rfl, hy'⟩ := int_of hy
      refine ⟨rfl, yes ?_⟩
      have nxt : ∀ v : V, v = optV (decO y) → ∃ acc, H' D = some (.lst acc) ∧ acc.length < sizeLine ∧ (Same H1 (upd H' D (.lst (acc ++ [v]))) ∧ (upd H' D (.lst (acc ++ [v]))) D = some (.lst ((((cs.take (en + 1)).take (t + 1)).map decO).map optV))) := fun v ev => by
        refine ⟨_, hE, by rw [List.length_map, List.length_map, List.length_take, List.length_take]; omega, same_put sm nD, ?_⟩
        rw [upd_same, List.take_add_one (l := cs.take (en + 1)), hy', List.map_append, List.map_append, ev]
        rfl
      refine ⟨_, rfl, _, _, rfl, rfl, _, rfl, ite2 (fun t2 => ?_) (fun t2 => ?_)⟩
      · exact ⟨_, rfl, nxt _ (by rw [show decO y = some y from if_pos (of_decide_eq_true t2)]; rfl)⟩
      · exact nxt _ (by rw [show decO y = none from if_neg (fun z => t2 (decide_eq_true z))]; rfl)
    · obtain ⟨sm, hE⟩ := z
      rw [List.length_map, List.take_length, etk] at hE
      exact fin H' D (s1.trans sm) (none_back s1 nD) hE
end
end K4

namespace K4
open PySem PySem.Spec PyProof.Rows L2
/-! ### steps_at -/
abbrev NSa : List Str := ["places", "fares", "at", "steps", "many", "letters", "bits"]
theorem scSteps : FnScope NSa ["places", "fares", "at"] (defScope sSteps) := ⟨rfl, rfl, rfl, by decide +kernel, rfl, by decide +kernel, by decide +kernel⟩
def StAt (H : Hp) (s : Nat × Int) (v : V) : Prop := ∃ t, v = .ref t ∧ H t = some (.tup [.int (s.1 : Int), .int s.2])
theorem StAt.same {H H' : Hp} {s : Nat × Int} {v : V} (h : StAt H s v) (sm : Same H H') : StAt H' s v := by
  obtain ⟨t, e, ht⟩ := h
  exact ⟨t, e, sm _ _ ht⟩
theorem StAt.put {H : Hp} {s : Nat × Int} {v : V} {D : Addr} {xs ys : List V} (h : StAt H s v) (hD : H D = some (.lst xs)) : StAt (upd H D (.lst ys)) s v := by
  obtain ⟨t, e, ht⟩ := h
  exact ⟨t, e, by rw [upd_ne (ne_of ht hD (fun z => nomatch z))]; exact ht⟩
theorem Rch.le_rest {e : List Nat} {h : Nat} {R : List Nat} (hR : Rch e h R) : maxR R ≤ e.length - h := by
  have hne : R ≠ [] := fun z => by have := hR.len; rw [z] at this; cases this
  have hm := maxR_mem hne
  rcases hR.low _ hm with q | q
  · omega
  · obtain ⟨l, hl, e1⟩ := List.mem_iff_getElem.mp hm
    have hl11 : l < 11 := by rw [← hR.len]; exact hl
    have e2 : R.getD l 0 = maxR R := by rw [List.getD_eq_getElem?_getD, List.getElem?_eq_getElem hl, e1]; rfl
    obtain ⟨b, _, _, _, b4⟩ := (hR.iff_ l hl11 (maxR R) q hR.max18).mp (by omega)
    exact Nat.le_trans b4 (rn_le e h b)
def nearS (L B : List Int) (R : List Nat) (k : Nat) : List (Nat × Int) := (stepsR L B R k).filter fun s => decide (s.2 < FARn)
theorem near_use {L B : List Int} {R : List Nat} {k n : Nat} (h : maxR R ≤ n) (h1 : 1 ≤ n) : nearS L B R k = useR L B R k n := by
  unfold nearS useR
  refine List.filter_congr fun s m => ?_
  have : s.1 ≤ n := by
    rcases mem_stepsR.mp m with rfl | ⟨_, q, _⟩
    · exact h1
    · omega
  rw [decide_eq_true this, Bool.and_true]
section
variable {P : Program} {w : World} {K : PySem.W.Frag} {mg : Str → Option Value} {base : Heap} {CP CF fPI fPL fPP fPB fFI fFB fFC : Addr}
def spSteps (CP CF : Addr) : Sp := fun vs H Q _ => ∃ (a b : Addr) (lead data : List Nat) (p : Nat) (L B : List Int), vs = [.ref a, .ref b, .int (p : Int)] ∧ PlAt CP H a lead data ∧ FaAt CF H b L B ∧ AskR lead data 0 data.length L B ∧ p < data.length ∧
  ∀ H' r us R, Same H H' → H r = none → H' r = some (.lst us) → Rch (lead ++ data) (lead.length + p) R → Paired (StAt H') (useR L B R ((lead ++ data).getD (lead.length + p) 0) (data.length - p)) us → Q (.ref r) H'
theorem ok_steps (T : PlTxt K mg CP fPI fPL fPP fPB) (TF : FaTxt K mg CF fFI fFB fFC) {f : Addr} {fd fdP fdB : FuncData} {j k1 k2 : Nat} {t1 : Tok} (F : Fun K "steps_at" "steps_at" sSteps f fd)
    (GP : FnOk P w K mg base CX0 k1 fPP fdP ["self", "at"] (spPlPairs CP)) (bP : Binds K fdP ["self", "at"] []) (l1 : k1 ≤ j)
    (GB : FnOk P w K mg base CX0 k2 fFB fdB ["self", "many", "letters"] (spFBits CF)) (bB : Binds K fdB ["self", "many", "letters"] []) (l2 : k2 ≤ j) (c1 : mg "FAR" = some (.int 1000000000 t1)) :
    FnOk P w K mg base CX0 (j + 1) f fd ["places", "fares", "at"] (spSteps CP CF) := by
  refine F.ok scSteps (fun vs H Q E h => ?_) (fun cdv A outer s H vs Q E hr h => ?_)
  · obtain ⟨a, b, lead, data, p, L, B, rfl, _⟩ := h
    rfl
  · obtain ⟨a, b, lead, data, p, L, B, rfl, hPl, hFa, AS, hpn, fin⟩ := h
    have hz := PySem.sizeLine_eq
    have hlen := AS.len
    rw [List.length_append] at hlen
    obtain ⟨dxa, pp, pk, ps, ks, ha0, hpp0, hpk0, hkl, hKd⟩ := id hPl
    obtain ⟨dxb, q1, q2, q3, q4, us4, ch0, hb0, hq10, hq20, hq30, hq40, hus4, hC0, hch0⟩ := id hFa
    have hk : ∀ k ∈ data, k < 256 := bytes_in AS.lt
    refine ⟨_, pss_cons (ps_set (i := 3) scSteps.nd rfl (.inl rfl) (pe_lst (pa_cons (pe_tup (pa_cons pe_int (pa_cons (pe_ix ix_list (pe_fld (pv 1) rfl) (pe_item_byt (pe_fld (pv 0) rfl) (pv 2) (fun _ _ => rfl)) (fun _ _ => rfl)) pa_nil))) pa_nil)))
      (pss_cons (ps_expr (pe_bm PySem.F.plainAttrs_list PySem.F.slot_list_extend PySem.F.type_list_extend mt_extend (pv 3) (pa_cons (pe_lc (own := [("many", 4), ("letters", 5)]) (g := gTup K 2 (gCons (gName 4) (gCons (gName 5) gNil))) (tt := tYes) rfl scSteps.nd (pi_list (pe_meth (pv 0) T.cl T.mP GP (hr.mono l1) bP .nil pass0 (pa_cons (pv 2) pa_nil))) (blkOk_by (N := NSa) (sc := defScope sSteps) (by decide +kernel))
          (fun _ _ _ _ _ => pg_tup rfl (pgs_cons (pg_name (i := 4) scSteps.nd rfl (.inl rfl)) (pgs_cons (pg_name (i := 5) scSteps.nd rfl (.inl rfl)) pgs_nil))) (fun _ _ _ _ _ => pts_nil)
          (fun _ _ _ _ _ => pe_tup (pa_cons (pv 4) (pa_cons (pe_meth (pv 1) TF.cl TF.mB GB (hr.mono l2) bB .nil pass0 (pa_cons (pv 4) (pa_cons (pv 5) pa_nil))) pa_nil)))) pa_nil)))
      (pss_one (ps_ret (pe_lc (own := [("many", 4), ("bits", 6)]) (g := gTup K 2 (gCons (gName 4) (gCons (gName 6) gNil))) (tt := _) rfl scSteps.nd (pi_list (pv 3)) (blkOk_by (N := NSa) (sc := defScope sSteps) (by decide +kernel))
          (fun _ _ _ _ _ => pg_tup rfl (pgs_cons (pg_name (i := 4) scSteps.nd rfl (.inl rfl)) (pgs_cons (pg_name (i := 6) scSteps.nd rfl (.inl rfl)) pgs_nil)))
          (fun _ _ _ _ _ => pts_one (pt_cmpR op_lt (pv 6) (pe_glob (v := .int 1000000000) rfl c1 ⟨_, rfl⟩) (nomark _)))
          (fun _ _ _ _ _ => pe_tup (pa_cons (pv 4) (pa_cons (pv 6) pa_nil))))))), ?_⟩
    have hk0 : data.getD p 0 < 256 := by
      rw [List.getD_eq_getElem?_getD, List.getElem?_eq_getElem (by omega)]
      exact hk _ (List.getElem_mem _)
    refine ⟨_, rfl, b, CF, dxb, _, _, rfl, hb0, TF.cl, TF.nL, faF_l _ _ _ _, _, rfl, a, CP, dxa, _, _, rfl, ha0, T.cl, T.nD, plF_d _ _ _ _ _, _, rfl, data.map Nat.toUInt8, (p : Int), rfl, rfl, by rw [List.length_map]; omega, by omega, by rw [List.length_map]; omega, ?_⟩
    rw [Int.toNat_natCast, byB_get hk]
    refine ⟨q1, _, _, _, rfl, rfl, .inl (.inl hq10), int_at (k := data.getD p 0) rfl (by rw [List.length_map, AS.l273]; omega), (by show 2 ≤ sizeLine; omega), fun t0 nt0 => ⟨(by show 1 ≤ sizeLine; omega), fun D nD => ?_⟩⟩
    rw [lbx_at (by rw [AS.l273]; omega)]
    rw [lbx_at (by rw [AS.l273]; omega)] at nD
    have s1 := same_upd (o := .tup [.int 1, .int (lb L (data.getD p 0))]) nt0
    have h1 : StAt (upd H t0 (.tup [.int 1, .int (lb L (data.getD p 0))])) (1, lb L (data.getD p 0)) (.ref t0) := ⟨t0, rfl, upd_same⟩
    generalize upd H t0 (.tup [.int 1, .int (lb L (data.getD p 0))]) = H1 at *
    have s2 := same_upd (o := .lst [.ref t0]) nD
    have hD2 : (upd H1 D (.lst [.ref t0])) D = some (.lst [.ref t0]) := upd_same
    have h2 := h1.same s2
    have s12 := s1.trans s2
    have nD0 := none_back s1 nD
    generalize upd H1 D (.lst [.ref t0]) = H2 at *
    dsimp only [gName]
    refine ⟨_, rfl, .inl ⟨rfl, _, .inl (.inl hD2)⟩, _, rfl, a, dxa, _, rfl, s12 _ _ ha0, plF_no _ _ _ _ _ (by decide +kernel) (by decide +kernel) (by decide +kernel) (by decide +kernel) (by decide +kernel), _, rfl, a, lead, data, p, rfl, hPl.same s12, hpn, fun t us R hR ht hus => ⟨t, rfl, ⟨_, .inl (.inl ht)⟩, fun G nG => ?_⟩⟩
    have hM18 := hR.max18
    have hul : us.length = (prsR R).length := hus.length.symm
    have hpl := prsR_len R
    have neDG : D ≠ G := ne_of_none hD2 nG
    refine lc_list (K := K) (a := t) (xs := us) (fun i H' => Same H2 H' ∧ ∃ vs, H' G = some (.lst vs) ∧ Paired (StAt H') (((prsR R).take i).map fun s => (s.1, lb L (254 + s.1) + minW B R s.1 11)) vs) ⟨same_upd nG, [], upd_same, .nil⟩ (fun i H' _ z => .inl (.inl (z.1 _ _ ht))) (fun i x H' hx z => ?_) (fun H' z => ?_)
    · obtain ⟨sm, vs, hG, hvs⟩ := z
      have hi : i < us.length := (List.getElem?_eq_some_iff.mp hx).1
      obtain ⟨x', hx', hat⟩ := paired_get hus (prsR_at (R := R) (i := i) (by omega))
      obtain rfl : x' = x := Option.some.inj (hx'.symm.trans hx)
      obtain ⟨tc, rfl, htc⟩ := hat
      have htc := sm _ _ htc
      have hvl : vs.length ≤ i := by
        rw [← hvs.length, List.length_map, List.length_take]
        omega
      refine ⟨tc, _, rfl, .inl (.inl htc), rfl, _, _, rfl, _, _, rfl, rfl, ?_⟩
      refine ⟨rfl, yes ⟨_, rfl, _, rfl, b, dxb, _, rfl, sm _ _ (s12 _ _ hb0), faF_no _ _ _ _ (by decide +kernel) (by decide +kernel) (by decide +kernel) (by decide +kernel), _, rfl, _, rfl, b, L, B, R, 3 + i, rfl, (hFa.same s12).same sm, AS.l273, by omega, (by show 2 ≤ sizeLine; omega), fun tt ntt => ?_⟩⟩
      have st' := same_upd (o := .tup [.int ((3 + i : Nat) : Int), .int (lb L (254 + (3 + i)) + minW B R (3 + i) 11)]) ntt
      have hnew : StAt (upd H' tt (.tup [.int ((3 + i : Nat) : Int), .int (lb L (254 + (3 + i)) + minW B R (3 + i) 11)])) (3 + i, lb L (254 + (3 + i)) + minW B R (3 + i) 11) (.ref tt) := ⟨tt, rfl, upd_same⟩
      refine ⟨_, st' _ _ hG, by omega, same_put (sm.trans st') nG, vs ++ [.ref tt], upd_same, ?_⟩
      rw [List.take_add_one, prsR_at (by omega), List.map_append]
      exact (hvs.mono fun _ _ h => (h.same st').put (st' _ _ hG)).snoc (hnew.put (st' _ _ hG))
    · obtain ⟨sm, vs, hG, hvs⟩ := z
      rw [hul, List.take_length] at hvs
      have hvl : vs.length ≤ 18 := by
        rw [← hvs.length, List.length_map]
        omega
      have hD3 := sm _ _ hD2
      refine ⟨D, G, _, _, rfl, rfl, hD3, hG, by show 1 + vs.length ≤ _; omega, ?_⟩
      have hall : Paired (StAt (upd H' D (.lst ([.ref t0] ++ vs)))) (stepsR L B R (data.getD p 0)) ([.ref t0] ++ vs) := .cons ((h2.same sm).put hD3) (hvs.mono fun _ _ h => h.put hD3)
      have s4 : Same H (upd H' D (.lst ([.ref t0] ++ vs))) := same_put (s12.trans sm) nD0
      have hD4 : (upd H' D (.lst ([.ref t0] ++ vs))) D = some (.lst ([.ref t0] ++ vs)) := upd_same
      generalize hws : [V.ref t0] ++ vs = ws at *
      generalize upd H' D (.lst ws) = H4 at *
      have hwl : ws.length = (stepsR L B R (data.getD p 0)).length := hall.length.symm
      have hsl : (stepsR L B R (data.getD p 0)).length ≤ 19 := by
        rw [← hwl, ← hws, List.length_append]
        show 1 + vs.length ≤ 19
        omega
      refine ⟨_, rfl, D, rfl, ⟨_, .inl (.inl hD4)⟩, fun E1 nE => ?_⟩
      have nE0 := none_back s4 nE
      refine lc_list (K := K) (a := D) (xs := ws) (fun i H' => Same H4 H' ∧ ∃ zs, H' E1 = some (.lst zs) ∧ Paired (StAt H') (((stepsR L B R (data.getD p 0)).take i).filter fun s => decide (s.2 < FARn)) zs) ⟨same_upd nE, [], upd_same, .nil⟩ (fun i H' _ z => .inl (.inl (z.1 _ _ hD4))) (fun i x H' hx z => ?_) (fun H' z => ?_)
      · obtain ⟨sm, zs, hE, hzs⟩ := z
        have hi : i < ws.length := (List.getElem?_eq_some_iff.mp hx).1
        have hi2 : i < (stepsR L B R (data.getD p 0)).length := by omega
        obtain ⟨x', hx', hat⟩ := paired_get hall (List.getElem?_eq_getElem hi2)
        obtain rfl : x' = x := Option.some.inj (hx'.symm.trans hx)
        obtain ⟨tc, rfl, htc⟩ := hat
        have htc := sm _ _ htc
        have hzl : zs.length ≤ i := by
          rw [← hzs.length]
          refine Nat.le_trans (List.length_filter_le _ _) ?_
          rw [List.length_take]
          omega
        rw [List.take_add_one, List.getElem?_eq_getElem hi2, List.filter_append]
        generalize (stepsR L B R (data.getD p 0))[i] = sv at *
        refine ⟨tc, _, rfl, .inl (.inl htc), rfl, _, _, rfl, _, _, rfl, rfl, ?_⟩
        refine ⟨rfl, _, rfl, _, _, rfl, rfl, _, rfl, ite2 (fun t2 => ?_) (fun t2 => ?_)⟩
        · refine ⟨_, rfl, _, rfl, (by show 2 ≤ sizeLine; omega), fun tt ntt => ?_⟩
          have st' := same_upd (o := .tup [.int (sv.1 : Int), .int sv.2]) ntt
          have hnew : StAt (upd H' tt (.tup [.int (sv.1 : Int), .int sv.2])) sv (.ref tt) := ⟨tt, rfl, upd_same⟩
          refine ⟨_, st' _ _ hE, by omega, same_put (sm.trans st') nE, zs ++ [.ref tt], upd_same, ?_⟩
          show Paired _ (_ ++ List.filter _ [sv]) _
          rw [List.filter_cons_of_pos (p := fun s : Nat × Int => decide (s.2 < FARn)) t2]
          exact (hzs.mono fun _ _ h => (h.same st').put (st' _ _ hE)).snoc (hnew.put (st' _ _ hE))
        · refine ⟨sm, zs, hE, ?_⟩
          show Paired _ (_ ++ List.filter _ [sv]) _
          rw [List.filter_cons_of_neg (p := fun s : Nat × Int => decide (s.2 < FARn)) t2, List.filter_nil, List.append_nil]
          exact hzs
      · obtain ⟨sm5, zs, hE, hzs⟩ := z
        rw [hwl, List.take_length] at hzs
        refine fin H' E1 zs R (s4.trans sm5) nE0 hE hR ?_
        have hmx := hR.le_rest
        rw [List.length_append] at hmx
        rw [app_get, ← near_use (n := data.length - p) (by omega) (by omega)]
        exact hzs
end
end K4

namespace K4
open PySem PySem.Spec PyProof.Rows L2
/-! ### none_is_cheaper -/
def isCheap : Option Int → Option Int → Bool
  | none, _ => false
  | some _, none => true
  | some m, some c => decide (m < c)
theorem cheap_at (cs : List (Option Int)) (L B : List Int) (p : Nat) (its : List Itm) : (its.all fun it => !badItem cs L B p it) = !isCheap (bestF L B (fun q => cs.getD q none) p its).1 (cs.getD p none) := by
  cases hb : (bestF L B (fun q => cs.getD q none) p its).1 with
  | none =>
    show _ = true
    refine List.all_eq_true.mpr fun it m => ?_
    cases q : badItem cs L B p it with
    | false => rfl
    | true =>
      unfold badItem at q
      cases h1 : costO L B it with
      | none => rw [h1] at q; cases q
      | some a =>
        cases h2 : cs.getD (p + lenI it) none with
        | none => rw [h1, h2] at q; cases q
        | some r =>
          obtain ⟨c, h3, _⟩ := fold_min (cs := fun q => cs.getD q none) (p := p) (acc := (none, none)) m h1 h2
          have h3 : (bestF L B (fun q => cs.getD q none) p its).1 = some c := h3
          rw [hb] at h3
          cases h3
  | some v =>
    obtain ⟨it, m, _, a, r, ha, hr, ev⟩ := best_val hb
    have hr : cs.getD (p + lenI it) none = some r := hr
    cases hc : cs.getD p none with
    | none =>
      show _ = false
      refine List.all_eq_false.mpr ⟨it, m, ?_⟩
      unfold badItem
      rw [ha, hr, hc]
      exact fun z => by cases z
    | some c =>
      show _ = !decide (v < c)
      by_cases q : v < c
      · rw [decide_eq_true q]
        refine List.all_eq_false.mpr ⟨it, m, ?_⟩
        unfold badItem
        rw [ha, hr, hc]
        show ¬ (!decide (a + r < c)) = true
        rw [decide_eq_true (by omega)]
        exact fun z => by cases z
      · rw [decide_eq_false q]
        refine List.all_eq_true.mpr fun x mx => ?_
        unfold badItem
        cases h1 : costO L B x with
        | none => rfl
        | some a2 =>
          cases h2 : cs.getD (p + lenI x) none with
          | none => rfl
          | some r2 =>
            obtain ⟨c2, h3, h4⟩ := fold_min (cs := fun q => cs.getD q none) (p := p) (acc := (none, none)) mx h1 h2
            have h3 : (bestF L B (fun q => cs.getD q none) p its).1 = some c2 := h3
            rw [hb] at h3
            have := Option.some.inj h3
            rw [hc]
            show (!decide (a2 + r2 < c)) = true
            rw [decide_eq_false (by omega)]
            rfl
def FewIs (fs : List Int) (o : Option Int) : Prop := (o = none ∧ fs = []) ∨ ∃ m, o = some m ∧ m ∈ fs ∧ ∀ y ∈ fs, m ≤ y
theorem few_is {steps : List (Nat × Int)} {its : List Itm} {L B : List Int} (S : StepsOk steps its L B) {cs : Nat → Option Int} {p : Nat} {o : Option Int} (h : FewIs (foundF steps cs p) o) : o = (bestF L B cs p its).1 := by
  rcases h with ⟨rfl, h⟩ | ⟨m, rfl, h1, h2⟩
  · exact (few_none S h).symm
  · exact (few_some S h1 h2).symm
theorem found_one (s : Nat × Int) (cs : Nat → Option Int) (p : Nat) : foundF [s] cs p = match cs (p + s.1) with
    | some r => [s.2 + r]
    | none => [] := by
  unfold foundF
  rw [List.filterMap_cons]
  cases cs (p + s.1) <;> rfl
theorem found_app (a b : List (Nat × Int)) (cs : Nat → Option Int) (p : Nat) : foundF (a ++ b) cs p = foundF a cs p ++ foundF b cs p := List.filterMap_append ..
theorem min_of : ∀ (r : List Int) (a : Int), ∃ m, m ∈ a :: r ∧ ∀ y ∈ a :: r, m ≤ y
  | [], a => ⟨a, List.mem_cons_self .., fun y m => by rw [List.mem_singleton.mp m]; exact Int.le_refl _⟩
  | b :: r, a => by
    obtain ⟨m, h1, h2⟩ := min_of r b
    by_cases q : a ≤ m
    · refine ⟨a, List.mem_cons_self .., fun y hy => ?_⟩
      rcases List.mem_cons.mp hy with rfl | hy
      · exact Int.le_refl _
      · have := h2 y hy
        omega
    · refine ⟨m, List.mem_cons_of_mem _ h1, fun y hy => ?_⟩
      rcases List.mem_cons.mp hy with rfl | hy
      · omega
      · exact h2 y hy
theorem prF_noL (p q : Addr) : (prF p q).lookup ("letters" : Str) = none := (lkP (by decide +kernel)).trans ((lkP (by decide +kernel)).trans rfl)
theorem prF_noB (p q : Addr) : (prF p q).lookup ("backs" : Str) = none := (lkP (by decide +kernel)).trans ((lkP (by decide +kernel)).trans rfl)
theorem use_in {L B : List Int} {R : List Nat} {k n : Nat} : ∀ s ∈ useR L B R k n, 1 ≤ s.1 ∧ s.1 ≤ n := fun s m => by
  obtain ⟨h1, _, h3⟩ := mem_useR.mp m
  refine ⟨?_, h3⟩
  rcases mem_stepsR.mp h1 with rfl | ⟨q, _⟩
  · exact Nat.le_refl _
  · omega
theorem use_len {L B : List Int} {R : List Nat} {k n : Nat} : (useR L B R k n).length ≤ 1 + maxR R := by
  unfold useR
  refine Nat.le_trans (List.length_filter_le _ _) ?_
  unfold stepsR
  rw [List.length_cons, List.length_map, prsR_len]
  omega
abbrev NNo : List Str := ["costs", "data", "prices", "ahead", "places", "fares", "at", "found", "many", "bits"]
theorem scNone : FnScope NNo ["costs", "data", "prices", "ahead"] (defScope sNone) := ⟨rfl, rfl, rfl, by decide +kernel, rfl, by decide +kernel, by decide +kernel⟩
theorem PrL.len12 {n : Nat} {L : List Int} (h : PrL n L) : Len12 L := fun x m => (h.2.1 x m).2
theorem askR {lead data : List Nat} {L B : List Int} (hall : ∀ k ∈ lead ++ data, k < 256) (hel : (lead ++ data).length ≤ 10000) (gL : PrL 273 L) (gB : PrL 11 B) : AskR lead data 0 data.length L B :=
  ⟨hall, hel, Nat.zero_le _, Nat.le_refl _, gL.1, gB.1, fun x m => (gL.2.1 x m).1, fun x m => (gB.2.1 x m).1, gL.len12, gB.len12⟩
section
variable {P : Program} {w : World} {K : PySem.W.Frag} {mg : Str → Option Value} {base : Heap} {C CP CF fCI fCL fCB fPI fPL fPP fPB fFI fFB fFC : Addr}
theorem ok_none (TC : PrTxt K mg C fCI fCL fCB) (T : PlTxt K mg CP fPI fPL fPP fPB) (TF : FaTxt K mg CF fFI fFB fFC) {f fS : Addr} {fd fdP fdFa fdS fdL fdB : FuncData} {j k1 k2 k3 k4 k5 : Nat} (F : Fun K "none_is_cheaper" "none_is_cheaper" sNone f fd)
    (GP : FnOk P w K mg base CX0 k1 fPI fdP ["self", "data", "ahead"] (spPlInit CP)) (bP : Binds K fdP ["self", "data", "ahead"] []) (l1 : k1 + 1 ≤ j)
    (GA : FnOk P w K mg base CX0 k2 fFI fdFa ["self", "letters", "backs"] (spFaInit CF)) (bA : Binds K fdFa ["self", "letters", "backs"] []) (l2 : k2 + 1 ≤ j)
    (GS : FnOk P w K mg base CX0 k3 fS fdS ["places", "fares", "at"] (spSteps CP CF)) (bS : Binds K fdS ["places", "fares", "at"] []) (kS : PySem.W.keepIn K (.ref fS) = true) (gS : mg "steps_at" = some (.ref fS)) (l3 : k3 ≤ j)
    (GL : FnOk P w K mg base CX0 k4 fCL fdL ["self"] (spPLet C)) (bL : Binds K fdL ["self"] []) (l4 : k4 ≤ j)
    (GB : FnOk P w K mg base CX0 k5 fCB fdB ["self"] (spPBk C)) (bB : Binds K fdB ["self"] []) (l5 : k5 ≤ j)
    (m1 : mg "range" = none) (m2 : mg "len" = none) (m3 : mg "min" = none) : FnOk P w K mg base CX0 (j + 1) f fd ["costs", "data", "prices", "ahead"] (spCheap C) := by
  refine F.ok scNone (fun vs H Q E h => ?_) (fun cdv A outer s H vs Q E hr h => ?_)
  · obtain ⟨pc, pp, cs, lead, data, L, B, rfl, _⟩ := h
    rfl
  · obtain ⟨pc, pp, cs, lead, data, L, B, rfl, hpc, hcl, hall, hel, hP, gL, gB, q⟩ := h
    have hz := PySem.sizeLine_eq
    have elen : (lead ++ data).length = lead.length + data.length := List.length_append
    have ed : (lead ++ data).length - lead.length = data.length := by omega
    have AS := askR hall (show (lead ++ data).length ≤ 10000 by omega) gL gB
    refine ⟨_, pss_cons (ps_set (i := 4) scNone.nd rfl (.inl rfl) (pe_make T.made GP (hr.mono l1) (by rfl) T.gC bP .nil pass0 (pa_cons (pv 1) (pa_cons (pv 3) pa_nil))))
      (pss_cons (ps_set (i := 5) scNone.nd rfl (.inl rfl) (pe_make TF.made GA (hr.mono l2) (by rfl) TF.gC bA .nil pass0 (pa_cons (pe_meth0 (pv 2) TC.cl TC.mL GL (hr.mono l4) bL .nil pass0) (pa_cons (pe_meth0 (pv 2) TC.cl TC.mB GB (hr.mono l5) bB .nil pass0) pa_nil))))
      (pss_cons (ps_for PassesOwn.never rfl (pi_range1 (by rfl) m1 (pa_cons (pe_callB call_len (by rfl) m2 PySem.boot_len (pa_cons (pv 1) pa_nil)) pa_nil)) (pg_name (i := 6) scNone.nd rfl (.inr rfl))
        (pss_cons (ps_setLc (i := 7) (own := [("many", 8), ("bits", 9)]) (g := gTup K 2 (gCons (gName 8) (gCons (gName 9) gNil))) (tt := _) rfl scNone.nd rfl rfl (sw_true rfl rfl rfl (by decide +kernel)) (pi_list (pe_call GS (hr.mono l3) (by rfl) gS kS bS .nil pass0 (pa_cons (pv 4) (pa_cons (pv 5) (pa_cons (pv 6) pa_nil))))) (blkOk_by (N := NNo) (sc := defScope sNone) (by decide +kernel))
          (fun _ _ _ _ _ => pg_tup rfl (pgs_cons (pg_name (i := 8) scNone.nd rfl (.inl rfl)) (pgs_cons (pg_name (i := 9) scNone.nd rfl (.inl rfl)) pgs_nil))) (fun _ _ _ _ _ => pts_one (pt_cmpR op_notN (pe_ix (ixL K) (pv 0) (pe_op op_add (pv 6) (pv 8)) (fun _ _ => rfl)) pe_non (nomark _))) (fun _ _ _ _ _ => pe_op op_add (pv 9) (pe_ix (ixL K) (pv 0) (pe_op op_add (pv 6) (pv 8)) (fun _ _ => rfl))))
        (pss_one (ps_if (PW.pt (pw_and (pt_truth (pv 7) (fun _ => rfl)) (pw_and1 (PW.pt (pw_or (pt_cmpR op_isN (pe_ix ix_list (pv 0) (pv 6) (fun _ _ => rfl)) pe_non (nomark _)) (pw_or1 (pt_cmpR op_lt (pe_callB (cr_min rfl) (by rfl) m3 (by decide +kernel) (pa_cons (pv 7) pa_nil)) (pe_ix ix_list (pv 0) (pv 6) (fun _ _ => rfl)) (nomark _)))))))) (pss_one (ps_ret pe_bl)) pss_nil))))
      (pss_one (ps_ret pe_bl)))), ?_⟩
    refine ⟨_, rfl, _, rfl, ?_⟩
    intro x dx nx nd ne
    refine ⟨x, dx, lead, data, rfl, upd_same, hall, by omega, fun H1 k1' hPl => ⟨rfl, ?_⟩⟩
    have s1 := make_same nx nd k1'
    dsimp only [gName]
    obtain ⟨dxp, pl', pb', hp0, _⟩ := id hP
    refine ⟨_, rfl, pp, dxp, _, rfl, s1 _ _ hp0, prF_noL _ _, pp, L, B, rfl, hP.same s1, fun H2 pl s2 npl hpl => ?_⟩
    have s12 := s1.trans s2
    refine ⟨_, rfl, pp, dxp, _, rfl, s12 _ _ hp0, prF_noB _ _, pp, L, B, rfl, hP.same s12, fun H3 pb s3 npb hpb => ?_⟩
    have s13 := s12.trans s3
    have hpl3 := s3 _ _ hpl
    intro y dy ny ndy ney
    have s1' : Same H3 (upd (upd H3 dy (.own y)) y (.ins CF dy [])) := fun b o e => by
      rw [upd_ne (ne_of_none e ny), upd_ne (ne_of_none e ndy)]
      exact e
    refine ⟨y, dy, pl, pb, L, B, rfl, upd_same, s1' _ _ hpl3, s1' _ _ hpb, gL.1, gB.1, fun H4 k2' hFa => ⟨rfl, ?_⟩⟩
    have s4 := make_same ny ndy k2'
    have hPl := hPl.same (s2.trans (s3.trans s4))
    have s14 := s13.trans s4
    clear s1' k1' k2' s1 s2 s3 s4 s12 s13
    dsimp only [gName]
    refine ⟨_, rfl, _, (byB data).size, rfl, ⟨by rw [byB_size]; omega, rfl⟩, _, rfl, by omega, (by rw [byB_size]; omega), ?_⟩
    have hn : (((byB data).size : Nat) : Int).toNat = data.length := by rw [byB_size]; omega
    refine for_range (lo := 0) (n := (((byB data).size : Nat) : Int).toNat) (fun i σ H' => ∃ (y6 y7 y8 y9 : Option V), σ = [some (.ref pc), some (.byt (byB data)), some (.ref pp), some (.byt (byB lead)), some (.ref x), some (.ref y), y6, y7, y8, y9] ∧ Same H4 H' ∧ ∀ p, p < i → ((itemsF (lead ++ data) (lead.length + p) (min 18 (data.length - p))).all fun it => !badItem cs L B p it) = true)
      ⟨_, _, _, _, rfl, Same.refl _, fun p h => by omega⟩ (fun i σ H' hi h => ?_) (fun σ H' h => ?_)
    · obtain ⟨y6, y7, y8, y9, rfl, sm, hp⟩ := h
      rw [hn] at hi
      refine ⟨_, rfl, _, rfl, _, rfl, x, y, lead, data, i, L, B, ?_, hPl.same sm, hFa.same sm, AS, hi, fun H5 r5 us R s5 nr5 hr5 hR hst => ?_⟩
      · rw [Int.zero_add]
        rfl
      have S := use_ok (n := data.length - i) AS.lnn AS.bnn AS.l12 AS.b12 hR (by omega) (by omega)
      have b1 := use_in (L := L) (B := B) (R := R) (k := (lead ++ data).getD (lead.length + i) 0) (n := data.length - i)
      have b2 := use_len (L := L) (B := B) (R := R) (k := (lead ++ data).getD (lead.length + i) 0) (n := data.length - i)
      have h18 := hR.max18
      generalize useR L B R ((lead ++ data).getD (lead.length + i) 0) (data.length - i) = steps at *
      have hpc5 := (s14.trans (sm.trans s5)) _ _ hpc
      refine ⟨r5, rfl, ⟨_, .inl (.inl hr5)⟩, fun D nD => ?_⟩
      have eul : us.length = steps.length := hst.length.symm
      refine lc_list (K := K) (a := r5) (xs := us) (fun t H' => Same H5 H' ∧ H' D = some (.lst ((foundF (steps.take t) (fun q => cs.getD q none) i).map V.int)) ∧ (foundF (steps.take t) (fun q => cs.getD q none) i).length ≤ t) ⟨same_upd nD, upd_same, Nat.le_refl _⟩ (fun t H' _ h => .inl (.inl (h.1 _ _ hr5))) (fun t xx H' hx h => ?_) (fun H6 h => ?_)
      · obtain ⟨sm6, hD, hfl⟩ := h
        have hi0 : t < us.length := (List.getElem?_eq_some_iff.mp hx).1
        have hi1 : t < steps.length := by omega
        obtain ⟨x', hx', hat⟩ := paired_get hst (List.getElem?_eq_getElem hi1)
        obtain rfl : x' = xx := Option.some.inj (hx'.symm.trans hx)
        have hsi : i + steps[t].1 < cs.length := by
          have := (b1 _ (List.getElem_mem hi1)).2
          omega
        have ef : foundF (steps.take (t + 1)) (fun q => cs.getD q none) i = foundF (steps.take t) (fun q => cs.getD q none) i ++ (match cs.getD (i + steps[t].1) none with
            | some r => [steps[t].2 + r]
            | none => []) := by
          rw [List.take_add_one, List.getElem?_eq_getElem hi1, found_app]
          exact congrArg _ (found_one _ _ _)
        rw [ef]
        generalize steps[t] = st at *
        obtain ⟨tc, rfl, htc⟩ := hat
        have hpc' := sm6 _ _ hpc5
        have ep : (0 : Int) + (i : Int) + (st.1 : Int) = ((i + st.1 : Nat) : Int) := by push_cast; omega
        have hat2 : atI (cs.map optV) ((0 : Int) + (i : Int) + (st.1 : Int)) = some (optV (cs.getD (i + st.1) none)) := opt_at ep hsi
        refine ⟨tc, _, rfl, .inl (.inl (sm6 _ _ htc)), rfl, _, _, rfl, _, _, rfl, rfl, ?_⟩
        refine ⟨rfl, _, rfl, _, rfl, _, rfl, _, _, rfl, rfl, pc, _, _, _, rfl, rfl, .inl (.inl hpc'), hat2, ?_⟩
        cases hc : cs.getD (i + st.1) none with
        | none =>
          rw [hc] at hat2
          refine ⟨rfl, _, rfl, iteF ⟨sm6, ?_, ?_⟩⟩
          · rw [List.append_nil]
            exact hD
          · rw [List.append_nil]
            omega
        | some r =>
          rw [hc] at hat2
          refine ⟨rfl, _, rfl, iteT ?_⟩
          refine ⟨_, rfl, _, rfl, _, rfl, _, rfl, _, _, rfl, rfl, pc, _, _, _, rfl, rfl, .inl (.inl hpc'), hat2, _, _, rfl, rfl, _, hD, (by rw [List.length_map]; omega), same_put sm6 nD, ?_, ?_⟩
          · rw [upd_same, List.map_append]
            rfl
          · rw [List.length_append]
            show _ + 1 ≤ _
            omega
      · obtain ⟨sm6, hD, hfl⟩ := h
        rw [eul, List.take_length] at hD hfl
        have s26 : Same H4 H6 := sm.trans (s5.trans sm6)
        have hpc6 := (s14.trans s26) _ _ hpc
        have hat : atI (cs.map optV) (0 + (i : Int)) = some (optV (cs.getD i none)) := opt_at (by omega) (by omega)
        have hca := cheap_at cs L B i (itemsF (lead ++ data) (lead.length + i) (min 18 (data.length - i)))
        have conc : ∀ o, FewIs (foundF steps (fun q => cs.getD q none) i) o → (isCheap o (cs.getD i none) = false → ∀ p, p < i + 1 → ((itemsF (lead ++ data) (lead.length + p) (min 18 (data.length - p))).all fun it => !badItem cs L B p it) = true) ∧ (isCheap o (cs.getD i none) = true → Q (.bl false) H6) := fun o ho => by
          have eo := few_is S ho
          rw [← eo] at hca
          refine ⟨fun z p hp' => ?_, fun z => ?_⟩
          · by_cases ep : p = i
            · subst ep
              rw [hca, z]
              rfl
            · exact hp p (by omega)
          · have := q H6 (s14.trans s26)
            have e0 : cheaperOk (lead ++ data) lead.length cs L B = false := by
              unfold cheaperOk
              rw [ed]
              refine List.all_eq_false.mpr ⟨i, List.mem_range.mpr hi, ?_⟩
              rw [hca, z]
              exact fun z => by cases z
            rw [e0] at this
            exact this
        dsimp only [gName]
        generalize foundF steps (fun q => cs.getD q none) i = fs at *
        refine ⟨_, rfl, _, .inl ⟨_, .inl (.inl hD), rfl⟩, ?_⟩
        cases fs with
        | nil => exact iteF (iteF ⟨_, _, _, _, rfl, s26, (conc none (.inl ⟨rfl, rfl⟩)).1 rfl⟩)
        | cons f0 fr =>
          refine iteT ?_
          cases hc : cs.getD i none with
          | none =>
            rw [hc] at hat conc
            obtain ⟨m, hm, hmin⟩ : ∃ m, m ∈ f0 :: fr ∧ ∀ y ∈ f0 :: fr, m ≤ y := min_of fr f0
            exact ⟨_, rfl, _, rfl, pc, _, _, _, rfl, rfl, .inl (.inl hpc6), hat, rfl, _, rfl, iteT (iteT ((conc (some m) (.inr ⟨m, rfl, hm, hmin⟩)).2 rfl))⟩
          | some c =>
            rw [hc] at hat conc
            refine ⟨_, rfl, _, rfl, pc, _, _, _, rfl, rfl, .inl (.inl hpc6), hat, rfl, _, rfl, iteF ?_⟩
            refine ⟨_, rfl, D, f0 :: fr, rfl, .inl (.inl hD), by simp, fun m hm hmin => ?_⟩
            have cc := conc (some m) (.inr ⟨m, rfl, hm, hmin⟩)
            refine ⟨_, rfl, _, rfl, pc, _, _, _, rfl, rfl, .inl (.inl hpc6), hat, _, _, rfl, rfl, _, rfl, ite2 (fun e1 => ?_) (fun e1 => ?_)⟩
            · exact cc.2 e1
            · exact ⟨_, _, _, _, rfl, s26, cc.1 (by simpa [isCheap] using e1)⟩
    · obtain ⟨y6, y7, y8, y9, rfl, sm, hp⟩ := h
      rw [hn] at hp
      have := q H' (s14.trans sm)
      have e0 : cheaperOk (lead ++ data) lead.length cs L B = true := by
        unfold cheaperOk
        rw [ed]
        exact List.all_eq_true.mpr fun p m => hp p (List.mem_range.mp m)
      rw [e0] at this
      exact this
end
end K4

namespace K4
open PySem PySem.Spec PyProof.Rows L2
/-! ### least -/
abbrev NLe : List Str := ["data", "prices", "ahead", "road", "costs"]
theorem scLeast : FnScope NLe ["data", "prices", "ahead"] (defScope sLeast) := ⟨rfl, rfl, rfl, by decide +kernel, rfl, by decide +kernel, by decide +kernel⟩
section
variable {P : Program} {w : World} {K : PySem.W.Frag} {mg : Str → Option Value} {base : Heap} {C CL CN CP CF CR fCI fCL fCB fPI fPL fPP fPB fFI fFB fFC fRI fRT fRS fRR fRC fLI fLS fNI fNS : Addr}
theorem ok_least (TC : PrTxt K mg C fCI fCL fCB) (T : PlTxt K mg CP fPI fPL fPP fPB) (TF : FaTxt K mg CF fFI fFB fFC) (TR : RoTxt K mg CR fRI fRT fRS fRR fRC) (TL : AnsTxt K mg "Least" CL fLI fLS) (TN : AnsTxt K mg "Never" CN fNI fNS) {f fA : Addr} {fd fdA fdP fdFa fdRI fdRR fdRC fdL fdB fdLI fdNI : FuncData} {j k1 k2 k3 k4 k5 k6 k7 k8 k9 k10 : Nat} {t1 t2 : Tok} (F : Fun K "least" "least" sLeast f fd)
    (GA : FnOk P w K mg base CX0 k1 fA fdA ["told", "most"] spAreBytes) (bA : Binds K fdA ["told", "most"] []) (kA : PySem.W.keepIn K (.ref fA) = true) (gA : mg "are_bytes" = some (.ref fA)) (l1 : k1 ≤ j)
    (GP : FnOk P w K mg base CX0 k2 fPI fdP ["self", "data", "ahead"] (spPlInit CP)) (bP : Binds K fdP ["self", "data", "ahead"] []) (l2 : k2 + 1 ≤ j)
    (GF : FnOk P w K mg base CX0 k3 fFI fdFa ["self", "letters", "backs"] (spFaInit CF)) (bF : Binds K fdFa ["self", "letters", "backs"] []) (l3 : k3 + 1 ≤ j)
    (GRI : FnOk P w K mg base CX0 k4 fRI fdRI ["self", "places", "fares", "start", "end"] (spRoInit CP CF CR)) (bRI : Binds K fdRI ["self", "places", "fares", "start", "end"] []) (l4 : k4 + 1 ≤ j)
    (GRC : FnOk P w K mg base CX0 k5 fRC fdRC ["self"] (spRoTold CP CF CR)) (bRC : Binds K fdRC ["self"] []) (l5 : k5 ≤ j)
    (GRR : FnOk P w K mg base CX0 k6 fRR fdRR ["self", "start"] (spRoRow CP CF CR)) (bRR : Binds K fdRR ["self", "start"] []) (l6 : k6 ≤ j)
    (GL : FnOk P w K mg base CX0 k7 fCL fdL ["self"] (spPLet C)) (bL : Binds K fdL ["self"] []) (l7 : k7 ≤ j)
    (GB : FnOk P w K mg base CX0 k8 fCB fdB ["self"] (spPBk C)) (bB : Binds K fdB ["self"] []) (l8 : k8 ≤ j)
    (GLI : FnOk P w K mg base CX0 k9 fLI fdLI ["self", "row", "costs"] (spLInit CL)) (bLI : Binds K fdLI ["self", "row", "costs"] []) (l9 : k9 + 1 ≤ j)
    (GNI : FnOk P w K mg base CX0 k10 fNI fdNI ["self", "costs"] (spNInit CN)) (bNI : Binds K fdNI ["self", "costs"] []) (l10 : k10 + 1 ≤ j)
    (m1 : mg "isinstance" = none) (m2 : mg "len" = none) (c1 : mg "MOST_BYTES" = some (.int 2000 t1)) (c2 : mg "MOST_AHEAD" = some (.int 4096 t2)) :
    FnOk P w K mg base CX0 (j + 1) f fd ["data", "prices", "ahead"] (spLeast CL CN C) := by
  refine F.ok scLeast (fun vs H Q E h => ?_) (fun cdv A outer s H vs Q E hr h => ?_)
  · obtain ⟨pp, lead, data, L, B, rfl, _⟩ := h
    rfl
  · obtain ⟨pp, lead, data, L, B, rfl, hall, hel, hP, gL, gB, q⟩ := h
    have hz := PySem.sizeLine_eq
    have elen : (lead ++ data).length = lead.length + data.length := List.length_append
    have AS := askR hall (show (lead ++ data).length ≤ 10000 by omega) gL gB
    refine ⟨_, pss_cons (ps_if (PW.pt (pw_or (pt_not (pt_val (pe_call GA (hr.mono l1) (by rfl) gA kA bA .nil pass0 (pa_cons (pv 0) (pa_cons (pe_glob (v := .int 2000) rfl c1 ⟨_, rfl⟩) pa_nil))))) (pw_or1 (pt_not (pt_val (pe_call GA (hr.mono l1) (by rfl) gA kA bA .nil pass0 (pa_cons (pv 2) (pa_cons (pe_glob (v := .int 4096) rfl c2 ⟨_, rfl⟩) pa_nil)))))))) (pss_one ps_never) pss_nil)
      (pss_cons (ps_if (pt_not (pt_val (pe_callB call_isi (by rfl) m1 (by decide +kernel) (pa_cons (pv 1) (pa_cons (pe_glob (v := .ref C) (by rfl) TC.gC rfl) pa_nil))))) (pss_one ps_never) pss_nil)
      (pss_cons (ps_set (i := 3) scLeast.nd rfl (.inl rfl) (pe_make TR.made GRI (hr.mono l4) (by rfl) TR.gC bRI .nil pass0 (pa_cons (pe_make T.made GP (hr.mono l2) (by rfl) T.gC bP .nil pass0 (pa_cons (pv 0) (pa_cons (pv 2) pa_nil)))
          (pa_cons (pe_make TF.made GF (hr.mono l3) (by rfl) TF.gC bF .nil pass0 (pa_cons (pe_meth0 (pv 1) TC.cl TC.mL GL (hr.mono l7) bL .nil pass0) (pa_cons (pe_meth0 (pv 1) TC.cl TC.mB GB (hr.mono l8) bB .nil pass0) pa_nil)))
          (pa_cons pe_int (pa_cons (pe_callB call_len (by rfl) m2 PySem.boot_len (pa_cons (pv 0) pa_nil)) pa_nil))))))
      (pss_cons (ps_set (i := 4) scLeast.nd rfl (.inl rfl) (pe_meth0 (pv 3) TR.cl TR.mC GRC (hr.mono l5) bRC .nil pass0))
      (pss_cons (ps_if (pt_cmpR op_isN (pe_ix ix_list (pv 4) pe_int (fun _ _ => rfl)) pe_non (nomark _)) (pss_one (ps_ret (pe_make TN.made GNI (hr.mono l10) (by rfl) TN.gC bNI .nil pass0 (pa_cons (pv 4) pa_nil)))) pss_nil)
      (pss_one (ps_ret (pe_make TL.made GLI (hr.mono l9) (by rfl) TL.gC bLI .nil pass0 (pa_cons (pe_meth (pv 3) TR.cl TR.mR GRR (hr.mono l6) bRR .nil pass0 (pa_cons pe_int pa_nil)) (pa_cons (pv 4) pa_nil))))))))), ?_⟩
    refine ⟨_, rfl, byB data, 2000, rfl, (by rw [byB_size]; omega), _, rfl, ?_⟩
    rw [byB_size, decide_eq_true (show data.length ≤ 2000 by omega)]
    refine iteF ⟨_, rfl, byB lead, 4096, rfl, (by rw [byB_size]; omega), _, rfl, ?_⟩
    rw [byB_size, decide_eq_true (show lead.length ≤ 4096 by omega)]
    refine iteF ?_
    obtain ⟨dxp, pl', pb', hp0, hp1, hp2⟩ := id hP
    refine ⟨_, rfl, _, _, .ref C, .ref C, true, rfl, .own C, .base (TC.ity hp0), TC.isC, _, rfl, iteF ?_⟩
    refine ⟨_, rfl, _, rfl, ?_⟩
    intro x dx nx nd ne
    refine ⟨x, dx, lead, data, rfl, upd_same, hall, by omega, fun H1 k1' hPl => ⟨rfl, ?_⟩⟩
    have s1 := make_same nx nd k1'
    refine ⟨_, rfl, pp, dxp, _, rfl, s1 _ _ hp0, prF_m _ _, pp, L, B, rfl, hP.same s1, fun H2 pl s2 npl hpl => ?_⟩
    have s12 := s1.trans s2
    refine ⟨_, rfl, pp, dxp, _, rfl, s12 _ _ hp0, prF_n _ _, pp, L, B, rfl, hP.same s12, fun H3 pb s3 npb hpb => ?_⟩
    have s13 := s12.trans s3
    have hpl3 := s3 _ _ hpl
    intro y dy ny ndy ney
    have s1' : Same H3 (upd (upd H3 dy (.own y)) y (.ins CF dy [])) := fun b o e => by
      rw [upd_ne (ne_of_none e ny), upd_ne (ne_of_none e ndy)]
      exact e
    refine ⟨y, dy, pl, pb, L, B, rfl, upd_same, s1' _ _ hpl3, s1' _ _ hpb, gL.1, gB.1, fun H4 k2' hFa => ⟨rfl, ?_⟩⟩
    have s4 := make_same ny ndy k2'
    have hPl := hPl.same (s2.trans (s3.trans s4))
    have s14 := s13.trans s4
    clear s1' k1' k2' s1 s2 s3 s4 s12 s13
    refine ⟨_, rfl, _, (byB data).size, rfl, ⟨by rw [byB_size]; omega, rfl⟩, ?_⟩
    intro z dz nz ndz nez
    have s1' : Same H4 (upd (upd H4 dz (.own z)) z (.ins CR dz [])) := fun b o e => by
      rw [upd_ne (ne_of_none e nz), upd_ne (ne_of_none e ndz)]
      exact e
    refine ⟨z, dz, x, y, lead, data, 0, data.length, L, B, ?_, upd_same, hPl.same s1', hFa.same s1', AS, fun H5 d k3' ndz' nd5 hRo => ⟨rfl, ?_⟩⟩
    · rw [byB_size]
      rfl
    have s5 := make_same nz ndz k3'
    have s15 := s14.trans s5
    have nd0 : H d = none := none_back (s14.trans s1') nd5
    clear s1' k3' s5
    dsimp only [gName]
    have hRo0 := hRo
    obtain ⟨dz', a', b', c', cs', kvs', hz0, _, _, _, _, hd0, _⟩ := hRo0
    refine ⟨_, rfl, z, dz', _, rfl, hz0, roF_no _ _ _ _ _ (by decide +kernel) (by decide +kernel) (by decide +kernel) (by decide +kernel) (by decide +kernel), z, d, lead, data, data.length, L, B, rfl, hRo, AS, fun H6 p s6 np hp => ?_⟩
    have s16 := s15.trans s6
    have hcl := costsF_len (lead ++ data) lead.length data.length L B
    have hat : atI ((costsF (lead ++ data) lead.length data.length L B).map optV) 0 = some (optV (tab (lead ++ data) lead.length data.length L B data.length 0).1) := by
      rw [← costsF_at (Nat.zero_le _)]
      exact opt_at (k := 0) rfl (by omega)
    dsimp only [gName]
    have fin : ∀ H' a, Same H H' → H a = none → AnsAt CL CN H' a lead data L B → Q (.ref a) H' := q
    unfold AnsAt at fin
    cases h0 : (tab (lead ++ data) lead.length data.length L B data.length 0).1 with
    | none =>
      rw [h0] at hat
      refine ⟨_, rfl, p, _, 0, _, rfl, rfl, .inl (.inl hp), hat, rfl, _, rfl, iteT ?_⟩
      refine ⟨_, rfl, ?_⟩
      intro z2 dz2 nz2 ndz2 nez2
      have s7' : Same H6 (upd (upd H6 dz2 (.own z2)) z2 (.ins CN dz2 [])) := fun b o e => by
        rw [upd_ne (ne_of_none e nz2), upd_ne (ne_of_none e ndz2)]
        exact e
      refine ⟨z2, dz2, p, _, rfl, upd_same, s7' _ _ hp, by omega, fun H7 k4' hN => ⟨rfl, ?_⟩⟩
      have s7 := make_same nz2 ndz2 k4'
      refine fin H7 z2 (s16.trans s7) (none_back s16 nz2) ?_
      rw [h0, if_pos rfl]
      exact hN
    | some c =>
      rw [h0] at hat
      refine ⟨_, rfl, p, _, 0, _, rfl, rfl, .inl (.inl hp), hat, rfl, _, rfl, iteF ?_⟩
      have hne : (tab (lead ++ data) lead.length data.length L B data.length 0).1 ≠ none := by
        rw [h0]
        exact fun z => by cases z
      obtain ⟨_, _, _, hrl⟩ := row_says (e := lead ++ data) (lead := lead.length) (en := data.length) (L := L) (B := B) hall (by omega) data.length 0 (Nat.zero_le _) (by omega) hne
      refine ⟨_, rfl, z, dz', _, rfl, s6 _ _ hz0, roF_no _ _ _ _ _ (by decide +kernel) (by decide +kernel) (by decide +kernel) (by decide +kernel) (by decide +kernel), z, d, lead, data, 0, data.length, 0, L, B, rfl, hRo.same s6, AS, Nat.le_refl _, Nat.zero_le _, fun _ => hne, fun H7 r us kb nr hRo7 hr7 hrow => ?_⟩
      rw [Nat.sub_zero] at hrow
      have npd : p ≠ d := ne_of hp (s6 _ _ hd0) (fun z => nomatch z)
      have hp7 := kb _ _ npd hp
      have s17 : Same H H7 := fun u o e => kb _ _ (fun z => by rw [z, nd0] at e; cases e) (s16 _ _ e)
      refine ⟨_, rfl, ?_⟩
      intro z2 dz2 nz2 ndz2 nez2
      have s8' : Same H7 (upd (upd H7 dz2 (.own z2)) z2 (.ins CL dz2 [])) := fun b o e => by
        rw [upd_ne (ne_of_none e nz2), upd_ne (ne_of_none e ndz2)]
        exact e
      refine ⟨z2, dz2, r, p, us, _, _, rfl, upd_same, s8' _ _ hr7, row_same hrow s8', by omega, s8' _ _ hp7, by omega, fun H8 k5' hLs => ⟨rfl, ?_⟩⟩
      have s8 := make_same nz2 ndz2 k5'
      refine fin H8 z2 (s17.trans s8) (none_back s17 nz2) ?_
      rw [h0, if_neg (fun z => by cases z)]
      exact hLs
end
end K4

namespace K4
open PySem PySem.Spec PyProof.Rows L2
def qBI : Nat → Pos
  | 0 => ⟨13, 8, 13, 13⟩
  | 1 => ⟨13, 8, 13, 15⟩
  | 2 => ⟨13, 8, 13, 24⟩
  | 3 => ⟨13, 27, 13, 52⟩
  | 4 => ⟨13, 53, 13, 55⟩
  | 5 => ⟨13, 52, 13, 56⟩
  | 6 => ⟨13, 25, 13, 57⟩
  | 7 => ⟨13, 8, 13, 58⟩
  | 8 => ⟨13, 8, 13, 58⟩
  | 9 => ⟨14, 8, 14, 12⟩
  | 10 => ⟨14, 8, 14, 15⟩
  | 11 => ⟨14, 18, 14, 20⟩
  | 12 => ⟨14, 8, 14, 20⟩
  | _ => ⟨13, 8, 13, 13⟩
theorem exm_own {K : PySem.W.Frag} {S : Addr} (h1 : PySem.W.subIn K (.ref S) (.type "BaseException") = some true) (h2 : PySem.W.isClsIn K S = true) (h3 : PySem.W.typeIn K (.ref S) = some (.type "type")) (h4 : PySem.W.subIn K (.ref S) (.ref S) = some true) : PySem.W.exmOne K (.ref S) (.ref S) = some true := by
  have a : (PySem.W.subIn K (.ref S) (.type "BaseException") == some true) = true := by rw [h1]; rfl
  have b : ((PySem.W.clsIn K S).isSome && PySem.W.typeIn K (.ref S) == some (.type "type")) = true := by
    rw [show (PySem.W.clsIn K S).isSome = true from h2, h3]; rfl
  exact (if_pos a).trans ((if_pos b).trans h4)
theorem qBI_ok : SX.SxPos qBI := fun env o es pe => ⟨_, rfl⟩
theorem sqt_of {K : PySem.W.Frag} {H : Hp} {a : Addr} {dd : Option Addr} {its : Array Value} {n : Nat} {sl : Array (Option Value)} {xs : List V} (h : K.lookup a = some ⟨.type "tuple", dd, .seq its n, sl⟩) (z : its.size ≤ sizeLine) (r : Vals xs its.toList) : SqT K H a xs :=
  .inr ⟨_, its, n, h, rfl, rfl, z, r⟩
theorem kb_lS {K : PySem.W.Frag} {f : Addr} {fd : FuncData} (F : Fun K "shows" "Least.shows" sLShows f fd) : kbS K fd := by
  obtain ⟨oc, od, kV, doc, pm, an, cdv, ct, osl, rfl, lk, hcd⟩ := F.ex
  refine ⟨fun s us ws X h1 h2 => ?_, fun r1 r2 => r1.append r2⟩
  match us, h1, ws, h2 with
  | [a, b, c], _, [x], _ => exact BindsTo.of_eq rfl
theorem kb_nS {K : PySem.W.Frag} {f : Addr} {fd : FuncData} (F : Fun K "shows" "Never.shows" sNShows f fd) : kbS K fd := by
  obtain ⟨oc, od, kV, doc, pm, an, cdv, ct, osl, rfl, lk, hcd⟩ := F.ex
  refine ⟨fun s us ws X h1 h2 => ?_, fun r1 r2 => r1.append r2⟩
  match us, h1, ws, h2 with
  | [a, b, c], _, [x], _ => exact BindsTo.of_eq rfl
theorem kb_le {K : PySem.W.Frag} {f : Addr} {fd : FuncData} (F : Fun K "least" "least" sLeast f fd) : kbL K fd := by
  obtain ⟨oc, od, kV, doc, pm, an, cdv, ct, osl, rfl, lk, hcd⟩ := F.ex
  refine ⟨fun s us ws X h1 h2 => ?_, fun r1 r2 => r1.append r2⟩
  match us, h1, ws, h2 with
  | [a, b], _, [x], _ => exact BindsTo.of_eq rfl
theorem far_of {K : PySem.W.Frag} {mg : Str → Option Value} {T : Addr} {d : Option Addr} {n : Nat} {s : Array (Option Value)} {x0 x1 x2 x3 x4 x5 x6 x7 x8 x9 x10 : Tok} (g : mg "FARTHEST_BACKS" = some (.ref T)) (h : K.lookup T = some ⟨.type "tuple", d, .seq #[.int 1 x0, .int 3 x1, .int 7 x2, .int 15 x3, .int 31 x4, .int 63 x5, .int 127 x6, .int 255 x7, .int 511 x8, .int 1023 x9, .int 1024 x10] n, s⟩) : FarTab K mg := by
  have hz := PySem.sizeLine_eq
  exact ⟨T, g, fun H => sqt_of h (by rw [hz]; show 11 ≤ 16777216; decide) (.cons ⟨_, rfl⟩ (.cons ⟨_, rfl⟩ (.cons ⟨_, rfl⟩ (.cons ⟨_, rfl⟩ (.cons ⟨_, rfl⟩ (.cons ⟨_, rfl⟩ (.cons ⟨_, rfl⟩ (.cons ⟨_, rfl⟩ (.cons ⟨_, rfl⟩ (.cons ⟨_, rfl⟩ (.cons ⟨_, rfl⟩ (.nil))))))))))))⟩
theorem all_mk {l : PySem.W.OpenLaw} {w : World} {K : PySem.W.Frag} {h : Heap} {mg : Str → Option Value} {fa : Addr} (X : K.In h) (G : h.Ns mainGlobals mg) (hfa : mg "law" = some (.ref fa))
    {f0 f1 f2 f3 f4 f5 f6 f7 f8 f9 f10 f11 f12 f13 f14 f15 f16 f17 f18 f19 f20 f21 f22 f23 f24 f25 f26 f27 f28 f29 f30 f31 f32 f33 f34 f35 f36 f37 f38 f39 f40 f41 f42 f43 f44 f45 f46 f47 f48 f49 f50 f51 f52 f53 f54 f55 f56 f57 f58 f59 f60 C_Prices C_Places C_Fares C_Road C_Least C_Never CI CP fE cda cc xN TFB : Addr} {od0 an0 od1 an1 od2 an2 od3 an3 od4 an4 od5 an5 od6 an6 od7 an7 od8 an8 od9 an9 od10 an10 od11 an11 od12 an12 od13 an13 od14 an14 od15 an15 od16 an16 od17 an17 od18 an18 od19 an19 od20 an20 od21 an21 od22 an22 od23 an23 od24 an24 od25 an25 od26 an26 od27 an27 od28 an28 od29 an29 od30 an30 od31 an31 od32 an32 od33 an33 od34 an34 od35 an35 od36 an36 od37 an37 od38 an38 od39 an39 od40 an40 od41 an41 od42 an42 od43 an43 od44 an44 od45 an45 od46 an46 od47 an47 od48 an48 od49 an49 od50 an50 od51 an51 od52 an52 od53 an53 od54 an54 od55 an55 od56 an56 od57 an57 od58 an58 od59 an59 od60 an60 xdd odE anE cdd xcld fbd : Option Addr} {sl0 sl1 sl2 sl3 sl4 sl5 sl6 sl7 sl8 sl9 sl10 sl11 sl12 sl13 sl14 sl15 sl16 sl17 sl18 sl19 sl20 sl21 sl22 sl23 sl24 sl25 sl26 sl27 sl28 sl29 sl30 sl31 sl32 sl33 sl34 sl35 sl36 sl37 sl38 sl39 sl40 sl41 sl42 sl43 sl44 sl45 sl46 sl47 sl48 sl49 sl50 sl51 sl52 sl53 sl54 sl55 sl56 sl57 sl58 sl59 sl60 slE ccs xcsl fbs : Array (Option Value)} {oc0 kV0 dc0 pm0 ct0 cd0 oc1 kV1 dc1 pm1 ct1 cd1 oc2 kV2 dc2 pm2 ct2 cd2 oc3 kV3 dc3 pm3 ct3 cd3 oc4 kV4 dc4 pm4 ct4 cd4 oc5 kV5 dc5 pm5 ct5 cd5 oc6 kV6 dc6 pm6 ct6 cd6 oc7 kV7 dc7 pm7 ct7 cd7 oc8 kV8 dc8 pm8 ct8 cd8 oc9 kV9 dc9 pm9 ct9 cd9 oc10 kV10 dc10 pm10 ct10 cd10 oc11 kV11 dc11 pm11 ct11 cd11 oc12 kV12 dc12 pm12 ct12 cd12 oc13 kV13 dc13 pm13 ct13 cd13 oc14 kV14 dc14 pm14 ct14 cd14 oc15 kV15 dc15 pm15 ct15 cd15 oc16 kV16 dc16 pm16 ct16 cd16 oc17 kV17 dc17 pm17 ct17 cd17 oc18 kV18 dc18 pm18 ct18 cd18 oc19 kV19 dc19 pm19 ct19 cd19 oc20 kV20 dc20 pm20 ct20 cd20 oc21 kV21 dc21 pm21 ct21 cd21 oc22 kV22 dc22 pm22 ct22 cd22 oc23 kV23 dc23 pm23 ct23 cd23 oc24 kV24 dc24 pm24 ct24 cd24 oc25 kV25 dc25 pm25 ct25 cd25 oc26 kV26 dc26 pm26 ct26 cd26 oc27 kV27 dc27 pm27 ct27 cd27 oc28 kV28 dc28 pm28 ct28 cd28 oc29 kV29 dc29 pm29 ct29 cd29 oc30 kV30 dc30 pm30 ct30 cd30 oc31 kV31 dc31 pm31 ct31 cd31 oc32 kV32 dc32 pm32 ct32 cd32 oc33 kV33 dc33 pm33 ct33 cd33 oc34 kV34 dc34 pm34 ct34 cd34 oc35 kV35 dc35 pm35 ct35 cd35 oc36 kV36 dc36 pm36 ct36 cd36 oc37 kV37 dc37 pm37 ct37 cd37 oc38 kV38 dc38 pm38 ct38 cd38 oc39 kV39 dc39 pm39 ct39 cd39 oc40 kV40 dc40 pm40 ct40 cd40 oc41 kV41 dc41 pm41 ct41 cd41 oc42 kV42 dc42 pm42 ct42 cd42 oc43 kV43 dc43 pm43 ct43 cd43 oc44 kV44 dc44 pm44 ct44 cd44 oc45 kV45 dc45 pm45 ct45 cd45 oc46 kV46 dc46 pm46 ct46 cd46 oc47 kV47 dc47 pm47 ct47 cd47 oc48 kV48 dc48 pm48 ct48 cd48 oc49 kV49 dc49 pm49 ct49 cd49 oc50 kV50 dc50 pm50 ct50 cd50 oc51 kV51 dc51 pm51 ct51 cd51 oc52 kV52 dc52 pm52 ct52 cd52 oc53 kV53 dc53 pm53 ct53 cd53 oc54 kV54 dc54 pm54 ct54 cd54 oc55 kV55 dc55 pm55 ct55 cd55 oc56 kV56 dc56 pm56 ct56 cd56 oc57 kV57 dc57 pm57 ct57 cd57 oc58 kV58 dc58 pm58 ct58 cd58 oc59 kV59 dc59 pm59 ct59 cd59 oc60 kV60 dc60 pm60 ct60 cd60 ocE dcE pmE ctE ccl xcl : Value} {tS xtf fx0 fx1 fx2 fx3 fx4 fx5 fx6 fx7 fx8 fx9 fx10 tv_LONGEST tv_LETTERS tv_BACKS tv_FEWEST_COPIED tv_MOST_COPIED tv_FARTHEST tv_AHEAD_OF_COPIES tv_MOST_AHEAD tv_FAR tv_MOST_BYTES : Tok} {xvs : Array Value} {xfile xnm xq : Str} {xbs xsub : List Value} {xsn : List Str} {xab : Bool} {xcol : Option Bool} {y0 y1 y2 y3 y5 : Option Value} {fbn : Nat}
    (a0 : PySem.W.nsIn K mainGlobals "is_whole" = some (some (.ref f0))) (l0 : K.lookup f0 = some ⟨oc0, od0, .func (PySem.W.fnOf "is_whole" "is_whole" (defArgs sWhole) (defBody sWhole) (defScope sWhole) .none kV0 dc0 pm0 an0 cd0 ct0), sl0⟩) (c0 : PySem.W.codeIn K cd0 "is_whole" = true) (k0 : PySem.W.keepIn K (.ref f0) = true)
    (a1 : PySem.W.nsIn K mainGlobals "is_number" = some (some (.ref f1))) (l1 : K.lookup f1 = some ⟨oc1, od1, .func (PySem.W.fnOf "is_number" "is_number" (defArgs sIsNum) (defBody sIsNum) (defScope sIsNum) .none kV1 dc1 pm1 an1 cd1 ct1), sl1⟩) (c1 : PySem.W.codeIn K cd1 "is_number" = true) (k1 : PySem.W.keepIn K (.ref f1) = true)
    (a2 : PySem.W.nsIn K mainGlobals "are_numbers" = some (some (.ref f2))) (l2 : K.lookup f2 = some ⟨oc2, od2, .func (PySem.W.fnOf "are_numbers" "are_numbers" (defArgs sAreNum) (defBody sAreNum) (defScope sAreNum) .none kV2 dc2 pm2 an2 cd2 ct2), sl2⟩) (c2 : PySem.W.codeIn K cd2 "are_numbers" = true) (k2 : PySem.W.keepIn K (.ref f2) = true)
    (a3 : PySem.W.nsIn K mainGlobals "_law_cell_at" = some (some (.ref f3))) (l3 : K.lookup f3 = some ⟨oc3, od3, .func (PySem.W.fnOf "_law_cell_at" "_law_cell_at" (defArgs sCell) (defBody sCell) (defScope sCell) .none kV3 dc3 pm3 an3 cd3 ct3), sl3⟩) (c3 : PySem.W.codeIn K cd3 "_law_cell_at" = true) (k3 : PySem.W.keepIn K (.ref f3) = true)
    (a4 : PySem.W.nsIn K mainGlobals "_law_numbers" = some (some (.ref f4))) (l4 : K.lookup f4 = some ⟨oc4, od4, .func (PySem.W.fnOf "_law_numbers" "_law_numbers" (defArgs sNums) (defBody sNums) (defScope sNums) .none kV4 dc4 pm4 an4 cd4 ct4), sl4⟩) (c4 : PySem.W.codeIn K cd4 "_law_numbers" = true) (k4 : PySem.W.keepIn K (.ref f4) = true)
    (a5 : PySem.W.nsIn K mainGlobals "of_hex" = some (some (.ref f5))) (l5 : K.lookup f5 = some ⟨oc5, od5, .func (PySem.W.fnOf "of_hex" "of_hex" (defArgs sOfHex) (defBody sOfHex) (defScope sOfHex) .none kV5 dc5 pm5 an5 cd5 ct5), sl5⟩) (c5 : PySem.W.codeIn K cd5 "of_hex" = true) (k5 : PySem.W.keepIn K (.ref f5) = true)
    (a6 : PySem.W.nsIn K mainGlobals "_law_hex" = some (some (.ref f6))) (l6 : K.lookup f6 = some ⟨oc6, od6, .func (PySem.W.fnOf "_law_hex" "_law_hex" (defArgs sHex) (defBody sHex) (defScope sHex) .none kV6 dc6 pm6 an6 cd6 ct6), sl6⟩) (c6 : PySem.W.codeIn K cd6 "_law_hex" = true) (k6 : PySem.W.keepIn K (.ref f6) = true)
    (a7 : PySem.W.nsIn K mainGlobals "_law_back" = some (some (.ref f7))) (l7 : K.lookup f7 = some ⟨oc7, od7, .func (PySem.W.fnOf "_law_back" "_law_back" (defArgs sBack) (defBody sBack) (defScope sBack) .none kV7 dc7 pm7 an7 cd7 ct7), sl7⟩) (c7 : PySem.W.codeIn K cd7 "_law_back" = true) (k7 : PySem.W.keepIn K (.ref f7) = true)
    (a8 : PySem.W.nsIn K mainGlobals "_law_told_lengths" = some (some (.ref f8))) (l8 : K.lookup f8 = some ⟨oc8, od8, .func (PySem.W.fnOf "_law_told_lengths" "_law_told_lengths" (defArgs sTold) (defBody sTold) (defScope sTold) .none kV8 dc8 pm8 an8 cd8 ct8), sl8⟩) (c8 : PySem.W.codeIn K cd8 "_law_told_lengths" = true) (k8 : PySem.W.keepIn K (.ref f8) = true)
    (a9 : PySem.W.nsIn K mainGlobals "_law_cost" = some (some (.ref f9))) (l9 : K.lookup f9 = some ⟨oc9, od9, .func (PySem.W.fnOf "_law_cost" "_law_cost" (defArgs sCost) (defBody sCost) (defScope sCost) .none kV9 dc9 pm9 an9 cd9 ct9), sl9⟩) (c9 : PySem.W.codeIn K cd9 "_law_cost" = true) (k9 : PySem.W.keepIn K (.ref f9) = true)
    (a10 : PySem.W.nsIn K mainGlobals "_law_data" = some (some (.ref f10))) (l10 : K.lookup f10 = some ⟨oc10, od10, .func (PySem.W.fnOf "_law_data" "_law_data" (defArgs sData) (defBody sData) (defScope sData) .none kV10 dc10 pm10 an10 cd10 ct10), sl10⟩) (c10 : PySem.W.codeIn K cd10 "_law_data" = true) (k10 : PySem.W.keepIn K (.ref f10) = true)
    (a11 : PySem.W.nsIn K mainGlobals "are_good" = some (some (.ref f11))) (l11 : K.lookup f11 = some ⟨oc11, od11, .func (PySem.W.fnOf "are_good" "are_good" (defArgs sAreGood) (defBody sAreGood) (defScope sAreGood) .none kV11 dc11 pm11 an11 cd11 ct11), sl11⟩) (c11 : PySem.W.codeIn K cd11 "are_good" = true) (k11 : PySem.W.keepIn K (.ref f11) = true)
    (a12 : PySem.W.nsIn K mainGlobals "are_prices" = some (some (.ref f12))) (l12 : K.lookup f12 = some ⟨oc12, od12, .func (PySem.W.fnOf "are_prices" "are_prices" (defArgs sAreP) (defBody sAreP) (defScope sAreP) .none kV12 dc12 pm12 an12 cd12 ct12), sl12⟩) (c12 : PySem.W.codeIn K cd12 "are_prices" = true) (k12 : PySem.W.keepIn K (.ref f12) = true)
    (a13 : PySem.W.nsIn K mainGlobals "back_of" = some (some (.ref f13))) (l13 : K.lookup f13 = some ⟨oc13, od13, .func (PySem.W.fnOf "back_of" "back_of" (defArgs sBackOf) (defBody sBackOf) (defScope sBackOf) .none kV13 dc13 pm13 an13 cd13 ct13), sl13⟩) (c13 : PySem.W.codeIn K cd13 "back_of" = true) (k13 : PySem.W.keepIn K (.ref f13) = true)
    (m14 : PySem.W.findIn K (.ref C_Prices) "__init__" = some (some (.ref f14))) (n14 : PySem.W.isFn K (.ref f14) = true) (l14 : K.lookup f14 = some ⟨oc14, od14, .func (PySem.W.fnOf "__init__" "Prices.__init__" (defArgs sPInit) (defBody sPInit) (defScope sPInit) .none kV14 dc14 pm14 an14 cd14 ct14), sl14⟩) (c14 : PySem.W.codeIn K cd14 "Prices.__init__" = true) (k14 : PySem.W.keepIn K (.ref f14) = true)
    (m15 : PySem.W.findIn K (.ref C_Prices) "letters" = some (some (.ref f15))) (n15 : PySem.W.isFn K (.ref f15) = true) (l15 : K.lookup f15 = some ⟨oc15, od15, .func (PySem.W.fnOf "letters" "Prices.letters" (defArgs sPLet) (defBody sPLet) (defScope sPLet) .none kV15 dc15 pm15 an15 cd15 ct15), sl15⟩) (c15 : PySem.W.codeIn K cd15 "Prices.letters" = true) (k15 : PySem.W.keepIn K (.ref f15) = true)
    (m16 : PySem.W.findIn K (.ref C_Prices) "backs" = some (some (.ref f16))) (n16 : PySem.W.isFn K (.ref f16) = true) (l16 : K.lookup f16 = some ⟨oc16, od16, .func (PySem.W.fnOf "backs" "Prices.backs" (defArgs sPBk) (defBody sPBk) (defScope sPBk) .none kV16 dc16 pm16 an16 cd16 ct16), sl16⟩) (c16 : PySem.W.codeIn K cd16 "Prices.backs" = true) (k16 : PySem.W.keepIn K (.ref f16) = true)
    (a17 : PySem.W.nsIn K mainGlobals "is_item" = some (some (.ref f17))) (l17 : K.lookup f17 = some ⟨oc17, od17, .func (PySem.W.fnOf "is_item" "is_item" (defArgs sIsItem) (defBody sIsItem) (defScope sIsItem) .none kV17 dc17 pm17 an17 cd17 ct17), sl17⟩) (c17 : PySem.W.codeIn K cd17 "is_item" = true) (k17 : PySem.W.keepIn K (.ref f17) = true)
    (a18 : PySem.W.nsIn K mainGlobals "copy_behind" = some (some (.ref f18))) (l18 : K.lookup f18 = some ⟨oc18, od18, .func (PySem.W.fnOf "copy_behind" "copy_behind" (defArgs sCopyB) (defBody sCopyB) (defScope sCopyB) .none kV18 dc18 pm18 an18 cd18 ct18), sl18⟩) (c18 : PySem.W.codeIn K cd18 "copy_behind" = true) (k18 : PySem.W.keepIn K (.ref f18) = true)
    (a19 : PySem.W.nsIn K mainGlobals "item_bits" = some (some (.ref f19))) (l19 : K.lookup f19 = some ⟨oc19, od19, .func (PySem.W.fnOf "item_bits" "item_bits" (defArgs sItemB) (defBody sItemB) (defScope sItemB) .none kV19 dc19 pm19 an19 cd19 ct19), sl19⟩) (c19 : PySem.W.codeIn K cd19 "item_bits" = true) (k19 : PySem.W.keepIn K (.ref f19) = true)
    (a20 : PySem.W.nsIn K mainGlobals "are_bytes" = some (some (.ref f20))) (l20 : K.lookup f20 = some ⟨oc20, od20, .func (PySem.W.fnOf "are_bytes" "are_bytes" (defArgs sAreBytes) (defBody sAreBytes) (defScope sAreBytes) .none kV20 dc20 pm20 an20 cd20 ct20), sl20⟩) (c20 : PySem.W.codeIn K cd20 "are_bytes" = true) (k20 : PySem.W.keepIn K (.ref f20) = true)
    (a21 : PySem.W.nsIn K mainGlobals "bytes_behind" = some (some (.ref f21))) (l21 : K.lookup f21 = some ⟨oc21, od21, .func (PySem.W.fnOf "bytes_behind" "bytes_behind" (defArgs sBehind) (defBody sBehind) (defScope sBehind) .none kV21 dc21 pm21 an21 cd21 ct21), sl21⟩) (c21 : PySem.W.codeIn K cd21 "bytes_behind" = true) (k21 : PySem.W.keepIn K (.ref f21) = true)
    (a22 : PySem.W.nsIn K mainGlobals "told" = some (some (.ref f22))) (l22 : K.lookup f22 = some ⟨oc22, od22, .func (PySem.W.fnOf "told" "told" (defArgs sTld) (defBody sTld) (defScope sTld) .none kV22 dc22 pm22 an22 cd22 ct22), sl22⟩) (c22 : PySem.W.codeIn K cd22 "told" = true) (k22 : PySem.W.keepIn K (.ref f22) = true)
    (a23 : PySem.W.nsIn K mainGlobals "bits_of" = some (some (.ref f23))) (l23 : K.lookup f23 = some ⟨oc23, od23, .func (PySem.W.fnOf "bits_of" "bits_of" (defArgs sBits) (defBody sBits) (defScope sBits) .none kV23 dc23 pm23 an23 cd23 ct23), sl23⟩) (c23 : PySem.W.codeIn K cd23 "bits_of" = true) (k23 : PySem.W.keepIn K (.ref f23) = true)
    (a24 : PySem.W.nsIn K mainGlobals "_law_items" = some (some (.ref f24))) (l24 : K.lookup f24 = some ⟨oc24, od24, .func (PySem.W.fnOf "_law_items" "_law_items" (defArgs sItems) (defBody sItems) (defScope sItems) .none kV24 dc24 pm24 an24 cd24 ct24), sl24⟩) (c24 : PySem.W.codeIn K cd24 "_law_items" = true) (k24 : PySem.W.keepIn K (.ref f24) = true)
    (a25 : PySem.W.nsIn K mainGlobals "_law_told_by" = some (some (.ref f25))) (l25 : K.lookup f25 = some ⟨oc25, od25, .func (PySem.W.fnOf "_law_told_by" "_law_told_by" (defArgs sToldBy) (defBody sToldBy) (defScope sToldBy) .none kV25 dc25 pm25 an25 cd25 ct25), sl25⟩) (c25 : PySem.W.codeIn K cd25 "_law_told_by" = true) (k25 : PySem.W.keepIn K (.ref f25) = true)
    (a26 : PySem.W.nsIn K mainGlobals "_law_searched" = some (some (.ref f26))) (l26 : K.lookup f26 = some ⟨oc26, od26, .func (PySem.W.fnOf "_law_searched" "_law_searched" (defArgs sSearch) (defBody sSearch) (defScope sSearch) .none kV26 dc26 pm26 an26 cd26 ct26), sl26⟩) (c26 : PySem.W.codeIn K cd26 "_law_searched" = true) (k26 : PySem.W.keepIn K (.ref f26) = true)
    (a27 : PySem.W.nsIn K mainGlobals "_law_none_better" = some (some (.ref f27))) (l27 : K.lookup f27 = some ⟨oc27, od27, .func (PySem.W.fnOf "_law_none_better" "_law_none_better" (defArgs sBetter) (defBody sBetter) (defScope sBetter) .none kV27 dc27 pm27 an27 cd27 ct27), sl27⟩) (c27 : PySem.W.codeIn K cd27 "_law_none_better" = true) (k27 : PySem.W.keepIn K (.ref f27) = true)
    (a28 : PySem.W.nsIn K mainGlobals "_law_prices" = some (some (.ref f28))) (l28 : K.lookup f28 = some ⟨oc28, od28, .func (PySem.W.fnOf "_law_prices" "_law_prices" (defArgs sPrices) (defBody sPrices) (defScope sPrices) .none kV28 dc28 pm28 an28 cd28 ct28), sl28⟩) (c28 : PySem.W.codeIn K cd28 "_law_prices" = true) (k28 : PySem.W.keepIn K (.ref f28) = true)
    (a29 : PySem.W.nsIn K mainGlobals "_law_spoilt_right" = some (some (.ref f29))) (l29 : K.lookup f29 = some ⟨oc29, od29, .func (PySem.W.fnOf "_law_spoilt_right" "_law_spoilt_right" (defArgs sSpoilt) (defBody sSpoilt) (defScope sSpoilt) .none kV29 dc29 pm29 an29 cd29 ct29), sl29⟩) (c29 : PySem.W.codeIn K cd29 "_law_spoilt_right" = true) (k29 : PySem.W.keepIn K (.ref f29) = true)
    (a30 : PySem.W.nsIn K mainGlobals "_law_all_right" = some (some (.ref f30))) (l30 : K.lookup f30 = some ⟨oc30, od30, .func (PySem.W.fnOf "_law_all_right" "_law_all_right" (defArgs sAll) (defBody sAll) (defScope sAll) .none kV30 dc30 pm30 an30 cd30 ct30), sl30⟩) (c30 : PySem.W.codeIn K cd30 "_law_all_right" = true) (k30 : PySem.W.keepIn K (.ref f30) = true)
    (a31 : PySem.W.nsIn K mainGlobals "law" = some (some (.ref f31))) (l31 : K.lookup f31 = some ⟨oc31, od31, .func (PySem.W.fnOf "law" "law" (defArgs sLaw) (defBody sLaw) (defScope sLaw) .none kV31 dc31 pm31 an31 cd31 ct31), sl31⟩) (c31 : PySem.W.codeIn K cd31 "law" = true) (k31 : PySem.W.keepIn K (.ref f31) = true)
    (a32 : PySem.W.nsIn K mainGlobals "copied" = some (some (.ref f32))) (l32 : K.lookup f32 = some ⟨oc32, od32, .func (PySem.W.fnOf "copied" "copied" (defArgs sCopied) (defBody sCopied) (defScope sCopied) .none kV32 dc32 pm32 an32 cd32 ct32), sl32⟩) (c32 : PySem.W.codeIn K cd32 "copied" = true) (k32 : PySem.W.keepIn K (.ref f32) = true)
    (m33 : PySem.W.findIn K (.ref C_Least) "__init__" = some (some (.ref f33))) (n33 : PySem.W.isFn K (.ref f33) = true) (l33 : K.lookup f33 = some ⟨oc33, od33, .func (PySem.W.fnOf "__init__" "Least.__init__" (defArgs sLInit) (defBody sLInit) (defScope sLInit) .none kV33 dc33 pm33 an33 cd33 ct33), sl33⟩) (c33 : PySem.W.codeIn K cd33 "Least.__init__" = true) (k33 : PySem.W.keepIn K (.ref f33) = true)
    (m34 : PySem.W.findIn K (.ref C_Never) "__init__" = some (some (.ref f34))) (n34 : PySem.W.isFn K (.ref f34) = true) (l34 : K.lookup f34 = some ⟨oc34, od34, .func (PySem.W.fnOf "__init__" "Never.__init__" (defArgs sNInit) (defBody sNInit) (defScope sNInit) .none kV34 dc34 pm34 an34 cd34 ct34), sl34⟩) (c34 : PySem.W.codeIn K cd34 "Never.__init__" = true) (k34 : PySem.W.keepIn K (.ref f34) = true)
    (a35 : PySem.W.nsIn K mainGlobals "are_costs" = some (some (.ref f35))) (l35 : K.lookup f35 = some ⟨oc35, od35, .func (PySem.W.fnOf "are_costs" "are_costs" (defArgs sAreCosts) (defBody sAreCosts) (defScope sAreCosts) .none kV35 dc35 pm35 an35 cd35 ct35), sl35⟩) (c35 : PySem.W.codeIn K cd35 "are_costs" = true) (k35 : PySem.W.keepIn K (.ref f35) = true)
    (a36 : PySem.W.nsIn K mainGlobals "tells" = some (some (.ref f36))) (l36 : K.lookup f36 = some ⟨oc36, od36, .func (PySem.W.fnOf "tells" "tells" (defArgs sTells) (defBody sTells) (defScope sTells) .none kV36 dc36 pm36 an36 cd36 ct36), sl36⟩) (c36 : PySem.W.codeIn K cd36 "tells" = true) (k36 : PySem.W.keepIn K (.ref f36) = true)
    (m37 : PySem.W.findIn K (.ref C_Never) "shows" = some (some (.ref f37))) (n37 : PySem.W.isFn K (.ref f37) = true) (l37 : K.lookup f37 = some ⟨oc37, od37, .func (PySem.W.fnOf "shows" "Never.shows" (defArgs sNShows) (defBody sNShows) (defScope sNShows) .none kV37 dc37 pm37 an37 cd37 ct37), sl37⟩) (c37 : PySem.W.codeIn K cd37 "Never.shows" = true) (k37 : PySem.W.keepIn K (.ref f37) = true)
    (m38 : PySem.W.findIn K (.ref C_Least) "shows" = some (some (.ref f38))) (n38 : PySem.W.isFn K (.ref f38) = true) (l38 : K.lookup f38 = some ⟨oc38, od38, .func (PySem.W.fnOf "shows" "Least.shows" (defArgs sLShows) (defBody sLShows) (defScope sLShows) .none kV38 dc38 pm38 an38 cd38 ct38), sl38⟩) (c38 : PySem.W.codeIn K cd38 "Least.shows" = true) (k38 : PySem.W.keepIn K (.ref f38) = true)
    (a39 : PySem.W.nsIn K mainGlobals "reached_by" = some (some (.ref f39))) (l39 : K.lookup f39 = some ⟨oc39, od39, .func (PySem.W.fnOf "reached_by" "reached_by" (defArgs sRBy) (defBody sRBy) (defScope sRBy) .none kV39 dc39 pm39 an39 cd39 ct39), sl39⟩) (c39 : PySem.W.codeIn K cd39 "reached_by" = true) (k39 : PySem.W.keepIn K (.ref f39) = true)
    (a40 : PySem.W.nsIn K mainGlobals "reached_at" = some (some (.ref f40))) (l40 : K.lookup f40 = some ⟨oc40, od40, .func (PySem.W.fnOf "reached_at" "reached_at" (defArgs sRAt) (defBody sRAt) (defScope sRAt) .none kV40 dc40 pm40 an40 cd40 ct40), sl40⟩) (c40 : PySem.W.codeIn K cd40 "reached_at" = true) (k40 : PySem.W.keepIn K (.ref f40) = true)
    (a41 : PySem.W.nsIn K mainGlobals "pairs_of" = some (some (.ref f41))) (l41 : K.lookup f41 = some ⟨oc41, od41, .func (PySem.W.fnOf "pairs_of" "pairs_of" (defArgs sPairs) (defBody sPairs) (defScope sPairs) .none kV41 dc41 pm41 an41 cd41 ct41), sl41⟩) (c41 : PySem.W.codeIn K cd41 "pairs_of" = true) (k41 : PySem.W.keepIn K (.ref f41) = true)
    (m42 : PySem.W.findIn K (.ref C_Places) "look_at_all" = some (some (.ref f42))) (n42 : PySem.W.isFn K (.ref f42) = true) (l42 : K.lookup f42 = some ⟨oc42, od42, .func (PySem.W.fnOf "look_at_all" "Places.look_at_all" (defArgs sPlLook) (defBody sPlLook) (defScope sPlLook) .none kV42 dc42 pm42 an42 cd42 ct42), sl42⟩) (c42 : PySem.W.codeIn K cd42 "Places.look_at_all" = true) (k42 : PySem.W.keepIn K (.ref f42) = true)
    (m43 : PySem.W.findIn K (.ref C_Places) "__init__" = some (some (.ref f43))) (n43 : PySem.W.isFn K (.ref f43) = true) (l43 : K.lookup f43 = some ⟨oc43, od43, .func (PySem.W.fnOf "__init__" "Places.__init__" (defArgs sPlInit) (defBody sPlInit) (defScope sPlInit) .none kV43 dc43 pm43 an43 cd43 ct43), sl43⟩) (c43 : PySem.W.codeIn K cd43 "Places.__init__" = true) (k43 : PySem.W.keepIn K (.ref f43) = true)
    (m44 : PySem.W.findIn K (.ref C_Places) "pairs_at" = some (some (.ref f44))) (n44 : PySem.W.isFn K (.ref f44) = true) (l44 : K.lookup f44 = some ⟨oc44, od44, .func (PySem.W.fnOf "pairs_at" "Places.pairs_at" (defArgs sPlPairs) (defBody sPlPairs) (defScope sPlPairs) .none kV44 dc44 pm44 an44 cd44 ct44), sl44⟩) (c44 : PySem.W.codeIn K cd44 "Places.pairs_at" = true) (k44 : PySem.W.keepIn K (.ref f44) = true)
    (m45 : PySem.W.findIn K (.ref C_Places) "least_back" = some (some (.ref f45))) (n45 : PySem.W.isFn K (.ref f45) = true) (l45 : K.lookup f45 = some ⟨oc45, od45, .func (PySem.W.fnOf "least_back" "Places.least_back" (defArgs sPlBack) (defBody sPlBack) (defScope sPlBack) .none kV45 dc45 pm45 an45 cd45 ct45), sl45⟩) (c45 : PySem.W.codeIn K cd45 "Places.least_back" = true) (k45 : PySem.W.keepIn K (.ref f45) = true)
    (a46 : PySem.W.nsIn K mainGlobals "worths_of" = some (some (.ref f46))) (l46 : K.lookup f46 = some ⟨oc46, od46, .func (PySem.W.fnOf "worths_of" "worths_of" (defArgs sWorths) (defBody sWorths) (defScope sWorths) .none kV46 dc46 pm46 an46 cd46 ct46), sl46⟩) (c46 : PySem.W.codeIn K cd46 "worths_of" = true) (k46 : PySem.W.keepIn K (.ref f46) = true)
    (m47 : PySem.W.findIn K (.ref C_Fares) "bits_of_copy" = some (some (.ref f47))) (n47 : PySem.W.isFn K (.ref f47) = true) (l47 : K.lookup f47 = some ⟨oc47, od47, .func (PySem.W.fnOf "bits_of_copy" "Fares.bits_of_copy" (defArgs sFBits) (defBody sFBits) (defScope sFBits) .none kV47 dc47 pm47 an47 cd47 ct47), sl47⟩) (c47 : PySem.W.codeIn K cd47 "Fares.bits_of_copy" = true) (k47 : PySem.W.keepIn K (.ref f47) = true)
    (m48 : PySem.W.findIn K (.ref C_Fares) "cheapest_of" = some (some (.ref f48))) (n48 : PySem.W.isFn K (.ref f48) = true) (l48 : K.lookup f48 = some ⟨oc48, od48, .func (PySem.W.fnOf "cheapest_of" "Fares.cheapest_of" (defArgs sFCheap) (defBody sFCheap) (defScope sFCheap) .none kV48 dc48 pm48 an48 cd48 ct48), sl48⟩) (c48 : PySem.W.codeIn K cd48 "Fares.cheapest_of" = true) (k48 : PySem.W.keepIn K (.ref f48) = true)
    (m49 : PySem.W.findIn K (.ref C_Fares) "__init__" = some (some (.ref f49))) (n49 : PySem.W.isFn K (.ref f49) = true) (l49 : K.lookup f49 = some ⟨oc49, od49, .func (PySem.W.fnOf "__init__" "Fares.__init__" (defArgs sFInit) (defBody sFInit) (defScope sFInit) .none kV49 dc49 pm49 an49 cd49 ct49), sl49⟩) (c49 : PySem.W.codeIn K cd49 "Fares.__init__" = true) (k49 : PySem.W.keepIn K (.ref f49) = true)
    (a50 : PySem.W.nsIn K mainGlobals "costs_of" = some (some (.ref f50))) (l50 : K.lookup f50 = some ⟨oc50, od50, .func (PySem.W.fnOf "costs_of" "costs_of" (defArgs sCosts) (defBody sCosts) (defScope sCosts) .none kV50 dc50 pm50 an50 cd50 ct50), sl50⟩) (c50 : PySem.W.codeIn K cd50 "costs_of" = true) (k50 : PySem.W.keepIn K (.ref f50) = true)
    (a51 : PySem.W.nsIn K mainGlobals "first_of" = some (some (.ref f51))) (l51 : K.lookup f51 = some ⟨oc51, od51, .func (PySem.W.fnOf "first_of" "first_of" (defArgs sFirstOf) (defBody sFirstOf) (defScope sFirstOf) .none kV51 dc51 pm51 an51 cd51 ct51), sl51⟩) (c51 : PySem.W.codeIn K cd51 "first_of" = true) (k51 : PySem.W.keepIn K (.ref f51) = true)
    (a52 : PySem.W.nsIn K mainGlobals "item_at" = some (some (.ref f52))) (l52 : K.lookup f52 = some ⟨oc52, od52, .func (PySem.W.fnOf "item_at" "item_at" (defArgs sItemAt) (defBody sItemAt) (defScope sItemAt) .none kV52 dc52 pm52 an52 cd52 ct52), sl52⟩) (c52 : PySem.W.codeIn K cd52 "item_at" = true) (k52 : PySem.W.keepIn K (.ref f52) = true)
    (m53 : PySem.W.findIn K (.ref C_Road) "__init__" = some (some (.ref f53))) (n53 : PySem.W.isFn K (.ref f53) = true) (l53 : K.lookup f53 = some ⟨oc53, od53, .func (PySem.W.fnOf "__init__" "Road.__init__" (defArgs sRoInit) (defBody sRoInit) (defScope sRoInit) .none kV53 dc53 pm53 an53 cd53 ct53), sl53⟩) (c53 : PySem.W.codeIn K cd53 "Road.__init__" = true) (k53 : PySem.W.keepIn K (.ref f53) = true)
    (m54 : PySem.W.findIn K (.ref C_Road) "taken_at" = some (some (.ref f54))) (n54 : PySem.W.isFn K (.ref f54) = true) (l54 : K.lookup f54 = some ⟨oc54, od54, .func (PySem.W.fnOf "taken_at" "Road.taken_at" (defArgs sRoTaken) (defBody sRoTaken) (defScope sRoTaken) .none kV54 dc54 pm54 an54 cd54 ct54), sl54⟩) (c54 : PySem.W.codeIn K cd54 "Road.taken_at" = true) (k54 : PySem.W.keepIn K (.ref f54) = true)
    (m55 : PySem.W.findIn K (.ref C_Road) "steps_from" = some (some (.ref f55))) (n55 : PySem.W.isFn K (.ref f55) = true) (l55 : K.lookup f55 = some ⟨oc55, od55, .func (PySem.W.fnOf "steps_from" "Road.steps_from" (defArgs sRoSteps) (defBody sRoSteps) (defScope sRoSteps) .none kV55 dc55 pm55 an55 cd55 ct55), sl55⟩) (c55 : PySem.W.codeIn K cd55 "Road.steps_from" = true) (k55 : PySem.W.keepIn K (.ref f55) = true)
    (m56 : PySem.W.findIn K (.ref C_Road) "row_from" = some (some (.ref f56))) (n56 : PySem.W.isFn K (.ref f56) = true) (l56 : K.lookup f56 = some ⟨oc56, od56, .func (PySem.W.fnOf "row_from" "Road.row_from" (defArgs sRoRow) (defBody sRoRow) (defScope sRoRow) .none kV56 dc56 pm56 an56 cd56 ct56), sl56⟩) (c56 : PySem.W.codeIn K cd56 "Road.row_from" = true) (k56 : PySem.W.keepIn K (.ref f56) = true)
    (m57 : PySem.W.findIn K (.ref C_Road) "told_costs" = some (some (.ref f57))) (n57 : PySem.W.isFn K (.ref f57) = true) (l57 : K.lookup f57 = some ⟨oc57, od57, .func (PySem.W.fnOf "told_costs" "Road.told_costs" (defArgs sRoTold) (defBody sRoTold) (defScope sRoTold) .none kV57 dc57 pm57 an57 cd57 ct57), sl57⟩) (c57 : PySem.W.codeIn K cd57 "Road.told_costs" = true) (k57 : PySem.W.keepIn K (.ref f57) = true)
    (a58 : PySem.W.nsIn K mainGlobals "steps_at" = some (some (.ref f58))) (l58 : K.lookup f58 = some ⟨oc58, od58, .func (PySem.W.fnOf "steps_at" "steps_at" (defArgs sSteps) (defBody sSteps) (defScope sSteps) .none kV58 dc58 pm58 an58 cd58 ct58), sl58⟩) (c58 : PySem.W.codeIn K cd58 "steps_at" = true) (k58 : PySem.W.keepIn K (.ref f58) = true)
    (a59 : PySem.W.nsIn K mainGlobals "none_is_cheaper" = some (some (.ref f59))) (l59 : K.lookup f59 = some ⟨oc59, od59, .func (PySem.W.fnOf "none_is_cheaper" "none_is_cheaper" (defArgs sNone) (defBody sNone) (defScope sNone) .none kV59 dc59 pm59 an59 cd59 ct59), sl59⟩) (c59 : PySem.W.codeIn K cd59 "none_is_cheaper" = true) (k59 : PySem.W.keepIn K (.ref f59) = true)
    (a60 : PySem.W.nsIn K mainGlobals "least" = some (some (.ref f60))) (l60 : K.lookup f60 = some ⟨oc60, od60, .func (PySem.W.fnOf "least" "least" (defArgs sLeast) (defBody sLeast) (defScope sLeast) .none kV60 dc60 pm60 an60 cd60 ct60), sl60⟩) (c60 : PySem.W.codeIn K cd60 "least" = true) (k60 : PySem.W.keepIn K (.ref f60) = true)
    (aC_Prices : PySem.W.nsIn K mainGlobals "Prices" = some (some (.ref C_Prices))) (pg_Prices : PySem.W.plainGet K C_Prices Str.empty = true) (hd_Prices : PySem.W.hasDictIn K C_Prices = true) (po_Prices : PySem.W.plainOver K C_Prices = true) (sa_Prices : PySem.W.findIn K (.ref C_Prices) "__setattr__" = some (some (.builtin "object.__setattr__"))) (mk_Prices : PySem.W.makesIn K C_Prices = true) (kp_Prices : PySem.W.keepIn K (.ref C_Prices) = true) (at__letters_Prices : PySem.W.findIn K (.ref C_Prices) "_letters" = some none) (at__backs_Prices : PySem.W.findIn K (.ref C_Prices) "_backs" = some none) (cc_Prices : PySem.W.findIn K (.ref C_Prices) "__class__" = some (some (.builtin "object.__class__"))) (mr_Prices : PySem.W.mroIn K C_Prices (.type "object") = some true) (ki_Prices : PySem.W.kitOne K (.ref C_Prices) (.ref C_Prices) = some true)
    (aC_Places : PySem.W.nsIn K mainGlobals "Places" = some (some (.ref C_Places))) (pg_Places : PySem.W.plainGet K C_Places Str.empty = true) (hd_Places : PySem.W.hasDictIn K C_Places = true) (po_Places : PySem.W.plainOver K C_Places = true) (sa_Places : PySem.W.findIn K (.ref C_Places) "__setattr__" = some (some (.builtin "object.__setattr__"))) (mk_Places : PySem.W.makesIn K C_Places = true) (kp_Places : PySem.W.keepIn K (.ref C_Places) = true) (at_data_Places : PySem.W.findIn K (.ref C_Places) "data" = some none) (at_whole_Places : PySem.W.findIn K (.ref C_Places) "whole" = some none) (at_start_Places : PySem.W.findIn K (.ref C_Places) "start" = some none) (at_pairs_Places : PySem.W.findIn K (.ref C_Places) "pairs" = some none) (at_kinds_Places : PySem.W.findIn K (.ref C_Places) "kinds" = some none)
    (aC_Fares : PySem.W.nsIn K mainGlobals "Fares" = some (some (.ref C_Fares))) (pg_Fares : PySem.W.plainGet K C_Fares Str.empty = true) (hd_Fares : PySem.W.hasDictIn K C_Fares = true) (po_Fares : PySem.W.plainOver K C_Fares = true) (sa_Fares : PySem.W.findIn K (.ref C_Fares) "__setattr__" = some (some (.builtin "object.__setattr__"))) (mk_Fares : PySem.W.makesIn K C_Fares = true) (kp_Fares : PySem.W.keepIn K (.ref C_Fares) = true) (at_letter_bits_Fares : PySem.W.findIn K (.ref C_Fares) "letter_bits" = some none) (at_copy_bits_Fares : PySem.W.findIn K (.ref C_Fares) "copy_bits" = some none) (at_worths_Fares : PySem.W.findIn K (.ref C_Fares) "worths" = some none) (at_cheapest_Fares : PySem.W.findIn K (.ref C_Fares) "cheapest" = some none)
    (aC_Road : PySem.W.nsIn K mainGlobals "Road" = some (some (.ref C_Road))) (pg_Road : PySem.W.plainGet K C_Road Str.empty = true) (hd_Road : PySem.W.hasDictIn K C_Road = true) (po_Road : PySem.W.plainOver K C_Road = true) (sa_Road : PySem.W.findIn K (.ref C_Road) "__setattr__" = some (some (.builtin "object.__setattr__"))) (mk_Road : PySem.W.makesIn K C_Road = true) (kp_Road : PySem.W.keepIn K (.ref C_Road) = true) (at_places_Road : PySem.W.findIn K (.ref C_Road) "places" = some none) (at_fares_Road : PySem.W.findIn K (.ref C_Road) "fares" = some none) (at_end_Road : PySem.W.findIn K (.ref C_Road) "end" = some none) (at_costs_Road : PySem.W.findIn K (.ref C_Road) "costs" = some none) (at__taken_Road : PySem.W.findIn K (.ref C_Road) "_taken" = some none)
    (aC_Least : PySem.W.nsIn K mainGlobals "Least" = some (some (.ref C_Least))) (pg_Least : PySem.W.plainGet K C_Least Str.empty = true) (hd_Least : PySem.W.hasDictIn K C_Least = true) (po_Least : PySem.W.plainOver K C_Least = true) (sa_Least : PySem.W.findIn K (.ref C_Least) "__setattr__" = some (some (.builtin "object.__setattr__"))) (mk_Least : PySem.W.makesIn K C_Least = true) (kp_Least : PySem.W.keepIn K (.ref C_Least) = true) (at_row_Least : PySem.W.findIn K (.ref C_Least) "row" = some none) (at_costs_Least : PySem.W.findIn K (.ref C_Least) "costs" = some none) (cc_Least : PySem.W.findIn K (.ref C_Least) "__class__" = some (some (.builtin "object.__class__"))) (mr_Least : PySem.W.mroIn K C_Least (.type "object") = some true) (ki_Least : PySem.W.kitOne K (.ref C_Least) (.ref C_Least) = some true)
    (aC_Never : PySem.W.nsIn K mainGlobals "Never" = some (some (.ref C_Never))) (pg_Never : PySem.W.plainGet K C_Never Str.empty = true) (hd_Never : PySem.W.hasDictIn K C_Never = true) (po_Never : PySem.W.plainOver K C_Never = true) (sa_Never : PySem.W.findIn K (.ref C_Never) "__setattr__" = some (some (.builtin "object.__setattr__"))) (mk_Never : PySem.W.makesIn K C_Never = true) (kp_Never : PySem.W.keepIn K (.ref C_Never) = true) (at_costs_Never : PySem.W.findIn K (.ref C_Never) "costs" = some none) (cc_Never : PySem.W.findIn K (.ref C_Never) "__class__" = some (some (.builtin "object.__class__"))) (mr_Never : PySem.W.mroIn K C_Never (.type "object") = some true) (ki_Never : PySem.W.kitOne K (.ref C_Never) (.ref C_Never) = some true)
    (e0 : PySem.W.nsIn K mainGlobals "BadItems" = some (some (.ref CI)))
    (e1 : K.lookup CI = some (excClassObj xnm xq CI xN xbs [.ref CP, .type "ValueError", .type "Exception", .type "BaseException", .type "object"] true xsn xsub xab xcol xdd y0 y1 y2 y3 y5 "ValueError.__new__"))
    (e2 : PySem.W.alongIn K "__init__" [.ref CP, .type "ValueError", .type "Exception", .type "BaseException", .type "object"] = some (some (.builtin "ValueError.__init__")))
    (e3 : PySem.W.findIn K (.ref CI) "__setattr__" = some (some (.builtin "object.__setattr__")))
    (e4 : PySem.W.findIn K (.ref CI) "__getattribute__" = some (some (.builtin "BaseException.__getattribute__")))
    (e5 : PySem.W.findIn K (.ref CI) "__getattr__" = some none)
    (e6 : PySem.W.findIn K (.ref CI) "at" = some none)
    (e7 : PySem.W.findIn K (.ref CI) "__init__" = some (some (.ref fE)))
    (e8 : PySem.W.typeIn K (.ref fE) = some (.type "function"))
    (e9 : PySem.W.keepIn K (.ref CI) = true)
    (e10 : PySem.W.subIn K (.ref CI) (.type "BaseException") = some true)
    (e11 : PySem.W.subIn K (.ref CI) (.type "ValueError") = some true)
    (e12 : PySem.W.subIn K (.ref CI) (.ref CI) = some true)
    (e13 : PySem.W.typeIn K (.ref CI) = some (.type "type"))
    (e14 : PySem.W.hasDictIn K CI = true)
    (e15 : PySem.W.nsIn K PySem.cStatics "thirdparty.any" = some none)
    (e16 : (l.prog.main.scope.names.lookup ("super" : Str)).isSome = false)
    (e17 : K.lookup fE = some ⟨ocE, odE, .func (PySem.W.ksFn "__init__" "BadItems.__init__" (SX.sxA "at" ⟨12, 17, 12, 21⟩ ⟨12, 23, 12, 25⟩) (SX.sxB "at" "no row of items, seen at " 0 qBI) (SX.sxS "at") .none .none dcE pmE anE (.ref cda) ctE cc), slE⟩)
    (e18 : PySem.W.codeIn K (.ref cda) "BadItems.__init__" = true)
    (e19 : K.lookup cda = some ⟨ccl, cdd, .fields xvs, ccs⟩)
    (e20 : xvs[2]? = some (.str xfile xtf))
    (e21 : ((l.prog.main.file : Str) == xfile) = true)
    (e22 : K.lookup cc = some ⟨xcl, xcld, .cell (some (.ref CI)), xcsl⟩)
    (e23 : PySem.W.isClsIn K CI = true)
    (z_super : PySem.W.nsIn K mainGlobals "super" = some none)
    (s0 : PySem.W.nsIn K mainGlobals "SIGNS" = some (some (.str hexTab tS)))
    (sp9 : PySem.W.specialIn K (.builtin "object.__class__") "__get__" = some (some (.builtin "getset_descriptor.__get__")))
    (sp10 : PySem.W.takesIn K (.builtin "object.__class__") = some true)
    (kLN : PySem.W.kitOne K (.ref C_Least) (.ref C_Never) = some false)
    (kNL : PySem.W.kitOne K (.ref C_Never) (.ref C_Least) = some false)
    (w0 : PySem.W.nsIn K mainGlobals "FARTHEST_BACKS" = some (some (.ref TFB)))
    (w1 : K.lookup TFB = some ⟨.type "tuple", fbd, .seq #[.int 1 fx0, .int 3 fx1, .int 7 fx2, .int 15 fx3, .int 31 fx4, .int 63 fx5, .int 127 fx6, .int 255 fx7, .int 511 fx8, .int 1023 fx9, .int 1024 fx10] fbn, fbs⟩)
    (z_isinstance : PySem.W.nsIn K mainGlobals "isinstance" = some none)
    (z_bool : PySem.W.nsIn K mainGlobals "bool" = some none)
    (z_int : PySem.W.nsIn K mainGlobals "int" = some none)
    (z_list : PySem.W.nsIn K mainGlobals "list" = some none)
    (z_all : PySem.W.nsIn K mainGlobals "all" = some none)
    (z_len : PySem.W.nsIn K mainGlobals "len" = some none)
    (z_str : PySem.W.nsIn K mainGlobals "str" = some none)
    (z_bytes : PySem.W.nsIn K mainGlobals "bytes" = some none)
    (z_range : PySem.W.nsIn K mainGlobals "range" = some none)
    (z_sum : PySem.W.nsIn K mainGlobals "sum" = some none)
    (z_tuple : PySem.W.nsIn K mainGlobals "tuple" = some none)
    (z_enumerate : PySem.W.nsIn K mainGlobals "enumerate" = some none)
    (z_min : PySem.W.nsIn K mainGlobals "min" = some none)
    (z_sorted : PySem.W.nsIn K mainGlobals "sorted" = some none)
    (z_set : PySem.W.nsIn K mainGlobals "set" = some none)
    (z_zip : PySem.W.nsIn K mainGlobals "zip" = some none)
    (z_max : PySem.W.nsIn K mainGlobals "max" = some none)
    (z_reversed : PySem.W.nsIn K mainGlobals "reversed" = some none)
    (v_LONGEST : PySem.W.nsIn K mainGlobals "LONGEST" = some (some (.int 12 tv_LONGEST)))
    (v_LETTERS : PySem.W.nsIn K mainGlobals "LETTERS" = some (some (.int 273 tv_LETTERS)))
    (v_BACKS : PySem.W.nsIn K mainGlobals "BACKS" = some (some (.int 11 tv_BACKS)))
    (v_FEWEST_COPIED : PySem.W.nsIn K mainGlobals "FEWEST_COPIED" = some (some (.int 3 tv_FEWEST_COPIED)))
    (v_MOST_COPIED : PySem.W.nsIn K mainGlobals "MOST_COPIED" = some (some (.int 18 tv_MOST_COPIED)))
    (v_FARTHEST : PySem.W.nsIn K mainGlobals "FARTHEST" = some (some (.int 1024 tv_FARTHEST)))
    (v_AHEAD_OF_COPIES : PySem.W.nsIn K mainGlobals "AHEAD_OF_COPIES" = some (some (.int 254 tv_AHEAD_OF_COPIES)))
    (v_MOST_AHEAD : PySem.W.nsIn K mainGlobals "MOST_AHEAD" = some (some (.int 4096 tv_MOST_AHEAD)))
    (v_FAR : PySem.W.nsIn K mainGlobals "FAR" = some (some (.int 1000000000 tv_FAR)))
    (v_MOST_BYTES : PySem.W.nsIn K mainGlobals "MOST_BYTES" = some (some (.int 2000 tv_MOST_BYTES))) :
    ∃ fd : FuncData, (∀ (s : Shared) (u : Value), BindsTo s fd ⟨[u], []⟩ [("_law_script", u)]) ∧ ∀ base : Heap, K.In base → base.Ns mainGlobals mg → FnOk l.prog w K mg base CX0 10 fa fd ["_law_script"] (spAll K) := by
  have e := hfa.symm.trans (PySem.W.mg_of X G a31)
  cases e
  have F0 := fun_mk (st := sWhole) l0 c0 k0
  have F1 := fun_mk (st := sIsNum) l1 c1 k1
  have F2 := fun_mk (st := sAreNum) l2 c2 k2
  have F3 := fun_mk (st := sCell) l3 c3 k3
  have F4 := fun_mk (st := sNums) l4 c4 k4
  have F5 := fun_mk (st := sOfHex) l5 c5 k5
  have F6 := fun_mk (st := sHex) l6 c6 k6
  have F7 := fun_mk (st := sBack) l7 c7 k7
  have F8 := fun_mk (st := sTold) l8 c8 k8
  have F9 := fun_mk (st := sCost) l9 c9 k9
  have F10 := fun_mk (st := sData) l10 c10 k10
  have F11 := fun_mk (st := sAreGood) l11 c11 k11
  have F12 := fun_mk (st := sAreP) l12 c12 k12
  have F13 := fun_mk (st := sBackOf) l13 c13 k13
  have F14 := fun_mk (st := sPInit) l14 c14 k14
  have F15 := fun_mk (st := sPLet) l15 c15 k15
  have F16 := fun_mk (st := sPBk) l16 c16 k16
  have F17 := fun_mk (st := sIsItem) l17 c17 k17
  have F18 := fun_mk (st := sCopyB) l18 c18 k18
  have F19 := fun_mk (st := sItemB) l19 c19 k19
  have F20 := fun_mk (st := sAreBytes) l20 c20 k20
  have F21 := fun_mk (st := sBehind) l21 c21 k21
  have F22 := fun_mk (st := sTld) l22 c22 k22
  have F23 := fun_mk (st := sBits) l23 c23 k23
  have F24 := fun_mk (st := sItems) l24 c24 k24
  have F25 := fun_mk (st := sToldBy) l25 c25 k25
  have F26 := fun_mk (st := sSearch) l26 c26 k26
  have F27 := fun_mk (st := sBetter) l27 c27 k27
  have F28 := fun_mk (st := sPrices) l28 c28 k28
  have F29 := fun_mk (st := sSpoilt) l29 c29 k29
  have F30 := fun_mk (st := sAll) l30 c30 k30
  have F31 := fun_mk (st := sLaw) l31 c31 k31
  have F32 := fun_mk (st := sCopied) l32 c32 k32
  have F33 := fun_mk (st := sLInit) l33 c33 k33
  have F34 := fun_mk (st := sNInit) l34 c34 k34
  have F35 := fun_mk (st := sAreCosts) l35 c35 k35
  have F36 := fun_mk (st := sTells) l36 c36 k36
  have F37 := fun_mk (st := sNShows) l37 c37 k37
  have F38 := fun_mk (st := sLShows) l38 c38 k38
  have F39 := fun_mk (st := sRBy) l39 c39 k39
  have F40 := fun_mk (st := sRAt) l40 c40 k40
  have F41 := fun_mk (st := sPairs) l41 c41 k41
  have F42 := fun_mk (st := sPlLook) l42 c42 k42
  have F43 := fun_mk (st := sPlInit) l43 c43 k43
  have F44 := fun_mk (st := sPlPairs) l44 c44 k44
  have F45 := fun_mk (st := sPlBack) l45 c45 k45
  have F46 := fun_mk (st := sWorths) l46 c46 k46
  have F47 := fun_mk (st := sFBits) l47 c47 k47
  have F48 := fun_mk (st := sFCheap) l48 c48 k48
  have F49 := fun_mk (st := sFInit) l49 c49 k49
  have F50 := fun_mk (st := sCosts) l50 c50 k50
  have F51 := fun_mk (st := sFirstOf) l51 c51 k51
  have F52 := fun_mk (st := sItemAt) l52 c52 k52
  have F53 := fun_mk (st := sRoInit) l53 c53 k53
  have F54 := fun_mk (st := sRoTaken) l54 c54 k54
  have F55 := fun_mk (st := sRoSteps) l55 c55 k55
  have F56 := fun_mk (st := sRoRow) l56 c56 k56
  have F57 := fun_mk (st := sRoTold) l57 c57 k57
  have F58 := fun_mk (st := sSteps) l58 c58 k58
  have F59 := fun_mk (st := sNone) l59 c59 k59
  have F60 := fun_mk (st := sLeast) l60 c60 k60
  have b0 := F0.binds (ps := ["told"]) fun _ _ _ _ _ _ us hl => match us, hl with | [_], _ => rfl
  have b1 := F1.binds (ps := ["told", "least", "most"]) fun _ _ _ _ _ _ us hl => match us, hl with | [_, _, _], _ => rfl
  have b2 := F2.binds (ps := ["told", "least", "most"]) fun _ _ _ _ _ _ us hl => match us, hl with | [_, _, _], _ => rfl
  have b3 := F3.binds (ps := ["_law_script", "_law_k"]) fun _ _ _ _ _ _ us hl => match us, hl with | [_, _], _ => rfl
  have b4 := F4.binds (ps := ["_law_cell", "_law_limits"]) fun _ _ _ _ _ _ us hl => match us, hl with | [_, _], _ => rfl
  have b5 := F5.binds (ps := ["text"]) fun _ _ _ _ _ _ us hl => match us, hl with | [_], _ => rfl
  have b6 := F6.binds (ps := ["_law_numbers_here"]) fun _ _ _ _ _ _ us hl => match us, hl with | [_], _ => rfl
  have b7 := F7.binds (ps := ["_law_back_here"]) fun _ _ _ _ _ _ us hl => match us, hl with | [_], _ => rfl
  have b8 := F8.binds (ps := ([] : List Str)) fun _ _ _ _ _ _ us hl => match us, hl with | [], _ => rfl
  have b9 := F9.binds (ps := ["_law_item", "_law_letters", "_law_backs"]) fun _ _ _ _ _ _ us hl => match us, hl with | [_, _, _], _ => rfl
  have b10 := F10.binds (ps := ["_law_script", "_law_at", "_law_most"]) fun _ _ _ _ _ _ us hl => match us, hl with | [_, _, _], _ => rfl
  have b11 := F11.binds (ps := ["lengths"]) fun _ _ _ _ _ _ us hl => match us, hl with | [_], _ => rfl
  have b12 := F12.binds (ps := ["lengths", "many"]) fun _ _ _ _ _ _ us hl => match us, hl with | [_, _], _ => rfl
  have b13 := F13.binds (ps := ["back"]) fun _ _ _ _ _ _ us hl => match us, hl with | [_], _ => rfl
  have b14 := F14.binds (ps := ["self", "letters", "backs"]) fun _ _ _ _ _ _ us hl => match us, hl with | [_, _, _], _ => rfl
  have b15 := F15.binds (ps := ["self"]) fun _ _ _ _ _ _ us hl => match us, hl with | [_], _ => rfl
  have b16 := F16.binds (ps := ["self"]) fun _ _ _ _ _ _ us hl => match us, hl with | [_], _ => rfl
  have b17 := F17.binds (ps := ["item"]) fun _ _ _ _ _ _ us hl => match us, hl with | [_], _ => rfl
  have b18 := F18.binds (ps := ["whole", "item"]) fun _ _ _ _ _ _ us hl => match us, hl with | [_, _], _ => rfl
  have b19 := F19.binds (ps := ["item", "letters", "backs"]) fun _ _ _ _ _ _ us hl => match us, hl with | [_, _, _], _ => rfl
  have b20 := F20.binds (ps := ["told", "most"]) fun _ _ _ _ _ _ us hl => match us, hl with | [_, _], _ => rfl
  have b21 := F21.binds (ps := ["items", "ahead"]) fun _ _ _ _ _ _ us hl => match us, hl with | [_, _], _ => rfl
  have b23 := F23.binds (ps := ["items", "prices"]) fun _ _ _ _ _ _ us hl => match us, hl with | [_, _], _ => rfl
  have b24 := F24.binds (ps := ["_law_every", "_law_lead", "_law_place", "_law_end"]) fun _ _ _ _ _ _ us hl => match us, hl with | [_, _, _, _], _ => rfl
  have b25 := F25.binds (ps := ["_law_row", "_law_lead"]) fun _ _ _ _ _ _ us hl => match us, hl with | [_, _], _ => rfl
  have b26 := F26.binds (ps := ["_law_every", "_law_lead", "_law_begin", "_law_end", "_law_letters", "_law_backs"]) fun _ _ _ _ _ _ us hl => match us, hl with | [_, _, _, _, _, _], _ => rfl
  have b27 := F27.binds (ps := ["_law_every", "_law_lead", "_law_costs", "_law_letters", "_law_backs"]) fun _ _ _ _ _ _ us hl => match us, hl with | [_, _, _, _, _], _ => rfl
  have b28 := F28.binds (ps := ["_law_script", "_law_at", "_law_data_here"]) fun _ _ _ _ _ _ us hl => match us, hl with | [_, _, _], _ => rfl
  have b29 := F29.binds (ps := ["_law_cell", "_law_every", "_law_lead", "_law_data_here", "_law_before", "_law_costs", "_law_row", "_law_lengths"]) fun _ _ _ _ _ _ us hl => match us, hl with | [_, _, _, _, _, _, _, _], _ => rfl
  have b30 := F30.binds (ps := ["_law_script"]) fun _ _ _ _ _ _ us hl => match us, hl with | [_], _ => rfl
  have b32 := F32.binds (ps := ["told"]) fun _ _ _ _ _ _ us hl => match us, hl with | [_], _ => rfl
  have b33 := F33.binds (ps := ["self", "row", "costs"]) fun _ _ _ _ _ _ us hl => match us, hl with | [_, _, _], _ => rfl
  have b34 := F34.binds (ps := ["self", "costs"]) fun _ _ _ _ _ _ us hl => match us, hl with | [_, _], _ => rfl
  have b35 := F35.binds (ps := ["costs", "data"]) fun _ _ _ _ _ _ us hl => match us, hl with | [_, _], _ => rfl
  have b36 := F36.binds (ps := ["row", "data", "ahead"]) fun _ _ _ _ _ _ us hl => match us, hl with | [_, _, _], _ => rfl
  have b39 := F39.binds (ps := ["whole", "place", "letter", "known", "most"]) fun _ _ _ _ _ _ us hl => match us, hl with | [_, _, _, _, _], _ => rfl
  have b40 := F40.binds (ps := ["whole", "place", "ahead"]) fun _ _ _ _ _ _ us hl => match us, hl with | [_, _, _], _ => rfl
  have b41 := F41.binds (ps := ["reached"]) fun _ _ _ _ _ _ us hl => match us, hl with | [_], _ => rfl
  have b42 := F42.binds (ps := ["self"]) fun _ _ _ _ _ _ us hl => match us, hl with | [_], _ => rfl
  have b43 := F43.binds (ps := ["self", "data", "ahead"]) fun _ _ _ _ _ _ us hl => match us, hl with | [_, _, _], _ => rfl
  have b44 := F44.binds (ps := ["self", "at"]) fun _ _ _ _ _ _ us hl => match us, hl with | [_, _], _ => rfl
  have b45 := F45.binds (ps := ["self", "at", "many", "letter"]) fun _ _ _ _ _ _ us hl => match us, hl with | [_, _, _, _], _ => rfl
  have b46 := F46.binds (ps := ["backs"]) fun _ _ _ _ _ _ us hl => match us, hl with | [_], _ => rfl
  have b47 := F47.binds (ps := ["self", "many", "letters"]) fun _ _ _ _ _ _ us hl => match us, hl with | [_, _, _], _ => rfl
  have b48 := F48.binds (ps := ["self", "letters"]) fun _ _ _ _ _ _ us hl => match us, hl with | [_, _], _ => rfl
  have b49 := F49.binds (ps := ["self", "letters", "backs"]) fun _ _ _ _ _ _ us hl => match us, hl with | [_, _, _], _ => rfl
  have b50 := F50.binds (ps := ["places", "fares", "start", "end"]) fun _ _ _ _ _ _ us hl => match us, hl with | [_, _, _, _], _ => rfl
  have b51 := F51.binds (ps := ["places", "fares", "costs", "at"]) fun _ _ _ _ _ _ us hl => match us, hl with | [_, _, _, _], _ => rfl
  have b52 := F52.binds (ps := ["places", "step"]) fun _ _ _ _ _ _ us hl => match us, hl with | [_, _], _ => rfl
  have b53 := F53.binds (ps := ["self", "places", "fares", "start", "end"]) fun _ _ _ _ _ _ us hl => match us, hl with | [_, _, _, _, _], _ => rfl
  have b54 := F54.binds (ps := ["self", "at"]) fun _ _ _ _ _ _ us hl => match us, hl with | [_, _], _ => rfl
  have b55 := F55.binds (ps := ["self", "start"]) fun _ _ _ _ _ _ us hl => match us, hl with | [_, _], _ => rfl
  have b56 := F56.binds (ps := ["self", "start"]) fun _ _ _ _ _ _ us hl => match us, hl with | [_, _], _ => rfl
  have b57 := F57.binds (ps := ["self"]) fun _ _ _ _ _ _ us hl => match us, hl with | [_], _ => rfl
  have b58 := F58.binds (ps := ["places", "fares", "at"]) fun _ _ _ _ _ _ us hl => match us, hl with | [_, _, _], _ => rfl
  have b59 := F59.binds (ps := ["costs", "data", "prices", "ahead"]) fun _ _ _ _ _ _ us hl => match us, hl with | [_, _, _, _], _ => rfl
  have TPr : PrTxt K mg C_Prices f14 f15 f16 := { cl := ⟨pg_Prices, hd_Prices, po_Prices, sa_Prices⟩, nL := at__letters_Prices, nB := at__backs_Prices, gC := PySem.W.mg_of X G aC_Prices, made := ⟨mk_Prices, m14, n14, kp_Prices⟩, mL := ⟨m15, n15, k15⟩, mB := ⟨m16, n16, k16⟩, ity := fun e => .ins e ⟨pg_Prices, hd_Prices, po_Prices, sa_Prices⟩ cc_Prices sp9 sp10 mr_Prices, isC := ki_Prices }
  have TPl : PlTxt K mg C_Places f43 f42 f44 f45 := { cl := ⟨pg_Places, hd_Places, po_Places, sa_Places⟩, gC := PySem.W.mg_of X G aC_Places, made := ⟨mk_Places, m43, n43, kp_Places⟩, nD := at_data_Places, nW := at_whole_Places, nS := at_start_Places, nP := at_pairs_Places, nK := at_kinds_Places, mL := ⟨m42, n42, k42⟩, mP := ⟨m44, n44, k44⟩, mB := ⟨m45, n45, k45⟩ }
  have TFa : FaTxt K mg C_Fares f49 f47 f48 := { cl := ⟨pg_Fares, hd_Fares, po_Fares, sa_Fares⟩, gC := PySem.W.mg_of X G aC_Fares, made := ⟨mk_Fares, m49, n49, kp_Fares⟩, nL := at_letter_bits_Fares, nC := at_copy_bits_Fares, nW := at_worths_Fares, nH := at_cheapest_Fares, mB := ⟨m47, n47, k47⟩, mC := ⟨m48, n48, k48⟩ }
  have TRo : RoTxt K mg C_Road f53 f54 f55 f56 f57 := { cl := ⟨pg_Road, hd_Road, po_Road, sa_Road⟩, gC := PySem.W.mg_of X G aC_Road, made := ⟨mk_Road, m53, n53, kp_Road⟩, nP := at_places_Road, nF := at_fares_Road, nE := at_end_Road, nC := at_costs_Road, nT := at__taken_Road, mT := ⟨m54, n54, k54⟩, mS := ⟨m55, n55, k55⟩, mR := ⟨m56, n56, k56⟩, mC := ⟨m57, n57, k57⟩ }
  have TLeast : AnsTxt K mg "Least" C_Least f33 f38 := { cl := ⟨pg_Least, hd_Least, po_Least, sa_Least⟩, gC := PySem.W.mg_of X G aC_Least, made := ⟨mk_Least, m33, n33, kp_Least⟩, mS := ⟨m38, n38, k38⟩ }
  have TNever : AnsTxt K mg "Never" C_Never f34 f37 := { cl := ⟨pg_Never, hd_Never, po_Never, sa_Never⟩, gC := PySem.W.mg_of X G aC_Never, made := ⟨mk_Never, m34, n34, kp_Never⟩, mS := ⟨m37, n37, k37⟩ }
  have TIs : AnsIs K C_Least C_Never := { tL := fun e => .ins e ⟨pg_Least, hd_Least, po_Least, sa_Least⟩ cc_Least sp9 sp10 mr_Least, tN := fun e => .ins e ⟨pg_Never, hd_Never, po_Never, sa_Never⟩ cc_Never sp9 sp10 mr_Never, ll := ki_Least, ln := kLN, nl := kNL, nn := ki_Never, lr := at_row_Least, lc := at_costs_Least, nc := at_costs_Never }
  have TB : BadIt l.prog K mg CI fE := { gC := PySem.W.mg_of X G e0, cls := ⟨_, _, _, _, _, _, _, _, _, _, _, _, _, _, _, e1, rfl, e2⟩, sa := e3, ga := e4, gg := e5, noN := e6, iC := e7, tI := e8, kC := e9, exC := e10, veC := e11, seC := e12, tyC := e13, hdC := e14, op := e15, sup := PySem.W.mg_none_of X G z_super, top := (e16), fn := ⟨_, _, _, _, _, _, _, _, _, _, _, _, _, _, _, _, _, _, _, _, _, _, e17, e18, e19, e20, e21, e22, qBI_ok⟩, fBind := fun _ _ _ _ _ _ _ _ _ _ _ _ => rfl, preS := (by decide +kernel), fSelf := (by decide +kernel), fDbg := (by decide +kernel), fLoc := (by rfl), fSup := (by rfl), fCls := (by rfl) }
  have far : FarTab K mg := far_of (PySem.W.mg_of X G w0) w1
  refine ⟨PySem.W.fnOf "law" "law" (defArgs sLaw) (defBody sLaw) (defScope sLaw) .none kV31 dc31 pm31 an31 cd31 ct31, fun s u => .of_eq rfl, fun base _ _ => ?_⟩
  have G_whole_0 : FnOk l.prog w K mg base CX0 1 f0 _ ["told"] _ := ok_whole (k := 0) F0 (PySem.W.mg_none_of X G z_isinstance) (PySem.W.mg_none_of X G z_bool) (PySem.W.mg_none_of X G z_int)
  have G_isNum_1 : FnOk l.prog w K mg base CX0 2 f1 _ ["told", "least", "most"] _ := ok_isNum (k := 0) F1 F0 G_whole_0 b0 (PySem.W.mg_of X G a0)
  have G_areNum_2 : FnOk l.prog w K mg base CX0 3 f2 _ ["told", "least", "most"] _ := ok_areNum (k := 0) F2 F1 G_isNum_1 b1 (PySem.W.mg_of X G a1) (PySem.W.mg_none_of X G z_isinstance) (PySem.W.mg_none_of X G z_list) (PySem.W.mg_none_of X G z_all)
  have G_cell_3 : FnOk l.prog w K mg base CX0 1 f3 _ ["_law_script", "_law_k"] _ := ok_cell (j := 0) F3 (PySem.W.mg_none_of X G z_len)
  have G_nums_4 : FnOk l.prog w K mg base CX0 1 f4 _ ["_law_cell", "_law_limits"] _ := ok_nums (j := 0) F4 (PySem.W.mg_none_of X G z_int)
  have G_ofHex_5 : FnOk l.prog w K mg base CX0 1 f5 _ ["text"] _ := ok_ofHex (j := 0) F5 (PySem.W.mg_none_of X G z_isinstance) (PySem.W.mg_none_of X G z_str) (PySem.W.mg_none_of X G z_len) (PySem.W.mg_none_of X G z_all) (PySem.W.mg_none_of X G z_bytes) (PySem.W.mg_of X G s0)
  have G_hex_6 : FnOk l.prog w K mg base CX0 1 f6 _ ["_law_numbers_here"] _ := ok_hex (j := 0) F6 (PySem.W.mg_none_of X G z_int)
  have G_back_7 : FnOk l.prog w K mg base CX0 1 f7 _ ["_law_back_here"] _ := ok_back (j := 0) F7
  have G_told_8 : FnOk l.prog w K mg base CX0 1 f8 _ [] _ := ok_told (j := 0) F8
  have G_cost_9 : FnOk l.prog w K mg base CX0 2 f9 _ ["_law_item", "_law_letters", "_law_backs"] _ := ok_cost (j := 0) F9 G_back_7 b7 k7 (PySem.W.mg_of X G a7) (PySem.W.mg_none_of X G z_isinstance) (PySem.W.mg_none_of X G z_int)
  have G_data_10 : FnOk l.prog w K mg base CX0 2 f10 _ ["_law_script", "_law_at", "_law_most"] _ := ok_data (j := 0) F10 G_cell_3 b3 k3 (PySem.W.mg_of X G a3) G_nums_4 b4 k4 (PySem.W.mg_of X G a4) (PySem.W.mg_none_of X G z_len) (PySem.W.mg_none_of X G z_int) (PySem.W.mg_none_of X G z_range)
  have G_areGood_11 : FnOk l.prog w K mg base CX0 1 f11 _ ["lengths"] _ := ok_areGood (j := 0) F11 (PySem.W.mg_none_of X G z_sum) (PySem.W.mg_none_of X G z_len) (PySem.W.mg_of X G v_LONGEST)
  have G_areP_12 : FnOk l.prog w K mg base CX0 4 f12 _ ["lengths", "many"] _ := ok_areP (j := 0) F12 G_areNum_2 b2 k2 (PySem.W.mg_of X G a2) (G_areGood_11.mono (by decide)) b11 k11 (PySem.W.mg_of X G a11) (PySem.W.mg_none_of X G z_len) (PySem.W.mg_of X G v_LONGEST)
  have G_backOf_13 : FnOk l.prog w K mg base CX0 1 f13 _ ["back"] _ := ok_backOf (j := 0) F13
  have G_pInit_14 : FnOk l.prog w K mg base CX0 5 f14 _ ["self", "letters", "backs"] _ := ok_pInit (j := 0) TPr F14 G_areP_12 b12 k12 (PySem.W.mg_of X G a12) (PySem.W.mg_none_of X G z_list) (PySem.W.mg_of X G v_LETTERS) (PySem.W.mg_of X G v_BACKS)
  have G_pLet_15 : FnOk l.prog w K mg base CX0 1 f15 _ ["self"] _ := ok_pLet (j := 0) TPr F15 (PySem.W.mg_none_of X G z_list)
  have G_pBk_16 : FnOk l.prog w K mg base CX0 1 f16 _ ["self"] _ := ok_pBk (j := 0) TPr F16 (PySem.W.mg_none_of X G z_list)
  have G_isItem_17 : FnOk l.prog w K mg base CX0 3 f17 _ ["item"] _ := ok_isItem (j := 0) F17 G_isNum_1 b1 k1 (PySem.W.mg_of X G a1) (PySem.W.mg_none_of X G z_isinstance) (PySem.W.mg_none_of X G z_tuple) (PySem.W.mg_none_of X G z_len) (PySem.W.mg_of X G v_FEWEST_COPIED) (PySem.W.mg_of X G v_MOST_COPIED) (PySem.W.mg_of X G v_FARTHEST)
  have G_copyB_18 : FnOk l.prog w K mg base CX0 1 f18 _ ["whole", "item"] _ := ok_copyB (j := 0) F18 (PySem.W.mg_none_of X G z_range)
  have G_itemB_19 : FnOk l.prog w K mg base CX0 2 f19 _ ["item", "letters", "backs"] _ := ok_itemB (j := 0) F19 G_backOf_13 b13 k13 (PySem.W.mg_of X G a13) (PySem.W.mg_none_of X G z_isinstance) (PySem.W.mg_none_of X G z_tuple) (PySem.W.mg_of X G v_AHEAD_OF_COPIES)
  have G_areBytes_20 : FnOk l.prog w K mg base CX0 1 f20 _ ["told", "most"] _ := ok_areBytes (j := 0) F20 (PySem.W.mg_none_of X G z_isinstance) (PySem.W.mg_none_of X G z_bytes) (PySem.W.mg_none_of X G z_len)
  have G_behind_21 : FnOk l.prog w K mg base (L2N.CX l.prog w) 4 f21 _ ["items", "ahead"] _ := ok_behind (j := 0) TB F21 G_isItem_17 b17 k17 (PySem.W.mg_of X G a17) (G_copyB_18.mono (by decide)) b18 k18 (PySem.W.mg_of X G a18) (PySem.W.mg_none_of X G z_isinstance) (PySem.W.mg_none_of X G z_list) (PySem.W.mg_none_of X G z_enumerate) (PySem.W.mg_none_of X G z_tuple) (PySem.W.mg_none_of X G z_len) (PySem.W.mg_none_of X G z_bytes)
  have G_tld_22 : FnOk l.prog w K mg base (L2N.CX l.prog w) 5 f22 _ ["items", "ahead"] _ := ok_tld (j := 0) F22 (G_areBytes_20.mono (by decide)) b20 k20 (PySem.W.mg_of X G a20) G_behind_21 b21 k21 (PySem.W.mg_of X G a21) (PySem.W.mg_of X G v_MOST_AHEAD)
  have G_bits_23 : FnOk l.prog w K mg base CX0 5 f23 _ ["items", "prices"] _ := ok_bits (j := 0) TPr F23 (G_isItem_17.mono (by decide)) b17 k17 (PySem.W.mg_of X G a17) (G_itemB_19.mono (by decide)) b19 k19 (PySem.W.mg_of X G a19) (G_pLet_15.mono (by decide)) b15 (G_pBk_16.mono (by decide)) b16 (PySem.W.mg_none_of X G z_isinstance) (PySem.W.mg_none_of X G z_list) (PySem.W.mg_none_of X G z_enumerate) (PySem.W.mg_none_of X G z_sum)
  have G_items_24 : FnOk l.prog w K mg base CX0 1 f24 _ ["_law_every", "_law_lead", "_law_place", "_law_end"] _ := ok_items (j := 0) F24 (PySem.W.mg_none_of X G z_range) (PySem.W.mg_none_of X G z_min) (PySem.W.mg_none_of X G z_sorted)
  have G_toldBy_25 : FnOk l.prog w K mg base CX0 1 f25 _ ["_law_row", "_law_lead"] _ := ok_toldBy (j := 0) F25 (PySem.W.mg_none_of X G z_range) (PySem.W.mg_none_of X G z_isinstance) (PySem.W.mg_none_of X G z_int) (PySem.W.mg_none_of X G z_list) (PySem.W.mg_none_of X G z_len)
  have G_search_26 : FnOk l.prog w K mg base CX0 3 f26 _ ["_law_every", "_law_lead", "_law_begin", "_law_end", "_law_letters", "_law_backs"] _ := ok_search (j := 0) F26 G_cost_9 b9 k9 (PySem.W.mg_of X G a9) (G_items_24.mono (by decide)) b24 k24 (PySem.W.mg_of X G a24) (PySem.W.mg_none_of X G z_range) (PySem.W.mg_none_of X G z_isinstance) (PySem.W.mg_none_of X G z_int)
  have G_better_27 : FnOk l.prog w K mg base CX0 3 f27 _ ["_law_every", "_law_lead", "_law_costs", "_law_letters", "_law_backs"] _ := ok_better (j := 0) F27 G_cost_9 b9 k9 (PySem.W.mg_of X G a9) (G_items_24.mono (by decide)) b24 k24 (PySem.W.mg_of X G a24) (PySem.W.mg_none_of X G z_range) (PySem.W.mg_none_of X G z_isinstance) (PySem.W.mg_none_of X G z_int) (PySem.W.mg_none_of X G z_len) (PySem.W.mg_none_of X G z_all)
  have G_prices_28 : FnOk l.prog w K mg base CX0 2 f28 _ ["_law_script", "_law_at", "_law_data_here"] _ := ok_prices (j := 0) F28 G_cell_3 b3 k3 (PySem.W.mg_of X G a3) G_told_8 b8 k8 (PySem.W.mg_of X G a8) (PySem.W.mg_none_of X G z_sorted) (PySem.W.mg_none_of X G z_set) (PySem.W.mg_none_of X G z_range) (PySem.W.mg_none_of X G z_len) (PySem.W.mg_none_of X G z_int) (PySem.W.mg_none_of X G z_min) (PySem.W.mg_none_of X G z_zip) (PySem.W.mg_none_of X G z_max)
  have G_cp0_29 : FnOk l.prog w K mg base CX0 1 f32 _ ["told"] _ := ok_cp0 (j := 0) F32 (PySem.W.mg_none_of X G z_isinstance) (PySem.W.mg_none_of X G z_list) (PySem.W.mg_none_of X G z_tuple)
  have G_cp1_30 : FnOk l.prog w K mg base CX0 2 f32 _ ["told"] _ := ok_cp1 (j := 0) F32 G_cp0_29 b32 k32 (PySem.W.mg_of X G a32) (PySem.W.mg_none_of X G z_isinstance) (PySem.W.mg_none_of X G z_list) (PySem.W.mg_none_of X G z_tuple)
  have G_cpR_31 : FnOk l.prog w K mg base CX0 3 f32 _ ["told"] _ := ok_cpR (j := 0) F32 G_cp1_30 b32 k32 (PySem.W.mg_of X G a32) (PySem.W.mg_none_of X G z_isinstance) (PySem.W.mg_none_of X G z_list)
  have G_cpC_32 : FnOk l.prog w K mg base CX0 2 f32 _ ["told"] _ := ok_cpC (j := 0) F32 G_cp0_29 b32 k32 (PySem.W.mg_of X G a32) (PySem.W.mg_none_of X G z_isinstance) (PySem.W.mg_none_of X G z_list)
  have G_lInit_33 : FnOk l.prog w K mg base CX0 4 f33 _ ["self", "row", "costs"] _ := ok_lInit (j := 3) TLeast TIs F33 G_cpR_31 (by decide) G_cpC_32 (by decide) b32 k32 (PySem.W.mg_of X G a32)
  have G_nInit_34 : FnOk l.prog w K mg base CX0 3 f34 _ ["self", "costs"] _ := ok_nInit (j := 2) TNever TIs F34 G_cpC_32 (by decide) b32 k32 (PySem.W.mg_of X G a32)
  have G_areC_35 : FnOk l.prog w K mg base CX0 2 f35 _ ["costs", "data"] _ := ok_areC (j := 1) F35 G_whole_0 b0 k0 (PySem.W.mg_of X G a0) (by decide) (PySem.W.mg_none_of X G z_isinstance) (PySem.W.mg_none_of X G z_list) (PySem.W.mg_none_of X G z_len) (PySem.W.mg_none_of X G z_all)
  have G_tells_36 : FnOk l.prog w K mg base CX0 5 f36 _ ["row", "data", "ahead"] _ := ok_tells (j := 4) TB (exm_own e10 e23 e13 e12) F36 G_behind_21 b21 k21 (PySem.W.mg_of X G a21) (by decide)
  have G_rby_37 : FnOk l.prog w K mg base CX0 1 f39 _ ["whole", "place", "letter", "known", "most"] _ := ok_rby (j := 0) F39 far (PySem.W.mg_none_of X G z_max) (PySem.W.mg_of X G v_FEWEST_COPIED)
  have G_rat_38 : FnOk l.prog w K mg base CX0 2 f40 _ ["whole", "place", "ahead"] _ := ok_rat (j := 0) F40 G_rby_37 b39 k39 (PySem.W.mg_of X G a39) (PySem.W.mg_none_of X G z_max) (PySem.W.mg_none_of X G z_min) (PySem.W.mg_none_of X G z_len) (PySem.W.mg_none_of X G z_tuple) (PySem.W.mg_none_of X G z_enumerate) (PySem.W.mg_of X G v_FEWEST_COPIED) (PySem.W.mg_of X G v_FARTHEST) (PySem.W.mg_of X G v_BACKS) (PySem.W.mg_of X G v_MOST_COPIED)
  have G_pairs_39 : FnOk l.prog w K mg base CX0 1 f41 _ ["reached"] _ := ok_pairs (j := 0) F41 (PySem.W.mg_none_of X G z_max) (PySem.W.mg_none_of X G z_enumerate) (PySem.W.mg_none_of X G z_reversed) (PySem.W.mg_none_of X G z_range) (PySem.W.mg_of X G v_FEWEST_COPIED)
  have G_look_40 : FnOk l.prog w K mg base CX0 3 f42 _ ["self"] _ := ok_look (j := 2) TPl F42 G_rat_38 b40 k40 (PySem.W.mg_of X G a40) (by decide) G_pairs_39 b41 k41 (PySem.W.mg_of X G a41) (by decide) (PySem.W.mg_none_of X G z_range) (PySem.W.mg_none_of X G z_len) (PySem.W.mg_of X G v_BACKS)
  have G_plInit_41 : FnOk l.prog w K mg base CX0 4 f43 _ ["self", "data", "ahead"] _ := ok_plInit (j := 3) TPl F43 G_look_40 b42 (by decide) (PySem.W.mg_none_of X G z_len)
  have G_plPairs_42 : FnOk l.prog w K mg base CX0 1 f44 _ ["self", "at"] _ := ok_plPairs (j := 0) TPl F44
  have G_back2_43 : FnOk l.prog w K mg base CX0 1 f45 _ ["self", "at", "many", "letter"] _ := ok_back2 (j := 0) TPl far F45 (PySem.W.mg_none_of X G z_max)
  have G_worths_44 : FnOk l.prog w K mg base CX0 1 f46 _ ["backs"] _ := ok_worths (j := 0) F46 (PySem.W.mg_none_of X G z_enumerate) (PySem.W.mg_of X G v_FAR)
  have G_fBits_45 : FnOk l.prog w K mg base CX0 1 f47 _ ["self", "many", "letters"] _ := ok_fBits (j := 0) TFa F47
  have G_cheapO_46 : FnOk l.prog w K mg base CX0 1 f48 _ ["self", "letters"] _ := ok_cheapO (j := 0) TFa F48
  have G_faInit_47 : FnOk l.prog w K mg base CX0 2 f49 _ ["self", "letters", "backs"] _ := ok_faInit (j := 1) TFa F49 G_worths_44 b46 k46 (PySem.W.mg_of X G a46) (by decide) (PySem.W.mg_none_of X G z_enumerate) (PySem.W.mg_none_of X G z_sorted) (PySem.W.mg_of X G v_FAR) (PySem.W.mg_of X G v_AHEAD_OF_COPIES)
  have G_costs_48 : FnOk l.prog w K mg base CX0 1 f50 _ ["places", "fares", "start", "end"] _ := ok_costs (j := 0) TPl TFa F50 (PySem.W.mg_none_of X G z_range) (PySem.W.mg_none_of X G z_reversed) (PySem.W.mg_none_of X G z_min) (PySem.W.mg_of X G v_FAR) (PySem.W.mg_of X G v_MOST_COPIED)
  have G_firstOf_49 : FnOk l.prog w K mg base CX0 2 f51 _ ["places", "fares", "costs", "at"] _ := ok_firstOf (j := 1) TPl TFa F51 G_plPairs_42 b44 (by decide) G_fBits_45 b47 (by decide) G_cheapO_46 b48 (by decide)
  have G_itemAt_50 : FnOk l.prog w K mg base CX0 2 f52 _ ["places", "step"] _ := ok_itemAt (j := 1) TPl F52 G_back2_43 b45 (by decide)
  have G_roInit_51 : FnOk l.prog w K mg base CX0 2 f53 _ ["self", "places", "fares", "start", "end"] _ := ok_roInit (j := 1) TRo F53 G_costs_48 b50 k50 (PySem.W.mg_of X G a50) (by decide)
  have G_roTaken_52 : FnOk l.prog w K mg base CX0 3 f54 _ ["self", "at"] _ := ok_roTaken (j := 2) TRo F54 G_firstOf_49 b51 k51 (PySem.W.mg_of X G a51) (by decide)
  have G_roSteps_53 : FnOk l.prog w K mg base CX0 4 f55 _ ["self", "start"] _ := ok_roSteps (j := 3) TRo F55 G_roTaken_52 b54 (by decide)
  have G_roRow_54 : FnOk l.prog w K mg base CX0 5 f56 _ ["self", "start"] _ := ok_roRow (j := 4) TRo F56 G_itemAt_50 b52 k52 (PySem.W.mg_of X G a52) (by decide) G_roSteps_53 b55 (by decide)
  have G_roTold_55 : FnOk l.prog w K mg base CX0 1 f57 _ ["self"] _ := ok_roTold (j := 0) (CP := C_Places) (CF := C_Fares) TRo F57 (PySem.W.mg_of X G v_FAR)
  have G_steps_56 : FnOk l.prog w K mg base CX0 2 f58 _ ["places", "fares", "at"] _ := ok_steps (j := 1) TPl TFa F58 G_plPairs_42 b44 (by decide) G_fBits_45 b47 (by decide) (PySem.W.mg_of X G v_FAR)
  have G_none_57 : FnOk l.prog w K mg base CX0 6 f59 _ ["costs", "data", "prices", "ahead"] _ := ok_none (j := 5) TPr TPl TFa F59 G_plInit_41 b43 (by decide) G_faInit_47 b49 (by decide) G_steps_56 b58 k58 (PySem.W.mg_of X G a58) (by decide) G_pLet_15 b15 (by decide) G_pBk_16 b16 (by decide) (PySem.W.mg_none_of X G z_range) (PySem.W.mg_none_of X G z_len) (PySem.W.mg_none_of X G z_min)
  have G_least_58 : FnOk l.prog w K mg base CX0 6 f60 _ ["data", "prices", "ahead"] _ := ok_least (j := 5) TPr TPl TFa TRo TLeast TNever F60 G_areBytes_20 b20 k20 (PySem.W.mg_of X G a20) (by decide) G_plInit_41 b43 (by decide) G_faInit_47 b49 (by decide) G_roInit_51 b53 (by decide) G_roTold_55 b57 (by decide) G_roRow_54 b56 (by decide) G_pLet_15 b15 (by decide) G_pBk_16 b16 (by decide) G_lInit_33 b33 (by decide) G_nInit_34 b34 (by decide) (PySem.W.mg_none_of X G z_isinstance) (PySem.W.mg_none_of X G z_len) (PySem.W.mg_of X G v_MOST_BYTES) (PySem.W.mg_of X G v_MOST_AHEAD)
  have G_nShows_59 : FnOk l.prog w K mg base CX0 7 f37 _ ["self", "data", "prices", "ahead"] _ := ok_nShows (j := 6) TNever TIs F37 G_areC_35 b35 k35 (PySem.W.mg_of X G a35) (by decide) G_none_57 b59 k59 (PySem.W.mg_of X G a59) (by decide)
  have G_lShows_60 : FnOk l.prog w K mg base CX0 7 f38 _ ["self", "data", "prices", "ahead"] _ := ok_lShows (j := 6) TLeast TIs F38 G_areC_35 b35 k35 (PySem.W.mg_of X G a35) (by decide) G_none_57 b59 k59 (PySem.W.mg_of X G a59) (by decide) G_tells_36 b36 k36 (PySem.W.mg_of X G a36) (by decide) G_bits_23 b23 k23 (PySem.W.mg_of X G a23) (by decide)
  have G_spoilt_61 : FnOk l.prog w K mg base CX0 8 f29 _ ["_law_cell", "_law_every", "_law_lead", "_law_data_here", "_law_before", "_law_costs", "_law_row", "_law_lengths"] _ := ok_spoilt (j := 7) TPr TLeast TNever F29 G_pInit_14 b14 (by decide) G_lInit_33 b33 (by decide) G_nInit_34 b34 (by decide) G_lShows_60 (kb_lS F38) (by decide) G_nShows_59 (kb_nS F37) (by decide) G_better_27 b27 k27 (PySem.W.mg_of X G a27) (by decide) G_cost_9 b9 k9 (PySem.W.mg_of X G a9) (by decide) G_toldBy_25 b25 k25 (PySem.W.mg_of X G a25) (by decide) (PySem.W.mg_none_of X G z_list) (PySem.W.mg_none_of X G z_len) (PySem.W.mg_none_of X G z_max) (PySem.W.mg_none_of X G z_sum)
  have G_all_62 : FnOk l.prog w K mg base CX0 9 f30 _ ["_law_script"] _ := ok_all (j := 8) TPr TLeast TNever TIs F30 F22 G_pInit_14 b14 (by decide) G_lShows_60 (kb_lS F38) (by decide) G_nShows_59 (kb_nS F37) (by decide) G_data_10 b10 k10 (PySem.W.mg_of X G a10) (by decide) G_cell_3 b3 k3 (PySem.W.mg_of X G a3) (by decide) G_prices_28 b28 k28 (PySem.W.mg_of X G a28) (by decide) G_ofHex_5 b5 k5 (PySem.W.mg_of X G a5) (by decide) G_hex_6 b6 k6 (PySem.W.mg_of X G a6) (by decide) G_search_26 b26 k26 (PySem.W.mg_of X G a26) (by decide) G_least_58 (kb_le F60) k60 (PySem.W.mg_of X G a60) (by decide) G_tld_22 (PySem.W.mg_of X G a22) (by decide) G_bits_23 b23 k23 (PySem.W.mg_of X G a23) (by decide) G_spoilt_61 b29 k29 (PySem.W.mg_of X G a29) (by decide) (PySem.W.mg_none_of X G z_range) (PySem.W.mg_none_of X G z_len) (PySem.W.mg_none_of X G z_isinstance)
  have G_law_63 : FnOk l.prog w K mg base CX0 10 fa _ ["_law_script"] _ := ok_law (j := 9) F31 G_all_62 b30 k30 (PySem.W.mg_of X G a30)
  exact G_law_63
end K4

open PySem PySem.W PyProof.Rows
set_option maxHeartbeats 0 in
theorem PySem.Challenge.cw_presshouse_k04_whole_least_holds : PySem.Challenge.rw_presshouse_k04_whole_least.Holds := by
  w_on; o_law; k_head; (case hw => w_witness2)
  k_fill
  refine L2.walk_ofK (l := PySem.Challenge.rw_presshouse_k04_whole_least) (n := 63) (k := 10) (x := "_law_script") (CX := L2.CX0) (sp := K4.spAll) rfl (by decide) rfl ⟨rfl, by decide, by decide⟩ (fun w h Y => PySem.W.kIn_of Y) ?F (fun K H a ns hl hO hS => ⟨a, ns, rfl, hS, fun _ _ => rfl⟩) (fun _ _ _ _ z => z)
  case F =>
    intro w mg fa h KX G hmg
    refine' K4.all_mk KX G hmg ?a0 ?l0 ?c0 ?k0 ?a1 ?l1 ?c1 ?k1 ?a2 ?l2 ?c2 ?k2 ?a3 ?l3 ?c3 ?k3 ?a4 ?l4 ?c4 ?k4 ?a5 ?l5 ?c5 ?k5 ?a6 ?l6 ?c6 ?k6 ?a7 ?l7 ?c7 ?k7 ?a8 ?l8 ?c8 ?k8 ?a9 ?l9 ?c9 ?k9 ?a10 ?l10 ?c10 ?k10 ?a11 ?l11 ?c11 ?k11 ?a12 ?l12 ?c12 ?k12 ?a13 ?l13 ?c13 ?k13 ?m14 ?n14 ?l14 ?c14 ?k14 ?m15 ?n15 ?l15 ?c15 ?k15 ?m16 ?n16 ?l16 ?c16 ?k16 ?a17 ?l17 ?c17 ?k17 ?a18 ?l18 ?c18 ?k18 ?a19 ?l19 ?c19 ?k19 ?a20 ?l20 ?c20 ?k20 ?a21 ?l21 ?c21 ?k21 ?a22 ?l22 ?c22 ?k22 ?a23 ?l23 ?c23 ?k23 ?a24 ?l24 ?c24 ?k24 ?a25 ?l25 ?c25 ?k25 ?a26 ?l26 ?c26 ?k26 ?a27 ?l27 ?c27 ?k27 ?a28 ?l28 ?c28 ?k28 ?a29 ?l29 ?c29 ?k29 ?a30 ?l30 ?c30 ?k30 ?a31 ?l31 ?c31 ?k31 ?a32 ?l32 ?c32 ?k32 ?m33 ?n33 ?l33 ?c33 ?k33 ?m34 ?n34 ?l34 ?c34 ?k34 ?a35 ?l35 ?c35 ?k35 ?a36 ?l36 ?c36 ?k36 ?m37 ?n37 ?l37 ?c37 ?k37 ?m38 ?n38 ?l38 ?c38 ?k38 ?a39 ?l39 ?c39 ?k39 ?a40 ?l40 ?c40 ?k40 ?a41 ?l41 ?c41 ?k41 ?m42 ?n42 ?l42 ?c42 ?k42 ?m43 ?n43 ?l43 ?c43 ?k43 ?m44 ?n44 ?l44 ?c44 ?k44 ?m45 ?n45 ?l45 ?c45 ?k45 ?a46 ?l46 ?c46 ?k46 ?m47 ?n47 ?l47 ?c47 ?k47 ?m48 ?n48 ?l48 ?c48 ?k48 ?m49 ?n49 ?l49 ?c49 ?k49 ?a50 ?l50 ?c50 ?k50 ?a51 ?l51 ?c51 ?k51 ?a52 ?l52 ?c52 ?k52 ?m53 ?n53 ?l53 ?c53 ?k53 ?m54 ?n54 ?l54 ?c54 ?k54 ?m55 ?n55 ?l55 ?c55 ?k55 ?m56 ?n56 ?l56 ?c56 ?k56 ?m57 ?n57 ?l57 ?c57 ?k57 ?a58 ?l58 ?c58 ?k58 ?a59 ?l59 ?c59 ?k59 ?a60 ?l60 ?c60 ?k60 ?aC_Prices ?pg_Prices ?hd_Prices ?po_Prices ?sa_Prices ?mk_Prices ?kp_Prices ?at__letters_Prices ?at__backs_Prices ?cc_Prices ?mr_Prices ?ki_Prices ?aC_Places ?pg_Places ?hd_Places ?po_Places ?sa_Places ?mk_Places ?kp_Places ?at_data_Places ?at_whole_Places ?at_start_Places ?at_pairs_Places ?at_kinds_Places ?aC_Fares ?pg_Fares ?hd_Fares ?po_Fares ?sa_Fares ?mk_Fares ?kp_Fares ?at_letter_bits_Fares ?at_copy_bits_Fares ?at_worths_Fares ?at_cheapest_Fares ?aC_Road ?pg_Road ?hd_Road ?po_Road ?sa_Road ?mk_Road ?kp_Road ?at_places_Road ?at_fares_Road ?at_end_Road ?at_costs_Road ?at__taken_Road ?aC_Least ?pg_Least ?hd_Least ?po_Least ?sa_Least ?mk_Least ?kp_Least ?at_row_Least ?at_costs_Least ?cc_Least ?mr_Least ?ki_Least ?aC_Never ?pg_Never ?hd_Never ?po_Never ?sa_Never ?mk_Never ?kp_Never ?at_costs_Never ?cc_Never ?mr_Never ?ki_Never ?e0 ?e1 ?e2 ?e3 ?e4 ?e5 ?e6 ?e7 ?e8 ?e9 ?e10 ?e11 ?e12 ?e13 ?e14 ?e15 ?e16 ?e17 ?e18 ?e19 ?e20 ?e21 ?e22 ?e23 ?z_super ?s0 ?sp9 ?sp10 ?kLN ?kNL ?w0 ?w1 ?z_isinstance ?z_bool ?z_int ?z_list ?z_all ?z_len ?z_str ?z_bytes ?z_range ?z_sum ?z_tuple ?z_enumerate ?z_min ?z_sorted ?z_set ?z_zip ?z_max ?z_reversed ?v_LONGEST ?v_LETTERS ?v_BACKS ?v_FEWEST_COPIED ?v_MOST_COPIED ?v_FARTHEST ?v_AHEAD_OF_COPIES ?v_MOST_AHEAD ?v_FAR ?v_MOST_BYTES
    (case aC_Prices => first | k_is | kernel_rfl | rfl | decide +kernel)
    (case aC_Places => first | k_is | kernel_rfl | rfl | decide +kernel)
    (case aC_Fares => first | k_is | kernel_rfl | rfl | decide +kernel)
    (case aC_Road => first | k_is | kernel_rfl | rfl | decide +kernel)
    (case aC_Least => first | k_is | kernel_rfl | rfl | decide +kernel)
    (case aC_Never => first | k_is | kernel_rfl | rfl | decide +kernel)
    (case a0 => first | k_is | kernel_rfl | rfl | decide +kernel)
    (case l0 => first | k_is | kernel_rfl | rfl | decide +kernel)
    (case c0 => first | k_is | kernel_rfl | rfl | decide +kernel)
    (case k0 => first | k_is | kernel_rfl | rfl | decide +kernel)
    (case a1 => first | k_is | kernel_rfl | rfl | decide +kernel)
    (case l1 => first | k_is | kernel_rfl | rfl | decide +kernel)
    (case c1 => first | k_is | kernel_rfl | rfl | decide +kernel)
    (case k1 => first | k_is | kernel_rfl | rfl | decide +kernel)
    (case a2 => first | k_is | kernel_rfl | rfl | decide +kernel)
    (case l2 => first | k_is | kernel_rfl | rfl | decide +kernel)
    (case c2 => first | k_is | kernel_rfl | rfl | decide +kernel)
    (case k2 => first | k_is | kernel_rfl | rfl | decide +kernel)
    (case a3 => first | k_is | kernel_rfl | rfl | decide +kernel)
    (case l3 => first | k_is | kernel_rfl | rfl | decide +kernel)
    (case c3 => first | k_is | kernel_rfl | rfl | decide +kernel)
    (case k3 => first | k_is | kernel_rfl | rfl | decide +kernel)
    (case a4 => first | k_is | kernel_rfl | rfl | decide +kernel)
    (case l4 => first | k_is | kernel_rfl | rfl | decide +kernel)
    (case c4 => first | k_is | kernel_rfl | rfl | decide +kernel)
    (case k4 => first | k_is | kernel_rfl | rfl | decide +kernel)
    (case a5 => first | k_is | kernel_rfl | rfl | decide +kernel)
    (case l5 => first | k_is | kernel_rfl | rfl | decide +kernel)
    (case c5 => first | k_is | kernel_rfl | rfl | decide +kernel)
    (case k5 => first | k_is | kernel_rfl | rfl | decide +kernel)
    (case a6 => first | k_is | kernel_rfl | rfl | decide +kernel)
    (case l6 => first | k_is | kernel_rfl | rfl | decide +kernel)
    (case c6 => first | k_is | kernel_rfl | rfl | decide +kernel)
    (case k6 => first | k_is | kernel_rfl | rfl | decide +kernel)
    (case a7 => first | k_is | kernel_rfl | rfl | decide +kernel)
    (case l7 => first | k_is | kernel_rfl | rfl | decide +kernel)
    (case c7 => first | k_is | kernel_rfl | rfl | decide +kernel)
    (case k7 => first | k_is | kernel_rfl | rfl | decide +kernel)
    (case a8 => first | k_is | kernel_rfl | rfl | decide +kernel)
    (case l8 => first | k_is | kernel_rfl | rfl | decide +kernel)
    (case c8 => first | k_is | kernel_rfl | rfl | decide +kernel)
    (case k8 => first | k_is | kernel_rfl | rfl | decide +kernel)
    (case a9 => first | k_is | kernel_rfl | rfl | decide +kernel)
    (case l9 => first | k_is | kernel_rfl | rfl | decide +kernel)
    (case c9 => first | k_is | kernel_rfl | rfl | decide +kernel)
    (case k9 => first | k_is | kernel_rfl | rfl | decide +kernel)
    (case a10 => first | k_is | kernel_rfl | rfl | decide +kernel)
    (case l10 => first | k_is | kernel_rfl | rfl | decide +kernel)
    (case c10 => first | k_is | kernel_rfl | rfl | decide +kernel)
    (case k10 => first | k_is | kernel_rfl | rfl | decide +kernel)
    (case a11 => first | k_is | kernel_rfl | rfl | decide +kernel)
    (case l11 => first | k_is | kernel_rfl | rfl | decide +kernel)
    (case c11 => first | k_is | kernel_rfl | rfl | decide +kernel)
    (case k11 => first | k_is | kernel_rfl | rfl | decide +kernel)
    (case a12 => first | k_is | kernel_rfl | rfl | decide +kernel)
    (case l12 => first | k_is | kernel_rfl | rfl | decide +kernel)
    (case c12 => first | k_is | kernel_rfl | rfl | decide +kernel)
    (case k12 => first | k_is | kernel_rfl | rfl | decide +kernel)
    (case a13 => first | k_is | kernel_rfl | rfl | decide +kernel)
    (case l13 => first | k_is | kernel_rfl | rfl | decide +kernel)
    (case c13 => first | k_is | kernel_rfl | rfl | decide +kernel)
    (case k13 => first | k_is | kernel_rfl | rfl | decide +kernel)
    (case a17 => first | k_is | kernel_rfl | rfl | decide +kernel)
    (case l17 => first | k_is | kernel_rfl | rfl | decide +kernel)
    (case c17 => first | k_is | kernel_rfl | rfl | decide +kernel)
    (case k17 => first | k_is | kernel_rfl | rfl | decide +kernel)
    (case a18 => first | k_is | kernel_rfl | rfl | decide +kernel)
    (case l18 => first | k_is | kernel_rfl | rfl | decide +kernel)
    (case c18 => first | k_is | kernel_rfl | rfl | decide +kernel)
    (case k18 => first | k_is | kernel_rfl | rfl | decide +kernel)
    (case a19 => first | k_is | kernel_rfl | rfl | decide +kernel)
    (case l19 => first | k_is | kernel_rfl | rfl | decide +kernel)
    (case c19 => first | k_is | kernel_rfl | rfl | decide +kernel)
    (case k19 => first | k_is | kernel_rfl | rfl | decide +kernel)
    (case a20 => first | k_is | kernel_rfl | rfl | decide +kernel)
    (case l20 => first | k_is | kernel_rfl | rfl | decide +kernel)
    (case c20 => first | k_is | kernel_rfl | rfl | decide +kernel)
    (case k20 => first | k_is | kernel_rfl | rfl | decide +kernel)
    (case a21 => first | k_is | kernel_rfl | rfl | decide +kernel)
    (case l21 => first | k_is | kernel_rfl | rfl | decide +kernel)
    (case c21 => first | k_is | kernel_rfl | rfl | decide +kernel)
    (case k21 => first | k_is | kernel_rfl | rfl | decide +kernel)
    (case a22 => first | k_is | kernel_rfl | rfl | decide +kernel)
    (case l22 => first | k_is | kernel_rfl | rfl | decide +kernel)
    (case c22 => first | k_is | kernel_rfl | rfl | decide +kernel)
    (case k22 => first | k_is | kernel_rfl | rfl | decide +kernel)
    (case a23 => first | k_is | kernel_rfl | rfl | decide +kernel)
    (case l23 => first | k_is | kernel_rfl | rfl | decide +kernel)
    (case c23 => first | k_is | kernel_rfl | rfl | decide +kernel)
    (case k23 => first | k_is | kernel_rfl | rfl | decide +kernel)
    (case a24 => first | k_is | kernel_rfl | rfl | decide +kernel)
    (case l24 => first | k_is | kernel_rfl | rfl | decide +kernel)
    (case c24 => first | k_is | kernel_rfl | rfl | decide +kernel)
    (case k24 => first | k_is | kernel_rfl | rfl | decide +kernel)
    (case a25 => first | k_is | kernel_rfl | rfl | decide +kernel)
    (case l25 => first | k_is | kernel_rfl | rfl | decide +kernel)
    (case c25 => first | k_is | kernel_rfl | rfl | decide +kernel)
    (case k25 => first | k_is | kernel_rfl | rfl | decide +kernel)
    (case a26 => first | k_is | kernel_rfl | rfl | decide +kernel)
    (case l26 => first | k_is | kernel_rfl | rfl | decide +kernel)
    (case c26 => first | k_is | kernel_rfl | rfl | decide +kernel)
    (case k26 => first | k_is | kernel_rfl | rfl | decide +kernel)
    (case a27 => first | k_is | kernel_rfl | rfl | decide +kernel)
    (case l27 => first | k_is | kernel_rfl | rfl | decide +kernel)
    (case c27 => first | k_is | kernel_rfl | rfl | decide +kernel)
    (case k27 => first | k_is | kernel_rfl | rfl | decide +kernel)
    (case a28 => first | k_is | kernel_rfl | rfl | decide +kernel)
    (case l28 => first | k_is | kernel_rfl | rfl | decide +kernel)
    (case c28 => first | k_is | kernel_rfl | rfl | decide +kernel)
    (case k28 => first | k_is | kernel_rfl | rfl | decide +kernel)
    (case a29 => first | k_is | kernel_rfl | rfl | decide +kernel)
    (case l29 => first | k_is | kernel_rfl | rfl | decide +kernel)
    (case c29 => first | k_is | kernel_rfl | rfl | decide +kernel)
    (case k29 => first | k_is | kernel_rfl | rfl | decide +kernel)
    (case a30 => first | k_is | kernel_rfl | rfl | decide +kernel)
    (case l30 => first | k_is | kernel_rfl | rfl | decide +kernel)
    (case c30 => first | k_is | kernel_rfl | rfl | decide +kernel)
    (case k30 => first | k_is | kernel_rfl | rfl | decide +kernel)
    (case a31 => first | k_is | kernel_rfl | rfl | decide +kernel)
    (case l31 => first | k_is | kernel_rfl | rfl | decide +kernel)
    (case c31 => first | k_is | kernel_rfl | rfl | decide +kernel)
    (case k31 => first | k_is | kernel_rfl | rfl | decide +kernel)
    (case a32 => first | k_is | kernel_rfl | rfl | decide +kernel)
    (case l32 => first | k_is | kernel_rfl | rfl | decide +kernel)
    (case c32 => first | k_is | kernel_rfl | rfl | decide +kernel)
    (case k32 => first | k_is | kernel_rfl | rfl | decide +kernel)
    (case a35 => first | k_is | kernel_rfl | rfl | decide +kernel)
    (case l35 => first | k_is | kernel_rfl | rfl | decide +kernel)
    (case c35 => first | k_is | kernel_rfl | rfl | decide +kernel)
    (case k35 => first | k_is | kernel_rfl | rfl | decide +kernel)
    (case a36 => first | k_is | kernel_rfl | rfl | decide +kernel)
    (case l36 => first | k_is | kernel_rfl | rfl | decide +kernel)
    (case c36 => first | k_is | kernel_rfl | rfl | decide +kernel)
    (case k36 => first | k_is | kernel_rfl | rfl | decide +kernel)
    (case a39 => first | k_is | kernel_rfl | rfl | decide +kernel)
    (case l39 => first | k_is | kernel_rfl | rfl | decide +kernel)
    (case c39 => first | k_is | kernel_rfl | rfl | decide +kernel)
    (case k39 => first | k_is | kernel_rfl | rfl | decide +kernel)
    (case a40 => first | k_is | kernel_rfl | rfl | decide +kernel)
    (case l40 => first | k_is | kernel_rfl | rfl | decide +kernel)
    (case c40 => first | k_is | kernel_rfl | rfl | decide +kernel)
    (case k40 => first | k_is | kernel_rfl | rfl | decide +kernel)
    (case a41 => first | k_is | kernel_rfl | rfl | decide +kernel)
    (case l41 => first | k_is | kernel_rfl | rfl | decide +kernel)
    (case c41 => first | k_is | kernel_rfl | rfl | decide +kernel)
    (case k41 => first | k_is | kernel_rfl | rfl | decide +kernel)
    (case a46 => first | k_is | kernel_rfl | rfl | decide +kernel)
    (case l46 => first | k_is | kernel_rfl | rfl | decide +kernel)
    (case c46 => first | k_is | kernel_rfl | rfl | decide +kernel)
    (case k46 => first | k_is | kernel_rfl | rfl | decide +kernel)
    (case a50 => first | k_is | kernel_rfl | rfl | decide +kernel)
    (case l50 => first | k_is | kernel_rfl | rfl | decide +kernel)
    (case c50 => first | k_is | kernel_rfl | rfl | decide +kernel)
    (case k50 => first | k_is | kernel_rfl | rfl | decide +kernel)
    (case a51 => first | k_is | kernel_rfl | rfl | decide +kernel)
    (case l51 => first | k_is | kernel_rfl | rfl | decide +kernel)
    (case c51 => first | k_is | kernel_rfl | rfl | decide +kernel)
    (case k51 => first | k_is | kernel_rfl | rfl | decide +kernel)
    (case a52 => first | k_is | kernel_rfl | rfl | decide +kernel)
    (case l52 => first | k_is | kernel_rfl | rfl | decide +kernel)
    (case c52 => first | k_is | kernel_rfl | rfl | decide +kernel)
    (case k52 => first | k_is | kernel_rfl | rfl | decide +kernel)
    (case a58 => first | k_is | kernel_rfl | rfl | decide +kernel)
    (case l58 => first | k_is | kernel_rfl | rfl | decide +kernel)
    (case c58 => first | k_is | kernel_rfl | rfl | decide +kernel)
    (case k58 => first | k_is | kernel_rfl | rfl | decide +kernel)
    (case a59 => first | k_is | kernel_rfl | rfl | decide +kernel)
    (case l59 => first | k_is | kernel_rfl | rfl | decide +kernel)
    (case c59 => first | k_is | kernel_rfl | rfl | decide +kernel)
    (case k59 => first | k_is | kernel_rfl | rfl | decide +kernel)
    (case a60 => first | k_is | kernel_rfl | rfl | decide +kernel)
    (case l60 => first | k_is | kernel_rfl | rfl | decide +kernel)
    (case c60 => first | k_is | kernel_rfl | rfl | decide +kernel)
    (case k60 => first | k_is | kernel_rfl | rfl | decide +kernel)
    (case pg_Prices => first | k_is | kernel_rfl | rfl | decide +kernel)
    (case hd_Prices => first | k_is | kernel_rfl | rfl | decide +kernel)
    (case po_Prices => first | k_is | kernel_rfl | rfl | decide +kernel)
    (case sa_Prices => first | k_is | kernel_rfl | rfl | decide +kernel)
    (case mk_Prices => first | k_is | kernel_rfl | rfl | decide +kernel)
    (case kp_Prices => first | k_is | kernel_rfl | rfl | decide +kernel)
    (case at__letters_Prices => first | k_is | kernel_rfl | rfl | decide +kernel)
    (case at__backs_Prices => first | k_is | kernel_rfl | rfl | decide +kernel)
    (case cc_Prices => first | k_is | kernel_rfl | rfl | decide +kernel)
    (case mr_Prices => first | k_is | kernel_rfl | rfl | decide +kernel)
    (case ki_Prices => first | k_is | kernel_rfl | rfl | decide +kernel)
    (case pg_Places => first | k_is | kernel_rfl | rfl | decide +kernel)
    (case hd_Places => first | k_is | kernel_rfl | rfl | decide +kernel)
    (case po_Places => first | k_is | kernel_rfl | rfl | decide +kernel)
    (case sa_Places => first | k_is | kernel_rfl | rfl | decide +kernel)
    (case mk_Places => first | k_is | kernel_rfl | rfl | decide +kernel)
    (case kp_Places => first | k_is | kernel_rfl | rfl | decide +kernel)
    (case at_data_Places => first | k_is | kernel_rfl | rfl | decide +kernel)
    (case at_whole_Places => first | k_is | kernel_rfl | rfl | decide +kernel)
    (case at_start_Places => first | k_is | kernel_rfl | rfl | decide +kernel)
    (case at_pairs_Places => first | k_is | kernel_rfl | rfl | decide +kernel)
    (case at_kinds_Places => first | k_is | kernel_rfl | rfl | decide +kernel)
    (case pg_Fares => first | k_is | kernel_rfl | rfl | decide +kernel)
    (case hd_Fares => first | k_is | kernel_rfl | rfl | decide +kernel)
    (case po_Fares => first | k_is | kernel_rfl | rfl | decide +kernel)
    (case sa_Fares => first | k_is | kernel_rfl | rfl | decide +kernel)
    (case mk_Fares => first | k_is | kernel_rfl | rfl | decide +kernel)
    (case kp_Fares => first | k_is | kernel_rfl | rfl | decide +kernel)
    (case at_letter_bits_Fares => first | k_is | kernel_rfl | rfl | decide +kernel)
    (case at_copy_bits_Fares => first | k_is | kernel_rfl | rfl | decide +kernel)
    (case at_worths_Fares => first | k_is | kernel_rfl | rfl | decide +kernel)
    (case at_cheapest_Fares => first | k_is | kernel_rfl | rfl | decide +kernel)
    (case pg_Road => first | k_is | kernel_rfl | rfl | decide +kernel)
    (case hd_Road => first | k_is | kernel_rfl | rfl | decide +kernel)
    (case po_Road => first | k_is | kernel_rfl | rfl | decide +kernel)
    (case sa_Road => first | k_is | kernel_rfl | rfl | decide +kernel)
    (case mk_Road => first | k_is | kernel_rfl | rfl | decide +kernel)
    (case kp_Road => first | k_is | kernel_rfl | rfl | decide +kernel)
    (case at_places_Road => first | k_is | kernel_rfl | rfl | decide +kernel)
    (case at_fares_Road => first | k_is | kernel_rfl | rfl | decide +kernel)
    (case at_end_Road => first | k_is | kernel_rfl | rfl | decide +kernel)
    (case at_costs_Road => first | k_is | kernel_rfl | rfl | decide +kernel)
    (case at__taken_Road => first | k_is | kernel_rfl | rfl | decide +kernel)
    (case pg_Least => first | k_is | kernel_rfl | rfl | decide +kernel)
    (case hd_Least => first | k_is | kernel_rfl | rfl | decide +kernel)
    (case po_Least => first | k_is | kernel_rfl | rfl | decide +kernel)
    (case sa_Least => first | k_is | kernel_rfl | rfl | decide +kernel)
    (case mk_Least => first | k_is | kernel_rfl | rfl | decide +kernel)
    (case kp_Least => first | k_is | kernel_rfl | rfl | decide +kernel)
    (case at_row_Least => first | k_is | kernel_rfl | rfl | decide +kernel)
    (case at_costs_Least => first | k_is | kernel_rfl | rfl | decide +kernel)
    (case cc_Least => first | k_is | kernel_rfl | rfl | decide +kernel)
    (case mr_Least => first | k_is | kernel_rfl | rfl | decide +kernel)
    (case ki_Least => first | k_is | kernel_rfl | rfl | decide +kernel)
    (case pg_Never => first | k_is | kernel_rfl | rfl | decide +kernel)
    (case hd_Never => first | k_is | kernel_rfl | rfl | decide +kernel)
    (case po_Never => first | k_is | kernel_rfl | rfl | decide +kernel)
    (case sa_Never => first | k_is | kernel_rfl | rfl | decide +kernel)
    (case mk_Never => first | k_is | kernel_rfl | rfl | decide +kernel)
    (case kp_Never => first | k_is | kernel_rfl | rfl | decide +kernel)
    (case at_costs_Never => first | k_is | kernel_rfl | rfl | decide +kernel)
    (case cc_Never => first | k_is | kernel_rfl | rfl | decide +kernel)
    (case mr_Never => first | k_is | kernel_rfl | rfl | decide +kernel)
    (case ki_Never => first | k_is | kernel_rfl | rfl | decide +kernel)
    (case m14 => first | k_is | kernel_rfl | rfl | decide +kernel)
    (case n14 => first | k_is | kernel_rfl | rfl | decide +kernel)
    (case l14 => first | k_is | kernel_rfl | rfl | decide +kernel)
    (case c14 => first | k_is | kernel_rfl | rfl | decide +kernel)
    (case k14 => first | k_is | kernel_rfl | rfl | decide +kernel)
    (case m15 => first | k_is | kernel_rfl | rfl | decide +kernel)
    (case n15 => first | k_is | kernel_rfl | rfl | decide +kernel)
    (case l15 => first | k_is | kernel_rfl | rfl | decide +kernel)
    (case c15 => first | k_is | kernel_rfl | rfl | decide +kernel)
    (case k15 => first | k_is | kernel_rfl | rfl | decide +kernel)
    (case m16 => first | k_is | kernel_rfl | rfl | decide +kernel)
    (case n16 => first | k_is | kernel_rfl | rfl | decide +kernel)
    (case l16 => first | k_is | kernel_rfl | rfl | decide +kernel)
    (case c16 => first | k_is | kernel_rfl | rfl | decide +kernel)
    (case k16 => first | k_is | kernel_rfl | rfl | decide +kernel)
    (case m33 => first | k_is | kernel_rfl | rfl | decide +kernel)
    (case n33 => first | k_is | kernel_rfl | rfl | decide +kernel)
    (case l33 => first | k_is | kernel_rfl | rfl | decide +kernel)
    (case c33 => first | k_is | kernel_rfl | rfl | decide +kernel)
    (case k33 => first | k_is | kernel_rfl | rfl | decide +kernel)
    (case m34 => first | k_is | kernel_rfl | rfl | decide +kernel)
    (case n34 => first | k_is | kernel_rfl | rfl | decide +kernel)
    (case l34 => first | k_is | kernel_rfl | rfl | decide +kernel)
    (case c34 => first | k_is | kernel_rfl | rfl | decide +kernel)
    (case k34 => first | k_is | kernel_rfl | rfl | decide +kernel)
    (case m37 => first | k_is | kernel_rfl | rfl | decide +kernel)
    (case n37 => first | k_is | kernel_rfl | rfl | decide +kernel)
    (case l37 => first | k_is | kernel_rfl | rfl | decide +kernel)
    (case c37 => first | k_is | kernel_rfl | rfl | decide +kernel)
    (case k37 => first | k_is | kernel_rfl | rfl | decide +kernel)
    (case m38 => first | k_is | kernel_rfl | rfl | decide +kernel)
    (case n38 => first | k_is | kernel_rfl | rfl | decide +kernel)
    (case l38 => first | k_is | kernel_rfl | rfl | decide +kernel)
    (case c38 => first | k_is | kernel_rfl | rfl | decide +kernel)
    (case k38 => first | k_is | kernel_rfl | rfl | decide +kernel)
    (case m42 => first | k_is | kernel_rfl | rfl | decide +kernel)
    (case n42 => first | k_is | kernel_rfl | rfl | decide +kernel)
    (case l42 => first | k_is | kernel_rfl | rfl | decide +kernel)
    (case c42 => first | k_is | kernel_rfl | rfl | decide +kernel)
    (case k42 => first | k_is | kernel_rfl | rfl | decide +kernel)
    (case m43 => first | k_is | kernel_rfl | rfl | decide +kernel)
    (case n43 => first | k_is | kernel_rfl | rfl | decide +kernel)
    (case l43 => first | k_is | kernel_rfl | rfl | decide +kernel)
    (case c43 => first | k_is | kernel_rfl | rfl | decide +kernel)
    (case k43 => first | k_is | kernel_rfl | rfl | decide +kernel)
    (case m44 => first | k_is | kernel_rfl | rfl | decide +kernel)
    (case n44 => first | k_is | kernel_rfl | rfl | decide +kernel)
    (case l44 => first | k_is | kernel_rfl | rfl | decide +kernel)
    (case c44 => first | k_is | kernel_rfl | rfl | decide +kernel)
    (case k44 => first | k_is | kernel_rfl | rfl | decide +kernel)
    (case m45 => first | k_is | kernel_rfl | rfl | decide +kernel)
    (case n45 => first | k_is | kernel_rfl | rfl | decide +kernel)
    (case l45 => first | k_is | kernel_rfl | rfl | decide +kernel)
    (case c45 => first | k_is | kernel_rfl | rfl | decide +kernel)
    (case k45 => first | k_is | kernel_rfl | rfl | decide +kernel)
    (case m47 => first | k_is | kernel_rfl | rfl | decide +kernel)
    (case n47 => first | k_is | kernel_rfl | rfl | decide +kernel)
    (case l47 => first | k_is | kernel_rfl | rfl | decide +kernel)
    (case c47 => first | k_is | kernel_rfl | rfl | decide +kernel)
    (case k47 => first | k_is | kernel_rfl | rfl | decide +kernel)
    (case m48 => first | k_is | kernel_rfl | rfl | decide +kernel)
    (case n48 => first | k_is | kernel_rfl | rfl | decide +kernel)
    (case l48 => first | k_is | kernel_rfl | rfl | decide +kernel)
    (case c48 => first | k_is | kernel_rfl | rfl | decide +kernel)
    (case k48 => first | k_is | kernel_rfl | rfl | decide +kernel)
    (case m49 => first | k_is | kernel_rfl | rfl | decide +kernel)
    (case n49 => first | k_is | kernel_rfl | rfl | decide +kernel)
    (case l49 => first | k_is | kernel_rfl | rfl | decide +kernel)
    (case c49 => first | k_is | kernel_rfl | rfl | decide +kernel)
    (case k49 => first | k_is | kernel_rfl | rfl | decide +kernel)
    (case m53 => first | k_is | kernel_rfl | rfl | decide +kernel)
    (case n53 => first | k_is | kernel_rfl | rfl | decide +kernel)
    (case l53 => first | k_is | kernel_rfl | rfl | decide +kernel)
    (case c53 => first | k_is | kernel_rfl | rfl | decide +kernel)
    (case k53 => first | k_is | kernel_rfl | rfl | decide +kernel)
    (case m54 => first | k_is | kernel_rfl | rfl | decide +kernel)
    (case n54 => first | k_is | kernel_rfl | rfl | decide +kernel)
    (case l54 => first | k_is | kernel_rfl | rfl | decide +kernel)
    (case c54 => first | k_is | kernel_rfl | rfl | decide +kernel)
    (case k54 => first | k_is | kernel_rfl | rfl | decide +kernel)
    (case m55 => first | k_is | kernel_rfl | rfl | decide +kernel)
    (case n55 => first | k_is | kernel_rfl | rfl | decide +kernel)
    (case l55 => first | k_is | kernel_rfl | rfl | decide +kernel)
    (case c55 => first | k_is | kernel_rfl | rfl | decide +kernel)
    (case k55 => first | k_is | kernel_rfl | rfl | decide +kernel)
    (case m56 => first | k_is | kernel_rfl | rfl | decide +kernel)
    (case n56 => first | k_is | kernel_rfl | rfl | decide +kernel)
    (case l56 => first | k_is | kernel_rfl | rfl | decide +kernel)
    (case c56 => first | k_is | kernel_rfl | rfl | decide +kernel)
    (case k56 => first | k_is | kernel_rfl | rfl | decide +kernel)
    (case m57 => first | k_is | kernel_rfl | rfl | decide +kernel)
    (case n57 => first | k_is | kernel_rfl | rfl | decide +kernel)
    (case l57 => first | k_is | kernel_rfl | rfl | decide +kernel)
    (case c57 => first | k_is | kernel_rfl | rfl | decide +kernel)
    (case k57 => first | k_is | kernel_rfl | rfl | decide +kernel)
    (case e0 => first | k_is | kernel_rfl | rfl | decide +kernel)
    (case e1 => first | k_is | kernel_rfl | rfl | decide +kernel)
    (case e2 => first | k_is | kernel_rfl | rfl | decide +kernel)
    (case e3 => first | k_is | kernel_rfl | rfl | decide +kernel)
    (case e4 => first | k_is | kernel_rfl | rfl | decide +kernel)
    (case e5 => first | k_is | kernel_rfl | rfl | decide +kernel)
    (case e6 => first | k_is | kernel_rfl | rfl | decide +kernel)
    (case e7 => first | k_is | kernel_rfl | rfl | decide +kernel)
    (case e8 => first | k_is | kernel_rfl | rfl | decide +kernel)
    (case e9 => first | k_is | kernel_rfl | rfl | decide +kernel)
    (case e10 => first | k_is | kernel_rfl | rfl | decide +kernel)
    (case e11 => first | k_is | kernel_rfl | rfl | decide +kernel)
    (case e12 => first | k_is | kernel_rfl | rfl | decide +kernel)
    (case e13 => first | k_is | kernel_rfl | rfl | decide +kernel)
    (case e14 => first | k_is | kernel_rfl | rfl | decide +kernel)
    (case e15 => first | k_is | kernel_rfl | rfl | decide +kernel)
    (case e16 => first | rfl | with_unfolding_all rfl | decide +kernel)
    (case e17 => first | k_is | kernel_rfl | rfl | decide +kernel)
    (case e18 => first | k_is | kernel_rfl | rfl | decide +kernel)
    (case e19 => first | k_is | kernel_rfl | rfl | decide +kernel)
    (case e20 => first | rfl | with_unfolding_all rfl | decide +kernel)
    (case e21 => first | rfl | with_unfolding_all rfl | decide +kernel)
    (case e22 => first | k_is | kernel_rfl | rfl | decide +kernel)
    (case e23 => first | k_is | kernel_rfl | rfl | decide +kernel)
    (case z_super => first | k_is | kernel_rfl | rfl | decide +kernel)
    (case s0 => first | k_is | kernel_rfl | rfl | decide +kernel)
    (case sp9 => first | k_is | kernel_rfl | rfl | decide +kernel)
    (case sp10 => first | k_is | kernel_rfl | rfl | decide +kernel)
    (case kLN => first | k_is | kernel_rfl | rfl | decide +kernel)
    (case kNL => first | k_is | kernel_rfl | rfl | decide +kernel)
    (case w0 => first | k_is | kernel_rfl | rfl | decide +kernel)
    (case w1 => first | k_is | kernel_rfl | rfl | decide +kernel)
    (case z_isinstance => first | k_is | kernel_rfl | rfl | decide +kernel)
    (case z_bool => first | k_is | kernel_rfl | rfl | decide +kernel)
    (case z_int => first | k_is | kernel_rfl | rfl | decide +kernel)
    (case z_list => first | k_is | kernel_rfl | rfl | decide +kernel)
    (case z_all => first | k_is | kernel_rfl | rfl | decide +kernel)
    (case z_len => first | k_is | kernel_rfl | rfl | decide +kernel)
    (case z_str => first | k_is | kernel_rfl | rfl | decide +kernel)
    (case z_bytes => first | k_is | kernel_rfl | rfl | decide +kernel)
    (case z_range => first | k_is | kernel_rfl | rfl | decide +kernel)
    (case z_sum => first | k_is | kernel_rfl | rfl | decide +kernel)
    (case z_tuple => first | k_is | kernel_rfl | rfl | decide +kernel)
    (case z_enumerate => first | k_is | kernel_rfl | rfl | decide +kernel)
    (case z_min => first | k_is | kernel_rfl | rfl | decide +kernel)
    (case z_sorted => first | k_is | kernel_rfl | rfl | decide +kernel)
    (case z_set => first | k_is | kernel_rfl | rfl | decide +kernel)
    (case z_zip => first | k_is | kernel_rfl | rfl | decide +kernel)
    (case z_max => first | k_is | kernel_rfl | rfl | decide +kernel)
    (case z_reversed => first | k_is | kernel_rfl | rfl | decide +kernel)
    (case v_LONGEST => first | k_is | kernel_rfl | rfl | decide +kernel)
    (case v_LETTERS => first | k_is | kernel_rfl | rfl | decide +kernel)
    (case v_BACKS => first | k_is | kernel_rfl | rfl | decide +kernel)
    (case v_FEWEST_COPIED => first | k_is | kernel_rfl | rfl | decide +kernel)
    (case v_MOST_COPIED => first | k_is | kernel_rfl | rfl | decide +kernel)
    (case v_FARTHEST => first | k_is | kernel_rfl | rfl | decide +kernel)
    (case v_AHEAD_OF_COPIES => first | k_is | kernel_rfl | rfl | decide +kernel)
    (case v_MOST_AHEAD => first | k_is | kernel_rfl | rfl | decide +kernel)
    (case v_FAR => first | k_is | kernel_rfl | rfl | decide +kernel)
    (case v_MOST_BYTES => first | k_is | kernel_rfl | rfl | decide +kernel)

