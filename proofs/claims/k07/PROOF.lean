import PyProof.Rows.All
import Wide.All
import OpenK.AllK
import Wide.FinOn
import PyProof.EqAt
import PyProof.EqKinds
import PyProof.TupleCall
import HandS.ForMost
import HandS.ForExc
import HandS.IsInst
import HandS.SortKw
import HandS.SortRule
import HandS.SetFor
import HandS.Flow
import HandS.Zip
import HandS.Walk
import HandS.Bytes
import HandS.BytesMake
import HandS.ToBytes
import HandS.Defaults
import KE.KBytesHexOf
import PyProof.Rows.StrIntSpec
import PyProof.FString3
import HandS.FStr
import KE.KxField
import HandS.StrMore
import HandS.Lambda
import HandS.EndTab
import KE.SortKeyHeap
import KE.KSortTup
import KE.KDictWalk
import HandS.DictTup
import KE.KDictDisplayH
import HandS.WideBits
import HandS.More
import HandS.SortInts
import HandS.DictComp
import HandS.Small
import HandS.Style
import KE.KExcSuper
import HandS.ExcInit
import PyProof.FString2
import HandS.HotCalls
import HandS.IntHex
import HandS.Text
import HandS.Iter
import HandS.ExcCtx
import HandS.MakeKwOnly
import HandS.Strs
import PyProof.StrBlock2
import PySem.Challenge.RW_presshouse_k07_whole_read
set_option Elab.async false
set_option linter.all false
set_option maxRecDepth 100000
set_option maxHeartbeats 4100000
namespace K7
open PySem PySem.Spec PyProof.Rows L2
def topS (i : Nat) : Stmt := PySem.Challenge.pw_presshouse_k07_whole_read.main.body.getD i (.Pass ⟨0, 0, 0, 0⟩)
abbrev sWords : Stmt := topS 20
abbrev sByLet : Stmt := topS 18
abbrev sLBits : Stmt := topS 66
abbrev sLWords : Stmt := topS 67
abbrev sLLeast : Stmt := topS 68
abbrev sLOwn : Stmt := topS 73
abbrev sLRowB : Stmt := topS 74
abbrev sWhole : Stmt := topS 9
abbrev sIsNum : Stmt := topS 10
abbrev sAreNum : Stmt := topS 11
abbrev sOfHex : Stmt := topS 13
abbrev sAreBytes : Stmt := topS 12
abbrev sAreGood : Stmt := topS 19
abbrev sAreP : Stmt := topS 30
abbrev sToldP : Stmt := topS 31
abbrev sDrawn : Stmt := topS 32
abbrev sCopyB : Stmt := topS 35
abbrev sCell : Stmt := topS 62
abbrev sNums : Stmt := topS 63
abbrev sHex : Stmt := topS 64
abbrev sData : Stmt := topS 65
abbrev sBack : Stmt := topS 69
abbrev sCost : Stmt := topS 70
abbrev sTold : Stmt := topS 72
abbrev sItems : Stmt := topS 71
abbrev sAll : Stmt := topS 78
abbrev sLaw : Stmt := topS 79
abbrev sOpened : Stmt := topS 59
abbrev sLAnyRow : Stmt := topS 75
abbrev sLAnyHead : Stmt := topS 76
abbrev sLStream : Stmt := topS 77
abbrev sTrInit : Stmt := inClass (topS 47) 0
abbrev sHdInit : Stmt := inClass (topS 48) 0
abbrev sHdHear : Stmt := inClass (topS 48) 1
abbrev sHdBits : Stmt := inClass (topS 48) 2
abbrev sHdRead : Stmt := inClass (topS 48) 3
abbrev sHdBack : Stmt := inClass (topS 48) 4
abbrev sHdSlip : Stmt := inClass (topS 48) 5
abbrev sHdNum : Stmt := inClass (topS 48) 6
abbrev sHdLet : Stmt := inClass (topS 48) 7
abbrev sRgInit : Stmt := inClass (topS 56) 0
abbrev sRgHear : Stmt := inClass (topS 56) 1
abbrev sRgTold : Stmt := inClass (topS 56) 2
abbrev sRgBytes : Stmt := inClass (topS 56) 3
abbrev sRgOver : Stmt := inClass (topS 56) 4
abbrev sRgBits : Stmt := inClass (topS 56) 5
abbrev sRgGo : Stmt := inClass (topS 56) 6
abbrev sRgNext : Stmt := inClass (topS 56) 7
abbrev sRgBlock : Stmt := inClass (topS 56) 8
abbrev sRgCount : Stmt := inClass (topS 56) 9
abbrev sRgPlain : Stmt := inClass (topS 56) 10
abbrev sRgRun : Stmt := inClass (topS 56) 11
abbrev sRgTake : Stmt := inClass (topS 56) 12
abbrev sRgTrees : Stmt := inClass (topS 56) 13
abbrev sRgItem : Stmt := inClass (topS 56) 14
abbrev sRgRoom : Stmt := inClass (topS 56) 15
abbrev sRgEnd : Stmt := inClass (topS 56) 16
abbrev sRgRest : Stmt := inClass (topS 56) 17
abbrev sRdInit : Stmt := inClass (topS 60) 0
abbrev sRdHear : Stmt := inClass (topS 60) 1
abbrev sRdKnown : Stmt := inClass (topS 60) 2
abbrev sRdOver : Stmt := inClass (topS 60) 3
abbrev sRdBits : Stmt := inClass (topS 60) 4
abbrev sBsInit : Stmt := inClass (topS 6) 0
abbrev sPInit : Stmt := inClass (topS 29) 0
abbrev sPLet : Stmt := inClass (topS 29) 1
abbrev sPBk : Stmt := inClass (topS 29) 2
theorem scIsNum : FnScope ["told", "least", "most"] ["told", "least", "most"] (defScope sIsNum) := ⟨rfl, rfl, rfl, by decide +kernel, rfl, by decide +kernel, by decide +kernel⟩
theorem scAreNum : FnScope ["told", "least", "most", "one"] ["told", "least", "most"] (defScope sAreNum) := ⟨rfl, rfl, rfl, by decide +kernel, rfl, by decide +kernel, by decide +kernel⟩
theorem same_upd {H : Hp} {p : Addr} {o : HO} (h : H p = none) : Same H (upd H p o) := fun b x e => by
  rw [upd_ne (ne_of_none e h)]
  exact e
theorem same_put {H H' : Hp} {D : Addr} {o : HO} (h : Same H H') (n : H D = none) : Same H (upd H' D o) := fun b x e => by
  rw [upd_ne (ne_of_none e n)]
  exact h _ _ e
theorem none_back {H H' : Hp} {D : Addr} (h : Same H H') (n : H' D = none) : H D = none := by
  cases e : H D with
  | none => rfl
  | some o => (rw [h _ _ e] at n); (cases n)
theorem int_of {xs : List Int} {i : Nat} {v : V} (h : (xs.map V.int)[i]? = some v) : ∃ x, v = .int x ∧ xs[i]? = some x := by
  rw [List.getElem?_map] at h
  cases e : xs[i]? with
  | none => (rw [e] at h); (cases h)
  | some y => rw [e] at h; exact ⟨y, (Option.some.inj h).symm, rfl⟩
theorem yes {σ : L2.St} {H : Hp} {A B : Hp → Prop} (h : A H) : tYes σ H fun b H3 => if b = true then A H3 else B H3 := by simpa [tYes] using h
section
variable {P : Program} {w : World} {K : PySem.W.Frag} {mg : Str → Option Value} {base : Heap}
def spWhole : Sp := fun vs H Q _ => ∃ v, vs = [v] ∧ ((∃ x : Int, v = .int x ∧ Q (.bl true) H) ∨ (∃ (p : Addr) (xs : List V), v = .ref p ∧ H p = some (.lst xs) ∧ Q (.bl false) H) ∨ (v = .non ∧ Q (.bl false) H))
theorem scWhole : FnScope ["told"] ["told"] (defScope sWhole) := ⟨rfl, rfl, rfl, by decide +kernel, rfl, by decide +kernel, by decide +kernel⟩
theorem ok_whole {f : Addr} {fd : FuncData} {k : Nat} (F : Fun K "is_whole" "is_whole" sWhole f fd) (m1 : mg "isinstance" = none) (m2 : mg "bool" = none) (m3 : mg "int" = none) : FnOk P w K mg base CX0 (k + 1) f fd ["told"] spWhole := by
  refine F.ok scWhole (fun vs H Q E h => ?_) (fun cdv A outer s H vs Q E hr h => ?_)
  · obtain ⟨v, rfl, _⟩ := h
    rfl
  · obtain ⟨v, rfl, h⟩ := h
    refine ⟨_, pss_one (ps_ret (pe_and (pe_callB call_isi (by rfl) m1 (by decide +kernel) (pa_cons (pv 0) (pa_cons (pe_bltn (v := .ty "int") (by rfl) m3 (by decide +kernel) rfl) pa_nil)))
      (pe_one (pe_not (pe_callB call_isi (by rfl) m1 (by decide +kernel) (pa_cons (pv 0) (pa_cons (pe_bltn (v := .ty "bool") (by rfl) m2 (by decide +kernel) rfl) pa_nil))))))), ?_⟩
    rcases h with ⟨x, rfl, q⟩ | ⟨p, xs, rfl, hp, q⟩ | ⟨rfl, q⟩
    · refine ⟨_, rfl, _, _, _, _, _, rfl, .ty "int", .base (.int _), kit_ty (a := "int") (r := true) (by decide +kernel), _, rfl, iteT ?_⟩
      exact ⟨_, rfl, _, _, _, _, _, rfl, .ty "bool", .base (.int _), kit_ty (a := "int") (r := false) (by decide +kernel), _, rfl, q⟩
    · exact ⟨_, rfl, _, _, _, _, _, rfl, .ty "int", .base (.lst hp), kit_ty (a := "list") (r := false) (by decide +kernel), _, rfl, iteF q⟩
    · exact ⟨_, rfl, _, _, _, _, _, rfl, .ty "int", .base .non, kit_ty (a := "NoneType") (r := false) (by decide +kernel), _, rfl, iteF q⟩
def spIsNum : Sp := fun vs H Q _ => ∃ (v : V) (a b : Int), vs = [v, .int a, .int b] ∧ ((∃ x : Int, v = .int x ∧ Q (.bl (decide (a ≤ x ∧ x ≤ b))) H) ∨ (∃ (p : Addr) (xs : List V), v = .ref p ∧ H p = some (.lst xs) ∧ Q (.bl false) H) ∨ (v = .non ∧ Q (.bl false) H))
theorem ok_isNum {f f0 : Addr} {fd fd0 : FuncData} {k : Nat} (F : Fun K "is_number" "is_number" sIsNum f fd) (F0 : Fun K "is_whole" "is_whole" sWhole f0 fd0) (G0 : FnOk P w K mg base CX0 (k + 1) f0 fd0 ["told"] spWhole) (b0 : Binds K fd0 ["told"] []) (g0 : mg "is_whole" = some (.ref f0)) :
    FnOk P w K mg base CX0 (k + 2) f fd ["told", "least", "most"] spIsNum := by
  refine F.ok scIsNum (fun vs H Q E h => ?_) (fun cdv A outer s H vs Q E hr h => ?_)
  · obtain ⟨v, a, b, rfl, _⟩ := h
    rfl
  · obtain ⟨v, a, b, rfl, h⟩ := h
    refine ⟨_, pss_one (ps_ret (pe_and (pe_call G0 hr (by rfl) g0 F0.kp b0 .nil pass0 (pa_cons (pv 0) pa_nil)) (pe_one (pe_chain op_le op_le (pv 1) (pv 0) (pv 2))))), ?_⟩
    rcases h with ⟨x, rfl, q⟩ | ⟨p, xs, rfl, hp, q⟩ | ⟨rfl, q⟩
    · refine ⟨_, rfl, _, rfl, .inl ⟨x, rfl, _, rfl, iteT ?_⟩⟩
      refine ⟨_, rfl, _, rfl, _, _, rfl, rfl, _, rfl, ?_⟩
      by_cases h1 : a ≤ x
      · rw [if_pos (decide_eq_true h1)]
        refine ⟨_, rfl, _, _, rfl, rfl, ?_⟩
        simpa [h1] using q
      · rw [if_neg (by simpa using h1)]
        simpa [h1] using q
    · exact ⟨_, rfl, _, rfl, .inr (.inl ⟨p, xs, rfl, hp, _, rfl, iteF q⟩)⟩
    · exact ⟨_, rfl, _, rfl, .inr (.inr ⟨rfl, _, rfl, iteF q⟩)⟩
/-- a list that is made beside all that was there -/
def spAreNum : Sp := fun vs H Q _ => ∃ (p : Addr) (xs : List Int) (a b : Int), vs = [.ref p, .int a, .int b] ∧ H p = some (.lst (xs.map V.int)) ∧ xs.length ≤ 1000 ∧ ∀ H', Same H H' → Q (.bl (xs.all fun x => decide (a ≤ x ∧ x ≤ b))) H'
theorem ok_areNum {f f1 : Addr} {fd fd1 : FuncData} {k : Nat} (F : Fun K "are_numbers" "are_numbers" sAreNum f fd) (F1 : Fun K "is_number" "is_number" sIsNum f1 fd1) (G1 : FnOk P w K mg base CX0 (k + 2) f1 fd1 ["told", "least", "most"] spIsNum)
    (b1 : Binds K fd1 ["told", "least", "most"] []) (g1 : mg "is_number" = some (.ref f1)) (m1 : mg "isinstance" = none) (m2 : mg "list" = none) (m3 : mg "all" = none) : FnOk P w K mg base CX0 (k + 3) f fd ["told", "least", "most"] spAreNum := by
  refine F.ok scAreNum (fun vs H Q E h => ?_) (fun cdv A outer s H vs Q E hr h => ?_)
  · obtain ⟨p, xs, a, b, rfl, _⟩ := h
    rfl
  · obtain ⟨p, xs, a, b, rfl, hp, hl, q⟩ := h
    refine ⟨_, pss_one (ps_ret (pe_and (pe_callB call_isi (by rfl) m1 (by decide +kernel) (pa_cons (pv 0) (pa_cons (pe_bltn (v := .ty "list") (by rfl) m2 (by decide +kernel) rfl) pa_nil)))
      (pe_one (pe_callB (cr_all rfl) (by rfl) m3 (by decide +kernel) (pa_cons (pe_lc (own := [("one", 3)]) (g := gName 3) (tt := tYes) rfl scAreNum.nd (pi_list (pv 0)) (blkOk_by (N := ["told", "least", "most", "one"]) (sc := defScope sAreNum) (by decide +kernel))
        (fun _ _ _ _ _ => pg_name (i := 3) scAreNum.nd rfl (Or.inl rfl)) (fun _ _ _ _ _ => pts_nil)
        (fun _ _ _ _ _ => pe_call G1 hr (by rfl) g1 F1.kp b1 .nil pass0 (pa_cons (pv 3) (pa_cons (pv 1) (pa_cons (pv 2) pa_nil))))) pa_nil))))), ?_⟩
    refine ⟨_, rfl, _, _, _, _, _, rfl, .ty "list", .base (.lst hp), kit_ty (a := "list") (r := true) (by decide +kernel), _, rfl, iteT ?_⟩
    refine ⟨_, rfl, p, rfl, ⟨_, .inl (.inl hp)⟩, fun D nD => ?_⟩
    refine lc_list (K := K) (a := p) (xs := xs.map V.int) (fun i H' => Same H H' ∧ H' D = some (.lst ((xs.take i).map fun x => .bl (decide (a ≤ x ∧ x ≤ b))))) ⟨same_upd nD, upd_same⟩ (fun i H' _ h => .inl (.inl (h.1 _ _ hp))) (fun i x H' hx h => ?_) (fun H' h => ?_)
    · obtain ⟨x, rfl, hx'⟩ := int_of hx
      refine ⟨rfl, yes ?_⟩
      refine ⟨_, rfl, _, rfl, _, rfl, .int x, a, b, rfl, .inl ⟨x, rfl, _, h.2, ?_, same_put h.1 nD, ?_⟩⟩
      · rw [List.length_map, List.length_take]
        exact small1000 (by omega)
      · rw [upd_same, List.take_add_one, hx']
        simp
    · have e : (xs.take (xs.map V.int).length) = xs := by rw [List.length_map, List.take_length]
      rw [e] at h
      refine ⟨D, (xs.map fun x => decide (a ≤ x ∧ x ≤ b)), rfl, .inl (.inl ?_), ?_⟩
      · rw [h.2, List.map_map]
        rfl
      · have q' := q H' h.1
        rw [List.all_map]
        exact q'
end
end K7

/-! ### f"{n:011b}": binary digits -/
namespace SBX
open PySem PySem.W PyProof.Rows Builtin Builtin.Str Builtin.Int Builtin.Float
def digB (n : Nat) : List Nat := (Nat.toDigits 2 n).map Char.toNat
def binT (W n : Nat) : Str := ⟨(List.replicate (W - (digB n).length) 48 ++ digB n).toArray⟩
theorem bin_field {fill align W n : Nat} {width : Option Nat} (hd0 : (digB n).isEmpty = false) (hwd : width.getD 0 = W) (hzf : width = none ∨ (fill = 48 ∧ align = 61)) :
    intField' ⟨fill, align, none, false, false, width, none, none, some 98⟩ false [] (digB n) [] 4 = binT W n := by
  unfold intField' binT
  subst hwd
  have L : (digB n).length ≠ 0 := fun z => by
    rw [List.length_eq_zero_iff.mp z] at hd0
    cases hd0
  rcases hzf with rfl | ⟨rfl, rfl⟩
  · have key : ∀ c : Bool, ((if c = true then (-1 : Int) - (((([] : List Nat).length : Int) + (([] : List Nat).length : Int)) + (([] : List Nat).length : Int)) else 0).toNat - (digB n).length) = 0 := fun c => by
      cases c <;> simp
    have k2 : ∀ m : Nat, ((-1 : Int) - (((([] : List Nat).length : Int) + (([] : List Nat).length : Int)) + (([] : List Nat).length : Int)) - (m : Int)).toNat = 0 := fun m => by simp
    simp only [Bool.false_eq_true, if_false, hd0]
    rw [key]
    simp only [Option.getD_none, Nat.zero_sub, List.replicate_zero, List.nil_append, List.append_nil, k2, Nat.zero_div, Nat.sub_zero]
    repeat' split
    all_goals simp
  · simp only [Bool.false_eq_true, if_false, hd0]
    cases width with
    | none =>
      have k2 : ∀ m : Nat, ((-1 : Int) - (((([] : List Nat).length : Int) + (([] : List Nat).length : Int)) + (([] : List Nat).length : Int)) - (m : Int)).toNat = 0 := fun m => by simp
      simp
    | some v =>
      simp
      omega
structure BinSpec (sp : Str) (f : FormatSpec) (W : Nat) : Prop where
  p : parseFormatSpec sp.cps.toList "int" 62 = .ok f
  ne : (sp.length == 0) = false
  asc : ((sp.cps.toList.drop 1).any (· ≥ 128) || (sp.cps.getD 0 0 ≥ 128 && !([60, 62, 61, 94] : List Nat).contains (sp.cps.getD 1 0))) = false
  ty : f.type = some 98
  pr : f.precision = none
  nz : f.noNeg0 = false
  al : f.alt = false
  wd : f.width.getD 0 = W
  w5 : W ≤ 100
  gr : f.grouping = none
  sg : f.sign = none
  zf : f.width = none ∨ (f.fill = 48 ∧ f.align = 61)
  sz : sp.length ≤ sizeLine
section
variable {prog : Program} {w : World} {A : Around} {E : Value → Shared → Prop} {s : Shared}
theorem typeIs_int' (s : Shared) (n : Int) (t : Tok) : s.TypeIs (.int n t) "int" := rfl
theorem formatField_bin {n : Nat} {t : Tok} {spec : Str} {f : FormatSpec} {W : Nat} {Q : Value → Shared → Prop} (B : BinSpec spec f W) (hsz2 : (binT W n).length ≤ sizeLine)
    (h : Q (.str (binT W n) (s.toks + 1)) { s with toks := s.toks + 1 + 1 }) : wpAny (model prog w) A (formatField (.int (n : Int) t) spec) Q E s := by
  obtain ⟨hp, hne, hasc, hty, hpr, hz, hal, hwd, hw5, hgr, hsg, hzf, hsz⟩ := B
  have e : formatField (.int (n : Int) t) spec = holding [.int (n : Int) t] (pyFormat (.int (n : Int) t) spec) := by
    unfold formatField
    simp only [hne, Bool.false_eq_true, if_false]
  rw [e]
  refine wpAny_holding ?_
  unfold pyFormat
  refine wpAny_bind (wpAny_mkStr ?_ hsz)
  refine wpAny_bind (m := callSpecial? (.int (n : Int) t) (Str.ofString "__format__") [.str spec s.toks]) (wpAny_callSpecial?_slot (name := Str.ofString "__format__") (typeIs_int' _ _ t) F.slot_int_format ?_)
  refine wpAny_call (codeAny_call_builtin F.slot_int_format.plain F.entry_int_format (F.slot_int_format.check _ _ _ _ _ _ _ _ (typeIs_int' _ _ t) (F.args_int_format_2 _ _) ?_))
  unfold Builtin.«int.__format__»
  simp only [selfAndOne, noKeywords, Int.intOfSelf, asInt?, asStr?, List.isEmpty_nil, if_true, pure_bind, bind_pure, bind_assoc, hne, hasc, Bool.false_eq_true, if_false,
    show (Value.str spec s.toks == Value.none) = false from rfl]
  refine wpAny_bind (wpAny_typeNameOf (T := "str") (typeIs_str _ _ _) (by decide) fun _ => ?_)
  refine wpAny_bind (wpAny_typeNameOfCut_int ?_)
  simp only [hp, hty, Option.getD_some]
  rw [if_pos (by decide)]
  show wpAny _ _ (if _ then _ else _) _ _ _
  rw [if_neg (by simp [hpr])]
  show wpAny _ _ (if _ then _ else _) _ _ _
  rw [if_neg (by simp [hz])]
  show wpAny _ _ (if _ then _ else _) _ _ _
  rw [if_neg (by decide)]
  show wpAny _ _ (if _ then _ else _) _ _ _
  have hw' : ¬ (f.width.getD 0 > 100000) := by omega
  rw [if_neg (by decide)]
  show wpAny _ _ (if f.width.getD 0 > 100000 then _ else _) _ _ _
  rw [if_neg hw']
  show wpAny _ _ (retStr _) _ _ _
  have hc : ((Nat.toDigits 2 n).map fun c : Char => (if ((98 : Nat) == 88) = true then c.toUpper else c).toNat) = digB n := List.map_congr_left fun c _ => rfl
  obtain ⟨fill, align, sign, nn, alt, width, grouping, precision, type⟩ := f
  dsimp only at hty hpr hz hal hwd hgr hsg hzf
  subst hty hpr hz hal hgr hsg
  have hnn : (decide ((n : Int) < 0)) = false := decide_eq_false (by omega)
  have hd0 : (digB n).isEmpty = false := by
    unfold digB
    have := tDigits_len_ge 2 n
    cases e : Nat.toDigits 2 n with
    | nil => rw [e] at this; simp at this
    | cons a b => rfl
  have eX := bin_field (fill := fill) (align := align) hd0 hwd hzf
  have eY : intField' ⟨fill, align, none, false, false, width, none, none, some 98⟩ (decide ((n : Int) < 0)) [] ((Nat.toDigits 2 (n : Int).natAbs).map fun c : Char => (if ((98 : Nat) == 88) = true then c.toUpper else c).toNat) [] 4 = binT W n := by
    rw [hnn, Int.natAbs_natCast, hc]
    exact eX
  unfold retStr
  refine wpAny_bind (wpAny_mkStr (wpAny_pure ?_) ?hs2)
  case hs2 =>
    show (intField' ⟨fill, align, none, false, false, width, none, none, some 98⟩ (decide ((n : Int) < 0)) [] ((Nat.toDigits 2 (n : Int).natAbs).map fun c : Char => (if ((98 : Nat) == 88) = true then c.toUpper else c).toNat) [] 4).length ≤ sizeLine
    rw [eY]
    exact hsz2
  refine wpAny_bind (wpAny_isInstance (typeIs_str _ _ _) isSubtype_str_str (wpAny_pure ?_))
  show Q (.str (intField' ⟨fill, align, none, false, false, width, none, none, some 98⟩ (decide ((n : Int) < 0)) [] ((Nat.toDigits 2 (n : Int).natAbs).map fun c : Char => (if ((98 : Nat) == 88) = true then c.toUpper else c).toNat) [] 4) (s.toks + 1)) _
  rw [eY]
  exact h
end
end SBX

namespace SBX
open PySem PyProof.Rows
/-! ### binary digits: pure -/
/-- the last w binary digits of n, as signs -/
def bitsL (n : Nat) : Nat → List Nat
  | 0 => []
  | w + 1 => bitsL (n / 2) w ++ [48 + n % 2]
def bitS (n w : Nat) : Str := ⟨(bitsL n w).toArray⟩
theorem bits_len (n : Nat) : ∀ w, (bitsL n w).length = w := fun w => by
  induction w generalizing n with
  | zero => rfl
  | succ w ih => rw [bitsL, List.length_append, ih]; rfl
theorem bits_top (n : Nat) : ∀ w, bitsL n (w + 1) = (48 + n / 2 ^ w % 2) :: bitsL n w := fun w => by
  induction w generalizing n with
  | zero => simp [bitsL]
  | succ w ih =>
    rw [bitsL, ih, bitsL]
    have e : n / 2 / 2 ^ w = n / 2 ^ (w + 1) := by rw [Nat.div_div_eq_div_mul, Nat.pow_succ, Nat.mul_comm]
    rw [e]
    rfl
theorem bits_mod (n : Nat) : ∀ w, bitsL (n % 2 ^ w) w = bitsL n w := fun w => by
  induction w generalizing n with
  | zero => rfl
  | succ w ih =>
    rw [bitsL, bitsL]
    have e1 : n % 2 ^ (w + 1) / 2 = n / 2 % 2 ^ w := by
      rw [Nat.pow_succ, Nat.mul_comm, Nat.mod_mul_right_div_self]
    have e2 : n % 2 ^ (w + 1) % 2 = n % 2 := by
      rw [Nat.pow_succ]
      exact Nat.mod_mul_left_mod n _ 2
    rw [e1, e2, ih]
theorem bits_zero : ∀ w, bitsL 0 w = List.replicate w 48 := fun w => by
  induction w with
  | zero => rfl
  | succ w ih => rw [bitsL, show 0 / 2 = 0 from rfl, ih, List.replicate_succ']
theorem digB_lt {n : Nat} (h : n < 2) : digB n = [48 + n] := by
  unfold digB
  rw [Nat.toDigits_of_lt_base h]
  rcases (show n = 0 ∨ n = 1 by omega) with rfl | rfl <;> rfl
theorem digB_ge {n : Nat} (h : 2 ≤ n) : digB n = digB (n / 2) ++ [48 + n % 2] := by
  unfold digB
  rw [Nat.toDigits_of_base_le (by decide) h, List.map_append]
  congr 1
  rcases (show n % 2 = 0 ∨ n % 2 = 1 by omega) with e | e <;> rw [e] <;> rfl
/-- a number with its top digit at place w -/
theorem digB_bits : ∀ (w n : Nat), 2 ^ w ≤ n → n < 2 ^ (w + 1) → digB n = bitsL n (w + 1)
  | 0, n, h1, h2 => by
    have : n = 1 := by omega
    subst this
    rfl
  | w + 1, n, h1, h2 => by
    have e1 : 2 ^ (w + 1) = 2 ^ w * 2 := Nat.pow_succ 2 w
    have e2 : 2 ^ (w + 1 + 1) = 2 ^ (w + 1) * 2 := Nat.pow_succ 2 _
    have hp := Nat.pow_pos (n := w) (show 0 < 2 by decide)
    rw [digB_ge (by omega), digB_bits w (n / 2) (by omega) (by omega)]
    rfl
theorem top_at : ∀ {n : Nat}, 1 ≤ n → ∃ w, 2 ^ w ≤ n ∧ n < 2 ^ (w + 1) := fun {n} h => ⟨n.log2, Nat.log2_self_le (by omega), Nat.lt_log2_self⟩
theorem digB_pad {n w : Nat} (h1 : 1 ≤ w) (h2 : n < 2 ^ w) : (digB n).length ≤ w ∧ List.replicate (w - (digB n).length) 48 ++ digB n = bitsL n w := by
  by_cases z : n = 0
  · subst z
    rw [digB_lt (by decide), bits_zero]
    refine ⟨h1, ?_⟩
    show List.replicate (w - 1) 48 ++ [48] = _
    rw [← List.replicate_succ', show w - 1 + 1 = w by omega]
  · obtain ⟨k, k1, k2⟩ := top_at (show 1 ≤ n by omega)
    have hk : k < w := by
      have := Nat.lt_of_le_of_lt k1 h2
      exact (Nat.pow_lt_pow_iff_right (by decide)).mp this
    have hd := digB_bits k n k1 k2
    have hl : (digB n).length = k + 1 := by rw [hd, bits_len]
    refine ⟨by omega, ?_⟩
    rw [hd, bits_len]
    obtain ⟨d, rfl⟩ : ∃ d, w = k + 1 + d := ⟨w - (k + 1), by omega⟩
    rw [show k + 1 + d - (k + 1) = d by omega]
    clear h1 h2 hk
    induction d with
    | zero => rfl
    | succ d ih =>
      rw [show k + 1 + (d + 1) = (k + 1 + d) + 1 by omega, bits_top n (k + 1 + d), ← ih]
      have : n / 2 ^ (k + 1 + d) = 0 := Nat.div_eq_of_lt (Nat.lt_of_lt_of_le k2 (Nat.pow_le_pow_right (by decide) (by omega)))
      rw [this]
      rfl
theorem binT_bits {n w : Nat} (h1 : 1 ≤ w) (h2 : n < 2 ^ w) : binT w n = bitS n w := by
  unfold binT bitS
  rw [(digB_pad h1 h2).2]
theorem binT_zero (n : Nat) : binT 0 n = ⟨(digB n).toArray⟩ := by
  unfold binT
  rw [Nat.zero_sub]
  rfl
theorem digB_head (n : Nat) : ∃ c r, digB n = c :: r ∧ (c = 48 ∨ c = 49) := by
  by_cases h : n < 2
  · exact ⟨_, [], digB_lt h, by omega⟩
  · obtain ⟨k, k1, k2⟩ := top_at (show 1 ≤ n by omega)
    rw [digB_bits k n k1 k2, bits_top]
    exact ⟨_, _, rfl, by omega⟩
theorem zfill_bits {n w : Nat} (h1 : 1 ≤ w) (h2 : n < 2 ^ w) : Txt.zfill (binT 0 n) (w : Int) = bitS n w := by
  obtain ⟨hl, e⟩ := digB_pad h1 h2
  rw [binT_zero]
  unfold Txt.zfill
  have hs : (⟨(digB n).toArray⟩ : Str).length = (digB n).length := by simp [Str.length]
  rw [hs]
  by_cases q : (w : Int) ≤ ((digB n).length : Int)
  · rw [if_pos q]
    unfold bitS
    rw [← e, show w - (digB n).length = 0 by omega]
    rfl
  · rw [if_neg q]
    obtain ⟨c, r, hd, hc⟩ := digB_head n
    unfold zfilled
    have h0 : (⟨(digB n).toArray⟩ : Str).cps[0]? = some c := by
      show ((digB n).toArray)[0]? = some c
      rw [hd]
      rfl
    rw [h0]
    have hp : Builtin.Str.padded ⟨(digB n).toArray⟩ ((w : Int).toNat - (digB n).length) 0 48 = bitS n w := by
      unfold Builtin.Str.padded bitS
      rw [← e, Int.toNat_natCast]
      simp
    rcases hc with rfl | rfl <;> exact hp
theorem tail_bits {b l : Nat} (h1 : 2 ^ l ≤ b) (h2 : b < 2 ^ (l + 1)) : L2.cutS (binT 0 b) (some 1) none = bitS (b - 2 ^ l) l := by
  have hd := digB_bits l b h1 h2
  have e0 : b - 2 ^ l = b % 2 ^ l := by
    rw [Nat.pow_succ] at h2
    rw [Nat.mod_eq_sub_mod h1, Nat.mod_eq_of_lt (by omega)]
  rw [binT_zero, hd, e0]
  unfold bitS
  rw [bits_mod, bits_top]
  have hn := bits_len b l
  have hs : (⟨((48 + b / 2 ^ l % 2) :: bitsL b l).toArray⟩ : Str).length = l + 1 := by simp [Str.length, hn]
  unfold L2.cutS
  rw [hs]
  have a1 : _root_.HT.sIx (l + 1) 0 (some 1) = 1 := by unfold _root_.HT.sIx; simp
  have a2 : _root_.HT.sIx (l + 1) (l + 1) none = l + 1 := rfl
  rw [a1, a2]
  simp
  rw [List.take_of_length_le (by rw [hn]; exact Nat.le_refl _)]
end SBX
namespace L2
open PySem PySem.Spec PyProof.Rows
section
variable {X : Cx}
/-- {n:011b}: a whole number, not below 0, in binary -/
def tFmtB (te : TE) (W : Nat) : TE := fun σ H Q => te σ H fun x H1 => ∃ n : Nat, x = .int (n : Int) ∧ n ≤ 1000000 ∧ Q (.str (SBX.binT W n)) H1
theorem binT_len {W n : Nat} (h : n ≤ 1000000) (hW : W ≤ 100) : (SBX.binT W n).length ≤ sizeLine := by
  have h1 : (SBX.digB n).length ≤ 20 := by
    by_cases z : n = 0
    · subst z
      rw [SBX.digB_lt (by decide)]
      decide
    · obtain ⟨k, k1, k2⟩ := SBX.top_at (show 1 ≤ n by omega)
      rw [SBX.digB_bits k n k1 k2, SBX.bits_len]
      have : k < 20 := by
        have h2 : 2 ^ k < 2 ^ 20 := Nat.lt_of_le_of_lt k1 (Nat.lt_of_le_of_lt h (by decide))
        exact (Nat.pow_lt_pow_iff_right (by decide)).mp h2
      omega
  have e : (SBX.binT W n).length = (W - (SBX.digB n).length) + (SBX.digB n).length := by
    unfold SBX.binT
    show (List.replicate (W - (SBX.digB n).length) 48 ++ SBX.digB n).toArray.size = _
    simp
  rw [e, sizeLine_eq]
  omega
theorem pe_fmtB {e : Expr} {te : TE} {sp : Str} {f : Builtin.Float.FormatSpec} {W k : Nat} {p1 p2 pos : Pos} (B : SBX.BinSpec sp f W) (he : PE X e te) : PE X (.FormattedValue e (-1) (some (.JoinedStr [.Constant (.str sp) k p1] p2)) pos) (tFmtB te W) := by
  refine ⟨fun pins s σ H Q I h => ?_⟩
  refine wpAny_FormattedValue_spec (thn (he.run pins s σ H _ I h) fun v s1 hv => ?_)
  obtain ⟨x, H1, I1, r1, n, rfl, hn, q⟩ := hv
  obtain ⟨t, rfl⟩ := r1
  refine wpAny_JoinedStr_one (wpAny_Constant_str ⟨sp, _, rfl, ?_⟩)
  exact SBX.formatField_bin B (binT_len hn B.w5) ⟨.str (SBX.binT W n), H1, (I1.tok _).tok _ |>.tok _, ⟨_, rfl⟩, q⟩
end
end L2
namespace SBX
open PySem PyProof.Rows Builtin Builtin.Str Builtin.Int Builtin.Float
theorem bs0 : BinSpec "b" ⟨32, 62, none, false, false, none, none, none, some 98⟩ 0 := ⟨by kernel_rfl, by decide +kernel, by decide +kernel, rfl, rfl, rfl, rfl, rfl, by decide, rfl, rfl, .inl rfl, by decide +kernel⟩
theorem bs11 : BinSpec "011b" ⟨48, 61, none, false, false, some 11, none, none, some 98⟩ 11 := ⟨by kernel_rfl, by decide +kernel, by decide +kernel, rfl, rfl, rfl, rfl, rfl, by decide, rfl, rfl, .inr ⟨rfl, rfl⟩, by decide +kernel⟩
theorem bs8 : BinSpec "08b" ⟨48, 61, none, false, false, some 8, none, none, some 98⟩ 8 := ⟨by kernel_rfl, by decide +kernel, by decide +kernel, rfl, rfl, rfl, rfl, rfl, by decide, rfl, rfl, .inr ⟨rfl, rfl⟩, by decide +kernel⟩
theorem bs2 : BinSpec "02b" ⟨48, 61, none, false, false, some 2, none, none, some 98⟩ 2 := ⟨by kernel_rfl, by decide +kernel, by decide +kernel, rfl, rfl, rfl, rfl, rfl, by decide, rfl, rfl, .inr ⟨rfl, rfl⟩, by decide +kernel⟩
theorem bs4 : BinSpec "04b" ⟨48, 61, none, false, false, some 4, none, none, some 98⟩ 4 := ⟨by kernel_rfl, by decide +kernel, by decide +kernel, rfl, rfl, rfl, rfl, rfl, by decide, rfl, rfl, .inr ⟨rfl, rfl⟩, by decide +kernel⟩
theorem bs5 : BinSpec "05b" ⟨48, 61, none, false, false, some 5, none, none, some 98⟩ 5 := ⟨by kernel_rfl, by decide +kernel, by decide +kernel, rfl, rfl, rfl, rfl, rfl, by decide, rfl, rfl, .inr ⟨rfl, rfl⟩, by decide +kernel⟩
end SBX

namespace K2
/-! sums, prefixes -/
abbrev Sum (l : List Int) : Int := l.sum
def Nonneg (l : List Int) : Prop := ∀ x ∈ l, 0 ≤ x
abbrev Srt (l : List Int) : Prop := l.Pairwise (· ≤ ·)
theorem sum_nonneg : ∀ {l : List Int}, Nonneg l → 0 ≤ l.sum
  | [], _ => by simp
  | x :: l, h => by
    have h1 := h x (by simp)
    have h2 := sum_nonneg (l := l) (fun y hy => h y (by simp [hy]))
    rw [List.sum_cons]; omega
theorem take_mono : ∀ {l : List Int} {a b : Nat}, Nonneg l → a ≤ b → (l.take a).sum ≤ (l.take b).sum
  | [], a, b, _, _ => by simp
  | x :: l, 0, b, h, _ => by
    rw [List.take_zero, List.sum_nil]
    exact sum_nonneg (fun y hy => h y (List.mem_of_mem_take hy))
  | x :: l, a + 1, 0, h, hab => by omega
  | x :: l, a + 1, b + 1, h, hab => by
    have := take_mono (l := l) (a := a) (b := b) (fun y hy => h y (by simp [hy])) (by omega)
    simp only [List.take_succ_cons, List.sum_cons]; omega
theorem take_last : ∀ {l : List Int} {b : Nat}, 1 ≤ b → b ≤ l.length → (l.take b).sum = (l.take (b - 1)).sum + l.getD (b - 1) 0
  | [], b, h1, h2 => by simp at h2; omega
  | x :: l, 0, h1, h2 => by omega
  | x :: l, 1, h1, h2 => by simp
  | x :: l, b + 2, h1, h2 => by
    have := take_last (l := l) (b := b + 1) (by omega) (by simpa using h2)
    simp only [List.take_succ_cons, List.sum_cons, show b + 2 - 1 = b + 1 from rfl, List.getD_cons_succ] at *
    simp only [Nat.add_sub_cancel] at this
    omega
theorem srt_get {l : List Int} (h : Srt l) {i j : Nat} (hij : i ≤ j) (hj : j < l.length) : l.getD i 0 ≤ l.getD j 0 := by
  have hi : l.length > i := by omega
  simp only [List.getD_eq_getElem?_getD, List.getElem?_eq_getElem hi, List.getElem?_eq_getElem hj, Option.getD_some]
  by_cases e : i = j
  · subst e; exact Int.le_refl _
  · exact List.pairwise_iff_getElem.mp h i j hi hj (by omega)

/-! the merge of weights -/
abbrev le' (a b : Int) : Bool := decide (a ≤ b)
abbrev mw (C P : List Int) : List Int := List.merge C P le'
def cutc : List Int → List Int → Nat → Nat
  | _, _, 0 => 0
  | [], _, _ + 1 => 0
  | _ :: C, [], m + 1 => 1 + cutc C [] m
  | c :: C, p :: P, m + 1 => if c ≤ p then 1 + cutc C (p :: P) m else cutc (c :: C) P m
theorem mw_nil (P : List Int) : mw [] P = P := by simp [mw]
theorem mw_nil2 (C : List Int) : mw C [] = C := by cases C <;> simp [mw]
theorem mw_pos {c p : Int} {C P : List Int} (h : c ≤ p) : mw (c :: C) (p :: P) = c :: mw C (p :: P) := by
  simp [mw, List.merge, h]
theorem mw_neg {c p : Int} {C P : List Int} (h : ¬ c ≤ p) : mw (c :: C) (p :: P) = p :: mw (c :: C) P := by
  simp [mw, List.merge, h]
theorem mw_len (C P : List Int) : (mw C P).length = C.length + P.length := by
  simp [mw, List.length_merge]
theorem mw_mem {C P : List Int} {x : Int} : x ∈ mw C P ↔ x ∈ C ∨ x ∈ P := by
  simp [mw, List.mem_merge]
theorem mw_srt {C P : List Int} (hc : Srt C) (hp : Srt P) : Srt (mw C P) := by
  have := List.pairwise_merge (le := le') (l₁ := C) (l₂ := P) (fun a b c h1 h2 => by simp [le'] at *; omega) (fun a b => by simp [le']; omega) (by simpa [le'] using hc) (by simpa [le'] using hp)
  simpa [le'] using this
theorem mw_nonneg {C P : List Int} (hc : Nonneg C) (hp : Nonneg P) : Nonneg (mw C P) := fun x hx => by
  rcases mw_mem.mp hx with h | h
  · exact hc x h
  · exact hp x h

theorem cutc_le : ∀ (C P : List Int) (m : Nat), cutc C P m ≤ C.length ∧ cutc C P m ≤ m ∧ (m ≤ C.length + P.length → m - cutc C P m ≤ P.length)
  | C, P, 0 => by simp [cutc]
  | [], P, m + 1 => by simp [cutc]
  | c :: C, [], m + 1 => by
    have := cutc_le C [] m
    simp only [cutc, List.length_cons, List.length_nil] at *; omega
  | c :: C, p :: P, m + 1 => by
    have h1 := cutc_le C (p :: P) m
    have h2 := cutc_le (c :: C) P m
    simp only [cutc, List.length_cons] at *
    split <;> omega
theorem cutc_nil : ∀ (C : List Int) (m : Nat), m ≤ C.length → cutc C [] m = m
  | C, 0, _ => by simp [cutc]
  | [], m + 1, h => by simp at h
  | c :: C, m + 1, h => by
    have := cutc_nil C m (by simpa using h)
    simp only [cutc]; omega
theorem mw_sum : ∀ (C P : List Int) (m : Nat), m ≤ C.length + P.length → ((mw C P).take m).sum = (C.take (cutc C P m)).sum + (P.take (m - cutc C P m)).sum
  | C, P, 0, _ => by simp [cutc]
  | [], P, m + 1, _ => by simp [cutc, mw_nil]
  | c :: C, [], m + 1, h => by
    rw [cutc_nil (c :: C) (m + 1) (by simpa using h), mw_nil2]
    simp
  | c :: C, p :: P, m + 1, h => by
    by_cases e : c ≤ p
    · have ih := mw_sum C (p :: P) m (by simp at *; omega)
      rw [mw_pos e]
      simp only [cutc, if_pos e, Nat.add_comm 1, List.take_succ_cons, List.sum_cons, Nat.add_sub_add_right] at *
      omega
    · have ih := mw_sum (c :: C) P m (by simp at *; omega)
      have hl := cutc_le (c :: C) P m
      rw [mw_neg e]
      simp only [cutc, if_neg e]
      rw [show m + 1 - cutc (c :: C) P m = (m - cutc (c :: C) P m) + 1 by omega]
      simp only [List.take_succ_cons, List.sum_cons] at *
      omega
/-- the first m of the merge weigh least -/
theorem mw_least : ∀ (C P : List Int) (m a b : Nat), Srt C → Srt P → Nonneg C → Nonneg P → a ≤ C.length → b ≤ P.length → m ≤ a + b →
    (C.take (cutc C P m)).sum + (P.take (m - cutc C P m)).sum ≤ (C.take a).sum + (P.take b).sum
  | C, P, 0, a, b, _, _, nc, np, _, _, _ => by
    have h1 := sum_nonneg (l := C.take a) (fun y hy => nc y (List.mem_of_mem_take hy))
    have h2 := sum_nonneg (l := P.take b) (fun y hy => np y (List.mem_of_mem_take hy))
    simp only [cutc, List.take_zero, List.sum_nil, Nat.sub_zero]; omega
  | [], P, m + 1, a, b, _, _, nc, np, ha, hb, h => by
    have := take_mono (l := P) (a := m + 1) (b := b) np (by simp at ha; omega)
    simp [cutc]; simpa using this
  | c :: C, [], m + 1, a, b, _, _, nc, np, ha, hb, h => by
    simp only [List.length_nil] at hb
    rw [cutc_nil (c :: C) (m + 1) (by omega)]
    have := take_mono (l := c :: C) (a := m + 1) (b := a) nc (by omega)
    simp only [List.take_nil, List.sum_nil]; omega
  | c :: C, p :: P, m + 1, a, b, sc, sp, nc, np, ha, hb, h => by
    have sc' := (List.pairwise_cons.mp sc).2
    have sp' := (List.pairwise_cons.mp sp).2
    have nc' : Nonneg C := fun y hy => nc y (by simp [hy])
    have np' : Nonneg P := fun y hy => np y (by simp [hy])
    by_cases e : c ≤ p
    · simp only [cutc, if_pos e, Nat.add_comm 1, List.take_succ_cons, List.sum_cons, Nat.add_sub_add_right]
      cases a with
      | succ a =>
        have ih := mw_least C (p :: P) m a b sc' sp nc' np (by simpa using ha) hb (by omega)
        simp only [List.take_succ_cons, List.sum_cons]; omega
      | zero =>
        have ih := mw_least C (p :: P) m 0 (b - 1) sc' sp nc' np (by omega) (by omega) (by omega)
        have hl := take_last (l := p :: P) (b := b) (by omega) hb
        have hg := srt_get sp (i := 0) (j := b - 1) (by omega) (by omega)
        simp only [List.getD_cons_zero] at hg
        simp only [List.take_zero, List.sum_nil] at *
        omega
    · have hc := cutc_le (c :: C) P m
      simp only [cutc, if_neg e]
      rw [show m + 1 - cutc (c :: C) P m = (m - cutc (c :: C) P m) + 1 by omega]
      simp only [List.take_succ_cons, List.sum_cons]
      cases b with
      | succ b =>
        have ih := mw_least (c :: C) P m a b sc sp' nc np' ha (by simpa using hb) (by omega)
        simp only [List.take_succ_cons, List.sum_cons] at *; omega
      | zero =>
        have ih := mw_least (c :: C) P m (a - 1) 0 sc sp' nc np' (by omega) (by omega) (by omega)
        have hl := take_last (l := c :: C) (b := a) (by omega) ha
        have hg := srt_get sc (i := 0) (j := a - 1) (by omega) (by omega)
        simp only [List.getD_cons_zero] at hg
        simp only [List.take_zero, List.sum_nil] at *
        omega
/-- a coin among the first m is at most the last of these -/
theorem mw_last : ∀ (C P : List Int) (m j : Nat), Srt C → Srt P → 1 ≤ m → m ≤ C.length + P.length → j < cutc C P m → C.getD j 0 ≤ (mw C P).getD (m - 1) 0
  | C, P, 0, j, _, _, h, _, _ => by omega
  | [], P, m + 1, j, _, _, _, _, h => by simp [cutc] at h
  | c :: C, [], m + 1, j, sc, _, _, hm, h => by
    have := cutc_le (c :: C) [] (m + 1)
    rw [mw_nil2]
    simp only [List.length_nil, Nat.add_zero] at hm
    exact srt_get sc (by omega) (by omega)
  | c :: C, p :: P, m + 1, j, sc, sp, _, hm, h => by
    have sc' := List.pairwise_cons.mp sc
    have sp' := List.pairwise_cons.mp sp
    simp only [List.length_cons] at hm
    by_cases e : c ≤ p
    · rw [mw_pos e]
      simp only [cutc, if_pos e] at h
      cases m with
      | zero => 
        simp only [cutc] at h
        have : j = 0 := by omega
        subst this; simp
      | succ m =>
        simp only [Nat.add_sub_cancel, List.getD_cons_succ]
        cases j with
        | zero =>
          simp only [List.getD_cons_zero]
          have hl : m < (mw C (p :: P)).length := by rw [mw_len, List.length_cons]; omega
          rw [List.getD_eq_getElem?_getD, List.getElem?_eq_getElem hl, Option.getD_some]
          have hmem := List.getElem_mem hl
          rcases mw_mem.mp hmem with q | q
          · exact sc'.1 _ q
          · rcases (List.mem_cons.mp q) with (q | q)
            · omega
            · have := sp'.1 _ q; omega
        | succ j =>
          have := mw_last C (p :: P) (m + 1) j sc'.2 sp (by omega) (by rw [List.length_cons]; omega) (by omega)
          simpa using this
    · rw [mw_neg e]
      simp only [cutc, if_neg e] at h
      cases m with
      | zero => simp [cutc] at h
      | succ m =>
        have := mw_last (c :: C) P (m + 1) j sc sp'.2 (by omega) (by rw [List.length_cons]; omega) h
        simpa using this
/-- a coin that weighs at most the last package taken is taken -/
theorem cutc_in : ∀ (C P : List Int) (m j : Nat), Srt C → m ≤ C.length + P.length → cutc C P m < m → j < C.length → C.getD j 0 ≤ P.getD (m - cutc C P m - 1) 0 → j < cutc C P m
  | C, P, 0, j, _, _, h, _, _ => by omega
  | [], P, m + 1, j, _, _, _, h, _ => by simp at h
  | c :: C, [], m + 1, j, _, hm, h, _, _ => by
    rw [cutc_nil (c :: C) (m + 1) (by simpa using hm)] at h; omega
  | c :: C, p :: P, m + 1, j, sc, hm, h, hj, hle => by
    have sc' := List.pairwise_cons.mp sc
    simp only [List.length_cons] at hm hj
    by_cases e : c ≤ p
    · simp only [cutc, if_pos e] at *
      cases j with
      | zero => omega
      | succ j =>
        have := cutc_in C (p :: P) m j sc'.2 (by rw [List.length_cons]; omega) (by omega) (by omega)
          (by simp only [List.getD_cons_succ] at hle; rw [show m + 1 - (1 + cutc C (p :: P) m) - 1 = m - cutc C (p :: P) m - 1 by omega] at hle; exact hle)
        omega
    · simp only [cutc, if_neg e] at *
      have hc := cutc_le (c :: C) P m
      by_cases q : cutc (c :: C) P m < m
      · refine cutc_in (c :: C) P m j sc (by rw [List.length_cons]; omega) q (by rw [List.length_cons]; omega) ?_
        rw [show m + 1 - cutc (c :: C) P m - 1 = (m - cutc (c :: C) P m - 1) + 1 by omega, List.getD_cons_succ] at hle
        exact hle
      · rw [show m + 1 - cutc (c :: C) P m - 1 = 0 by omega, List.getD_cons_zero] at hle
        have := srt_get sc (i := 0) (j := j) (by omega) (by rw [List.length_cons]; omega)
        simp only [List.getD_cons_zero] at this
        omega
/-! packages -/
def packw : List Int → List Int
  | a :: b :: l => (a + b) :: packw l
  | _ => []
theorem packw_len : ∀ l : List Int, (packw l).length = l.length / 2
  | [] => by simp [packw]
  | [_] => by simp [packw]
  | a :: b :: l => by
    have := packw_len l
    simp only [packw, List.length_cons]; omega
theorem packw_mem : ∀ {l : List Int} {x : Int}, x ∈ packw l → ∃ a ∈ l, ∃ b ∈ l, x = a + b
  | [], _, h => by simp [packw] at h
  | [_], _, h => by simp [packw] at h
  | a :: b :: l, x, h => by
    rcases List.mem_cons.mp h with h | h
    · exact ⟨a, by simp, b, by simp, h⟩
    · obtain ⟨u, hu, v, hv, e⟩ := packw_mem h
      exact ⟨u, by simp [hu], v, by simp [hv], e⟩
theorem packw_nonneg {l : List Int} (h : Nonneg l) : Nonneg (packw l) := fun x hx => by
  obtain ⟨a, ha, b, hb, e⟩ := packw_mem hx
  have := h a ha
  have := h b hb
  omega
theorem packw_srt : ∀ {l : List Int}, Srt l → Srt (packw l)
  | [], _ => by simp [packw]
  | [_], _ => by simp [packw]
  | a :: b :: l, h => by
    obtain ⟨h1, h2⟩ := (List.pairwise_cons.mp h)
    obtain ⟨h3, h4⟩ := List.pairwise_cons.mp h2
    refine List.pairwise_cons.mpr ⟨fun x hx => ?_, packw_srt h4⟩
    obtain ⟨u, hu, v, hv, e⟩ := packw_mem hx
    have := h1 u (by simp [hu])
    have := h3 v hv
    omega
theorem packw_sum : ∀ (l : List Int) (p : Nat), 2 * p ≤ l.length → ((packw l).take p).sum = (l.take (2 * p)).sum
  | l, 0, _ => by simp
  | [], p + 1, h => by simp at h
  | [_], p + 1, h => by simp at h; omega
  | a :: b :: l, p + 1, h => by
    have := packw_sum l p (by simp only [List.length_cons] at h; omega)
    rw [show 2 * (p + 1) = 2 * p + 1 + 1 by omega]
    simp only [packw, List.take_succ_cons, List.sum_cons]; omega
theorem packw_get : ∀ (l : List Int) (p : Nat), Nonneg l → 2 * (p + 1) ≤ l.length → l.getD (2 * p + 1) 0 ≤ (packw l).getD p 0
  | [], p, _, h => by simp at h
  | [_], p, _, h => by simp at h; omega
  | a :: b :: l, 0, hn, h => by
    have := hn a (by simp)
    simp [packw]; omega
  | a :: b :: l, p + 1, hn, h => by
    have := packw_get l p (fun y hy => hn y (by simp [hy])) (by simp only [List.length_cons] at h; omega)
    rw [show 2 * (p + 1) + 1 = 2 * p + 1 + 1 + 1 by omega]
    simp only [packw, List.getD_cons_succ]; exact this
/-! levels -/
def W (C : List Int) : Nat → List Int
  | 0 => []
  | k + 1 => mw C (packw (W C k))
def F (C : List Int) (k m : Nat) : Int := ((W C k).take m).sum
def S (C : List Int) (c : Nat) : Int := (C.take c).sum
/-- how many coins among the first m of a level -/
def cc (C : List Int) : Nat → Nat → Nat
  | 0, _ => 0
  | k + 1, m => cutc C (packw (W C k)) m
theorem W_nonneg {C : List Int} (h : Nonneg C) : ∀ k, Nonneg (W C k)
  | 0 => fun x hx => by simp [W] at hx
  | k + 1 => mw_nonneg h (packw_nonneg (W_nonneg h k))
theorem W_srt {C : List Int} (h : Srt C) : ∀ k, Srt (W C k)
  | 0 => by simp [W]
  | k + 1 => mw_srt h (packw_srt (W_srt h k))
theorem W_len (C : List Int) (k : Nat) : (W C (k + 1)).length = C.length + (W C k).length / 2 := by
  rw [W, mw_len, packw_len]
theorem W_len_le {C : List Int} (h : 1 ≤ C.length) : ∀ k, (W C k).length + 1 ≤ 2 * C.length
  | 0 => by simp [W]; omega
  | k + 1 => by
    have := W_len_le h k
    rw [W_len]; omega
theorem W_len_ge {C : List Int} (h : 1 ≤ C.length) : ∀ k, 2 ^ k * (2 * C.length - (W C k).length - 1) ≤ 2 * C.length - 1
  | 0 => by simp [W]
  | k + 1 => by
    have h1 := W_len_ge h k
    have h2 := W_len_le h k
    rw [W_len, Nat.pow_succ, Nat.mul_assoc]
    refine Nat.le_trans (Nat.mul_le_mul_left _ ?_) h1
    omega
theorem W_enough {C : List Int} {k : Nat} (h : 1 ≤ C.length) (hk : C.length ≤ 2 ^ k) : 2 * C.length - 2 ≤ (W C k).length := by
  have h1 := W_len_ge h k
  have h2 := W_len_le h k
  have h3 : C.length * (2 * C.length - (W C k).length - 1) ≤ 2 * C.length - 1 := Nat.le_trans (Nat.mul_le_mul_right _ hk) h1
  refine Nat.not_lt.mp fun q => ?_
  have h4 : C.length * 2 ≤ C.length * (2 * C.length - (W C k).length - 1) := Nat.mul_le_mul_left _ (by omega)
  omega
theorem cc_le (C : List Int) (k m : Nat) (h : m ≤ (W C k).length) : cc C k m ≤ C.length ∧ cc C k m ≤ m ∧ 2 * (m - cc C k m) ≤ (W C (k - 1)).length := by
  cases k with
  | zero => simp [W] at h; simp [cc, h]
  | succ k =>
    have := cutc_le C (packw (W C k)) m
    rw [W, mw_len] at h
    have h2 := packw_len (W C k)
    simp only [cc, Nat.add_sub_cancel]
    omega
theorem F_step {C : List Int} {k m : Nat} (h : m ≤ (W C (k + 1)).length) : F C (k + 1) m = S C (cc C (k + 1) m) + F C k (2 * (m - cc C (k + 1) m)) := by
  have h1 := cc_le C (k + 1) m h
  rw [F, W, mw_sum _ _ _ (by rw [W, mw_len] at h; exact h)]
  show _ + ((packw (W C k)).take (m - cutc C (packw (W C k)) m)).sum = _
  rw [packw_sum _ _ (by simpa [cc] using h1.2.2)]
  rfl
/-- what any choice of c coins and 2p of the level below weighs -/
theorem F_least {C : List Int} {k m c p : Nat} (sc : Srt C) (nc : Nonneg C) (hc : c ≤ C.length) (hp : 2 * p ≤ (W C k).length) (hm : m ≤ c + p) : F C (k + 1) m ≤ S C c + F C k (2 * p) := by
  have hl : p ≤ (packw (W C k)).length := by rw [packw_len]; omega
  have h1 := mw_least C (packw (W C k)) m c p sc (packw_srt (W_srt sc k)) nc (packw_nonneg (W_nonneg nc k)) hc hl hm
  rw [F, W, mw_sum _ _ _ (by omega)]
  rw [packw_sum _ _ hp] at h1
  exact h1
theorem F_mono {C : List Int} {k a b : Nat} (nc : Nonneg C) (h : a ≤ b) : F C k a ≤ F C k b := take_mono (W_nonneg nc k) h
/-- coins become no more further down -/
theorem cc_down {C : List Int} {k m : Nat} (sc : Srt C) (nc : Nonneg C) (h : m ≤ (W C (k + 1)).length) : cc C k (2 * (m - cc C (k + 1) m)) ≤ cc C (k + 1) m := by
  have h1 := cc_le C (k + 1) m h
  simp only [Nat.add_sub_cancel] at h1
  have h2 := cc_le C k _ h1.2.2
  by_cases p0 : m - cc C (k + 1) m = 0
  · rw [p0] at h2 ⊢; omega
  · cases k with
    | zero => simp [cc]
    | succ k =>
      refine Nat.not_lt.mp fun q => ?_
      have hj : cc C (k + 1 + 1) m < cc C (k + 1) (2 * (m - cc C (k + 1 + 1) m)) := q
      have a1 := mw_last C (packw (W C k)) (2 * (m - cc C (k + 1 + 1) m)) (cc C (k + 1 + 1) m) sc (packw_srt (W_srt sc k)) (by omega) (by rw [← mw_len]; exact h1.2.2) hj
      have a2 := packw_get (W C (k + 1)) (m - cc C (k + 1 + 1) m - 1) (W_nonneg nc _) (by omega)
      have a3 := cutc_in C (packw (W C (k + 1))) m (cc C (k + 1 + 1) m) sc (by rw [← mw_len]; exact h) (by show cc C (k + 1 + 1) m < m; omega) (by omega)
      refine absurd (a3 ?_) (Nat.lt_irrefl _)
      refine Int.le_trans a1 ?_
      show (W C (k + 1)).getD _ 0 ≤ _
      rw [show 2 * (m - cc C (k + 1 + 1) m) - 1 = 2 * (m - cc C (k + 1 + 1) m - 1) + 1 by omega]
      exact a2
/-- more coins than packages -/
theorem cc_more {C : List Int} (sc : Srt C) (nc : Nonneg C) (hn : 1 ≤ C.length) : ∀ (k m : Nat), 1 ≤ m → m ≤ (W C k).length → m - cc C k m + 1 ≤ cc C k m
  | 0, m, h1, h2 => by simp [W] at h2; omega
  | k + 1, m, h1, h2 => by
    have h3 := cc_le C (k + 1) m h2
    simp only [Nat.add_sub_cancel] at h3
    by_cases p0 : m - cc C (k + 1) m = 0
    · omega
    · have ih := cc_more sc nc hn k (2 * (m - cc C (k + 1) m)) (by omega) h3.2.2
      have hd := cc_down sc nc h2
      omega
end K2

namespace K2
variable {C : List Int}
theorem S_zero : S C 0 = 0 := by simp [S]
theorem F_zero {k : Nat} : F C k 0 = 0 := by simp [F]
/-! what the search may not go below -/
def Low (C : List Int) (L d dn fr : Nat) (cost : Int) : Prop :=
  dn ≤ C.length ∧ (2 * (C.length - dn) - 2 * fr ≤ (W C (L - d)).length → F C L (2 * C.length - 2) ≤ cost + d * S C (C.length - dn) + F C (L - d) (2 * (C.length - dn) - 2 * fr))
theorem low_start (L : Nat) : Low C L 0 0 1 0 := ⟨by omega, fun _ => by simp⟩
theorem low_step {L d dn fr many : Nat} {cost : Int} (sc : Srt C) (nc : Nonneg C) (hd : d < L) (h : Low C L d dn fr cost) (h1 : many ≤ min (2 * fr) (2 * C.length)) (h2 : many ≤ C.length - dn) :
    Low C L (d + 1) (dn + many) (min (2 * fr) (2 * C.length) - many) (cost + (d + 1 : Int) * (S C (C.length - dn) - S C (C.length - (dn + many)))) := by
  obtain ⟨a, b⟩ := h
  refine ⟨by omega, fun q => ?_⟩
  obtain ⟨k, hk⟩ : ∃ k, L - d = k + 1 := ⟨L - d - 1, by omega⟩
  have hk2 : L - (d + 1) = k := by omega
  rw [hk] at b
  rw [hk2] at q ⊢
  have e1 : 2 * (C.length - dn - 2 * fr) ≤ 2 * (C.length - (dn + many)) - 2 * (min (2 * fr) (2 * C.length) - many) := by omega
  have f1 := F_least (k := k) (m := 2 * (C.length - dn) - 2 * fr) (c := C.length - dn) (p := C.length - dn - 2 * fr) sc nc (by omega) (by omega) (by omega)
  have f2 := F_mono (C := C) (k := k) nc e1
  have f3 := b (by rw [W_len]; omega)
  have e2 : (((d + 1 : Nat) : Int)) = (d : Int) + 1 := by omega
  rw [e2]
  have e3 : ((d : Int) + 1) * (S C (C.length - dn) - S C (C.length - (dn + many))) = (d : Int) * S C (C.length - dn) + S C (C.length - dn) - ((d : Int) + 1) * S C (C.length - (dn + many)) := by
    rw [Int.mul_sub, Int.add_mul, Int.one_mul]
  rw [e3]
  omega
theorem low_stay {L d fr : Nat} {cost : Int} (h : Low C L d C.length fr cost) : Low C L (d + 1) C.length fr cost := by
  obtain ⟨a, b⟩ := h
  refine ⟨a, fun _ => ?_⟩
  have := b (by omega)
  simp only [Nat.sub_self, Nat.mul_zero, Nat.zero_sub, S_zero, F_zero, Int.mul_zero] at *
  exact this
theorem low_end {L fr : Nat} {cost : Int} (h : Low C L L C.length fr cost) : F C L (2 * C.length - 2) ≤ cost := by
  have := h.2 (by omega)
  simpa [S_zero, F_zero] using this
/-! the way that packages go -/
def md (C : List Int) (L : Nat) : Nat → Nat
  | 0 => 2 * C.length - 2
  | d + 1 => 2 * (md C L d - cc C (L - d) (md C L d))
def cd (C : List Int) (L d : Nat) : Nat := cc C (L - d) (md C L d)
structure Good (C : List Int) (L : Nat) : Prop where
  srt : Srt C
  nn : Nonneg C
  two : 2 ≤ C.length
  room : C.length ≤ 2 ^ L
variable {L : Nat}
theorem md_even (d : Nat) : 2 * (md C L d / 2) = md C L d := by
  cases d with
  | zero => simp only [md]; omega
  | succ d => simp only [md]; omega
theorem md_le (G : Good C L) : ∀ d, d ≤ L → md C L d ≤ (W C (L - d)).length
  | 0, _ => W_enough (by have := G.two; omega) G.room
  | d + 1, h => by
    have h1 := md_le G d (by omega)
    have h2 := cc_le C _ _ h1
    rw [show L - d - 1 = L - (d + 1) by omega] at h2
    exact h2.2.2
theorem cd_le (G : Good C L) {d : Nat} (h : d ≤ L) : cd C L d ≤ C.length := (cc_le C _ _ (md_le G d h)).1
theorem cd_le_md (G : Good C L) {d : Nat} (h : d ≤ L) : cd C L d ≤ md C L d := (cc_le C _ _ (md_le G d h)).2.1
theorem cd_more (G : Good C L) {d : Nat} (h : d ≤ L) (h1 : 1 ≤ md C L d) : md C L d + 1 ≤ 2 * cd C L d := by
  have := cc_more G.srt G.nn (by have := G.two; omega) (L - d) (md C L d) h1 (md_le G d h)
  have := cd_le_md G h
  unfold cd at *
  omega
theorem cd_half (G : Good C L) {d : Nat} (h : d ≤ L) : md C L d ≤ 2 * cd C L d := by
  by_cases q : 1 ≤ md C L d
  · have := cd_more G h q; omega
  · omega
theorem cd_zero (G : Good C L) : cd C L 0 = C.length := by
  have h1 := cd_le G (d := 0) (by omega)
  have h2 := cd_more G (d := 0) (by omega) (by have := G.two; simp only [md]; omega)
  simp only [md] at h2
  omega
theorem cd_down (G : Good C L) {d : Nat} (h : d < L) : cd C L (d + 1) ≤ cd C L d := by
  obtain ⟨k, hk⟩ : ∃ k, L - d = k + 1 := ⟨L - d - 1, by omega⟩
  have h1 := md_le G d (by omega)
  have := cc_down (k := k) G.srt G.nn (by rw [← hk]; exact h1)
  unfold cd
  rw [show L - (d + 1) = k by omega, hk]
  simp only [md]
  rw [hk]
  exact this
theorem md_end (G : Good C L) : md C L L = 0 := by
  have := md_le G L (by omega)
  simpa [W] using this
theorem cd_end (G : Good C L) : cd C L L = 0 := by
  have := cd_le_md G (d := L) (by omega)
  rw [md_end G] at this
  omega
theorem md_next (d : Nat) : md C L (d + 1) = 2 * (md C L d - cd C L d) := rfl
theorem F_way (G : Good C L) {d : Nat} (h : d < L) : F C (L - d) (md C L d) = S C (cd C L d) + F C (L - (d + 1)) (md C L (d + 1)) := by
  obtain ⟨k, hk⟩ : ∃ k, L - d = k + 1 := ⟨L - d - 1, by omega⟩
  have h1 := md_le G d (by omega)
  rw [hk] at h1
  rw [md_next, cd, hk, F_step h1, show L - (d + 1) = k by omega]
/-- where the search stands on that way -/
def dn (C : List Int) (L d : Nat) : Nat := C.length - cd C L d
def fr (C : List Int) (L d : Nat) : Nat := cd C L d - md C L d / 2
def mn (C : List Int) (L d : Nat) : Nat := cd C L d - cd C L (d + 1)
def Up (C : List Int) (L d : Nat) (cost : Int) : Prop := cost + d * S C (cd C L d) + F C (L - d) (md C L d) ≤ F C L (2 * C.length - 2)
theorem dn_zero (G : Good C L) : dn C L 0 = 0 := by simp [dn, cd_zero G]
theorem fr_zero (G : Good C L) : fr C L 0 = 1 := by
  have := G.two
  simp only [fr, cd_zero G, md]; omega
theorem up_zero : Up C L 0 0 := by simp [Up, md]
theorem way_step (G : Good C L) {d : Nat} (h : d < L) : mn C L d ≤ min (min (2 * fr C L d) (2 * C.length)) (C.length - dn C L d) ∧ dn C L (d + 1) = dn C L d + mn C L d ∧ fr C L (d + 1) = min (2 * fr C L d) (2 * C.length) - mn C L d := by
  have h1 := cd_le G (d := d) (by omega)
  have h2 := cd_half G (d := d) (by omega)
  have h3 := cd_down G h
  have h4 := cd_half G (d := d + 1) (by omega)
  have h5 := md_even (C := C) (L := L) d
  have h6 := md_next (C := C) (L := L) d
  have h7 := cd_le_md G (d := d) (by omega)
  unfold mn fr dn
  omega
theorem up_step (G : Good C L) {d : Nat} {cost : Int} (h : d < L) (u : Up C L d cost) : Up C L (d + 1) (cost + (d + 1 : Int) * (S C (C.length - dn C L d) - S C (C.length - (dn C L d + mn C L d)))) := by
  have h1 := cd_le G (d := d) (by omega)
  have h3 := cd_down G h
  have e1 : C.length - dn C L d = cd C L d := by unfold dn; omega
  have e2 : C.length - (dn C L d + mn C L d) = cd C L (d + 1) := by unfold dn mn; omega
  have e3 := F_way G h
  rw [e1, e2]
  unfold Up at *
  rw [e3] at u
  have e4 : (((d + 1 : Nat) : Int)) = (d : Int) + 1 := by omega
  have e5 : ((d : Int) + 1) * (S C (cd C L d) - S C (cd C L (d + 1))) = (d : Int) * S C (cd C L d) + S C (cd C L d) - ((d : Int) + 1) * S C (cd C L (d + 1)) := by
    rw [Int.mul_sub, Int.add_mul, Int.one_mul]
  rw [e4, e5]
  omega
theorem up_end (G : Good C L) {cost : Int} (u : Up C L L cost) : cost ≤ F C L (2 * C.length - 2) := by
  have := u
  simpa [Up, cd_end G, md_end G, S_zero, F_zero] using this
theorem dn_end (G : Good C L) : dn C L L = C.length := by simp [dn, cd_end G]
/-! lengths by turn -/
def ln (C : List Int) (L : Nat) : Nat → Nat → Nat → Nat
  | _, 0, _ => 0
  | d, k + 1, i => (if i < cd C L d then 1 else 0) + ln C L (d + 1) k i
theorem ln_le : ∀ (k d i : Nat), ln C L d k i ≤ k
  | 0, _, _ => by simp [ln]
  | k + 1, d, i => by
    have := ln_le k (d + 1) i
    simp only [ln]; split <;> omega
theorem ln_none (G : Good C L) : ∀ (k d i : Nat), d + k ≤ L → cd C L d ≤ i → ln C L d k i = 0
  | 0, _, _, _, _ => by simp [ln]
  | k + 1, d, i, h, hi => by
    have h2 := cd_down G (d := d) (by omega)
    have := ln_none G k (d + 1) i (by omega) (by omega)
    simp only [ln, this]
    rw [if_neg (by omega)]
def sumR (f : Nat → Nat) : Nat → Nat
  | 0 => 0
  | c + 1 => sumR f c + f c
theorem sumR_congr {f g : Nat → Nat} : ∀ {c : Nat}, (∀ i, i < c → f i = g i) → sumR f c = sumR g c
  | 0, _ => rfl
  | c + 1, h => by
    simp only [sumR]
    rw [sumR_congr (c := c) (fun i hi => h i (by omega)), h c (by omega)]
theorem sumR_const {f : Nat → Nat} {v c : Nat} : ∀ {k : Nat}, (∀ i, c ≤ i → i < c + k → f i = v) → sumR f (c + k) = sumR f c + k * v
  | 0, _ => by simp
  | k + 1, h => by
    show sumR f (c + k) + f (c + k) = _
    rw [sumR_const (k := k) (fun i h1 h2 => h i h1 (by omega)), h (c + k) (by omega) (by omega), Nat.add_mul]
    omega
theorem kraft (G : Good C L) : ∀ (k d B : Nat), d + k = L → k ≤ B → sumR (fun i => 2 ^ (B - ln C L d k i)) (cd C L d) = fr C L d * 2 ^ B
  | 0, d, B, h, _ => by
    have e : d = L := by omega
    subst e
    simp [fr, cd_end G, sumR]
  | k + 1, d, B, h, hB => by
    obtain ⟨B, rfl⟩ : ∃ b, B = b + 1 := ⟨B - 1, by omega⟩
    have hd := cd_down G (d := d) (by omega)
    have ih := kraft G k (d + 1) B (by omega) (by omega)
    obtain ⟨w1, w2, w3⟩ := way_step G (d := d) (by omega)
    have e1 : sumR (fun i => 2 ^ (B + 1 - ln C L d (k + 1) i)) (cd C L d) = sumR (fun i => 2 ^ (B - ln C L (d + 1) k i)) (cd C L d) := by
      refine sumR_congr fun i hi => ?_
      simp only [ln, if_pos hi]
      have : B + 1 - (1 + ln C L (d + 1) k i) = B - ln C L (d + 1) k i := by omega
      rw [this]
    have e2 : sumR (fun i => 2 ^ (B - ln C L (d + 1) k i)) (cd C L (d + 1) + (cd C L d - cd C L (d + 1))) = sumR (fun i => 2 ^ (B - ln C L (d + 1) k i)) (cd C L (d + 1)) + (cd C L d - cd C L (d + 1)) * 2 ^ B := by
      refine sumR_const fun i h1 h2 => ?_
      rw [ln_none G k (d + 1) i (by omega) h1, Nat.sub_zero]
    rw [show cd C L (d + 1) + (cd C L d - cd C L (d + 1)) = cd C L d by omega] at e2
    rw [e1, e2, ih, ← Nat.add_mul, Nat.pow_succ, Nat.mul_comm (2 ^ B) 2, ← Nat.mul_assoc]
    congr 1
    have h1 := cd_le G (d := d) (by omega)
    have h5 := md_even (C := C) (L := L) d
    unfold fr mn at *
    omega
theorem kraft_all (G : Good C L) {B : Nat} (h : L ≤ B) : sumR (fun i => 2 ^ (B - ln C L 0 L i)) C.length = 2 ^ B := by
  have := kraft G L 0 B (by omega) h
  rw [cd_zero G, fr_zero G, Nat.one_mul] at this
  exact this
/-! letters -/
def tl (C : List Int) (L : Nat) (lets : List Nat) : Nat → Nat → List Nat
  | _, 0 => []
  | d, k + 1 => lets.take (cd C L d) ++ tl C L lets (d + 1) k
theorem count_take : ∀ {lets : List Nat} {i c : Nat} {x : Nat}, lets.Nodup → lets[i]? = some x → (lets.take c).count x = if i < c then 1 else 0
  | [], i, c, x, _, h => by simp at h
  | y :: l, i, 0, x, _, h => by simp
  | y :: l, 0, c + 1, x, nd, h => by
    have e : y = x := by simpa using h
    subst e
    have n1 := (List.nodup_cons.mp nd).1
    have : (l.take c).count y = 0 := List.count_eq_zero.mpr fun q => n1 (List.mem_of_mem_take q)
    simp [this]
  | y :: l, i + 1, c + 1, x, nd, h => by
    have h' : l[i]? = some x := by simpa using h
    have n1 := List.nodup_cons.mp nd
    have ih := count_take (c := c) n1.2 h'
    have hx : x ∈ l := List.mem_of_getElem? h'
    have : y ≠ x := fun e => n1.1 (e ▸ hx)
    simp only [List.take_succ_cons, List.count_cons, ih]
    simp [this]
theorem count_tl {lets : List Nat} (nd : lets.Nodup) {i x : Nat} (h : lets[i]? = some x) : ∀ k d, (tl C L lets d k).count x = ln C L d k i
  | 0, d => by simp [tl, ln]
  | k + 1, d => by simp only [tl, ln, List.count_append, count_take nd h, count_tl nd h k (d + 1)]
theorem tl_mem {lets : List Nat} {x : Nat} : ∀ k d, x ∈ tl C L lets d k → x ∈ lets
  | 0, d, h => by simp [tl] at h
  | k + 1, d, h => by
    rcases (List.mem_append.mp h) with (q | q)
    · exact List.mem_of_mem_take q
    · exact tl_mem k (d + 1) q
theorem tl_sum (G : Good C L) {lets : List Nat} {f : Nat → Int} (hf : lets.map f = C) : ∀ k d, d + k = L → ((tl C L lets d k).map f).sum = F C (L - d) (md C L d)
  | 0, d, h => by
    have e : d = L := by omega
    subst e
    simp [tl, F, W]
  | k + 1, d, h => by
    have ih := tl_sum G hf k (d + 1) (by omega)
    rw [F_way G (by omega), tl, List.map_append, List.sum_append, ih, List.map_take, hf]
    rfl
/-- how often each letter below n is told -/
def cnts (n : Nat) (T : List Nat) : List Int := (List.range n).map fun l => (T.count l : Int)
theorem cnts_len {n : Nat} {T : List Nat} : (cnts n T).length = n := by simp [cnts]
theorem cnts_get {n l : Nat} {T : List Nat} (h : l < n) : (cnts n T)[l]? = some (T.count l : Int) := by
  simp [cnts, h]
theorem cnts_nil {n : Nat} : cnts n [] = List.replicate n 0 := by
  refine List.ext_getElem? fun i => ?_
  by_cases h : i < n
  · simp [cnts, h]
  · simp [cnts, h]
theorem cnts_bump {n l : Nat} {T : List Nat} (h : l < n) : (cnts n T).set l ((T.count l : Int) + 1) = cnts n (T ++ [l]) := by
  refine List.ext_getElem? fun i => ?_
  by_cases e : i < n
  · rw [cnts_get e]
    by_cases q : l = i
    · subst q
      rw [List.getElem?_set_self (by simp [cnts_len, h])]
      simp
    · rw [List.getElem?_set_ne q, cnts_get e]
      simp [List.count_append, List.count_singleton, q]
  · rw [List.getElem?_eq_none (by simp [cnts_len]; omega), List.getElem?_eq_none (by simp [cnts_len]; omega)]
theorem cnts_perm {n : Nat} {T U : List Nat} (h : T.Perm U) : cnts n T = cnts n U := by
  unfold cnts
  refine List.map_congr_left fun l _ => ?_
  rw [h.count_eq]
theorem sum_map_add {α : Type} {f g : α → Int} : ∀ l : List α, (l.map fun x => f x + g x).sum = (l.map f).sum + (l.map g).sum
  | [] => by simp
  | x :: l => by
    have := sum_map_add (f := f) (g := g) l
    simp only [List.map_cons, List.sum_cons]; omega
theorem sum_zero {α : Type} : ∀ l : List α, (l.map fun _ => (0 : Int)).sum = 0
  | [] => rfl
  | _ :: l => by rw [List.map_cons, List.sum_cons, sum_zero l]; rfl
theorem sum_one {g : Nat → Int} {x : Nat} : ∀ {l : List Nat}, l.Nodup → x ∈ l → (l.map fun y => if y = x then g y else 0).sum = g x
  | [], _, h => by simp at h
  | y :: l, nd, h => by
    have n1 := List.nodup_cons.mp nd
    by_cases e : y = x
    · subst e
      have : (l.map fun z => if z = y then g z else 0).sum = 0 := by
        have e : (l.map fun z => if z = y then g z else 0) = l.map fun _ => (0 : Int) := List.map_congr_left fun z hz => if_neg fun (q : z = y) => n1.1 (q ▸ hz)
        rw [e, sum_zero]
      simp [this]
    · rcases List.mem_cons.mp h with q | q
      · exact absurd q.symm e
      · have := sum_one (g := g) n1.2 q
        simp [e, this]
theorem cnts_sum {n : Nat} {g : Nat → Int} : ∀ {T : List Nat}, (∀ x ∈ T, x < n) → ((List.range n).map fun l => (T.count l : Int) * g l).sum = (T.map g).sum
  | [], _ => by simp [sum_zero]
  | x :: T, h => by
    have ih := cnts_sum (g := g) (T := T) (fun y hy => h y (by simp [hy]))
    have e : ((List.range n).map fun l => ((x :: T).count l : Int) * g l) = (List.range n).map fun l => (T.count l : Int) * g l + (if l = x then g l else 0) := by
      refine List.map_congr_left fun l _ => ?_
      rw [List.count_cons]
      by_cases q : l = x
      · subst q; simp [Int.add_mul]
      · have : ¬ x = l := fun z => q z.symm
        simp [q, this]
    rw [e, sum_map_add, ih, sum_one List.nodup_range (by simp; exact h x (by simp)), List.map_cons, List.sum_cons]
    omega
theorem sumR_list {f : Nat → Nat} : ∀ {lets : List Nat} {g : Nat → Nat}, (∀ (i x : Nat), lets[i]? = some x → f i = g x) → sumR f lets.length = (lets.map g).sum
  | lets, g, h => by
    have key : ∀ c, c ≤ lets.length → sumR f c = ((lets.take c).map g).sum := by
      intro c
      induction c with
      | zero => intro _; simp [sumR]
      | succ c ih =>
        intro hc
        have hx : c < lets.length := by omega
        rw [sumR, ih (by omega), List.take_add_one, List.getElem?_eq_getElem hx]
        simp only [Option.toList_some, List.map_append, List.sum_append, List.map_cons, List.map_nil, List.sum_cons, List.sum_nil]
        rw [h c _ (List.getElem?_eq_getElem hx)]
        omega
    have := key lets.length (Nat.le_refl _)
    rw [List.take_length] at this
    exact this
end K2

namespace K2
open PySem PySem.Spec PyProof.Rows L2
def topS (i : Nat) : Stmt := PySem.Challenge.pw_presshouse_k07_whole_read.main.body.getD i (.Pass ⟨0, 0, 0, 0⟩)
abbrev sWhole : Stmt := topS 9
abbrev sIsNum : Stmt := topS 10
abbrev sAreNum : Stmt := topS 11
abbrev sByLet : Stmt := topS 18
abbrev sLLeast : Stmt := topS 68
theorem scIsNum : FnScope ["told", "least", "most"] ["told", "least", "most"] (defScope sIsNum) := ⟨rfl, rfl, rfl, by decide +kernel, rfl, by decide +kernel, by decide +kernel⟩
theorem scAreNum : FnScope ["told", "least", "most", "one"] ["told", "least", "most"] (defScope sAreNum) := ⟨rfl, rfl, rfl, by decide +kernel, rfl, by decide +kernel, by decide +kernel⟩
theorem scByLet : FnScope ["told", "most"] ["told", "most"] (defScope sByLet) := ⟨rfl, rfl, rfl, by decide +kernel, rfl, by decide +kernel, by decide +kernel⟩
theorem same_upd {H : Hp} {p : Addr} {o : HO} (h : H p = none) : Same H (upd H p o) := fun b x e => by
  rw [upd_ne (ne_of_none e h)]
  exact e
theorem same_put {H H' : Hp} {D : Addr} {o : HO} (h : Same H H') (n : H D = none) : Same H (upd H' D o) := fun b x e => by
  rw [upd_ne (ne_of_none e n)]
  exact h _ _ e
theorem int_of {xs : List Int} {i : Nat} {v : V} (h : (xs.map V.int)[i]? = some v) : ∃ x, v = .int x ∧ xs[i]? = some x := by
  rw [List.getElem?_map] at h
  cases e : xs[i]? with
  | none => (rw [e] at h); (cases h)
  | some y => rw [e] at h; exact ⟨y, (Option.some.inj h).symm, rfl⟩
theorem yes {σ : L2.St} {H : Hp} {A B : Hp → Prop} (h : A H) : tYes σ H fun b H3 => if b = true then A H3 else B H3 := by simpa [tYes] using h
section
variable {P : Program} {w : World} {K : PySem.W.Frag} {mg : Str → Option Value} {base : Heap}
def spIsNum : Sp := fun vs H Q _ => ∃ x a b : Int, vs = [.int x, .int a, .int b] ∧ Q (.bl (decide (a ≤ x ∧ x ≤ b))) H
theorem scWhole : FnScope ["told"] ["told"] (defScope sWhole) := ⟨rfl, rfl, rfl, by decide +kernel, rfl, by decide +kernel, by decide +kernel⟩
def spWhole : Sp := fun vs H Q _ => ∃ x : Int, vs = [.int x] ∧ Q (.bl true) H
theorem ok_whole {f : Addr} {fd : FuncData} {k : Nat} (F : Fun K "is_whole" "is_whole" sWhole f fd) (m1 : mg "isinstance" = none) (m2 : mg "bool" = none) (m3 : mg "int" = none) : FnOk P w K mg base CX0 (k + 1) f fd ["told"] spWhole := by
  refine F.ok scWhole (fun vs H Q E h => ?_) (fun cdv A outer s H vs Q E hr h => ?_)
  · obtain ⟨x, rfl, _⟩ := h
    rfl
  · obtain ⟨x, rfl, q⟩ := h
    refine ⟨_, pss_one (ps_ret (pe_and (pe_callB call_isi (by rfl) m1 (by decide +kernel) (pa_cons (pv 0) (pa_cons (pe_bltn (v := .ty "int") (by rfl) m3 (by decide +kernel) rfl) pa_nil)))
      (pe_one (pe_not (pe_callB call_isi (by rfl) m1 (by decide +kernel) (pa_cons (pv 0) (pa_cons (pe_bltn (v := .ty "bool") (by rfl) m2 (by decide +kernel) rfl) pa_nil))))))), ?_⟩
    refine ⟨_, rfl, _, _, _, _, _, rfl, .ty "int", .base (.int _), kit_ty (a := "int") (r := true) (by decide +kernel), _, rfl, iteT ?_⟩
    exact ⟨_, rfl, _, _, _, _, _, rfl, .ty "bool", .base (.int _), kit_ty (a := "int") (r := false) (by decide +kernel), _, rfl, q⟩
theorem ok_isNum {f f0 : Addr} {fd fd0 : FuncData} {k : Nat} (F : Fun K "is_number" "is_number" sIsNum f fd) (F0 : Fun K "is_whole" "is_whole" sWhole f0 fd0) (G0 : FnOk P w K mg base CX0 (k + 1) f0 fd0 ["told"] spWhole) (b0 : Binds K fd0 ["told"] []) (g0 : mg "is_whole" = some (.ref f0)) :
    FnOk P w K mg base CX0 (k + 2) f fd ["told", "least", "most"] spIsNum := by
  refine F.ok scIsNum (fun vs H Q E h => ?_) (fun cdv A outer s H vs Q E hr h => ?_)
  · obtain ⟨x, a, b, rfl, _⟩ := h
    rfl
  · obtain ⟨x, a, b, rfl, q⟩ := h
    refine ⟨_, pss_one (ps_ret (pe_and (pe_call G0 hr (by rfl) g0 F0.kp b0 .nil pass0 (pa_cons (pv 0) pa_nil)) (pe_one (pe_chain op_le op_le (pv 1) (pv 0) (pv 2))))), ?_⟩
    refine ⟨_, rfl, x, rfl, _, rfl, iteT ⟨_, rfl, _, rfl, _, _, rfl, rfl, _, rfl, ?_⟩⟩
    by_cases h1 : a ≤ x
    · rw [if_pos (decide_eq_true h1)]
      refine ⟨_, rfl, _, _, rfl, rfl, ?_⟩
      simpa [h1] using q
    · rw [if_neg (by simpa using h1)]
      simpa [h1] using q
/-- a list that is made beside all that was there -/
def spAreNum : Sp := fun vs H Q _ => ∃ (p : Addr) (xs : List Int) (a b : Int), vs = [.ref p, .int a, .int b] ∧ H p = some (.lst (xs.map V.int)) ∧ xs.length ≤ 1000 ∧ ∀ H', Same H H' → Q (.bl (xs.all fun x => decide (a ≤ x ∧ x ≤ b))) H'
theorem ok_areNum {f f1 : Addr} {fd fd1 : FuncData} {k : Nat} (F : Fun K "are_numbers" "are_numbers" sAreNum f fd) (F1 : Fun K "is_number" "is_number" sIsNum f1 fd1) (G1 : FnOk P w K mg base CX0 (k + 2) f1 fd1 ["told", "least", "most"] spIsNum)
    (b1 : Binds K fd1 ["told", "least", "most"] []) (g1 : mg "is_number" = some (.ref f1)) (m1 : mg "isinstance" = none) (m2 : mg "list" = none) (m3 : mg "all" = none) : FnOk P w K mg base CX0 (k + 3) f fd ["told", "least", "most"] spAreNum := by
  refine F.ok scAreNum (fun vs H Q E h => ?_) (fun cdv A outer s H vs Q E hr h => ?_)
  · obtain ⟨p, xs, a, b, rfl, _⟩ := h
    rfl
  · obtain ⟨p, xs, a, b, rfl, hp, hl, q⟩ := h
    refine ⟨_, pss_one (ps_ret (pe_and (pe_callB call_isi (by rfl) m1 (by decide +kernel) (pa_cons (pv 0) (pa_cons (pe_bltn (v := .ty "list") (by rfl) m2 (by decide +kernel) rfl) pa_nil)))
      (pe_one (pe_callB (cr_all rfl) (by rfl) m3 (by decide +kernel) (pa_cons (pe_lc (own := [("one", 3)]) (g := gName 3) (tt := tYes) rfl scAreNum.nd (pi_list (pv 0)) (blkOk_by (N := ["told", "least", "most", "one"]) (sc := defScope sAreNum) (by decide +kernel))
        (fun _ _ _ _ _ => pg_name (i := 3) scAreNum.nd rfl (Or.inl rfl)) (fun _ _ _ _ _ => pts_nil)
        (fun _ _ _ _ _ => pe_call G1 hr (by rfl) g1 F1.kp b1 .nil pass0 (pa_cons (pv 3) (pa_cons (pv 1) (pa_cons (pv 2) pa_nil))))) pa_nil))))), ?_⟩
    refine ⟨_, rfl, _, _, _, _, _, rfl, .ty "list", .base (.lst hp), kit_ty (a := "list") (r := true) (by decide +kernel), _, rfl, iteT ?_⟩
    refine ⟨_, rfl, p, rfl, ⟨_, .inl (.inl hp)⟩, fun D nD => ?_⟩
    refine lc_list (K := K) (a := p) (xs := xs.map V.int) (fun i H' => Same H H' ∧ H' D = some (.lst ((xs.take i).map fun x => .bl (decide (a ≤ x ∧ x ≤ b))))) ⟨same_upd nD, upd_same⟩ (fun i H' _ h => .inl (.inl (h.1 _ _ hp))) (fun i x H' hx h => ?_) (fun H' h => ?_)
    · obtain ⟨x, rfl, hx'⟩ := int_of hx
      refine ⟨rfl, yes ?_⟩
      refine ⟨_, rfl, _, rfl, _, rfl, x, a, b, rfl, _, h.2, ?_, same_put h.1 nD, ?_⟩
      · rw [List.length_map, List.length_take]
        exact small1000 (by omega)
      · rw [upd_same, List.take_add_one, hx']
        simp
    · have e : (xs.take (xs.map V.int).length) = xs := by rw [List.length_map, List.take_length]
      rw [e] at h
      refine ⟨D, (xs.map fun x => decide (a ≤ x ∧ x ≤ b)), rfl, .inl (.inl ?_), ?_⟩
      · rw [h.2, List.map_map]
        rfl
      · have q' := q H' h.1
        rw [List.all_map]
        exact q'
def spByLet : Sp := fun vs H Q _ => ∃ (p : Addr) (xs : List Int) (b : Int), vs = [.ref p, .int b] ∧ H p = some (.lst (xs.map V.int)) ∧ xs.length ≤ 1000 ∧ ∀ H', Same H H' → Q (.bl ((xs.all fun x => decide (0 ≤ x ∧ x ≤ b)) && decide (2 ≤ xs.length ∧ xs.length ≤ 300))) H'
theorem ok_byLet {f f1 : Addr} {fd fd1 : FuncData} {k : Nat} {t2 t3 : Tok} (F : Fun K "are_by_letters" "are_by_letters" sByLet f fd) (F1 : Fun K "are_numbers" "are_numbers" sAreNum f1 fd1) (G1 : FnOk P w K mg base CX0 (k + 3) f1 fd1 ["told", "least", "most"] spAreNum)
    (b1 : Binds K fd1 ["told", "least", "most"] []) (g1 : mg "are_numbers" = some (.ref f1)) (m1 : mg "len" = none) (c2 : mg "FEWEST_LETTERS" = some (.int 2 t2)) (c3 : mg "MOST_LETTERS" = some (.int 300 t3)) : FnOk P w K mg base CX0 (k + 4) f fd ["told", "most"] spByLet := by
  refine F.ok scByLet (fun vs H Q E h => ?_) (fun cdv A outer s H vs Q E hr h => ?_)
  · obtain ⟨p, xs, b, rfl, _⟩ := h
    rfl
  · obtain ⟨p, xs, b, rfl, hp, hl, q⟩ := h
    refine ⟨_, pss_one (ps_ret (pe_and (pe_call G1 hr (by rfl) g1 F1.kp b1 .nil pass0 (pa_cons (pv 0) (pa_cons pe_int (pa_cons (pv 1) pa_nil))))
      (pe_one (pe_chain op_le op_le (pe_glob (v := .int 2) rfl c2 ⟨_, rfl⟩) (pe_callB call_len_seq (by rfl) m1 PySem.boot_len (pa_cons (pv 0) pa_nil)) (pe_glob (v := .int 300) rfl c3 ⟨_, rfl⟩))))), ?_⟩
    refine ⟨_, rfl, _, rfl, p, xs, 0, b, rfl, hp, hl, fun H' sm => ⟨_, rfl, ite2 (fun e => ?_) (fun e => ?_)⟩⟩
    · rw [e] at q
      refine ⟨_, rfl, p, _, rfl, .inl (.inl (.inl (sm _ _ hp))), _, _, rfl, rfl, _, rfl, ite2 (fun e2 => ?_) (fun e2 => ?_)⟩
      · refine ⟨_, _, rfl, rfl, ?_⟩
        have q' := q H' sm
        rw [List.length_map] at e2 ⊢
        have e3 : (2 : Int) ≤ (xs.length : Int) := of_decide_eq_true e2
        have : (true && decide (2 ≤ xs.length ∧ xs.length ≤ 300)) = decide ((xs.length : Int) ≤ 300) := by
          rw [Bool.true_and, decide_eq_decide]
          omega
        rw [this] at q'
        exact q'
      · have q' := q H' sm
        rw [List.length_map] at e2
        have e3 : ¬ (2 : Nat) ≤ xs.length := fun z => e2 (decide_eq_true (by omega))
        have : (true && decide (2 ≤ xs.length ∧ xs.length ≤ 300)) = false := by simp [e3]
        rw [this] at q'
        exact q'
    · have e' : (xs.all fun x => decide (0 ≤ x ∧ x ≤ b)) = false := by simpa using e
      rw [e'] at q
      exact q H' sm
end
end K2

namespace K2
open PySem PySem.Spec PyProof.Rows L2
/-! ### lists of pairs of ints -/
def Tups (H : Hp) (ts : List Addr) (l : List (Int × Int)) : Prop := ts.length = l.length ∧ ∀ (i : Nat) (t : Addr) (x : Int × Int), ts[i]? = some t → l[i]? = some x → H t = some (.tup [.int x.1, .int x.2])
theorem Tups.ext {H H' : Hp} {ts : List Addr} {l : List (Int × Int)} (h : Tups H ts l) (e : ∀ b xs, H b = some (.tup xs) → H' b = some (.tup xs)) : Tups H' ts l := ⟨h.1, fun i t x h1 h2 => e _ _ (h.2 i t x h1 h2)⟩
theorem Tups.same {H H' : Hp} {ts : List Addr} {l : List (Int × Int)} (h : Tups H ts l) (e : Same H H') : Tups H' ts l := h.ext fun b xs q => e _ _ q
theorem Tups.extN {H H' : Hp} {ts : List Addr} {l : List (Int × Int)} (h : Tups H ts l) (e : LamX.ExtN H H') : Tups H' ts l := h.ext fun b xs q => e _ _ q fun ps z => by cases z
/-! ### sorted(e, key=lambda one: one[0]) -/
abbrev lamP (p : Pos) : Arguments := { posonlyargs := [], args := [{ arg := "one", annotation := none, pos := p }], vararg := none, kwonlyargs := [], kw_defaults := [], kwarg := none, defaults := [] }
abbrev lamB (p1 p2 p3 : Pos) : Expr := .Subscript (.Name "one" p1) (.Constant (.int 0) 0 p2) p3
abbrev lamC : Scope := { kind := .function, names := [(PySem.Str.ofString "one", .local)], isGenerator := false, isCoroutine := false, more := [] }
section
variable {prog : Program} {w : World} {s : Shared} {A : Around}
theorem call_lam {f c' t : Addr} {qual : Str} {pm ctv : Value} {pA p1 p2 p3 : Pos} {its : Array Value} {x : Int} {tk : Tok} (ho : s.heap.get? f = some (PySem.W.kla_obj "<lambda>" qual (lamP pA) (lamB p1 p2 p3) lamC [] pm c' ctv))
    (hcd : s.heap.CodeRec (.ref c') qual) (hlim : s.heap.NoLimit) (hroom : A.depth < recursionLimit) (pl : IsTup s.heap t its) (h0 : its[0]? = some (.int x tk)) :
    wpAny (model prog w) A (call (.ref f) [.ref t]) (PySem.W.KeyPure (.int x) s) (fun _ _ => False) s := by
  refine wpAny_call ?_
  refine PySem.W.kla_callFunE hroom ho rfl rfl rfl rfl hcd ?_
  have hb : bindArgs (PySem.W.kla_fn "<lambda>" qual (lamP pA) (lamB p1 p2 p3) lamC [] pm (.ref c') ctv) ⟨[.ref t], []⟩ = pure [(("one" : Str), Value.ref t)] := by first | rfl | with_unfolding_all rfl
  rw [hb]
  refine wpAny_pure (wpAny_newFunctionEnv (fun y hy => by
    have : y = (PySem.Str.ofString "one", NameKind.local) := by simpa using hy
    rw [this]; exact fun z => by cases z) (fun y hy => by
    have : y = (("one" : Str), Value.ref t) := by simpa using hy
    rw [this]; rfl) (fun h₁ hns hsb => ⟨hlim.fresh _ hsb, ?_⟩) rfl)
  have hk₁ : ∀ c oc, s.heap.get? c = some oc → h₁.get? c = some oc := by
    intro c oc was
    exact hsb.extBut c oc (Nat.ne_of_lt (Heap.lt_size was)) (Heap.get?_push_of_some _ was)
  show codeAny _ _ (.expr (lamB p1 p2 p3) (PySem.W.envX qual lamC s.heap.objs.size f (.ref c') [])) _ _
  refine PySem.W.kla_codeExpr ?_
  refine Subscript_ (wpAny_Name (wpAny_loadName_local (v := .ref t) rfl rfl hns rfl (wpAny_Constant_int ?_)))
  obtain ⟨o, ho1, hc1, n1, hd1⟩ := pl
  have pl' : IsTup h₁ t its := ⟨o, hk₁ _ _ ho1, hc1, n1, hd1⟩
  have hsz : 0 < its.size := by
    rcases Nat.lt_or_ge 0 its.size with q | q
    · exact q
    · rw [Array.getElem?_eq_none (by omega)] at h0; cases h0
  refine subscriptTail_builtinR (x := .int x tk) pl'.typeIs slot_tuple_getitem.lookup
    (getItem_tuple (j := 0) (Q := fun r s' => r = Value.int x tk ∧ PySem.W.KeyPure (.int x) s r s') pl' (by omega) (by omega) ?_ h0 ⟨rfl, ?_⟩) rfl
  · unfold seqIndex?
    simp
    exact fun z => by rw [z] at hsz; exact absurd hsz (by simp)
  · exact ⟨h₁, _, rfl, hk₁, .int x tk⟩
end
def keyLe (x y : Int × Int) : Bool := decide (x.1 ≤ y.1)
def tSK (T : List (Addr × Str)) (t : TA) : TE := fun σ H Q => t σ H fun vs H1 => ∃ (a : Addr) (ts : List Addr) (l : List (Int × Int)), vs = [.ref a] ∧ H1 a = some (.lst (ts.map V.ref)) ∧ Tups H1 ts l ∧ LamX.Tabs T H1 ∧
  ∀ (H2 : Hp) (p : Addr) (us : List Addr), LamX.ExtN H1 H2 → LamX.Tabs T H2 → H2 p = none → Tups H2 us (l.mergeSort keyLe) → Q (.ref p) (upd H2 p (.lst (us.map V.ref)))
theorem vals_refs : ∀ {ts : List Addr} {us : List Value}, Vals (ts.map V.ref) us → us = ts.map Value.ref
  | [], _, h => by cases h; rfl
  | t :: ts, _, h => by
    cases h with
    | cons r h =>
      have e := vals_refs h
      rw [e]
      have : _ = Value.ref t := r
      rw [this]; rfl
theorem refs_vals : ∀ (ts : List Addr), Vals (ts.map V.ref) (ts.map Value.ref)
  | [] => .nil
  | t :: ts => .cons rfl (refs_vals ts)
theorem each_zip : ∀ {ts : List Addr} {l : List (Int × Int)}, ts.length = l.length → PySem.W.EachIs (fun (v : Value) (b : Addr × Int × Int) => v = .ref b.1) (ts.map Value.ref) (ts.zip l)
  | [], [], _ => .nil
  | [], _ :: _, h => by (simp at h)
  | _ :: _, [], h => by (simp at h)
  | t :: ts, x :: l, h => .cons rfl (each_zip (by simpa using h))
theorem each_out : ∀ {out : List Value} {bs : List (Addr × Int × Int)}, PySem.W.EachIs (fun (v : Value) (b : Addr × Int × Int) => v = .ref b.1) out bs → out = (bs.map (·.1)).map Value.ref
  | _, _, .nil => rfl
  | _, _, .cons h t => by rw [h, each_out t]; rfl
theorem mem_zip_at {α β : Type} {ts : List α} {l : List β} {b : α × β} (h : b ∈ ts.zip l) : ∃ i : Nat, ts[i]? = some b.1 ∧ l[i]? = some b.2 := by
  obtain ⟨i, hi⟩ := List.mem_iff_getElem?.mp h
  obtain ⟨h1, h2⟩ := List.getElem?_zip_eq_some.mp hi
  exact ⟨i, h1, h2⟩
section
variable {X : Cx}
theorem pe_sortedKey {T : List (Addr × Str)} {t : TA} {k : Nat} {e : Expr} {p pos kp pA p1 p2 p3 lpos : Pos} {c P : Addr} (hr : Room k X.A) (ha : PA X [e] t) (hg : Gl X "sorted") (hm : X.mg "sorted" = none) (TB : LamX.TabB X.base X.mg c P) (hcode : X.env.code = .ref c)
    (hmT : (P, X.env.qual ++ "<lambda>") ∈ T) (hu : ∀ p ∈ T, p.1 = P → p.2 = X.env.qual ++ "<lambda>")
    (he : backTo pos (starEach [e] X.env) = (false, eval e X.env) :: backTo pos (starEach [] X.env) := by rfl) (hpl : (backTo pos (starEach [e] X.env)).any (·.1) = false := by rfl) :
    PE X (.Call (.Name "sorted" p) [e] [⟨some "key", .Lambda (lamP pA) (lamB p1 p2 p3) lamC lpos, kp⟩] pos) (tSK T t) := by
  refine ⟨fun pins s σ H Q I h => ?_⟩
  refine wpAny_Call_Name_kw (ld_blt (u := .builtin "sorted") I hg hm (by decide +kernel) ?_ (by decide) (by decide))
  refine PyProof.Rows.callWith_kw (thn (ha.run pos pins s σ H _ I h) fun us s1 hh => ?_) he hpl rfl rfl
  obtain ⟨vs, H1, I1, r1, a, ts, l, rfl, ha, ht, hT, q⟩ := hh
  obtain rfl := Vals.ref1 r1
  show wpAny _ _ (evalAll ((do let v ← eval (.Lambda (lamP pA) (lamB p1 p2 p3) lamC lpos) X.env; standAt pos; pure v) :: [])) _ _ s1
  refine wpAny_evalAll_cons (wpAny_bind (LamX.lam_make2 I1 TB hcode hmT hu hT rfl (fun y hy z => by
    have : y = (PySem.Str.ofString "one", NameKind.local) := by simpa using hy
    rw [this] at z; cases z) fun f c' pm ctv H2 s2 I2 eN T2 hf hfn hfr hco => wpAny_bind (wpAny_standAt (wpAny_pure (wpAny_evalAll_nil ?_)))))
  have ha2 : H2 a = some (.lst (ts.map V.ref)) := eN _ _ ha fun ps z => by cases z
  have ht2 := ht.extN eN
  obtain ⟨its, rv, hl, hz⟩ := I2.list (show SqL X.K H2 a _ from .inl (.inl ha2))
  have hits := vals_refs rv
  subst hits
  obtain ⟨⟨oc, cvs, ctk, hoc, hdc, hvc⟩, _, _⟩ := I2.hok c' _ hco
  rw [List.length_map] at hz
  have hpr : ∀ b ∈ ts.zip l, H2 b.1 = some (.tup [.int b.2.1, .int b.2.2]) := fun b hb => by
    obtain ⟨i, h1, h2⟩ := mem_zip_at hb
    exact ht2.2 i _ _ h1 h2
  show wpAny _ _ (call (.builtin "sorted") [.ref a] [(Str.ofString "key", .ref f)]) _ _ _
  refine PySem.W.sorted_key_data (b := false) (f := .ref f) (β := Addr × Int × Int) (R := fun v b => v = .ref b.1) (bs := ts.zip l) (fun b => .int b.2.1) hl.isList (each_zip ht2.1) (PySem.W.AllAlike.of fun _ _ => rfl) (PySem.W.Sortable.others (enc := fun b : Addr × Int × Int => PyData.int b.2.1) fun _ => ⟨(by intro z; cases z), (by intro _ z; cases z)⟩) (by rw [List.length_zip, ← ht2.1]; omega)
    (fun x _ => ?_) (PyProof.Rows.ksk_s1 _ _) (fun _ => PyProof.Rows.ksk_l1 _ _) (fun _ => PyProof.Rows.ksk_t1 _ _) (fun v x hR hx h tk kp' => ?_) (fun out cc h' tk kp' fr hD hlen ho => ?_)
  · have := hr.un
    show X.A.units + 2 + 0 < cLine
    omega
  · subst hR
    obtain ⟨_, its2, r2, pl⟩ := I2.hok _ _ (hpr x hx)
    obtain ⟨u1, u2, rfl, ⟨t1, rfl⟩, ⟨t2, rfl⟩⟩ := vals2 r2
    obtain ⟨o, ho1, hc1, n1, hd1⟩ := pl
    exact call_lam (s := { s2 with heap := h, toks := tk }) (kp' _ _ hf) ⟨c', oc, cvs, ctk, rfl, kp' _ _ hoc, hdc, hvc⟩ (I2.nolimit.keeps kp') hr.depth ⟨o, kp' _ _ ho1, hc1, n1, hd1⟩ rfl
  · have eo := each_out ho
    rw [PySem.W.dataLe_int] at eo
    have hz2 : (((ts.zip l).mergeSort fun a b => decide (a.2.1 ≤ b.2.1)).map fun b => V.ref b.1).length ≤ sizeLine := by
      rw [List.length_map, (List.mergeSort_perm _ _).length_eq, List.length_zip, ← ht2.1]
      omega
    have I3 : Inv X pins σ (upd H2 (s2.heap.objs.size + 1) (.lst (((ts.zip l).mergeSort fun a b => decide (a.2.1 ≤ b.2.1)).map fun b => V.ref b.1))) { s2 with heap := h', toks := tk } := by
      refine I2.laid (t' := tk) kp' (Nat.le_succ _) ⟨hz2, out, cc, ?_, hD⟩
      rw [eo]
      have := refs_vals (((ts.zip l).mergeSort fun a b => decide (a.2.1 ≤ b.2.1)).map (·.1))
      rw [List.map_map] at this
      exact this
    refine ⟨.ref (s2.heap.objs.size + 1), _, I3, rfl, ?_⟩
    have em : (((ts.zip l).mergeSort fun a b => decide (a.2.1 ≤ b.2.1)).map fun b => V.ref b.1) = (((ts.zip l).mergeSort fun a b => decide (a.2.1 ≤ b.2.1)).map (·.1)).map V.ref := by rw [List.map_map]; rfl
    rw [em]
    refine q H2 _ _ eN T2 (I2.hok.fresh (Nat.le_succ _)) ?_
    have e2 : ((ts.zip l).mergeSort fun a b => decide (a.2.1 ≤ b.2.1)).map (·.2) = l.mergeSort keyLe := by
      have e3 := List.map_mergeSort (r := fun (a b : Addr × Int × Int) => decide (a.2.1 ≤ b.2.1)) (s := keyLe) (f := Prod.snd) (l := ts.zip l) (fun _ _ _ _ => rfl)
      refine e3.trans ?_
      rw [List.map_snd_zip (by rw [ht2.1]; exact Nat.le_refl _)]
    rw [← e2]
    refine ⟨by rw [List.length_map, List.length_map], fun i t x h1 h2 => ?_⟩
    rw [List.getElem?_map] at h1 h2
    cases e : ((ts.zip l).mergeSort fun a b => decide (a.2.1 ≤ b.2.1))[i]? with
    | none => rw [e] at h1; cases h1
    | some b =>
      rw [e] at h1 h2
      cases h1
      cases h2
      exact hpr b ((List.mergeSort_perm _ _).mem_iff.mp (List.mem_of_getElem? e))
end
end K2

namespace K2
open PySem PySem.Spec PyProof.Rows L2
section
variable {X : Cx} {pins : List (Addr × Obj)} {σ : L2.St} {H : Hp} {s : Shared} {d : Addr} {o : Obj}
theorem frzT2 {kvs : List (List Key × V)} (I : Inv X pins σ H s) (h : H d = some (.frz o (.dT kvs))) :
    ((d == sysModules) = false ∧ s.heap.get? d = some o ∧ o.ExactDict) ∧ ∃ (es : Array DictEntry) (ep : Nat), o.data = .dict es ep ∧ es.size = kvs.length ∧
      ∀ (i : Nat) (k : List Key) (v : V), kvs[i]? = some (k, v) → ∃ (en : DictEntry) (q : Addr), es[i]? = some en ∧ en.key = .ref q ∧ H q = some (.tup (k.map kV)) ∧ RelV v en.val := by
  obtain ⟨same, _, notSys, xs, pr, o', es, ep, at0, exact0, hdt, lay, _⟩ := I.hok d _ h
  rw [same] at at0
  cases at0
  refine ⟨⟨notSys, same, exact0⟩, es, ep, hdt, ?_, fun i k v e => ?_⟩
  · have l1 := size_of_entries lay
    have l2 := Paired.length pr
    omega
  · obtain ⟨b, hb, e1, e2, e3⟩ := paired_get pr e
    have q := entry_at lay i
    rw [hb] at q
    exact ⟨_, b.2.1, q, rfl, e2, e3⟩
end
/-- the pairs of a dict with tuple keys, each a new tuple -/
def Itit (d : Addr) (o : Obj) (kvs : List (List Key × V)) : It :=
  ⟨fun i H => H d = some (.frz o (.dT kvs)) ∧ i < kvs.length, fun i H x H' => ∃ T q k v, kvs[i]? = some (k, v) ∧ x = .ref T ∧ H T = none ∧ H q = some (.tup (k.map kV)) ∧ H' = upd H T (.tup [.ref q, v]), fun i H => H d = some (.frz o (.dT kvs)) ∧ kvs.length ≤ i⟩
def iItemsT (td : TE) : TI := fun σ H R => td σ H fun x H1 => ∃ d o kvs, x = .ref d ∧ H1 d = some (.frz o (.dT kvs)) ∧ R (Itit d o kvs) H1
section
variable {P : Program} {w : World} {K : PySem.W.Frag} {d : Addr} {o : Obj} {es : Array DictEntry} {ep : Nat}
theorem turn_itemsT {kvs : List (List Key × V)} {elts : List Expr} {kk : Nat} {tpos : Pos} (it : Addr) (hod : o.data = .dict es ep) :
    Turn P w K (.Tuple elts kk tpos) (Itit d o kvs) [it] it (fun i h => ∃ ok ov, IsItemIter h it d i kvs.length ep ok ov) where
  mem := by simp
  obj := fun i h st b hb => by
    obtain rfl : b = it := by simpa using hb
    obtain ⟨ok, ov, e⟩ := st
    exact ⟨_, e, fun _ no => nomatch no⟩
  keep := by
    rintro i h h' ⟨ok, ov, was⟩ kept
    exact ⟨ok, ov, kept it (by simp) _ was⟩
  item := by
    intro X hP hw hK hcl i pins s σ H E I hf st hg
    subst hP hw hK
    obtain ⟨hd, hi⟩ := hg
    obtain ⟨⟨hs, hgd, hx⟩, es', ep', hdt, hsz, ent⟩ := frzT2 I hd
    obtain ⟨rfl, rfl⟩ := (dict_ep hod hdt)
    obtain ⟨⟨k, v⟩, hkv⟩ : ∃ kv, kvs[i]? = some kv := ⟨_, List.getElem?_eq_getElem hi⟩
    obtain ⟨en, q, hen, hkey, hq, rv⟩ := ent i k v hkv
    obtain ⟨ok, ov, he⟩ := st
    rw [← hsz] at he
    have hlt := Heap.lt_size he
    have hi' : i < es'.size := by omega
    have een : es'[i] = en := by
      rw [Array.getElem?_eq_getElem hi'] at hen
      exact Option.some.inj hen
    refine wpAny_pyNext_items_item_raw he ⟨o, hgd, hx, hdt⟩ hi' fun h' ho hT hz hk => ?_
    rw [een] at ho hT
    refine ⟨_, rfl, ?_⟩
    refine wpAny_letOwnedTupleGo_items (s := { s with heap := h' }) ho fun h'' he' sb => ?_
    have hT2 : h''.get? s.heap.objs.size = some { cls := .type "tuple", data := .seq #[en.key, en.val] } := (sb.2 _ (Nat.ne_of_gt hlt)).trans hT
    have new : ObjOk X.prog X.w (upd H s.heap.objs.size (.tup [.ref q, v])) h'' s.heap.objs.size (.tup [.ref q, v]) :=
      ⟨by show 2 ≤ sizeLine; decide, [en.key, en.val], .cons hkey (.cons rv .nil), ⟨_, hT2, rfl, _, rfl⟩⟩
    have I1 : Inv X pins σ (upd H s.heap.objs.size (.tup [.ref q, v])) { s with heap := h'' } :=
      I.turnedNew (t' := s.toks) (ch := [it]) (fun c oc far was => (sb.2 c (by simpa using far)).trans (hk c oc (by simpa using far) was)) hf (Nat.le_refl _) new
    refine ⟨.ref s.heap.objs.size, _, I1, rfl, ⟨_, q, k, v, hkv, rfl, I.hok.fresh (Nat.le_refl _), hq, rfl⟩, ⟨en.key, en.val, ?_⟩, fun b hb => ?_⟩
    · rw [← hsz]; exact he'
    · obtain rfl : b = it := by simpa using hb
      rw [upd_ne (Nat.ne_of_lt (hlt))]
      exact (hf _ (by simp)).1
  done := by
    intro X hP hw hK hcl i pins s σ H E I hf st hg
    subst hP hw hK
    obtain ⟨hd, hi⟩ := hg
    obtain ⟨f0, f1, _, f3, f4, f5⟩ := hf it (List.mem_singleton.mpr rfl)
    obtain ⟨⟨hs, hgd, hx⟩, es', ep', hdt, hsz, ent⟩ := frzT2 I hd
    obtain ⟨rfl, rfl⟩ := (dict_ep hod hdt)
    obtain ⟨ok, ov, he⟩ := st
    rw [← hsz] at he
    exact wpAny_pyNext_items_end_raw (I.ok.hd hcl) he ⟨o, hgd, hx, hdt⟩ (by omega) fun h' eb => ⟨rfl, I.turned (t' := s.toks) (fun b ob hb e => eb b ob hb e) f0 f1 f3 f4 f5⟩
  self := by
    rintro A i s Q E ⟨_, _, here⟩ h
    exact PySem.W.kcp_self here h
end
section
variable {X : Cx} {td : TE} {e : Expr} {apos cpos : Pos}
theorem pi_itemsT {elts : List Expr} {kk : Nat} {tpos : Pos} (he : PE X e td) (hbase : attributeBase e "items" X.env (eval e X.env) = eval e X.env := by rfl) (hline : (apos.endLine == cpos.line) = true := by rfl) :
    PI X (.Tuple elts kk tpos) (.Call (.Attribute e "items" apos) [] [] cpos) (iItemsT td) := by
  constructor; intro pins s σ H R I h
  refine wpAny_Call_method (T := "dict") (id := "dict.items") hbase rfl hline F.plainAttrs_dict F.slot_dict_items F.type_dict_items ?_
  refine thn (he.run pins s σ H _ I h) fun u s1 ⟨x, H1, I1, rx, d, o, kvs, ex, hd, q⟩ => ?_
  subst ex
  obtain rfl : u = Value.ref d := (rx)
  obtain ⟨⟨hs, hgd, hx⟩, es, ep, hdt, hsz, ent⟩ := frzT2 I1 hd
  have raw : DT.Raw s1.heap d es ep := ⟨o, hgd, hx, hdt⟩
  have rawW : s1.heap.DictRaw d es ep := ⟨o, hgd, hx, hdt⟩
  refine ⟨raw.typeIs, ?_, ?_⟩
  · intro b e; cases e; exact ⟨o, hgd, hx.2.1⟩
  have I2 : Inv X pins σ H1 { s1 with heap := s1.heap.push { cls := .type "dict_items", data := .fields #[.ref d] } } := by
    refine I1.kept (t' := s1.toks) fun c oc was => ?_
    exact Heap.get?_push_of_some _ was
  have fin : wpAny (model X.prog X.w) X.A (pyIter (.ref s1.heap.objs.size)) (PIE X pins σ (.Tuple elts kk tpos) R) X.xe
      { s1 with heap := s1.heap.push { cls := .type "dict_items", data := .fields #[.ref d] } } := by
    refine DT.iterI (d := d) ⟨_, Heap.get?_push_size _ rfl, rfl, rfl⟩ (raw.push _) (pi_one (tk := s1.toks) I2 _ (turn_itemsT _ hdt) ⟨.none, .none, ?_⟩ q)
    rw [← hsz]
    exact (Heap.get?_push_size _ rfl)
  show wpAny _ X.A (callWith cpos (.builtin "dict.items") [.ref d] [] []) _ X.xe s1
  exact method_meetsIn F.slot_dict_items F.entry_dict_items rfl (PySem.evalArgs_none ⟨rfl, raw.typeIs, F.args_dict_items_1 _, _, DT.meetsItems (es := es) (ep := ep) hs, ⟨raw, fin⟩⟩)
end
/-- {k: v}, k a tuple -/
def tDispT (tk tv : TE) : TE := fun σ H Q => ∀ p, H p = none → tk σ (upd H p (.dT [])) fun x H1 => tv σ H1 fun y H2 => H2 p = some (.dT []) ∧ ∃ (b : Addr) (k : List Key), x = .ref b ∧ H2 b = some (.tup (k.map kV)) ∧ Q (.ref p) (upd H2 p (.dT [(k, y)]))
section
variable {X : Cx} {tk tv : TE} {k v : Expr} {pos : Pos}
theorem pe_dispT {j : Nat} (hr : Room j X.A) (hk : PE X k tk) (hv : PE X v tv) : PE X (.Dict [some k] [v] pos) (tDispT tk tv) := by
  constructor; intro pins s σ H Q I q
  have hn := I.hok.fresh (Nat.le_refl (s.heap.objs.size))
  have I1 := I.laid (a := s.heap.objs.size) (o := .dT []) (h' := s.heap.push { cls := .type "dict", data := .dict #[] }) (t' := s.toks) (fun _ _ q => Heap.get?_push_of_some _ q) (Nat.le_refl _) (dt_empty s.heap I.big)
  have hu : (tupleKind (mixKind X.prog X.w)).room X.A := by
    have := hr.un
    show _ < cLine
    omega
  have hsh : (evalEachOpt [some k] X.env).zip ((evalEach [v] X.env).map fun v => do let x ← v; standAt pos; pure x) = (pairTrees [some k] [v] X.env pos).map fun p => (some p.1, p.2) := zip_pairTrees _ _ _ _ rfl rfl
  rw [arm_eval_Dict, hsh, dictDisplay_pairs (pairTrees [some k] [v] X.env pos) (by intro z; cases z) (show 1 < 17 by decide)]
  refine wpAny_bind (wpAny_standAt (wpAny_bind (wpAny_subDictH (knd := tupleKind (mixKind X.prog X.w)) (Q := fun d s' => wpAny (model X.prog X.w) X.A (pure (Value.ref d)) (EP X pins σ Q) X.xe s') hu (show 1 ≤ 15 by decide) ?_)))
  refine pairTrees_cons_walk (thn (hk.run pins _ σ _ _ I1 (q _ hn)) fun u s1 ⟨x, H1, I1, rx, q1⟩ => thn (hv.run pins s1 σ H1 _ I1 q1) fun w2 s2 ⟨y, H2, I2, ry, e, b, kk, ex, eb, q2⟩ => pairTrees_nil_walk ?_)
  subst ex
  obtain rfl : u = Value.ref b := rx
  obtain ⟨z, hd, xs, rel, dd⟩ := dt_of I2.hok e
  cases rel
  refine ⟨[(kk, b, w2)], ⟨rfl, rfl, key_of I2.hok eb, trivial⟩, dd, fun h' tk2 dd' hs => wpAny_pure ?_⟩
  have es : storedAllH (K := List Key) [] [(kk, b, w2)] = [(kk, b, w2)] := by
    simp [storedAllH, storedH, atKey]
  rw [es] at dd'
  obtain ⟨q, es, ep, hq, h2, h3, h4, _, h5⟩ := (dd')
  have nb : b ≠ s.heap.objs.size := ne_of eb e (fun z => nomatch z)
  refine ⟨.ref s.heap.objs.size, upd H2 s.heap.objs.size (.dT [(kk, y)]), d_write (t' := tk2) (ob := .dT [(kk, y)]) I2 (by rw [e]; exact True.intro) hs ⟨q, hq⟩ ⟨(by show 1 ≤ sizeLine; decide), hd, _, .cons ⟨rfl, ?_, ry⟩ .nil, q, es, ep, hq, h2, h3, h4, h5⟩, rfl, q2⟩
  rw [upd_ne nb]
  exact eb
end
end K2

namespace K2
open PySem PySem.Spec PyProof.Rows L2 SrtO
/-! ### xs[j] read by value -/
section
variable {X : Cx}
def rGetL (K : PySem.W.Frag) : V → V → Hp → VK → Prop := fun o i H Q => ∃ (p : Addr) (xs : List V) (j : Nat) (v : V), o = .ref p ∧ i = .int (j : Int) ∧ SqL K H p xs ∧ xs[j]? = some v ∧ Q v H
theorem get_list : PGet X (rGetL X.K) := by
  intro pins s σ H o i ov iv Q I ro ri h
  obtain ⟨p, xs, j, v, rfl, rfl, hq, he, q⟩ := h
  cases ro
  obtain ⟨t, rfl⟩ := ri
  obtain ⟨its, r, pl, hz⟩ := (I.list hq)
  obtain ⟨w, ew, rw'⟩ := r.get he
  have hj : j < xs.length := (List.getElem?_eq_some_iff.mp he).1
  have hn := line63
  exact wpAny_getItem_list pl.isList (by omega) (by omega) (by simpa using ew) ⟨v, H, I, rw', q⟩
end
/-! ### sorted of tuples whose first three are ints, no two alike -/
def lexT (p q : Int × Int × Int) : Bool := if p.1 = q.1 then lexB p.2 q.2 else decide (p.1 < q.1)
theorem lexT_iff {p q : Int × Int × Int} : lexT p q = true ↔ p.1 < q.1 ∨ (p.1 = q.1 ∧ (p.2.1 < q.2.1 ∨ (p.2.1 = q.2.1 ∧ p.2.2 < q.2.2))) := by
  unfold lexT
  by_cases e : p.1 = q.1
  · rw [if_pos e, lexB_iff]
    omega
  · rw [if_neg e]; rw [decide_eq_true_eq]
    omega
theorem lexT_no {p q : Int × Int × Int} : lexT p q = false ↔ ¬ (p.1 < q.1 ∨ (p.1 = q.1 ∧ (p.2.1 < q.2.1 ∨ (p.2.1 = q.2.1 ∧ p.2.2 < q.2.2)))) := by
  rw [← lexT_iff]
  cases lexT p q <;> simp
theorem swo_lexT {α : Type} (k : α → Int × Int × Int) : Swo fun v u => lexT (k v) (k u) := by
  refine ⟨fun u v h => ?_, fun u v z h1 h2 => ?_⟩
  · have a := lexT_iff.mp h
    refine lexT_no.mpr ?_
    omega
  · have a := lexT_no.mp h1
    have b := lexT_no.mp h2
    refine lexT_no.mpr ?_
    omega
def IsQ (h : Heap) (v : Value) (x : Int × Int × Int) : Prop := ∃ a o t u r n l, v = .ref a ∧ h.get? a = some o ∧ o.cls = .type "tuple" ∧ o.data = .seq #[.int x.1 t, .int x.2.1 u, .int x.2.2 r, .ref l] n
theorem IsQ.keeps {h h' : Heap} {v : Value} {x : Int × Int × Int} (p : IsQ h v x) (k : ∀ b o, h.get? b = some o → o.cls = .type "tuple" → h'.get? b = some o) : IsQ h' v x := by
  obtain ⟨a, o, t, u, r, n, l, e, ho, hc, hd⟩ := p
  exact ⟨a, o, t, u, r, n, l, e, k _ _ ho hc, hc, hd⟩
theorem firstsQ {h : Heap} : ∀ {vs : List Value}, (∀ v ∈ vs, ∃ x, IsQ h v x) → ∃ fs : List Value, PySem.W.KatTups h vs fs ∧ fs.length = vs.length ∧ ∀ f ∈ fs, ∃ x t, f = Value.int x t
  | [], _ => ⟨[], .nil, rfl, fun _ none => by simp at none⟩
  | v :: vs, hp => by
    obtain ⟨fs, h1, h2, h3⟩ := firstsQ (vs := vs) fun v' hm => hp v' (List.mem_cons_of_mem _ hm)
    obtain ⟨x, a, o, t, u, r, n, l, rfl, ho, hc, hd⟩ := hp v List.mem_cons_self
    refine ⟨.int x.1 t :: fs, PySem.W.KatTups.cons ho hc hd rfl h1, by rw [List.length_cons, List.length_cons, h2], fun f hf => ?_⟩
    rcases (List.mem_cons.mp hf) with (rfl | hf)
    · exact ⟨_, _, rfl⟩
    · exact h3 f hf
section
variable {prog : Program} {w : World} {A : Around} {E : Value → Shared → Prop} {s : Shared}
theorem eqBool_self {v : Value} {Q : Bool → Shared → Prop} (hv : (v == v) = true) (h : Q true s) : wpAny (model prog w) A (eqBool v v) Q E s := by
  unfold eqBool
  refine wpAny_holding ?_
  rw [if_pos hv]
  exact (wpAny_bind (wpAny_rule (wpAny_pure h)))
theorem q_cmp {vs : List Value} {k : Value → Int × Int × Int} (hp : ∀ v ∈ vs, IsQ s.heap v (k v)) (hu : ∀ v ∈ vs, ∀ u ∈ vs, k v = k u → v = u) : SrtO.Cmp prog w A s (tuples' true) (fun p => p.1 ∈ vs) (lt2 fun v u => lexT (k v) (k u)) := by
  intro p q hm hm'
  have h1 := hp _ hm
  have h2 := hp _ hm'
  have hu' := hu _ hm _ hm'
  show wpAny (model prog w) A (keyLt' (tuples' true) p.1 q.1) (fun r s' => s' = s ∧ r = lexT (k p.1) (k q.1)) (fun _ _ => False) s
  generalize k p.1 = x at h1 hu' ⊢
  generalize k q.1 = y at h2 hu' ⊢
  obtain ⟨x1, x2, x3⟩ := x
  obtain ⟨y1, y2, y3⟩ := y
  obtain ⟨a, o, t, u, r, n, l, e, ho, hc, hd⟩ := h1
  obtain ⟨a', o', t', u', r', n', l', e', ho', hc', hd'⟩ := h2
  rw [e, e'] at hu' ⊢
  refine (PySem.W.kat_lt ho hd ho' hd' ?_)
  show PySem.W.KatLex prog w A true (decide (4 < 4)) _ [(.int x1 t, .int y1 t'), (.int x2 u, .int y2 u'), (.int x3 r, .int y3 r'), (.ref l, .ref l')] 0 s
  refine PySem.W.kat_cons (SeqAt.EqAt.int_int x1 t y1 t' prog w _ _ ?_)
  refine PySem.W.kat_go (fun eq1 => ?_) (fun ne1 => ?_)
  · have ex : x1 = y1 := by simpa using eq1
    refine PySem.W.kat_yes (PySem.W.kat_cons (SeqAt.EqAt.int_int x2 u y2 u' prog w _ _ ?_))
    refine PySem.W.kat_go (fun eq2 => ?_) (fun ne2 => ?_)
    · have ey : x2 = y2 := by simpa using eq2
      refine PySem.W.kat_yes (PySem.W.kat_cons (SeqAt.EqAt.int_int x3 r y3 r' prog w _ _ ?_))
      refine PySem.W.kat_go (fun e3 => ?_) (fun e3 => ?_)
      · have ez : x3 = y3 := by simpa using e3
        have ea := hu' (by rw [ex, ey, ez])
        cases ea
        rw [ho] at ho'
        cases ho'
        rw [hd] at hd'
        have el : l = l' := by
          injection hd' with h1 h2
          have := congrArg Array.toList h1
          simp at this
          exact this.2.2.2
        subst el
        refine PySem.W.kat_yes (PySem.W.kat_cons (eqBool_self (by simp) (PySem.W.kat_yes (PySem.W.kat_nil ⟨rfl, ?_⟩))))
        have : lexT (x1, x2, x3) (y1, y2, y3) = false := lexT_no.mpr (by show ¬ (x1 < y1 ∨ (x1 = y1 ∧ (x2 < y2 ∨ (x2 = y2 ∧ x3 < y3)))); omega)
        rw [this]
        exact decide_eq_false (Nat.lt_irrefl _)
      · have ez : ¬ x3 = y3 := by simpa using e3
        refine PySem.W.kat_no (PySem.W.kat_one _ _ (lt_int ?_))
        refine (show s = s ∧ decide (x3 < y3) = lexT (x1, x2, x3) (y1, y2, y3) from ⟨rfl, ?_⟩)
        simp [lexT, lexB, ex, ey]
    · have ey : ¬ x2 = y2 := by simpa using ne2
      refine PySem.W.kat_no (PySem.W.kat_one _ _ (lt_int ?_))
      refine (show s = s ∧ decide (x2 < y2) = lexT (x1, x2, x3) (y1, y2, y3) from ⟨rfl, ?_⟩)
      simp [lexT, lexB, ex, ey]
  · have ex : ¬ x1 = y1 := by simpa using ne1
    have e3 : lexT (x1, x2, x3) (y1, y2, y3) = decide (x1 < y1) := if_neg ex
    exact PySem.W.kat_no (oneLt_int ⟨rfl, (e3.symm)⟩)
theorem q_sortable {a : Addr} {vs : List Value} {k : Value → Int × Int × Int} (h0 : 0 < vs.length) (hp : ∀ v ∈ vs, IsQ s.heap v (k v)) (hu : ∀ v ∈ vs, ∀ u ∈ vs, k v = k u → v = u) (ha : ∀ o, s.heap.get? a = some o → o.cls ≠ .type "tuple") : SortableO prog w A s a vs fun v u => lexT (k v) (k u) := by
  intro h' keep
  have hp' : ∀ v ∈ vs, IsQ h' v (k v) := fun v hm => (hp v hm).keeps fun b o e c => keep b o (fun z => by subst z; exact ha o e c) e
  obtain ⟨fs, h1, h2, h3⟩ := firstsQ fun v hm => ⟨_, hp' v hm⟩
  refine ⟨tuples' true, fun Q E hq => ?_, q_cmp hp' hu⟩
  refine PySem.W.kat_kind (T := .type "int") h1 (by omega) (fun f fm => ?_) (by rfl) ?_
  · obtain ⟨x, t, rfl⟩ := (h3 f fm)
    exact PySem.W.Looks.now
  · have e : (Value.type "int" != Value.type "tuple") = true := by decide +kernel
    rw [e]
    exact hq
end
abbrev ltQ (k : V → Int × Int × Int) (x y : V) : Bool := lexT (k x) (k y)
def rSortQ (K : PySem.W.Frag) : List V → Hp → VK → Prop := fun vs H Q => ∃ (a : Addr) (xs : List V) (k : V → Int × Int × Int), vs = [V.ref a] ∧ SqL K H a xs ∧ (∀ x ∈ xs, ∃ t l, x = V.ref t ∧ H t = some (.tup [.int (k x).1, .int (k x).2.1, .int (k x).2.2, .ref l])) ∧ (∀ x ∈ xs, ∀ y ∈ xs, k x = k y → x = y) ∧
  ∀ ys p, SrtO.Srtd (ltQ k) ys → ys.Perm xs → H p = none → Q (.ref p) (upd H p (.lst ys))
section
variable {X : Cx}
theorem cr_sortedQ : CallR X (.builtin "sorted") (rSortQ X.K) := by
  intro pins s σ H vs us Q I r hh
  obtain ⟨a, xs, k, rfl, hs, hx, huq, q⟩ := hh
  obtain ⟨its, rv, hl, hz⟩ := (I.list hs)
  obtain ⟨u, rfl, ru⟩ := (vals1 r)
  obtain rfl : u = Value.ref a := (ru)
  obtain ⟨e1, e2⟩ := refs_back rv fun x xm => by
    obtain ⟨t, l, e, _⟩ := hx x xm
    exact ⟨t, e⟩
  have memv : ∀ {v : Value} {t : Addr}, v ∈ its → v = .ref t → V.ref t ∈ xs := fun {v t} hv e => by rw [e1]; subst e; exact List.mem_map.mpr ⟨_, hv, rfl⟩
  have hq : ∀ v ∈ its, IsQ s.heap v (k (backV v)) := fun v hv => by
    obtain ⟨t, rfl⟩ := e2 v hv
    obtain ⟨t', l, e, ht⟩ := hx _ (memv hv rfl)
    cases e
    obtain ⟨_, its2, r2, o, ho, hc, n, hd⟩ := (I.hok _ _ ht)
    cases r2 with
    | cons ri r2 => cases r2 with
      | cons rj r2 => cases r2 with
        | cons rk r2 => cases r2 with
          | cons rl r2 =>
            cases r2
            obtain ⟨t1, rfl⟩ := ri
            obtain ⟨t2, rfl⟩ := rj
            obtain ⟨t3, rfl⟩ := rk
            obtain rfl : _ = Value.ref l := rl
            exact ⟨t, o, t1, t2, t3, n, l, rfl, ho, hc, hd⟩
  have hun : ∀ v ∈ its, ∀ u ∈ its, k (backV v) = k (backV u) → v = u := fun v hv u hu e => by
    obtain ⟨t, rfl⟩ := e2 v hv
    obtain ⟨t', rfl⟩ := e2 u hu
    have := huq _ (memv hv rfl) _ (memv hu rfl) e
    cases this
    rfl
  refine SrtO.sorted_ord (swo_lexT fun u => k (backV u)) hl.isList (by rw [← rv.length]; exact hz) (fun h2 h₁ a' ha kk => ?_) fun out h1 h2 => ?_
  · refine q_sortable (s := { s with heap := h₁ }) (by omega) (fun v hm => (hq v hm).keeps fun b o e _ => (kk b o e).2) hun fun o e => ?_
    have e' : some o = some (seqObj "list" its.toArray 0) := e.symm.trans ha
    cases e'
    intro c
    exact (absurd (Value.type.inj c) (by decide))
  · have h3 : ∀ u ∈ out, ∃ a, u = Value.ref a := fun u uin => e2 u (h2.perm.mem_iff.mp uin)
    obtain ⟨n, hn⟩ := sortedAll_at s.heap its out.toArray
    have hb : (out.map backV).Perm xs := by
      rw [e1]
      exact h2.perm.map backV
    refine ⟨.ref (s.heap.objs.size + 1), upd H (s.heap.objs.size + 1) (.lst (out.map backV)), I.laid (t' := s.toks) (fun b o e => sortedAll_old e) (Nat.le_succ _) ⟨?_, out, n, vals_back h3, hn⟩, rfl, q _ _ (SrtO.srtd_map h1) hb (I.hok.fresh (Nat.le_succ _))⟩
    rw [hb.length_eq]
    exact hz
end
end K2

namespace K2
open PySem PySem.Spec PyProof.Rows L2
theorem Tups.len {H : Hp} {ts : List Addr} {l : List (Int × Int)} (h : Tups H ts l) : ts.length = l.length := h.1
theorem Tups.nil {H : Hp} : Tups H [] [] := ⟨rfl, fun i t x h => by simp at h⟩
theorem Tups.snoc {H : Hp} {ts : List Addr} {l : List (Int × Int)} {T : Addr} {x : Int × Int} (h : Tups H ts l) (hT : H T = some (.tup [.int x.1, .int x.2])) : Tups H (ts ++ [T]) (l ++ [x]) := by
  refine ⟨by simp [h.1], fun i t y h1 h2 => ?_⟩
  by_cases q : i < ts.length
  · rw [List.getElem?_append_left q] at h1
    rw [List.getElem?_append_left (by rw [← h.1]; exact q)] at h2
    exact h.2 i t y h1 h2
  · have e : i = ts.length := by
      have := (List.getElem?_eq_some_iff.mp h1).1
      simp at this
      omega
    subst e
    rw [List.getElem?_append_right (Nat.le_refl _)] at h1
    rw [h.1, List.getElem?_append_right (Nat.le_refl _)] at h2
    simp at h1 h2
    rw [← h1, ← h2]
    exact hT
theorem Tups.put {H : Hp} {ts : List Addr} {l : List (Int × Int)} {D : Addr} {xs : List V} {o : HO} (h : Tups H ts l) (hD : H D = some (.lst xs)) : Tups (upd H D o) ts l := h.ext fun b ys q => by
  rw [upd_ne (fun z => by rw [z, hD] at q; cases q)]
  exact q
theorem Tups.fresh {H : Hp} {ts : List Addr} {l : List (Int × Int)} {D : Addr} {o : HO} (h : Tups H ts l) (hD : H D = none) : Tups (upd H D o) ts l := h.same (same_upd hD)
theorem Tups.get {H : Hp} {ts : List Addr} {l : List (Int × Int)} (h : Tups H ts l) {i : Nat} {x : Int × Int} (hx : l[i]? = some x) : ∃ t, ts[i]? = some t ∧ (ts.map V.ref)[i]? = some (.ref t) ∧ H t = some (.tup [.int x.1, .int x.2]) := by
  have hi : i < ts.length := by rw [h.1]; exact (List.getElem?_eq_some_iff.mp hx).1
  exact ⟨ts[i], List.getElem?_eq_getElem hi, by rw [List.getElem?_map, List.getElem?_eq_getElem hi]; rfl, h.2 i _ x (List.getElem?_eq_getElem hi) hx⟩
theorem ixL {X : Cx} (K : PySem.W.Frag) (h : X.K = K := by rfl) : IxR X (rIxL K) := by subst h; exact ix_list
theorem ixT {X : Cx} (K : PySem.W.Frag) (h : X.K = K := by rfl) : IxR X (rIxT K) := by subst h; exact ix_tup
/-! ### packages_of -/
def packI : List (Int × Int) → List (Int × Int)
  | a :: b :: l => (a.1 + b.1, -1) :: packI l
  | _ => []
theorem packI_len : ∀ l : List (Int × Int), (packI l).length = l.length / 2
  | [] => by simp [packI]
  | [_] => by simp [packI]
  | a :: b :: l => by
    have := packI_len l
    simp only [packI, List.length_cons]; omega
theorem packI_get : ∀ (l : List (Int × Int)) (i : Nat) (x y : Int × Int), l[2 * i]? = some x → l[2 * i + 1]? = some y → (packI l)[i]? = some (x.1 + y.1, -1)
  | [], i, x, y, h, _ => by simp at h
  | [_], i, x, y, _, h => by simp at h
  | a :: b :: l, 0, x, y, h, h2 => by
    simp at h h2
    rw [← h, ← h2]; rfl
  | a :: b :: l, i + 1, x, y, h, h2 => by
    have := packI_get l i x y (by simpa [show 2 * (i + 1) = 2 * i + 1 + 1 by omega] using h) (by simpa [show 2 * (i + 1) + 1 = 2 * i + 1 + 1 + 1 by omega] using h2)
    simpa [packI] using this
theorem rg_two {n : Nat} (h : n ≤ 100000) : RgC 0 ((n : Int) - 1) 2 (n / 2) := by
  have e : Builtin.Range.rangeSize 0 ((n : Int) - 1) 2 = ((n / 2 : Nat) : Int) := by
    unfold Builtin.Range.rangeSize at *
    simp
    split <;> omega
  refine ⟨by decide, by decide, ?_, e⟩
  unfold Builtin.Range.small
  rw [e]
  simp [Builtin.Range.rangeFitsLong]
  omega
section
variable {P : Program} {w : World} {K : PySem.W.Frag} {mg : Str → Option Value} {base : Heap}
def spPacks : Sp := fun vs H Q _ => ∃ (p : Addr) (ts : List Addr) (l : List (Int × Int)), vs = [.ref p] ∧ H p = some (.lst (ts.map V.ref)) ∧ Tups H ts l ∧ l.length ≤ 100000 ∧
  ∀ H' q us, Same H H' → H q = none → H' q = some (.lst (us.map V.ref)) → Tups H' us (packI l) → Q (.ref q) H'
end
end K2

namespace K2
open PySem PySem.Spec PyProof.Rows L2
/-! ### levels_of -/
/-- the levels as the program makes them -/
def lev (C : List (Int × Int)) : Nat → List (Int × Int)
  | 0 => C
  | k + 1 => (C ++ packI (lev C k)).mergeSort keyLe
theorem lev_len_le (C : List (Int × Int)) : ∀ k, (lev C k).length ≤ 2 * C.length
  | 0 => by simp only [lev]; omega
  | k + 1 => by
    have := lev_len_le C k
    rw [lev, (List.mergeSort_perm _ _).length_eq, List.length_append, packI_len]
    omega
/-- a list of lists of pairs -/
def Levs (H : Hp) (as : List Addr) (ls : List (List (Int × Int))) : Prop := as.length = ls.length ∧ ∀ (i : Nat) (a : Addr) (l : List (Int × Int)), as[i]? = some a → ls[i]? = some l → ∃ ts, H a = some (.lst (ts.map V.ref)) ∧ Tups H ts l
theorem Levs.ext {H H' : Hp} {as : List Addr} {ls : List (List (Int × Int))} (h : Levs H as ls) (e : ∀ a, a ∈ as → ∀ o, H a = some o → H' a = some o) (e2 : ∀ b xs, H b = some (.tup xs) → H' b = some (.tup xs)) : Levs H' as ls := ⟨h.1, fun i a l h1 h2 => by
  obtain ⟨ts, q1, q2⟩ := h.2 i a l h1 h2
  exact ⟨ts, e a (List.mem_of_getElem? h1) _ q1, q2.ext e2⟩⟩
theorem Levs.extN {H H' : Hp} {as : List Addr} {ls : List (List (Int × Int))} (h : Levs H as ls) (e : LamX.ExtN H H') : Levs H' as ls := ⟨h.1, fun i a l h1 h2 => by
  obtain ⟨ts, q1, q2⟩ := h.2 i a l h1 h2
  exact ⟨ts, e _ _ q1 (fun _ z => by cases z), q2.extN e⟩⟩
theorem Levs.snoc {H : Hp} {as : List Addr} {ls : List (List (Int × Int))} {a : Addr} {l : List (Int × Int)} {ts : List Addr} (h : Levs H as ls) (ha : H a = some (.lst (ts.map V.ref))) (ht : Tups H ts l) : Levs H (as ++ [a]) (ls ++ [l]) := by
  refine ⟨by simp [h.1], fun i t y h1 h2 => ?_⟩
  by_cases q : i < as.length
  · rw [List.getElem?_append_left q] at h1
    rw [List.getElem?_append_left (by rw [← h.1]; exact q)] at h2
    exact h.2 i t y h1 h2
  · have e : i = as.length := by
      have := (List.getElem?_eq_some_iff.mp h1).1
      simp at this
      omega
    subst e
    rw [List.getElem?_append_right (Nat.le_refl _)] at h1
    rw [h.1, List.getElem?_append_right (Nat.le_refl _)] at h2
    simp at h1 h2
    rw [← h1, ← h2]
    exact ⟨ts, ha, ht⟩
def levL (C : List (Int × Int)) (n : Nat) : List (List (Int × Int)) := (List.range n).map (lev C)
theorem levL_len {C : List (Int × Int)} {n : Nat} : (levL C n).length = n := by simp [levL]
theorem levL_succ {C : List (Int × Int)} {n : Nat} : levL C (n + 1) = levL C n ++ [lev C n] := by simp [levL, List.range_succ]
theorem levL_get {C : List (Int × Int)} {n i : Nat} (h : i < n) : (levL C n)[i]? = some (lev C i) := by simp [levL, h]
section
variable {P : Program} {w : World} {K : PySem.W.Frag} {mg : Str → Option Value} {base : Heap}
def spLevels (T : List (Addr × Str)) : Sp := fun vs H Q _ => ∃ (p : Addr) (ts : List Addr) (C : List (Int × Int)) (n : Nat), vs = [.ref p, .int (n : Int)] ∧ H p = some (.lst (ts.map V.ref)) ∧ Tups H ts C ∧ C.length ≤ 1000 ∧ 1 ≤ n ∧ n ≤ 12 ∧ LamX.Tabs T H ∧
  ∀ H' q as, LamX.ExtN H H' → LamX.Tabs T H' → H' q = some (.lst (as.map V.ref)) → Levs H' as (levL C n) → Q (.ref q) H'
theorem extN_put {H H' : Hp} {D : Addr} {o : HO} (h : LamX.ExtN H H') (n : H D = none) : LamX.ExtN H (upd H' D o) := fun b x e nt => by
  rw [upd_ne (ne_of_none e n)]
  exact h _ _ e nt
theorem tabs_put {T : List (Addr × Str)} {H : Hp} {D : Addr} {xs : List V} {o : HO} (h : LamX.Tabs T H) (hD : H D = some (.lst xs)) : LamX.Tabs T (upd H D o) := fun p hp => by
  obtain ⟨ps, h1, h2, h3⟩ := h p hp
  refine ⟨ps, by rw [upd_ne (fun z => by rw [z, hD] at h1; cases h1)]; exact h1, h2, fun pos cv hc => ?_⟩
  obtain ⟨c, e1, e2⟩ := (h3 pos cv hc)
  exact ⟨c, e1, by rw [upd_ne (fun z => by rw [z, hD] at e2; unfold LamX.CodeO at e2; cases e2)]; exact e2⟩
theorem tabs_same {T : List (Addr × Str)} {H H' : Hp} (h : LamX.Tabs T H) (e : Same H H') : LamX.Tabs T H' := h.ext e
theorem extN_same {H H' : Hp} (e : Same H H') : LamX.ExtN H H' := LamX.ExtN.of e
end
end K2

namespace K2
open PySem PySem.Spec PyProof.Rows L2
theorem cut_to {xs : List V} {m : Nat} : cutV xs none (some (m : Int)) = xs.take m := by
  unfold cutV
  rw [HT.sIx_none, show HT.sIx xs.length xs.length (some (m : Int)) = min m xs.length from HT.sIx_nat xs.length xs.length m]
  show List.take (min m xs.length - 0) (xs.drop 0) = _
  rw [List.drop_zero, Nat.sub_zero]
  by_cases h : m ≤ xs.length
  · rw [Nat.min_eq_left h]
  · rw [Nat.min_eq_right (by omega), List.take_length, List.take_of_length_le (by omega)]
theorem Tups.take {H : Hp} {ts : List Addr} {l : List (Int × Int)} (h : Tups H ts l) (m : Nat) : Tups H (ts.take m) (l.take m) := by
  refine ⟨by rw [List.length_take, List.length_take, h.1], fun i t x h1 h2 => ?_⟩
  rw [List.getElem?_take] at h1 h2
  split at h1
  · rename_i q
    rw [if_pos q] at h2
    exact h.2 i t x h1 h2
  · cases h1
/-! ### taken_coins -/
def coinsOf (t : List (Int × Int)) : List Int := (t.filter fun x => decide (x.2 ≠ -1)).map (·.2)
theorem coinsOf_le (t : List (Int × Int)) : (coinsOf t).length ≤ t.length := by
  rw [coinsOf, List.length_map]
  exact List.length_filter_le _ _
def tkS (R : List (List (Int × Int))) (m0 : Nat) : Nat → Nat × List Int
  | 0 => (m0, [])
  | i + 1 => (2 * (((R.getD i []).take (tkS R m0 i).1).length - (coinsOf ((R.getD i []).take (tkS R m0 i).1)).length), (tkS R m0 i).2 ++ coinsOf ((R.getD i []).take (tkS R m0 i).1))
theorem tkS_len (R : List (List (Int × Int))) (m0 n : Nat) (h : ∀ l ∈ R, l.length ≤ n) : ∀ i, (tkS R m0 i).2.length ≤ i * n
  | 0 => by simp [tkS]
  | i + 1 => by
    have ih := tkS_len R m0 n h i
    have h1 := coinsOf_le ((R.getD i []).take (tkS R m0 i).1)
    have h2 : (R.getD i []).length ≤ n := by
      by_cases q : i < R.length
      · rw [List.getD_eq_getElem?_getD, List.getElem?_eq_getElem q]
        exact h _ (List.getElem_mem q)
      · rw [List.getD_eq_getElem?_getD, List.getElem?_eq_none (by omega)]
        simp
    rw [List.length_take] at h1
    rw [tkS, List.length_append, Nat.add_mul]
    omega
section
variable {P : Program} {w : World} {K : PySem.W.Frag} {mg : Str → Option Value} {base : Heap}
def spTaken : Sp := fun vs H Q _ => ∃ (p : Addr) (as : List Addr) (ls : List (List (Int × Int))) (l0 : List (Int × Int)), vs = [.ref p] ∧ H p = some (.lst (as.map V.ref)) ∧ Levs H as ls ∧ ls[0]? = some l0 ∧ 1 ≤ l0.length ∧ ls.length ≤ 12 ∧ (∀ l ∈ ls, l.length ≤ 2000) ∧
  ∀ H' q, Same H H' → H q = none → H' q = some (.lst ((tkS ls.reverse (2 * l0.length - 2) ls.length).2.map V.int)) → Q (.ref q) H'
end
end K2

namespace K2
open SrtO
/-! the program's levels against the weights' -/
def kLt (x y : Int × Int) : Bool := decide (x.1 < y.1)
theorem swo_k : Swo kLt := ⟨fun x y h => by simp [kLt] at *; omega, fun x y z h1 h2 => by simp [kLt] at *; omega⟩
abbrev mI (C P : List (Int × Int)) : List (Int × Int) := List.merge C P keyLe
theorem mI_nil (P : List (Int × Int)) : mI [] P = P := by simp [mI]
theorem mI_nil2 (C : List (Int × Int)) : mI C [] = C := by cases C <;> simp [mI]
theorem mI_pos {c p : Int × Int} {C P : List (Int × Int)} (h : c.1 ≤ p.1) : mI (c :: C) (p :: P) = c :: mI C (p :: P) := by simp [mI, keyLe, h]
theorem mI_neg {c p : Int × Int} {C P : List (Int × Int)} (h : ¬ c.1 ≤ p.1) : mI (c :: C) (p :: P) = p :: mI (c :: C) P := by simp [mI, keyLe, h]
theorem mI_fst : ∀ (C P : List (Int × Int)), (mI C P).map (·.1) = mw (C.map (·.1)) (P.map (·.1))
  | [], P => by rw [mI_nil, List.map_nil, mw_nil]
  | c :: C, [] => by rw [mI_nil2, List.map_nil, mw_nil2]
  | c :: C, p :: P => by
    by_cases e : c.1 ≤ p.1
    · rw [mI_pos e, List.map_cons, mI_fst C (p :: P), List.map_cons, List.map_cons, mw_pos e]
    · rw [mI_neg e, List.map_cons, mI_fst (c :: C) P, List.map_cons, List.map_cons, mw_neg e]
theorem mI_filter {x : Int × Int} : ∀ (C P : List (Int × Int)), Srtd kLt C → (mI C P).filter (eqv kLt x) = C.filter (eqv kLt x) ++ P.filter (eqv kLt x)
  | [], P, _ => by rw [mI_nil]; simp
  | c :: C, [], _ => by rw [mI_nil2]; simp
  | c :: C, p :: P, sc => by
    have sc' := (List.pairwise_cons.mp sc)
    by_cases e : c.1 ≤ p.1
    · rw [mI_pos e, List.filter_cons, List.filter_cons (x := c), mI_filter C (p :: P) sc'.2]
      split <;> simp
    · rw [mI_neg e, List.filter_cons, mI_filter (c :: C) P sc, List.filter_cons (x := p)]
      by_cases q : eqv kLt x p = true
      · rw [if_pos q, if_pos q]
        have : (c :: C).filter (eqv kLt x) = [] := by
          refine List.filter_eq_nil_iff.mpr fun y hy => ?_
          have h1 : c.1 ≤ y.1 := by
            rcases List.mem_cons.mp hy with r | r
            · rw [r]; exact Int.le_refl _
            · have := sc'.1 y r
              simp [kLt] at this; omega
          simp [eqv, kLt] at q ⊢
          omega
        rw [this]; rfl
      · rw [if_neg q, if_neg q]
theorem mI_perm (C P : List (Int × Int)) : (mI C P).Perm (C ++ P) := List.merge_perm_append _
theorem mI_srt {C P : List (Int × Int)} (hc : Srtd kLt C) (hp : Srtd kLt P) : Srtd kLt (mI C P) := by
  have := List.pairwise_merge (le := keyLe) (l₁ := C) (l₂ := P) (fun a b c h1 h2 => by simp [keyLe] at *; omega) (fun a b => by simp [keyLe]; omega) (hc.imp fun {a b} h => by simp [kLt, keyLe] at *; omega) (hp.imp fun {a b} h => by simp [kLt, keyLe] at *; omega)
  exact this.imp fun {a b} h => by simp [kLt, keyLe] at *; omega
theorem ms_eq {C P : List (Int × Int)} (hc : Srtd kLt C) (hp : Srtd kLt P) : (C ++ P).mergeSort keyLe = mI C P := by
  have tr : ∀ a b c : Int × Int, keyLe a b = true → keyLe b c = true → keyLe a c = true := fun a b c h1 h2 => by simp [keyLe] at *; omega
  have to : ∀ a b : Int × Int, (keyLe a b || keyLe b a) = true := fun a b => by simp [keyLe]; omega
  refine stb_uniq swo_k ?_ (mI_srt hc hp) ?_
  · exact (List.pairwise_mergeSort tr to _).imp fun {a b} h => by simp [kLt, keyLe] at *; omega
  · refine ⟨(List.mergeSort_perm _ _).trans (mI_perm C P).symm, fun x => ?_⟩
    rw [mI_filter C P hc, ← List.filter_append]
    have h1 : ((C ++ P).filter (eqv kLt x)).Pairwise (fun a b => keyLe a b = true) := by
      refine List.pairwise_of_forall_mem_list fun a ha b hb => ?_
      have h2 := (List.mem_filter.mp ha).2
      have h3 := (List.mem_filter.mp hb).2
      simp [eqv, kLt, keyLe] at *
      omega
    have h2 := List.sublist_mergeSort tr to h1 List.filter_sublist
    have h3 := h2.filter (eqv kLt x)
    rw [List.filter_filter] at h3
    simp only [Bool.and_self] at h3
    refine (h3.eq_of_length ?_).symm
    exact ((List.mergeSort_perm (C ++ P) keyLe).filter _).length_eq.symm
theorem packI_fst : ∀ l : List (Int × Int), (packI l).map (·.1) = packw (l.map (·.1))
  | [] => by simp [packI, packw]
  | [_] => by simp [packI, packw]
  | a :: b :: l => by simp [packI, packw, packI_fst l]
theorem packI_snd : ∀ (l : List (Int × Int)) (x : Int × Int), x ∈ packI l → x.2 = -1
  | [], x, h => by simp [packI] at h
  | [_], x, h => by simp [packI] at h
  | a :: b :: l, x, h => by
    rcases List.mem_cons.mp h with h | h
    · rw [h]
    · exact packI_snd l x h
theorem srtd_fst {l : List (Int × Int)} : Srtd kLt l ↔ Srt (l.map (·.1)) := by
  unfold Srtd Srt
  rw [List.pairwise_map]
  constructor
  · intro h; exact h.imp fun {a b} q => by simp [kLt] at q; exact q
  · intro h; exact h.imp fun {a b} q => by simp [kLt]; exact q
theorem lev_fst {C : List (Int × Int)} (sc : Srt (C.map (·.1))) : ∀ k, (lev C k).map (·.1) = W (C.map (·.1)) (k + 1)
  | 0 => by simp [lev, W, packw, mw_nil2]
  | k + 1 => by
    have ih := lev_fst sc k
    have hp : Srtd kLt (packI (lev C k)) := by
      rw [srtd_fst, packI_fst, ih]
      exact packw_srt (W_srt sc _)
    rw [lev, ms_eq (srtd_fst.mpr sc) hp, mI_fst, packI_fst, ih]
    rfl
theorem lev_eq {C : List (Int × Int)} (sc : Srt (C.map (·.1))) (k : Nat) : lev C (k + 1) = mI C (packI (lev C k)) := by
  have hp : Srtd kLt (packI (lev C k)) := by
    rw [srtd_fst, packI_fst, lev_fst sc k]
    exact packw_srt (W_srt sc _)
  rw [lev, ms_eq (srtd_fst.mpr sc) hp]
theorem mI_coins : ∀ (C P : List (Int × Int)) (m : Nat), (∀ x ∈ C, x.2 ≠ -1) → (∀ x ∈ P, x.2 = -1) → coinsOf ((mI C P).take m) = (C.take (cutc (C.map (·.1)) (P.map (·.1)) m)).map (·.2)
  | C, P, 0, _, _ => by simp [cutc, coinsOf]
  | [], P, m + 1, _, hp => by
    rw [mI_nil]
    have : (P.take (m + 1)).filter (fun x => decide (x.2 ≠ -1)) = [] := List.filter_eq_nil_iff.mpr fun y hy => by
      have := hp y (List.mem_of_mem_take hy)
      simp [this]
    simp only [coinsOf, this, List.map_nil, cutc, List.take_zero]
  | c :: C, [], m + 1, hc, hp => by
    rw [mI_nil2]
    have ih := mI_coins C [] m (fun x hx => hc x (by simp [hx])) hp
    rw [mI_nil2] at ih
    have h1 := hc c (by simp)
    simp only [List.map_cons, List.map_nil, cutc, Nat.add_comm 1, List.take_succ_cons] at *
    unfold coinsOf at *
    rw [List.filter_cons_of_pos (by simp [h1]), List.map_cons, ih]
  | c :: C, p :: P, m + 1, hc, hp => by
    have h1 := hc c (by simp)
    have h2 := hp p (by simp)
    by_cases e : c.1 ≤ p.1
    · have ih := mI_coins C (p :: P) m (fun x hx => hc x (by simp [hx])) hp
      rw [mI_pos e]
      simp only [List.map_cons, cutc, if_pos e, Nat.add_comm 1, List.take_succ_cons] at *
      unfold coinsOf at *
      rw [List.filter_cons_of_pos (by simp [h1]), List.map_cons, ih]
    · have ih := mI_coins (c :: C) P m hc (fun x hx => hp x (by simp [hx]))
      rw [mI_neg e]
      simp only [List.map_cons, cutc, if_neg e, List.take_succ_cons] at *
      unfold coinsOf at *
      rw [List.filter_cons_of_neg (by simp [h2]), ih]
theorem lev_coins {C : List (Int × Int)} (sc : Srt (C.map (·.1))) (hc : ∀ x ∈ C, x.2 ≠ -1) (k m : Nat) : coinsOf ((lev C k).take m) = (C.take (cc (C.map (·.1)) (k + 1) m)).map (·.2) := by
  cases k with
  | zero =>
    have := mI_coins C [] m hc (by simp)
    rw [mI_nil2] at this
    simpa [lev, cc, W, packw] using this
  | succ k =>
    rw [lev_eq sc, mI_coins C _ m hc (packI_snd _), packI_fst, lev_fst sc]
    rfl
/-- what the program takes is the way of the weights -/
theorem tkS_way {C : List (Int × Int)} {L : Nat} (hc : ∀ x ∈ C, x.2 ≠ -1) (G : Good (C.map (·.1)) L) : ∀ i, i ≤ L →
    (tkS (levL C L).reverse (2 * C.length - 2) i).1 = md (C.map (·.1)) L i ∧ ∀ k, i + k = L → (tkS (levL C L).reverse (2 * C.length - 2) i).2.map Int.toNat ++ tl (C.map (·.1)) L (C.map fun x => x.2.toNat) i k = tl (C.map (·.1)) L (C.map fun x => x.2.toNat) 0 L
  | 0, _ => by
    refine ⟨by simp [tkS, md], fun k h => ?_⟩
    have : k = L := by omega
    subst this
    simp [tkS]
  | i + 1, hi => by
    obtain ⟨h1, h2⟩ := tkS_way hc G i (by omega)
    have hR : (levL C L).reverse.getD i [] = lev C (L - 1 - i) := by
      rw [List.getD_eq_getElem?_getD, List.getElem?_reverse (by rw [levL_len]; omega), levL_len, levL_get (by omega)]
      rfl
    have hco := lev_coins G.srt hc (L - 1 - i) (md (C.map (·.1)) L i)
    rw [show L - 1 - i + 1 = L - i by omega] at hco
    have hml := md_le G i (by omega)
    have hlen : (lev C (L - 1 - i)).length = (W (C.map (·.1)) (L - i)).length := by
      rw [← List.length_map (f := (·.1)), lev_fst G.srt, show L - 1 - i + 1 = L - i by omega]
    have hcl := cd_le G (d := i) (by omega)
    rw [List.length_map] at hcl
    constructor
    · rw [tkS, h1, hR, hco, List.length_map, List.length_take, List.length_take, hlen]
      show 2 * (min (md _ L i) _ - min (cd (C.map (·.1)) L i) C.length) = 2 * (md _ L i - cd (C.map (·.1)) L i)
      rw [Nat.min_eq_left hml, Nat.min_eq_left hcl]
    · intro k hk
      have := h2 (k + 1) (by omega)
      rw [tkS, h1, hR, hco]
      rw [tl] at this
      rw [List.map_append, List.append_assoc, ← this]
      congr 2
      rw [List.map_map, List.map_take]
      rfl
end K2

namespace K2
open PySem PySem.Spec PyProof.Rows L2
/-! ### least_lengths -/
def wAt (ws : List Int) (l : Nat) : Int := ws.getD l 0
def rawU (ws : List Int) (i : Nat) : List (Int × Int) := ((List.range i).filter fun l => decide (0 < wAt ws l)).map fun l => (wAt ws l, (l : Int))
def rawL (ws : List Int) : List (Int × Int) := rawU ws ws.length
theorem rawU_succ (ws : List Int) (i : Nat) : rawU ws (i + 1) = rawU ws i ++ (if 0 < wAt ws i then [(wAt ws i, (i : Int))] else []) := by
  unfold rawU
  rw [List.range_succ, List.filter_append, List.map_append]
  congr 1
  by_cases q : 0 < wAt ws i <;> simp [q]
theorem rawU_len (ws : List Int) (i : Nat) : (rawU ws i).length ≤ i := by
  unfold rawU
  rw [List.length_map]
  exact Nat.le_trans (List.length_filter_le _ _) (by simp)
def lexLe (a b : Int × Int) : Bool := !SrtO.lexB b a
def coinsL (ws : List Int) : List (Int × Int) := (rawL ws).mergeSort lexLe
def ansL (ws : List Int) (n : Nat) : List Int :=
  if (coinsL ws).length = 1 then ws.map fun w => if 0 < w then 1 else 0
  else cnts ws.length ((tkS (levL (coinsL ws) n).reverse (2 * (coinsL ws).length - 2) n).2.map Int.toNat)
theorem lexLe_tr (a b c : Int × Int) (h1 : lexLe a b = true) (h2 : lexLe b c = true) : lexLe a c = true := by
  simp only [lexLe, Bool.not_eq_true', SrtO.lexB_no] at *
  omega
theorem lexLe_to (a b : Int × Int) : (lexLe a b || lexLe b a) = true := by
  rcases SrtO.bcase (SrtO.lexB b a) with h | h
  · have : SrtO.lexB a b = false := by
      rw [SrtO.lexB_no]
      rw [SrtO.lexB_iff] at h
      omega
    simp [lexLe, this]
  · simp [lexLe, h]
theorem lexLe_anti {a b : Int × Int} (h1 : lexLe a b = true) (h2 : lexLe b a = true) : a = b := by
  simp only [lexLe, Bool.not_eq_true', SrtO.lexB_no] at *
  obtain ⟨a1, a2⟩ := a
  obtain ⟨b1, b2⟩ := b
  simp only [Prod.mk.injEq] at *
  omega
theorem coinsL_perm (ws : List Int) : (coinsL ws).Perm (rawL ws) := List.mergeSort_perm _ _
theorem coinsL_srt (ws : List Int) : (coinsL ws).Pairwise fun a b => lexLe a b = true := List.pairwise_mergeSort lexLe_tr lexLe_to _
theorem coinsL_uniq {ws : List Int} {l : List (Int × Int)} (hp : l.Perm (rawL ws)) (hs : l.Pairwise fun a b => lexLe a b = true) : l = coinsL ws :=
  List.Perm.eq_of_pairwise (fun a b _ _ h1 h2 => lexLe_anti h1 h2) hs (coinsL_srt ws) (hp.trans (coinsL_perm ws).symm)
theorem raw_mem {ws : List Int} {x : Int × Int} (h : x ∈ rawL ws) : ∃ l : Nat, l < ws.length ∧ 0 < wAt ws l ∧ x = (wAt ws l, (l : Int)) := by
  obtain ⟨l, h1, h2⟩ := List.mem_map.mp h
  obtain ⟨h3, h4⟩ := List.mem_filter.mp h1
  exact ⟨l, by simpa using h3, of_decide_eq_true h4, h2.symm⟩
theorem coins_mem {ws : List Int} {x : Int × Int} (h : x ∈ coinsL ws) : ∃ l : Nat, l < ws.length ∧ 0 < wAt ws l ∧ x = (wAt ws l, (l : Int)) := raw_mem ((coinsL_perm ws).mem_iff.mp h)
theorem coins_len (ws : List Int) : (coinsL ws).length ≤ ws.length := by
  rw [(coinsL_perm ws).length_eq]
  exact rawU_len ws _
/-- the pairs that a heap holds at refs -/
def kOf (H : Hp) : V → Int × Int
  | .ref t => match H t with
    | some (.tup [.int a, .int b]) => (a, b)
    | _ => (0, 0)
  | _ => (0, 0)
theorem kOf_at {H : Hp} {t : Addr} {x : Int × Int} (h : H t = some (.tup [.int x.1, .int x.2])) : kOf H (.ref t) = x := by
  simp [kOf, h]
theorem Tups.kOf {H : Hp} {ts : List Addr} {l : List (Int × Int)} (h : Tups H ts l) : (ts.map V.ref).map (K2.kOf H) = l := by
  refine List.ext_getElem? fun i => ?_
  repeat rw [List.getElem?_map]
  by_cases q : i < ts.length
  · have q2 : i < l.length := by rw [← h.1]; exact q
    rw [List.getElem?_eq_getElem q, List.getElem?_eq_getElem q2]
    exact congrArg some (kOf_at (h.2 i _ _ (List.getElem?_eq_getElem q) (List.getElem?_eq_getElem q2)))
  · rw [List.getElem?_eq_none (by omega), List.getElem?_eq_none (by rw [← h.1]; omega)]
    rfl
theorem Tups.of_mem {H : Hp} {ts : List Addr} {l : List (Int × Int)} (h : Tups H ts l) {v : V} (hv : v ∈ ts.map V.ref) : ∃ t, v = .ref t ∧ H t = some (.tup [.int (K2.kOf H v).1, .int (K2.kOf H v).2]) := by
  obtain ⟨i, hi⟩ := List.mem_iff_getElem?.mp hv
  rw [List.getElem?_map] at hi
  cases e : ts[i]? with
  | none => rw [e] at hi; cases hi
  | some t =>
    rw [e] at hi
    obtain rfl : V.ref t = v := Option.some.inj hi
    have q2 : i < l.length := by rw [← h.1]; exact (List.getElem?_eq_some_iff.mp e).1
    have := h.2 i t _ e (List.getElem?_eq_getElem q2)
    refine ⟨t, rfl, ?_⟩
    rw [kOf_at this]
    exact this
theorem Tups.of_perm {H : Hp} {ts : List Addr} {l : List (Int × Int)} (h : Tups H ts l) {ys : List V} (hp : ys.Perm (ts.map V.ref)) : ∃ us, ys = us.map V.ref ∧ Tups H us (ys.map (K2.kOf H)) := by
  have e : ∀ y ∈ ys, ∃ t, y = .ref t ∧ H t = some (.tup [.int (K2.kOf H y).1, .int (K2.kOf H y).2]) := fun y hy => h.of_mem (hp.mem_iff.mp hy)
  clear hp
  induction ys with
  | nil => exact ⟨[], rfl, Tups.nil⟩
  | cons y ys ih =>
    obtain ⟨us, e1, e2⟩ := ih fun z hz => e z (List.mem_cons_of_mem _ hz)
    obtain ⟨t, rfl, ht⟩ := e y List.mem_cons_self
    refine ⟨t :: us, by rw [e1]; rfl, by rw [List.length_cons, List.map_cons, List.length_cons, e2.1], fun i t' x h1 h2 => ?_⟩
    cases i with
    | zero =>
      simp at h1 h2
      rw [← h1, ← h2]
      exact ht
    | succ i => exact e2.2 i t' x (by simpa using h1) (by simpa using h2)
/-- what may be asked -/
structure AskOk (ws : List Int) (n : Nat) : Prop where
  lo : ∀ w ∈ ws, 0 ≤ w ∧ w ≤ 1000000
  len : 2 ≤ ws.length ∧ ws.length ≤ 300
  some : 1 ≤ (coinsL ws).length
  room : (coinsL ws).length ≤ 2 ^ n
  n1 : 1 ≤ n
  n12 : n ≤ 12
theorem AskOk.good {ws : List Int} {n : Nat} (a : AskOk ws n) (h : (coinsL ws).length ≠ 1) : Good ((coinsL ws).map (·.1)) n := by
  refine ⟨?_, fun x hx => ?_, by rw [List.length_map]; have := a.some; omega, by rw [List.length_map]; exact a.room⟩
  · show Srt _
    rw [← srtd_fst]
    refine (coinsL_srt ws).imp fun {x y} h => ?_
    simp only [lexLe, Bool.not_eq_true', SrtO.lexB_no, kLt, decide_eq_false_iff_not] at *
    omega
  · obtain ⟨y, hy, rfl⟩ := List.mem_map.mp hx
    obtain ⟨l, _, h2, rfl⟩ := coins_mem hy
    exact Int.le_of_lt h2
theorem AskOk.letters {ws : List Int} {n : Nat} (a : AskOk ws n) (h : (coinsL ws).length ≠ 1) : (tkS (levL (coinsL ws) n).reverse (2 * (coinsL ws).length - 2) n).2.map Int.toNat = tl ((coinsL ws).map (·.1)) n ((coinsL ws).map fun x => x.2.toNat) 0 n := by
  have := (tkS_way (C := coinsL ws) (L := n) (fun x hx => by
    obtain ⟨l, _, _, rfl⟩ := coins_mem hx
    show (l : Int) ≠ -1
    omega) (a.good h) n (Nat.le_refl _)).2 0 (by omega)
  simpa [tl] using this
end K2

namespace K2
open PySem PySem.Spec PyProof.Rows L2
theorem tkS_mem {R : List (List (Int × Int))} {m0 : Nat} {y : Int} : ∀ i, y ∈ (tkS R m0 i).2 → ∃ l ∈ R, ∃ x ∈ l, x.2 = y ∧ y ≠ -1
  | 0, h => by simp [tkS] at h
  | i + 1, h => by
    rw [tkS] at h
    rcases (List.mem_append.mp h) with (q | q)
    · exact tkS_mem i q
    · obtain ⟨x, hx, rfl⟩ := List.mem_map.mp q
      obtain ⟨h1, h2⟩ := List.mem_filter.mp hx
      have h3 := List.mem_of_mem_take h1
      by_cases hi : i < R.length
      · rw [List.getD_eq_getElem?_getD, List.getElem?_eq_getElem hi] at h3
        exact ⟨R[i], List.getElem_mem hi, x, h3, rfl, of_decide_eq_true h2⟩
      · rw [List.getD_eq_getElem?_getD, List.getElem?_eq_none (by omega)] at h3
        simp at h3
theorem lev_mem {C : List (Int × Int)} {x : Int × Int} : ∀ k, x ∈ lev C k → x ∈ C ∨ x.2 = -1
  | 0, h => .inl h
  | k + 1, h => by
    rw [lev] at h
    rcases List.mem_append.mp ((List.mergeSort_perm _ _).mem_iff.mp h) with q | q
    · exact .inl q
    · exact .inr (packI_snd _ _ q)
theorem letters_ok {ws : List Int} {n m0 : Nat} {y : Int} (h : y ∈ (tkS (levL (coinsL ws) n).reverse m0 n).2) : ∃ l : Nat, y = (l : Int) ∧ l < ws.length := by
  obtain ⟨l, hl, x, hx, rfl, hne⟩ := tkS_mem n h
  obtain ⟨k, _, rfl⟩ := List.mem_map.mp (List.mem_reverse.mp hl)
  rcases lev_mem k hx with q | q
  · obtain ⟨j, h1, _, rfl⟩ := coins_mem q
    exact ⟨j, rfl, h1⟩
  · exact absurd q hne
section
variable {P : Program} {w : World} {K : PySem.W.Frag} {mg : Str → Option Value} {base : Heap}
def spLeast (T : List (Addr × Str)) : Sp := fun vs H Q _ => ∃ (p : Addr) (ws : List Int) (n : Nat), vs = [.ref p, .int (n : Int)] ∧ H p = some (.lst (ws.map V.int)) ∧ AskOk ws n ∧ LamX.Tabs T H ∧
  ∀ H' q, LamX.ExtN H H' → LamX.Tabs T H' → H' q = some (.lst ((ansL ws n).map V.int)) → Q (.ref q) H'
theorem enum_at {ws : List Int} {i : Nat} {y : V} (h : (fun i => (ws.map V.int)[i]?) i = some y) : y = .int (wAt ws i) ∧ i < ws.length := by
  obtain ⟨x, rfl, hx⟩ := int_of h
  refine ⟨?_, (List.getElem?_eq_some_iff.mp hx).1⟩
  unfold wAt
  rw [List.getD_eq_getElem?_getD, hx]
  rfl
end
end K2

namespace K2
open PySem PySem.Spec PyProof.Rows L2
/-! ### equal lists -/
theorem dp_ints {K : PySem.W.Frag} {H : Hp} : ∀ xs : List Int, DpAll K H (xs.map V.int) (xs.map PyData.int)
  | [] => .nil
  | x :: xs => .cons (.int x) (dp_ints xs)
theorem dp_bools {K : PySem.W.Frag} {H : Hp} : ∀ xs : List Bool, DpAll K H (xs.map V.bl) (xs.map PyData.bool)
  | [] => .nil
  | x :: xs => .cons (.bl x) (dp_bools xs)
theorem eqvA_ints : ∀ xs ys : List Int, PyData.eqvAll (xs.map .int) (ys.map .int) = decide (xs = ys)
  | [], [] => by simp [PyData.eqvAll]
  | [], _ :: _ => by simp [PyData.eqvAll]
  | _ :: _, [] => by simp [PyData.eqvAll]
  | x :: xs, y :: ys => by
    simp only [List.map_cons, PyData.eqvAll, PyData.eqv, eqvA_ints xs ys]
    by_cases h : x = y <;> simp [h]
theorem eqvA_bools : ∀ xs ys : List Bool, PyData.eqvAll (xs.map .bool) (ys.map .bool) = decide (xs = ys)
  | [], [] => by simp [PyData.eqvAll]
  | [], _ :: _ => by simp [PyData.eqvAll]
  | _ :: _, [] => by simp [PyData.eqvAll]
  | x :: xs, y :: ys => by
    simp only [List.map_cons, PyData.eqvAll, PyData.eqv, eqvA_bools xs ys]
    by_cases h : x = y <;> simp [h]
theorem eqv_ints (xs ys : List Int) : PyData.eqv (.list (xs.map .int)) (.list (ys.map .int)) = decide (xs = ys) := by rw [PyData.eqv, eqvA_ints]
theorem eqv_bools (xs ys : List Bool) : PyData.eqv (.list (xs.map .bool)) (.list (ys.map .bool)) = decide (xs = ys) := by rw [PyData.eqv, eqvA_bools]
theorem clA_ints : ∀ ns : List Int, PyData.canLayAll0 (ns.map PyData.int) = true
  | [] => by (simp [PyData.canLayAll0])
  | _ :: r => by simp [PyData.canLayAll0, PyData.canLay0, clA_ints r]
theorem dA_ints : ∀ ns : List Int, PyData.depthAll (ns.map PyData.int) = 0
  | [] => rfl
  | _ :: r => by simp [PyData.depthAll, PyData.depth, dA_ints r]
theorem shaped_intsQ (ns : List Int) : SeqAt.shaped (.list (ns.map PyData.int)) = true := by
  simp [SeqAt.shaped, PyData.canLay0, PyData.depth, clA_ints, dA_ints]
theorem clA_bools : ∀ ns : List Bool, PyData.canLayAll0 (ns.map PyData.bool) = true
  | [] => by (simp [PyData.canLayAll0])
  | _ :: r => by simp [PyData.canLayAll0, PyData.canLay0, clA_bools r]
theorem dA_bools : ∀ ns : List Bool, PyData.depthAll (ns.map PyData.bool) = 0
  | [] => rfl
  | _ :: r => by simp [PyData.depthAll, PyData.depth, dA_bools r]
theorem shaped_bools (ns : List Bool) : SeqAt.shaped (.list (ns.map PyData.bool)) = true := by
  simp [SeqAt.shaped, PyData.canLay0, PyData.depth, clA_bools, dA_bools]
def cellAt (xs : List Int) (k : Nat) : Int := if k < xs.length then xs.getD k 0 else if xs = [] then (k : Int) * 48271 else ((xs.getD (k % xs.length) 0 + k) * 48271).fmod 2147483647
section
variable {P : Program} {w : World} {K : PySem.W.Frag} {mg : Str → Option Value} {base : Heap}
def spCell (K : PySem.W.Frag) : Sp := fun vs H Q _ => ∃ (p : Addr) (xs : List Int) (k : Nat), vs = [.ref p, .int (k : Int)] ∧ SqL K H p (xs.map V.int) ∧ k ≤ 100000 ∧ ∀ H', Same H H' → Q (.int (cellAt xs k)) H'
end
end K2

namespace K2
open PySem PySem.Spec PyProof.Rows L2
/-! ### _law_numbers -/
def InLims (ds lims : List Int) : Prop := ds.length ≤ lims.length ∧ ∀ (j : Nat) (d l : Int), ds[j]? = some d → lims[j]? = some l → 0 ≤ d ∧ d < l
theorem fmod_in {a l : Int} (h : 0 < l) : 0 ≤ a.fmod l ∧ a.fmod l < l := by
  rw [Int.fmod_eq_emod_of_nonneg _ (Int.le_of_lt h)]
  exact ⟨Int.emod_nonneg _ (by omega), Int.emod_lt_of_pos _ h⟩
theorem InLims.snoc {ds lims : List Int} {d l : Int} (h : InLims ds lims) (hl : lims[ds.length]? = some l) (hd : 0 ≤ d ∧ d < l) : InLims (ds ++ [d]) lims := by
  refine ⟨by have := (List.getElem?_eq_some_iff.mp hl).1; simp; omega, fun j d' l' h1 h2 => ?_⟩
  by_cases q : j < ds.length
  · rw [List.getElem?_append_left q] at h1
    exact h.2 j d' l' h1 h2
  · have e : j = ds.length := by
      have := (List.getElem?_eq_some_iff.mp h1).1
      simp at this
      omega
    subst e
    rw [List.getElem?_append_right (Nat.le_refl _)] at h1
    simp at h1
    rw [hl] at h2
    cases h2
    rw [← h1]
    exact hd
section
variable {P : Program} {w : World} {K : PySem.W.Frag} {mg : Str → Option Value} {base : Heap}
def spNums : Sp := fun vs H Q _ => ∃ (p : Addr) (c : Int) (lims : List Int), vs = [.int c, .ref p] ∧ H p = some (.lst (lims.map V.int)) ∧ lims.length ≤ 1000 ∧ (∀ l ∈ lims, 0 < l ∧ l < 1000000) ∧
  ∀ H' q ds, Same H H' → H q = none → H' q = some (.lst (ds.map V.int)) → ds.length = lims.length → InLims ds lims → Q (.ref q) H'
end
end K2

namespace K2
open PySem PySem.Spec PyProof.Rows L2
/-! ### _law_good -/
def usedL (xs : List Int) : List Int := xs.filter fun x => decide (0 < x)
def goodB (xs : List Int) : Bool := decide (usedL xs = []) || (decide (usedL xs = [1]) || decide (((usedL xs).map fun x => (4096 : Int) / 2 ^ x.toNat).sum = 4096))
theorem used_succ {xs : List Int} {i : Nat} {x : Int} (h : xs[i]? = some x) : usedL (xs.take (i + 1)) = usedL (xs.take i) ++ (if 0 < x then [x] else []) := by
  rw [List.take_add_one, h]
  unfold usedL
  rw [List.filter_append]
  congr 1
  by_cases q : 0 < x <;> simp [q]
theorem used_le (xs : List Int) : (usedL xs).length ≤ xs.length := List.length_filter_le _ _
end K2

namespace K2
open PySem PySem.Spec PyProof.Rows L2
/-! ### _law_weights -/
def lows (u i : Nat) : List Int := ((List.range i).filter fun b => decide (u ≤ 2 ^ (b + 1))).map fun b => ((b + 1 : Nat) : Int)
theorem lows_succ (u i : Nat) : lows u (i + 1) = lows u i ++ (if u ≤ 2 ^ (i + 1) then [((i + 1 : Nat) : Int)] else []) := by
  unfold lows
  rw [List.range_succ, List.filter_append, List.map_append]
  congr 1
  by_cases q : u ≤ 2 ^ (i + 1) <;> simp [q]
theorem lows_len (u i : Nat) : (lows u i).length ≤ i := by
  unfold lows
  rw [List.length_map]
  exact Nat.le_trans (List.length_filter_le _ _) (by simp)
theorem lows_first {u : Nat} (h : u ≤ 14) : ∃ b : Nat, (lows u 12)[0]? = some (b : Int) ∧ 1 ≤ b ∧ b ≤ 12 ∧ u ≤ 2 ^ b := by
  have : ∀ u : Fin 15, ∃ b : Fin 13, (lows u.1 12)[0]? = some (b.1 : Int) ∧ 1 ≤ b.1 ∧ u.1 ≤ 2 ^ b.1 := by decide +kernel
  obtain ⟨b, h1, h2, h3⟩ := this ⟨u, by omega⟩
  exact ⟨b.1, h1, h2, by omega, h3⟩
theorem coins_used (ws : List Int) : (coinsL ws).length = (usedL ws).length := by
  rw [(coinsL_perm ws).length_eq]
  have key : ∀ i, i ≤ ws.length → (rawU ws i).length = (usedL (ws.take i)).length := by
    intro i
    induction i with
    | zero => intro _; simp [rawU, usedL]
    | succ i ih =>
      intro hi
      have hx : ws[i]? = some (wAt ws i) := by
        unfold wAt
        rw [List.getD_eq_getElem?_getD, List.getElem?_eq_getElem (show i < ws.length by omega)]
        rfl
      rw [rawU_succ, used_succ hx, List.length_append, List.length_append, ih (by omega)]
      congr 1
      split <;> rfl
  have := key ws.length (Nat.le_refl _)
  rw [List.take_length] at this
  exact this
theorem cell_in (c d : Int) (h0 : 0 ≤ d) (h1 : d < 5) : ∃ v : Int, atI [V.int (c.fmod 4), V.int (c.fmod 1000), V.int (1 * 2 ^ (c.fmod 20).toNat), V.int (c.fmod 2 * 7), V.int (c.fmod 1000001)] d = some (.int v) ∧ 0 ≤ v ∧ v ≤ 1000000 := by
  have a1 := fmod_in (a := c) (l := 4) (by decide)
  have a2 := fmod_in (a := c) (l := 1000) (by decide)
  have a3 := fmod_in (a := c) (l := 20) (by decide)
  have a4 := fmod_in (a := c) (l := 2) (by decide)
  have a5 := fmod_in (a := c) (l := 1000001) (by decide)
  obtain ⟨n, rfl⟩ : ∃ n : Nat, d = (n : Int) := ⟨d.toNat, by omega⟩
  have hn : n = 0 ∨ n = 1 ∨ n = 2 ∨ n = 3 ∨ n = 4 := by omega
  have h3 : (1 : Int) * 2 ^ (c.fmod 20).toNat ≤ 1000000 ∧ 0 ≤ (1 : Int) * 2 ^ (c.fmod 20).toNat := by
    have e : (1 : Int) * 2 ^ (c.fmod 20).toNat = ((2 ^ (c.fmod 20).toNat : Nat) : Int) := by rw [Int.one_mul, Int.natCast_pow]; rfl
    rw [e]
    have : 2 ^ (c.fmod 20).toNat ≤ 2 ^ 19 := Nat.pow_le_pow_right (by decide) (by omega)
    exact ⟨Int.le_trans (Int.ofNat_le.mpr this) (by decide), Int.natCast_nonneg _⟩
  rcases hn with rfl | rfl | rfl | rfl | rfl
  · exact ⟨_, rfl, by omega, by omega⟩
  · exact ⟨_, rfl, by omega, by omega⟩
  · exact ⟨_, rfl, h3.2, h3.1⟩
  · exact ⟨_, rfl, by omega, by omega⟩
  · exact ⟨_, rfl, by omega, by omega⟩
end K2

namespace K2
open SrtO
/-! ### packages with their letters -/
abbrev Q4 := Int × Int × Int × List Int
abbrev kQ (q : Q4) : Int × Int × Int := (q.1, q.2.1, q.2.2.1)
def leQ (a b : Q4) : Bool := !lexT (kQ b) (kQ a)
theorem leQ_tr (a b c : Q4) (h1 : leQ a b = true) (h2 : leQ b c = true) : leQ a c = true := by
  simp only [leQ, Bool.not_eq_true', lexT_no] at *
  omega
theorem leQ_to (a b : Q4) : (leQ a b || leQ b a) = true := by
  rcases bcase (lexT (kQ b) (kQ a)) with h | h
  · have : lexT (kQ a) (kQ b) = false := by
      rw [lexT_no]
      rw [lexT_iff] at h
      omega
    simp [leQ, this]
  · simp [leQ, h]
def coinQ (x : Int × Int) : Q4 := (x.1, 0, x.2, [x.2])
def packQ : Nat → List Q4 → List Q4
  | j, a :: b :: l => (a.1 + b.1, 1, (j : Int), a.2.2.2 ++ b.2.2.2) :: packQ (j + 1) l
  | _, _ => []
abbrev mQ (C P : List Q4) : List Q4 := List.merge C P leQ
def levQ (C : List (Int × Int)) : Nat → List Q4
  | 0 => []
  | k + 1 => mQ (C.map coinQ) (packQ 0 (levQ C k))
def gQ (q : Q4) : Int × Int := (q.1, if q.2.1 = 0 then q.2.2.1 else -1)
theorem mQ_nil (P : List Q4) : mQ [] P = P := by simp [mQ]
theorem mQ_nil2 (C : List Q4) : mQ C [] = C := by cases C <;> simp [mQ]
theorem mQ_pos {c p : Q4} {C P : List Q4} (h : leQ c p = true) : mQ (c :: C) (p :: P) = c :: mQ C (p :: P) := by simp [mQ, h]
theorem mQ_neg {c p : Q4} {C P : List Q4} (h : ¬ leQ c p = true) : mQ (c :: C) (p :: P) = p :: mQ (c :: C) P := by simp [mQ, h]
theorem leQ_cp {c p : Q4} (hc : c.2.1 = 0) (hp : p.2.1 = 1) : leQ c p = true ↔ c.1 ≤ p.1 := by
  simp only [leQ, Bool.not_eq_true', lexT_no]
  omega
def IsC (C : List Q4) : Prop := ∀ q ∈ C, q.2.1 = 0
def IsP (P : List Q4) : Prop := ∀ q ∈ P, q.2.1 = 1
theorem packQ_isP : ∀ (l : List Q4) (j : Nat), IsP (packQ j l)
  | [], _ => fun q h => by simp [packQ] at h
  | [_], _ => fun q h => by simp [packQ] at h
  | a :: b :: l, j => fun q h => by
    rcases List.mem_cons.mp h with h | h
    · rw [h]
    · exact packQ_isP l (j + 1) q h
theorem coinQ_isC (C : List (Int × Int)) : IsC (C.map coinQ) := fun q h => by
  obtain ⟨x, _, rfl⟩ := List.mem_map.mp h
  rfl
theorem mQ_g : ∀ (C P : List Q4), IsC C → IsP P → (mQ C P).map gQ = mI (C.map gQ) (P.map gQ)
  | [], P, _, _ => by rw [mQ_nil, List.map_nil, mI_nil]
  | c :: C, [], _, _ => by rw [mQ_nil2, List.map_nil, mI_nil2]
  | c :: C, p :: P, hc, hp => by
    have h1 := hc c (by simp)
    have h2 := hp p (by simp)
    by_cases e : c.1 ≤ p.1
    · rw [mQ_pos ((leQ_cp h1 h2).mpr e), List.map_cons, mQ_g C (p :: P) (fun x hx => hc x (by simp [hx])) hp, List.map_cons, List.map_cons, mI_pos (show (gQ c).1 ≤ (gQ p).1 from e)]
    · rw [mQ_neg (fun z => e ((leQ_cp h1 h2).mp z)), List.map_cons, mQ_g (c :: C) P hc (fun x hx => hp x (by simp [hx])), List.map_cons, List.map_cons, mI_neg (show ¬ (gQ c).1 ≤ (gQ p).1 from e)]
theorem packQ_g : ∀ (l : List Q4) (j : Nat), (packQ j l).map gQ = packI (l.map gQ)
  | [], _ => by simp [packQ, packI]
  | [_], _ => by simp [packQ, packI]
  | a :: b :: l, j => by
    simp only [packQ, List.map_cons, packI, packQ_g l (j + 1)]
    simp [gQ]
theorem coinQ_g (C : List (Int × Int)) : (C.map coinQ).map gQ = C := by
  rw [List.map_map]
  have : gQ ∘ coinQ = id := funext fun x => by simp [gQ, coinQ]
  rw [this, List.map_id]
theorem levQ_g {C : List (Int × Int)} (sc : Srt (C.map (·.1))) : ∀ k, (levQ C (k + 1)).map gQ = lev C k
  | 0 => by
    rw [levQ, mQ_g _ _ (coinQ_isC C) (packQ_isP _ _), coinQ_g]
    simp [levQ, packQ, lev, mI_nil2]
  | k + 1 => by
    rw [levQ, mQ_g _ _ (coinQ_isC C) (packQ_isP _ _), coinQ_g, packQ_g, levQ_g sc k, lev_eq sc]
theorem levQ_w {C : List (Int × Int)} (sc : Srt (C.map (·.1))) (k : Nat) : (levQ C k).map (·.1) = W (C.map (·.1)) k := by
  cases k with
  | zero => simp [levQ, W]
  | succ k =>
    rw [← lev_fst sc k, ← levQ_g sc k, List.map_map]
    rfl
/-! letters -/
def plQ (l : List Q4) : List Int := l.flatMap (·.2.2.2)
theorem plQ_app (a b : List Q4) : plQ (a ++ b) = plQ a ++ plQ b := by simp [plQ]
theorem plQ_cons (a : Q4) (b : List Q4) : plQ (a :: b) = a.2.2.2 ++ plQ b := by simp [plQ]
theorem mQ_pl : ∀ (C P : List Q4) (m : Nat), IsC C → IsP P → m ≤ C.length + P.length →
    (plQ ((mQ C P).take m)).Perm (plQ (C.take (cutc (C.map (·.1)) (P.map (·.1)) m)) ++ plQ (P.take (m - cutc (C.map (·.1)) (P.map (·.1)) m)))
  | C, P, 0, _, _, _ => by simp [plQ, cutc]
  | [], P, m + 1, _, _, _ => by rw [mQ_nil]; simp [cutc, plQ]
  | c :: C, [], m + 1, _, _, h => by
    rw [mQ_nil2, List.map_nil, cutc_nil _ _ (by simpa using h)]
    simp [plQ]
  | c :: C, p :: P, m + 1, hc, hp, h => by
    have h1 := hc c (by simp)
    have h2 := hp p (by simp)
    by_cases e : c.1 ≤ p.1
    · have ih := mQ_pl C (p :: P) m (fun x hx => hc x (by simp [hx])) hp (by simp at *; omega)
      rw [mQ_pos ((leQ_cp h1 h2).mpr e)]
      simp only [List.map_cons, cutc, if_pos e, Nat.add_comm 1, List.take_succ_cons, Nat.add_sub_add_right, plQ_cons] at *
      rw [List.append_assoc]
      exact ih.append_left _
    · have ih := mQ_pl (c :: C) P m hc (fun x hx => hp x (by simp [hx])) (by simp at *; omega)
      have hl := cutc_le ((c :: C).map (·.1)) (P.map (·.1)) m
      rw [mQ_neg (fun z => e ((leQ_cp h1 h2).mp z))]
      simp only [List.map_cons, cutc, if_neg e] at *
      rw [show m + 1 - cutc (c.1 :: List.map (·.1) C) (List.map (·.1) P) m = (m - cutc (c.1 :: List.map (·.1) C) (List.map (·.1) P) m) + 1 by omega]
      simp only [List.take_succ_cons, plQ_cons]
      refine (ih.append_left p.2.2.2).trans ?_
      rw [← List.append_assoc]; rw [← List.append_assoc]
      exact List.perm_append_comm.append_right _
theorem packQ_len : ∀ (l : List Q4) (j : Nat), (packQ j l).length = l.length / 2
  | [], _ => by simp [packQ]
  | [_], _ => by simp [packQ]
  | a :: b :: l, j => by
    have := packQ_len l (j + 1)
    simp only [packQ, List.length_cons]; omega
theorem packQ_fst : ∀ (l : List Q4) (j : Nat), (packQ j l).map (·.1) = packw (l.map (·.1))
  | [], _ => by simp [packQ, packw]
  | [_], _ => by simp [packQ, packw]
  | a :: b :: l, j => by simp [packQ, packw, packQ_fst l (j + 1)]
theorem packQ_pl : ∀ (l : List Q4) (j p : Nat), 2 * p ≤ l.length → plQ ((packQ j l).take p) = plQ (l.take (2 * p))
  | l, j, 0, _ => by simp [plQ]
  | [], j, p + 1, h => by simp at h
  | [_], j, p + 1, h => by simp at h; omega
  | a :: b :: l, j, p + 1, h => by
    have := packQ_pl l (j + 1) p (by simp only [List.length_cons] at h; omega)
    rw [show 2 * (p + 1) = 2 * p + 1 + 1 by omega]
    simp only [packQ, List.take_succ_cons, plQ_cons, this, List.append_assoc]
theorem coinQ_pl (C : List (Int × Int)) : plQ (C.map coinQ) = C.map (·.2) := by
  induction C with
  | nil => rfl
  | cons x C ih => rw [List.map_cons, plQ_cons, ih]; rfl
theorem levQ_len {C : List (Int × Int)} (sc : Srt (C.map (·.1))) (k : Nat) : (levQ C k).length = (W (C.map (·.1)) k).length := by
  rw [← levQ_w sc k, List.length_map]
theorem levQ_pl {C : List (Int × Int)} (sc : Srt (C.map (·.1))) {k m : Nat} (h : m ≤ (W (C.map (·.1)) (k + 1)).length) :
    (plQ ((levQ C (k + 1)).take m)).Perm ((C.take (cc (C.map (·.1)) (k + 1) m)).map (·.2) ++ plQ ((levQ C k).take (2 * (m - cc (C.map (·.1)) (k + 1) m)))) := by
  have h1 := cc_le (C.map (·.1)) (k + 1) m h
  have e1 : (C.map coinQ).map (·.1) = C.map (·.1) := by rw [List.map_map]; rfl
  have hl := levQ_len sc k
  have h2 := mQ_pl (C.map coinQ) (packQ 0 (levQ C k)) m (coinQ_isC C) (packQ_isP _ _) (by
    rw [List.length_map, packQ_len, hl]
    rw [W_len, List.length_map] at h
    exact h)
  rw [e1, packQ_fst, levQ_w sc, ← List.map_take, coinQ_pl] at h2
  have e2 : cutc (C.map (·.1)) (packw (W (C.map (·.1)) k)) m = cc (C.map (·.1)) (k + 1) m := rfl
  rw [e2, packQ_pl _ _ _ (by rw [hl]; exact h1.2.2)] at h2
  exact h2
theorem way_pl {C : List (Int × Int)} {L : Nat} (G : Good (C.map (·.1)) L) : ∀ k d, d + k = L →
    ((plQ ((levQ C k).take (md (C.map (·.1)) L d))).map Int.toNat).Perm (tl (C.map (·.1)) L (C.map fun x => x.2.toNat) d k)
  | 0, d, _ => by simp [levQ, plQ, tl]
  | k + 1, d, h => by
    have h1 := md_le G d (by omega)
    rw [show L - d = k + 1 by omega] at h1
    have h2 := (levQ_pl G.srt h1).map Int.toNat
    have ih := way_pl G k (d + 1) (by omega)
    refine h2.trans ?_
    rw [List.map_append, tl]
    have e1 : cc (C.map (·.1)) (k + 1) (md (C.map (·.1)) L d) = cd (C.map (·.1)) L d := by
      rw [cd, show L - d = k + 1 by omega]
    rw [e1]
    have e2 : ((C.take (cd (C.map (·.1)) L d)).map (·.2)).map Int.toNat = (C.map fun x => x.2.toNat).take (cd (C.map (·.1)) L d) := by
      rw [List.map_map, List.map_take]
      rfl
    rw [e2]
    exact ih.append_left _
/-- the sorted row is the merge -/
theorem srt_mQ {C P : List Q4} (hc : C.Pairwise fun a b => leQ a b = true) (hp : P.Pairwise fun a b => leQ a b = true) : (mQ C P).Pairwise fun a b => leQ a b = true :=
  List.pairwise_merge (le := leQ) (l₁ := C) (l₂ := P) leQ_tr leQ_to hc hp
theorem packQ_mem : ∀ (l : List Q4) (j : Nat) (q : Q4), q ∈ packQ j l → (j : Int) ≤ q.2.2.1 ∧ ∃ a ∈ l, ∃ b ∈ l, q.1 = a.1 + b.1
  | [], j, q, h => by simp [packQ] at h
  | [_], j, q, h => by simp [packQ] at h
  | a :: b :: l, j, q, h => by
    rcases List.mem_cons.mp h with h | h
    · rw [h]
      exact ⟨Int.le_refl _, a, by simp, b, by simp, rfl⟩
    · obtain ⟨h1, u, hu, v, hv, e⟩ := packQ_mem l (j + 1) q h
      exact ⟨by omega, u, by simp [hu], v, by simp [hv], e⟩
theorem packQ_srt : ∀ (l : List Q4) (j : Nat), Srt (l.map (·.1)) → (packQ j l).Pairwise fun a b => leQ a b = true
  | [], j, _ => by simp [packQ]
  | [_], j, _ => by simp [packQ]
  | a :: b :: l, j, h => by
    obtain ⟨h1, h2⟩ := (List.pairwise_cons.mp h)
    obtain ⟨h3, h4⟩ := List.pairwise_cons.mp h2
    refine List.pairwise_cons.mpr ⟨fun q hq => ?_, packQ_srt l (j + 1) h4⟩
    have hk := packQ_isP l (j + 1) q hq
    obtain ⟨g1, u, hu, v, hv, e⟩ := packQ_mem l (j + 1) q hq
    have g2 : a.1 ≤ u.1 := h1 u.1 (by simp; exact .inr ⟨_, _, _, hu⟩)
    have g3 : b.1 ≤ v.1 := h3 v.1 (by simp; exact ⟨_, _, _, hv⟩)
    simp only [leQ, Bool.not_eq_true', lexT_no]
    omega
theorem packQ_nodup : ∀ (l : List Q4) (j : Nat), ((packQ j l).map kQ).Nodup
  | [], j => by simp [packQ]
  | [_], j => by simp [packQ]
  | a :: b :: l, j => by
    simp only [packQ, List.map_cons]
    refine List.nodup_cons.mpr ⟨fun h => ?_, packQ_nodup l (j + 1)⟩
    obtain ⟨q, hq, e⟩ := List.mem_map.mp h
    have := (packQ_mem l (j + 1) q hq).1
    have e2 : q.2.2.1 = (j : Int) := congrArg (fun z : Int × Int × Int => z.2.2) e
    omega
theorem raw_nodup (ws : List Int) : ((rawL ws).map (·.2)).Nodup := by
  unfold rawL rawU
  rw [List.map_map]
  rw [List.Nodup, List.pairwise_map]
  refine (List.nodup_range.sublist List.filter_sublist).imp fun {a b} h z => h ?_
  have z : (a : Int) = (b : Int) := z
  omega
theorem coins_nodup (ws : List Int) : ((coinsL ws).map (·.2)).Nodup := ((coinsL_perm ws).map _).nodup_iff.mpr (raw_nodup ws)
theorem allQ_nodup (ws : List Int) (l : List Q4) : (((coinsL ws).map coinQ ++ packQ 0 l).map kQ).Nodup := by
  rw [List.map_append]; rw [List.nodup_append]
  refine ⟨?_, packQ_nodup l 0, fun a ha b hb e => ?_⟩
  · rw [List.map_map]
    have := coins_nodup ws
    rw [List.Nodup, List.pairwise_map] at this
    rw [List.Nodup, List.pairwise_map]
    exact this.imp fun {x y} h z => h (congrArg (fun z : Int × Int × Int => z.2.2) z)
  · obtain ⟨q, hq, rfl⟩ := List.mem_map.mp ha
    obtain ⟨r, hr, rfl⟩ := List.mem_map.mp hb
    have h1 := coinQ_isC _ q hq
    have h2 := packQ_isP _ _ r hr
    have e2 : q.2.1 = r.2.1 := congrArg (fun z : Int × Int × Int => z.2.1) e
    omega
theorem nodup_key {l : List Q4} (h : (l.map kQ).Nodup) {a b : Q4} (ha : a ∈ l) (hb : b ∈ l) (e : kQ a = kQ b) : a = b := by
  obtain ⟨i, hi⟩ := List.mem_iff_getElem?.mp ha
  obtain ⟨j, hj⟩ := (List.mem_iff_getElem?.mp hb)
  have h1 : (l.map kQ)[i]? = some (kQ a) := by rw [List.getElem?_map, hi]; rfl
  have h2 : (l.map kQ)[j]? = some (kQ a) := by rw [List.getElem?_map, hj, e]; rfl
  have := (List.getElem?_inj (List.getElem?_eq_some_iff.mp h1).1 h).mp (h1.trans h2.symm)
  subst this
  rw [hi] at hj
  exact Option.some.inj hj
theorem levQ_uniq {ws : List Int} {k : Nat} (sc : Srt ((coinsL ws).map (·.1))) {ys : List Q4} (hp : ys.Perm ((coinsL ws).map coinQ ++ packQ 0 (levQ (coinsL ws) k))) (hs : ys.Pairwise fun a b => leQ a b = true) : ys = levQ (coinsL ws) (k + 1) := by
  have hn := allQ_nodup ws (levQ (coinsL ws) k)
  have hm : (mQ ((coinsL ws).map coinQ) (packQ 0 (levQ (coinsL ws) k))).Perm ((coinsL ws).map coinQ ++ packQ 0 (levQ (coinsL ws) k)) := List.merge_perm_append _
  refine List.Perm.eq_of_pairwise (fun a b ha hb h1 h2 => nodup_key hn (hp.mem_iff.mp ha) (hm.mem_iff.mp hb) ?_) hs (srt_mQ ?_ ?_) (hp.trans hm.symm)
  · simp only [leQ, Bool.not_eq_true', lexT_no] at h1 h2
    obtain ⟨a1, a2, a3, a4⟩ := a
    obtain ⟨b1, b2, b3, b4⟩ := b
    simp only [kQ, Prod.mk.injEq] at *
    omega
  · refine List.pairwise_map.mpr ((coinsL_srt ws).imp fun {a b} h => ?_)
    simp only [leQ, lexLe, Bool.not_eq_true', lexT_no, lexB_no, coinQ] at *
    omega
  · refine packQ_srt _ _ ?_
    rw [levQ_w sc]
    exact W_srt sc _
end K2

namespace K2
open PySem PySem.Spec PyProof.Rows L2
/-! ### _law_least_lengths -/
def Quads (av : List Addr) (H : Hp) (ts : List Addr) (l : List Q4) : Prop := ts.length = l.length ∧ ∀ (i : Nat) (t : Addr) (q : Q4), ts[i]? = some t → l[i]? = some q → ∃ a : Addr, (∀ b ∈ av, a ≠ b) ∧ H t = some (.tup [.int q.1, .int q.2.1, .int q.2.2.1, .ref a]) ∧ H a = some (.lst (q.2.2.2.map V.int))
section
variable {av : List Addr} {H H' : Hp} {ts us : List Addr} {l m : List Q4} {D : Addr} {xs : List V} {o : HO}
theorem Quads.nil : Quads av H [] [] := ⟨rfl, fun i t x h => by simp at h⟩
theorem Quads.same (h : Quads av H ts l) (e : Same H H') : Quads av H' ts l := ⟨h.1, fun i t q h1 h2 => by
  obtain ⟨a, a0, a1, a2⟩ := h.2 i t q h1 h2
  exact ⟨a, a0, e _ _ a1, e _ _ a2⟩⟩
theorem Quads.put (h : Quads av H ts l) (hm : D ∈ av) (hD : H D = some (.lst xs)) : Quads av (upd H D o) ts l := ⟨h.1, fun i t q h1 h2 => by
  obtain ⟨a, a0, a1, a2⟩ := h.2 i t q h1 h2
  exact ⟨a, a0, by rw [upd_ne (fun z => by rw [z, hD] at a1; cases a1)]; exact a1, by rw [upd_ne (a0 D hm)]; exact a2⟩⟩
theorem Quads.more (h : Quads av H ts l) (hD : H D = none) : Quads (D :: av) H ts l := ⟨h.1, fun i t q h1 h2 => by
  obtain ⟨a, a0, a1, a2⟩ := h.2 i t q h1 h2
  refine ⟨a, fun b hb => ?_, a1, a2⟩
  rcases (List.mem_cons.mp hb) with (e | e)
  · rw [e]; exact ne_of_none a2 hD
  · exact a0 b e⟩
theorem Quads.less (h : Quads (D :: av) H ts l) : Quads av H ts l := ⟨h.1, fun i t q h1 h2 => by
  obtain ⟨a, a0, a1, a2⟩ := h.2 i t q h1 h2
  exact ⟨a, fun b hb => a0 b (List.mem_cons_of_mem _ hb), a1, a2⟩⟩
theorem Quads.snoc {t a : Addr} {q : Q4} (h : Quads av H ts l) (a0 : ∀ b ∈ av, a ≠ b) (a1 : H t = some (.tup [.int q.1, .int q.2.1, .int q.2.2.1, .ref a])) (a2 : H a = some (.lst (q.2.2.2.map V.int))) : Quads av H (ts ++ [t]) (l ++ [q]) := by
  refine ⟨by simp [h.1], fun i t' x h1 h2 => ?_⟩
  by_cases e : i < ts.length
  · rw [List.getElem?_append_left e] at h1
    rw [List.getElem?_append_left (by rw [← h.1]; exact e)] at h2
    exact h.2 i t' x h1 h2
  · have e : i = ts.length := by
      have := (List.getElem?_eq_some_iff.mp h1).1
      simp at this
      omega
    subst e
    rw [List.getElem?_append_right (Nat.le_refl _)] at h1
    rw [h.1, List.getElem?_append_right (Nat.le_refl _)] at h2
    simp at h1 h2
    rw [← h1, ← h2]
    exact ⟨a, a0, a1, a2⟩
theorem Quads.app (h : Quads av H ts l) (g : Quads av H us m) : Quads av H (ts ++ us) (l ++ m) := by
  refine ⟨by simp [h.1, g.1], fun i t x h1 h2 => ?_⟩
  by_cases e : i < ts.length
  · rw [List.getElem?_append_left e] at h1
    rw [List.getElem?_append_left (by rw [← h.1]; exact e)] at h2
    exact h.2 i t x h1 h2
  · rw [List.getElem?_append_right (by omega)] at h1
    rw [List.getElem?_append_right (by rw [← h.1]; omega), ← h.1] at h2
    exact g.2 _ t x h1 h2
theorem Quads.take (h : Quads av H ts l) (n : Nat) : Quads av H (ts.take n) (l.take n) := by
  refine ⟨by rw [List.length_take, List.length_take, h.1], fun i t x h1 h2 => ?_⟩
  rw [List.getElem?_take] at h1 h2
  split at h1
  · rename_i q
    rw [if_pos q] at h2
    exact h.2 i t x h1 h2
  · cases h1
theorem Quads.get (h : Quads av H ts l) {i : Nat} {q : Q4} (hx : l[i]? = some q) : ∃ t a, ts[i]? = some t ∧ (ts.map V.ref)[i]? = some (.ref t) ∧ (∀ b ∈ av, a ≠ b) ∧ H t = some (.tup [.int q.1, .int q.2.1, .int q.2.2.1, .ref a]) ∧ H a = some (.lst (q.2.2.2.map V.int)) := by
  have hi : i < ts.length := by rw [h.1]; exact (List.getElem?_eq_some_iff.mp hx).1
  obtain ⟨a, a0, a1, a2⟩ := h.2 i _ q (List.getElem?_eq_getElem hi) hx
  exact ⟨ts[i], a, List.getElem?_eq_getElem hi, by rw [List.getElem?_map, List.getElem?_eq_getElem hi]; rfl, a0, a1, a2⟩
theorem perm_lift {α β : Type} (f : α → β) : ∀ {a b : List β}, a.Perm b → ∀ l : List α, b = l.map f → ∃ l' : List α, l'.Perm l ∧ l'.map f = a := by
  intro a b h
  induction h with
  | nil => intro l e; exact ⟨[], by cases l with | nil => exact .nil | cons x l => simp at e, rfl⟩
  | cons x h ih =>
    intro l e
    cases l with
    | nil => simp at e
    | cons y l =>
      simp at e
      obtain ⟨l', p, e'⟩ := ih l e.2
      exact ⟨y :: l', p.cons y, by simp [e', e.1]⟩
  | swap x y l0 =>
    intro l e
    match l, e with
    | u :: v :: l, e =>
      simp at e
      exact ⟨v :: u :: l, .swap _ _ _, by simp [e]⟩
  | trans h1 h2 ih1 ih2 =>
    intro l e
    obtain ⟨l2, p2, e2⟩ := ih2 l e
    obtain ⟨l1, p1, e1⟩ := ih1 l2 e2.symm
    exact ⟨l1, p1.trans p2, e1⟩
theorem Quads.perm {ys : List V} (h : Quads av H ts l) (hp : ys.Perm (ts.map V.ref)) : ∃ us ls, ys = us.map V.ref ∧ ls.Perm l ∧ Quads av H us ls := by
  have e0 : ts.map V.ref = (ts.zip l).map fun z => V.ref z.1 := by
    have : (ts.zip l).map (fun z => V.ref z.1) = ((ts.zip l).map (·.1)).map V.ref := by rw [List.map_map]; rfl
    rw [this, List.map_fst_zip (by rw [h.1]; exact Nat.le_refl _)]
  obtain ⟨zs, p, e⟩ := perm_lift (fun z : Addr × Q4 => V.ref z.1) hp (ts.zip l) e0
  refine ⟨zs.map (·.1), zs.map (·.2), by rw [← e, List.map_map]; rfl, ?_, by rw [List.length_map, List.length_map], fun i t q h1 h2 => ?_⟩
  · have := p.map (·.2)
    rw [List.map_snd_zip (by rw [h.1]; exact Nat.le_refl _)] at this
    exact this
  · rw [List.getElem?_map] at h1 h2
    cases e : zs[i]? with
    | none => rw [e] at h1; cases h1
    | some z =>
      rw [e] at h1 h2
      cases h1
      cases h2
      obtain ⟨j, h3, h4⟩ := mem_zip_at (p.mem_iff.mp (List.mem_of_getElem? e))
      exact h.2 j _ _ h3 h4
end
def kOfQ (H : Hp) : V → Int × Int × Int
  | .ref t => match H t with
    | some (.tup [.int a, .int b, .int c, .ref _]) => (a, b, c)
    | _ => (0, 0, 0)
  | _ => (0, 0, 0)
theorem kOfQ_at {H : Hp} {t a : Addr} {q : Q4} (h : H t = some (.tup [.int q.1, .int q.2.1, .int q.2.2.1, .ref a])) : kOfQ H (.ref t) = kQ q := by
  simp [kOfQ, h]
theorem packQ_get : ∀ (l : List Q4) (j i : Nat) (x y : Q4), l[2 * i]? = some x → l[2 * i + 1]? = some y → (packQ j l)[i]? = some (x.1 + y.1, 1, ((j + i : Nat) : Int), x.2.2.2 ++ y.2.2.2)
  | [], j, i, x, y, h, _ => by simp at h
  | [_], j, i, x, y, _, h => by simp at h
  | a :: b :: l, j, 0, x, y, h, h2 => by
    simp at h h2
    rw [← h, ← h2]; rfl
  | a :: b :: l, j, i + 1, x, y, h, h2 => by
    have := packQ_get l (j + 1) i x y (by simpa [show 2 * (i + 1) = 2 * i + 1 + 1 by omega] using h) (by simpa [show 2 * (i + 1) + 1 = 2 * i + 1 + 1 + 1 by omega] using h2)
    rw [show j + (i + 1) = j + 1 + i by omega]
    simpa [packQ] using this
theorem packQ_sz : ∀ (l : List Q4) (j n : Nat), (∀ q ∈ l, q.2.2.2.length ≤ n) → ∀ q ∈ packQ j l, q.2.2.2.length ≤ 2 * n
  | [], j, n, _, q, h => by simp [packQ] at h
  | [_], j, n, _, q, h => by simp [packQ] at h
  | a :: b :: l, j, n, hs, q, h => by
    rcases List.mem_cons.mp h with h | h
    · have h1 := hs a (by simp)
      have h2 := hs b (by simp)
      rw [h]
      show (a.2.2.2 ++ b.2.2.2).length ≤ _
      rw [List.length_append]; omega
    · exact packQ_sz l (j + 1) n (fun x hx => hs x (by simp [hx])) q h
theorem levQ_mem {C : List (Int × Int)} {k : Nat} {q : Q4} (h : q ∈ levQ C (k + 1)) : q ∈ C.map coinQ ∨ q ∈ packQ 0 (levQ C k) := by
  have hm : (mQ (C.map coinQ) (packQ 0 (levQ C k))).Perm (C.map coinQ ++ packQ 0 (levQ C k)) := List.merge_perm_append _
  exact List.mem_append.mp (hm.mem_iff.mp h)
theorem levQ_sz (C : List (Int × Int)) : ∀ k, ∀ q ∈ levQ C k, q.2.2.2.length ≤ 2 ^ k
  | 0, q, h => by simp [levQ] at h
  | k + 1, q, h => by
    rcases levQ_mem h with h | h
    · obtain ⟨x, _, rfl⟩ := List.mem_map.mp h
      exact Nat.one_le_two_pow
    · have := packQ_sz _ _ _ (levQ_sz C k) q h
      rw [Nat.pow_succ]; omega
theorem packQ_let {A : List Int} : ∀ (l : List Q4) (j : Nat), (∀ q ∈ l, ∀ x ∈ q.2.2.2, x ∈ A) → ∀ q ∈ packQ j l, ∀ x ∈ q.2.2.2, x ∈ A
  | [], j, _, q, h => by simp [packQ] at h
  | [_], j, _, q, h => by simp [packQ] at h
  | a :: b :: l, j, hs, q, h => by
    rcases List.mem_cons.mp h with h | h
    · intro x hx
      rw [h] at hx
      rcases List.mem_append.mp hx with e | e
      · exact hs a (by simp) x e
      · exact hs b (by simp) x e
    · exact packQ_let l (j + 1) (fun x hx => hs x (by simp [hx])) q h
theorem levQ_let (C : List (Int × Int)) : ∀ k, ∀ q ∈ levQ C k, ∀ x ∈ q.2.2.2, x ∈ C.map (·.2)
  | 0, q, h => by simp [levQ] at h
  | k + 1, q, h => by
    rcases levQ_mem h with h | h
    · obtain ⟨x, hx, rfl⟩ := List.mem_map.mp h
      intro y hy
      have : y = x.2 := by simpa [coinQ] using hy
      rw [this]
      exact List.mem_map.mpr ⟨x, hx, rfl⟩
    · exact packQ_let _ _ (levQ_let C k) q h
theorem one_letter {ws : List Int} {l : Int} (h : (rawL ws).map (·.2) = [l]) : ∃ j : Nat, l = (j : Int) ∧ j < ws.length ∧ (List.replicate ws.length (0 : Int)).set j 1 = ws.map fun w => if 0 < w then 1 else 0 := by
  have hm : ∀ i : Nat, (i < ws.length ∧ 0 < wAt ws i) ↔ (i : Int) = l := fun i => by
    have h1 : (i : Int) ∈ (rawL ws).map (·.2) ↔ (i : Int) = l := by rw [h]; simp
    rw [← h1]
    constructor
    · intro ⟨a, b⟩
      exact List.mem_map.mpr ⟨(wAt ws i, (i : Int)), List.mem_map.mpr ⟨i, List.mem_filter.mpr ⟨by simpa using a, decide_eq_true b⟩, rfl⟩, rfl⟩
    · intro hx
      obtain ⟨y, hy, e⟩ := List.mem_map.mp hx
      obtain ⟨k, a, b, rfl⟩ := raw_mem hy
      have : k = i := by
        have e : (k : Int) = i := e
        omega
      rw [← this]
      exact ⟨a, b⟩
  have hl : l ∈ (rawL ws).map (·.2) := by rw [h]; simp
  obtain ⟨y, hy, e⟩ := List.mem_map.mp hl
  obtain ⟨k, a, b, rfl⟩ := raw_mem hy
  have e : (k : Int) = l := e
  refine ⟨k, e.symm, a, List.ext_getElem? fun i => ?_⟩
  by_cases hi : i < ws.length
  · have hw : wAt ws i = ws[i] := by
      unfold wAt
      rw [List.getD_eq_getElem?_getD]; rw [List.getElem?_eq_getElem hi]
      rfl
    have q := hm i
    rw [hw] at q
    by_cases ei : i = k
    · subst ei
      have q2 := (q.mpr e).2
      rw [List.getElem?_set_self (by simp [hi])]
      simp [hi, q2]
    · have q2 : ¬ 0 < ws[i] := fun z => ei (by have := q.mp ⟨hi, z⟩; omega)
      rw [List.getElem?_set_ne (fun z => ei z.symm)]
      simp [hi, q2]
  · rw [List.getElem?_eq_none (by simp; omega), List.getElem?_eq_none (by simp; omega)]
theorem ans_pl {ws : List Int} {n : Nat} (a : AskOk ws n) (h : (coinsL ws).length ≠ 1) : cnts ws.length ((plQ ((levQ (coinsL ws) n).take (2 * (coinsL ws).length - 2))).map Int.toNat) = ansL ws n := by
  have h1 := way_pl (a.good h) n 0 (by omega)
  have e : md ((coinsL ws).map (·.1)) n 0 = 2 * (coinsL ws).length - 2 := by simp [md]
  rw [e] at h1
  rw [ansL, if_neg h, a.letters h]
  exact cnts_perm h1
theorem bump_map {n l : Nat} {X : List Int} (h : l < n) : some (HO.lst ((List.map V.int (cnts n (X.map Int.toNat))).set l (V.int ((((X.map Int.toNat).count l : Nat) : Int) + 1)))) = some (HO.lst ((cnts n ((X ++ [(l : Int)]).map Int.toNat)).map V.int)) := by
  have e9 := cnts_bump (T := X.map Int.toNat) h
  rw [List.map_append]
  show _ = some (HO.lst ((cnts n (X.map Int.toNat ++ [l])).map V.int))
  rw [← e9, List.map_set]
abbrev NLL : List Str := ["_law_weights", "_law_bound", "_law_letter", "_law_letters", "_law_found", "_law_level", "_law_turn", "_law_pairs", "_law_one", "_law_weight", "_law_at", "_law_other"]
theorem scLL : FnScope NLL ["_law_weights", "_law_bound"] (defScope sLLeast) := ⟨rfl, rfl, rfl, by decide +kernel, rfl, by decide +kernel, by decide +kernel⟩
section
variable {P : Program} {w : World} {K : PySem.W.Frag} {mg : Str → Option Value} {base : Heap}
def spLL : Sp := fun vs H Q _ => ∃ (p : Addr) (ws : List Int) (n : Nat), vs = [.ref p, .int (n : Int)] ∧ H p = some (.lst (ws.map V.int)) ∧ AskOk ws n ∧
  ∀ H' q, Same H H' → H' q = some (.lst ((ansL ws n).map V.int)) → Q (.ref q) H'
theorem ok_ll {f : Addr} {fd : FuncData} {j : Nat} (F : Fun K "_law_least_lengths" "_law_least_lengths" sLLeast f fd) (m1 : mg "len" = none) (m2 : mg "enumerate" = none) (m3 : mg "range" = none) (m4 : mg "sorted" = none) : FnOk P w K mg base CX0 (j + 1) f fd ["_law_weights", "_law_bound"] spLL := by
  refine F.ok scLL (fun vs H Q E h => ?_) (fun cdv A outer s H vs Q E hr h => ?_)
  · obtain ⟨p, ws, n, rfl, _⟩ := h
    rfl
  · obtain ⟨p, ws, n, rfl, hp, hk, q⟩ := h
    refine ⟨_, pss_cons (ps_setLc (i := 3) (own := [("_law_letter", 2), ("_law_weight", 9)]) (g := gTup K 2 (gCons (gName 2) (gCons (gName 9) gNil))) rfl scLL.nd rfl rfl (sw_true rfl rfl rfl (by decide +kernel))
          (pi_enum (by rfl) m2 (pa_cons (pv 0) pa_nil)) (blkOk_by (N := NLL) (sc := defScope sLLeast) (by decide +kernel))
          (fun _ _ _ _ _ => pg_tup rfl (pgs_cons (pg_name (i := 2) scLL.nd rfl (.inl rfl)) (pgs_cons (pg_name (i := 9) scLL.nd rfl (.inl rfl)) pgs_nil)))
          (fun _ _ _ _ _ => pts_one (pt_cmpR op_gt (pv 9) pe_int (nomark _))) (fun _ _ _ _ _ => pv 2))
      (pss_cons (ps_set (i := 4) scLL.nd rfl (.inl rfl) (pe_op op_rep (pe_lst (pa_cons pe_int pa_nil)) (pe_callB call_len_seq (by rfl) m1 PySem.boot_len (pa_cons (pv 0) pa_nil))))
      (pss_cons (ps_if (pt_cmpR op_eq (pe_callB call_len_seq (by rfl) m1 PySem.boot_len (pa_cons (pv 3) pa_nil)) pe_int (nomark _))
        (pss_cons (ps_asg pe_int (pg_sub (pv 4) (pe_ix ix_list (pv 3) pe_int (fun _ _ => rfl)) set_list)) (pss_one (ps_ret (pv 4)))) pss_nil)
      (pss_cons (ps_set (i := 5) scLL.nd rfl (.inr rfl) (pe_lst pa_nil))
      (pss_cons (ps_for PassesOwn.never rfl (pi_range1 (by rfl) m3 (pa_cons (pv 1) pa_nil)) (pg_name (i := 6) scLL.nd rfl (.inl rfl))
        (pss_cons (ps_setLc (i := 7) (own := [("_law_at", 10)]) (g := gName 10) (tt := tYes) rfl scLL.nd rfl rfl (sw_true rfl rfl rfl (by decide +kernel))
          (pi_range3 (by rfl) m3 (pa_cons pe_int (pa_cons (pe_op op_sub (pe_callB call_len_seq (by rfl) m1 PySem.boot_len (pa_cons (pv 5) pa_nil)) pe_int) (pa_cons pe_int pa_nil)))) (blkOk_by (N := NLL) (sc := defScope sLLeast) (by decide +kernel))
          (fun _ _ _ _ _ => pg_name (i := 10) scLL.nd rfl (.inl rfl)) (fun _ _ _ _ _ => pts_nil)
          (fun _ _ _ _ _ => pe_tup (pa_cons (pe_ix (ixL K) (pv 5) (pv 10) (fun _ _ => rfl)) (pa_cons (pe_ix (ixL K) (pv 5) (pe_op op_add (pv 10) pe_int) (fun _ _ => rfl)) pa_nil))))
        (pss_cons (ps_setLc (i := 7) (own := [("_law_at", 10), ("_law_one", 8), ("_law_other", 11)]) (g := gTup K 2 (gCons (gName 10) (gCons (gTup K 2 (gCons (gName 8) (gCons (gName 11) gNil))) gNil))) (tt := tYes) rfl scLL.nd rfl rfl (sw_true rfl rfl rfl (by decide +kernel))
          (pi_enum (by rfl) m2 (pa_cons (pv 7) pa_nil)) (blkOk_by (N := NLL) (sc := defScope sLLeast) (by decide +kernel))
          (fun _ _ _ _ _ => pg_tup rfl (pgs_cons (pg_name (i := 10) scLL.nd rfl (.inl rfl)) (pgs_cons (pg_tup rfl (pgs_cons (pg_name (i := 8) scLL.nd rfl (.inl rfl)) (pgs_cons (pg_name (i := 11) scLL.nd rfl (.inl rfl)) pgs_nil))) pgs_nil))) (fun _ _ _ _ _ => pts_nil)
          (fun _ _ _ _ _ => pe_tup (pa_cons (pe_op op_add (pe_ix (ixT K) (pv 8) pe_int (fun _ _ => rfl)) (pe_ix (ixT K) (pv 11) pe_int (fun _ _ => rfl))) (pa_cons pe_int (pa_cons (pv 10) (pa_cons (pe_op op_cat (pe_ix (ixT K) (pv 8) pe_int (fun _ _ => rfl)) (pe_ix (ixT K) (pv 11) pe_int (fun _ _ => rfl))) pa_nil))))))
        (pss_one (ps_set (i := 5) scLL.nd rfl (.inr rfl) (pe_callB cr_sortedQ (by rfl) m4 (by decide +kernel) (pa_cons (pe_op op_cat (pe_lc (own := [("_law_letter", 2)]) (g := gName 2) (tt := tYes) rfl scLL.nd (pi_list (pv 3)) (blkOk_by (N := NLL) (sc := defScope sLLeast) (by decide +kernel))
          (fun _ _ _ _ _ => pg_name (i := 2) scLL.nd rfl (.inl rfl)) (fun _ _ _ _ _ => pts_nil)
          (fun _ _ _ _ _ => pe_tup (pa_cons (pe_ix (ixL K) (pv 0) (pv 2) (fun _ _ => rfl)) (pa_cons pe_int (pa_cons (pv 2) (pa_cons (pe_lst (pa_cons (pv 2) pa_nil)) pa_nil)))))) (pv 7)) pa_nil)))))))
      (pss_cons (ps_for PassesOwn.never rfl (pi_list (pe_slice sl_list (pv 5) po_none (po_some (pe_op op_sub (pe_op op_mul pe_int (pe_callB call_len_seq (by rfl) m1 PySem.boot_len (pa_cons (pv 3) pa_nil))) pe_int)))) (pg_name (i := 8) scLL.nd rfl (.inl rfl))
        (pss_one (ps_for PassesOwn.never rfl (pi_list (pe_ix ix_tup (pv 8) pe_int (fun _ _ => rfl))) (pg_name (i := 2) scLL.nd rfl (.inl rfl))
          (pss_one (ps_asg (pe_op op_add (pe_ix ix_list (pv 4) (pv 2) (fun _ _ => rfl)) pe_int) (pg_sub (pv 4) (pv 2) set_list))))))
      (pss_one (ps_ret (pv 4)))))))), ?_⟩
    have hlen := hk.len
    have hsome := hk.some
    have hn1 := hk.n1
    have hn12 := hk.n12
    have hll : ((rawL ws).map (·.2)).length = (coinsL ws).length := by rw [List.length_map, (coinsL_perm ws).length_eq]
    have hcl := coins_len ws
    -- letters
    refine ⟨_, rfl, p, _, rfl, .inl (.inl hp), fun lt nlt => ?_⟩
    refine lc_it (walk_enum (K := K) (a := p) (xs := ws.map V.int)) (fun i H' => Same H H' ∧ H' lt = some (.lst (((rawU ws i).map (·.2)).map V.int))) ⟨same_upd nlt, upd_same⟩ (fun i H' _ h => .inl (.inl (h.1 _ _ hp))) (fun i x H2 H3 hi h y => ?_) (fun H1 h => ?_)
    · obtain ⟨sm, hD⟩ := h
      obtain ⟨T0, x0, y0, rfl, nT0, rfl, e0, e1⟩ := y
      obtain rfl := Option.some.inj e0
      obtain ⟨rfl, hi2⟩ := enum_at e1
      refine ⟨T0, _, rfl, .inl (.inl upd_same), rfl, _, _, rfl, _, _, rfl, rfl, rfl, ?_⟩
      refine ⟨_, rfl, _, _, rfl, rfl, _, rfl, ?_⟩
      rw [rawU_succ]
      have sm2 : Same H2 (upd H2 T0 (.tup [.int (i : Nat), .int (wAt ws i)])) := same_upd nT0
      have hD2 := sm2 _ _ hD
      generalize upd H2 T0 (.tup [.int (i : Nat), .int (wAt ws i)]) = H3 at *
      refine ite2 (fun e => ?_) (fun e => ?_)
      · have hw : 0 < wAt ws i := of_decide_eq_true e
        rw [if_pos hw]
        refine ⟨_, rfl, _, hD2, ?_, same_put (sm.trans sm2) nlt, ?_⟩
        · rw [List.length_map, List.length_map]
          exact Nat.lt_of_le_of_lt (Nat.le_trans (rawU_len ws i) (show i ≤ 300 by omega)) (by decide)
        · rw [upd_same, List.map_append, List.map_append]
          rfl
      · have hw : ¬ 0 < wAt ws i := fun z => e (decide_eq_true z)
        rw [if_neg hw, List.append_nil]
        exact ⟨sm.trans sm2, hD2⟩
    obtain ⟨sm1, hlt⟩ := h
    rw [List.length_map] at hlt
    have hlt : H1 lt = some (.lst (((rawL ws).map (·.2)).map V.int)) := hlt
    have hp1 := sm1 _ _ hp
    -- found
    refine ⟨(by show 1 ≤ sizeLine; decide), fun z nz => ?_⟩
    have sm4 : Same H1 (upd H1 z (.lst [.int 0])) := same_upd nz
    have hz : (upd H1 z (.lst [.int 0])) z = some (.lst [.int 0]) := upd_same
    generalize upd H1 z (.lst [.int 0]) = H4 at *
    refine ⟨.ref p, rfl, p, _, rfl, .inl (.inl (.inl (sm4 _ _ hp1))), z, _, _, rfl, rfl, hz, ?_, ?_, ?_, fun fo nfo => ?_⟩
    · rw [List.length_map]; omega
    · rw [List.length_map]; omega
    · rw [List.length_map, Int.toNat_natCast]
      exact Nat.le_trans (show 1 * ws.length ≤ 300 by omega) (by decide)
    have sm5 : Same H4 (upd H4 fo (.lst (List.replicate (((ws.map V.int).length : Int)).toNat [V.int 0]).flatten)) := same_upd nfo
    have hfo : (upd H4 fo (.lst (List.replicate (((ws.map V.int).length : Int)).toNat [V.int 0]).flatten)) fo = some (.lst ((List.replicate ws.length (0 : Int)).map V.int)) := by
      rw [upd_same, List.length_map, Int.toNat_natCast, List.flatten_replicate_singleton, List.map_replicate]
    generalize upd H4 fo (.lst (List.replicate (((ws.map V.int).length : Int)).toNat [V.int 0]).flatten) = H5 at *
    have hHfo : H fo = none := by
      cases hh : H fo with
      | none => rfl
      | some o =>
        have := (sm1.trans sm4) _ _ hh
        rw [nfo] at this
        cases this
    have sm05 : Same H H5 := (sm1.trans sm4).trans sm5
    have hlt5 := sm5 _ _ (sm4 _ _ hlt)
    have hp5 := sm05 _ _ hp
    -- one letter
    refine ⟨.ref lt, rfl, lt, _, rfl, .inl (.inl (.inl hlt5)), rfl, _, rfl, ite2 (fun e => ?_) (fun e => ?_)⟩
    · have h1 : (coinsL ws).length = 1 := by
        have := V.int.inj (of_decide_eq_true e)
        rw [List.length_map, hll] at this
        omega
      obtain ⟨l, hl⟩ : ∃ l, (rawL ws).map (·.2) = [l] := List.length_eq_one_iff.mp (hll.trans h1)
      obtain ⟨j, rfl, hj, he⟩ := one_letter hl
      rw [hl] at hlt5
      refine ⟨.ref fo, rfl, .ref lt, rfl, lt, _, 0, .int (j : Int), rfl, rfl, .inl (.inl hlt5), rfl, fo, _, (j : Int), j, rfl, rfl, hfo, ?_, ?_⟩
      · rw [List.length_map, List.length_replicate]
        unfold ixN
        rw [if_pos (by omega), if_pos (by omega), Int.toNat_natCast]
      · refine ⟨.ref fo, rfl, q _ fo (same_put sm05 hHfo) ?_⟩
        rw [upd_same, ansL, if_pos h1, ← he, List.map_set]
    have h1 : (coinsL ws).length ≠ 1 := fun z => e (decide_eq_true (by rw [List.length_map, hll, z]; rfl))
    have hG := hk.good h1
    have hans := ans_pl hk h1
    -- level = []
    refine ⟨Nat.zero_le _, fun lv0 nlv0 => ?_⟩
    have sm6 : Same H5 (upd H5 lv0 (.lst [])) := same_upd nlv0
    have hlv0 : (upd H5 lv0 (.lst [])) lv0 = some (.lst []) := upd_same
    generalize upd H5 lv0 (.lst []) = H6 at *
    have hlt6 := sm6 _ _ hlt5
    have hfo6 := sm6 _ _ hfo
    have hp6 := sm6 _ _ hp5
    have sm06 := sm05.trans sm6
    refine ⟨_, rfl, n, rfl, (by omega), (by omega), ?_⟩
    refine for_range (lo := 0) (n := (n : Int).toNat) (fun i σ H' => ∃ (y6 y7 : Option V) (lv : Addr) (ts : List Addr), σ = [some (.ref p), some (.int (n : Int)), none, some (.ref lt), some (.ref fo), some (.ref lv), y6, y7, none, none, none, none] ∧ Same H6 H' ∧ H' lv = some (.lst (ts.map V.ref)) ∧ Quads [fo] H' ts (levQ (coinsL ws) i))
      ⟨none, none, lv0, [], rfl, Same.refl _, hlv0, Quads.nil⟩ (fun i σ H' hi h => ?_) (fun σ H' h => ?_)
    · obtain ⟨y6, y7, lv, ts, rfl, sm7, hlv, hts⟩ := h
      have hi12 : i < 12 := by omega
      have hw7 : (levQ (coinsL ws) i).length ≤ 2 * (coinsL ws).length := by
        rw [levQ_len hG.srt]
        have := W_len_le (C := (coinsL ws).map (·.1)) (by rw [List.length_map]; exact hsome) i
        rw [List.length_map] at this
        omega
      have hp7 := sm7 _ _ hp6
      have hlt7 := sm7 _ _ hlt6
      have hsz := levQ_sz (coinsL ws) i
      generalize hLQ : levQ (coinsL ws) i = L at *
      -- the pairs
      refine ⟨.ref lv, rfl, lv, _, rfl, .inl (.inl (.inl hlv)), _, _, rfl, rfl, 0, _, 2, L.length / 2, rfl, ?_, fun D nD => ?_⟩
      · rw [List.length_map, hts.1]
        exact rg_two (by omega)
      refine lc_it walk_rangeC (fun j H1 => Same H' H1 ∧ ∃ us : List Addr, H1 D = some (.lst (us.map V.ref)) ∧ us.length = j ∧ ∀ (k : Nat) (u : Addr), us[k]? = some u → ∃ t1 t2, ts[2 * k]? = some t1 ∧ ts[2 * k + 1]? = some t2 ∧ H1 u = some (.tup [.ref t1, .ref t2]))
        ⟨same_upd nD, [], upd_same, rfl, fun k u h => by simp at h⟩ (fun i H' _ h => trivial) (fun j x H1 H2 hj h y => ?_) (fun H8 h => ?_)
      · obtain ⟨rfl, rfl⟩ := y
        obtain ⟨sm, us, hD, hul, hu⟩ := h
        have g1 : 2 * j < ts.length := by rw [hts.1]; omega
        have g2 : 2 * j + 1 < ts.length := by rw [hts.1]; omega
        have a1 : (ts.map V.ref)[2 * j]? = some (.ref ts[2 * j]) := by rw [List.getElem?_map, List.getElem?_eq_getElem g1]; rfl
        have a2 : (ts.map V.ref)[2 * j + 1]? = some (.ref ts[2 * j + 1]) := by rw [List.getElem?_map, List.getElem?_eq_getElem g2]; rfl
        have hlvs : SqL K H2 lv (ts.map V.ref) := .inl (.inl (sm _ _ hlv))
        refine ⟨rfl, yes ?_⟩
        refine ⟨_, rfl, _, rfl, lv, _, _, _, rfl, rfl, hlvs, (show atI _ (0 + (j : Int) * 2) = some (.ref ts[2 * j]) by rw [show (0 + (j : Int) * 2) = ((2 * j : Nat) : Int) by omega]; exact atI_nat a1), ?_⟩
        refine ⟨_, rfl, _, rfl, _, _, rfl, rfl, lv, _, _, _, rfl, rfl, hlvs, (show atI _ (0 + (j : Int) * 2 + 1) = some (.ref ts[2 * j + 1]) by rw [show (0 + (j : Int) * 2 + 1) = ((2 * j + 1 : Nat) : Int) by omega]; exact atI_nat a2), (by show 2 ≤ sizeLine; decide), fun T nT => ?_⟩
        have smT : Same H2 (upd H2 T (.tup [.ref ts[2 * j], .ref ts[2 * j + 1]])) := same_upd nT
        have hDT := smT _ _ hD
        have hTT : (upd H2 T (.tup [.ref ts[2 * j], .ref ts[2 * j + 1]])) T = some (.tup [.ref ts[2 * j], .ref ts[2 * j + 1]]) := upd_same
        generalize upd H2 T (.tup [.ref ts[2 * j], .ref ts[2 * j + 1]]) = H3 at *
        refine ⟨_, hDT, ?_, same_put (sm.trans smT) nD, us ++ [T], ?_, by simp [hul], fun k u hk => ?_⟩
        · rw [List.length_map, hul]
          exact small1000 (by omega)
        · rw [upd_same, List.map_append]
          rfl
        · have keepT : ∀ b xs, H3 b = some (.tup xs) → (upd H3 D (.lst (us.map V.ref ++ [.ref T]))) b = some (.tup xs) := fun b xs hb => by
            rw [upd_ne (fun z => by rw [z, hDT] at hb; cases hb)]
            exact hb
          by_cases ek : k < us.length
          · rw [List.getElem?_append_left ek] at hk
            obtain ⟨t1, t2, b1, b2, b3⟩ := hu k u hk
            exact ⟨t1, t2, b1, b2, keepT _ _ (smT _ _ b3)⟩
          · have e : k = us.length := by
              have := (List.getElem?_eq_some_iff.mp hk).1
              simp at this
              omega
            rw [e, List.getElem?_append_right (Nat.le_refl _)] at hk
            simp at hk
            rw [e, hul]
            exact ⟨_, _, List.getElem?_eq_getElem g1, List.getElem?_eq_getElem g2, by rw [← hk]; exact keepT _ _ hTT⟩
      · obtain ⟨sm8, us, hD, hul, hu⟩ := h
        have hfo8 := sm8 _ _ (sm7 _ _ hfo6)
        have hts8 := hts.same sm8
        -- the packages
        refine ⟨_, rfl, D, _, rfl, .inl (.inl hD), fun D2 nD2 => ?_⟩
        have hD2fo : fo ≠ D2 := ne_of_none hfo8 nD2
        refine lc_it (walk_enum (K := K) (a := D) (xs := us.map V.ref)) (fun j H1 => Same H8 H1 ∧ ∃ vs : List Addr, H1 D2 = some (.lst (vs.map V.ref)) ∧ Quads [D2, fo] H1 vs ((packQ 0 L).take j))
          ⟨same_upd nD2, [], upd_same, by rw [List.take_zero]; exact Quads.nil⟩ (fun i H1 _ h => .inl (.inl (h.1 _ _ hD))) (fun j x H1 H2 hj h y => ?_) (fun H9 h => ?_)
        · obtain ⟨sm, vs', hD2, hv⟩ := h
          obtain ⟨T0, x0, y0, rfl, nT0, rfl, e0, e1⟩ := y
          obtain rfl := Option.some.inj e0
          rw [List.length_map, hul] at hj
          have hju : j < us.length := by omega
          have e1 : (us.map V.ref)[j]? = some y0 := e1
          rw [List.getElem?_map, List.getElem?_eq_getElem hju] at e1
          obtain rfl : V.ref us[j] = y0 := Option.some.inj e1
          obtain ⟨t1, t2, b1, b2, b3⟩ := hu j _ (List.getElem?_eq_getElem hju)
          have g1 : 2 * j < L.length := by omega
          have g2 : 2 * j + 1 < L.length := by omega
          obtain ⟨p1, pa1, c1, _, _, c2, c3⟩ := hts8.get (List.getElem?_eq_getElem g1)
          obtain ⟨p2, pa2, d1, _, _, d2, d3⟩ := hts8.get (List.getElem?_eq_getElem g2)
          rw [b1] at c1
          cases c1
          rw [b2] at d1
          cases d1
          have smT : Same H1 (upd H1 T0 (.tup [.int (j : Nat), .ref us[j]])) := same_upd nT0
          have hTT : (upd H1 T0 (.tup [.int (j : Nat), .ref us[j]])) T0 = some (.tup [.int (j : Nat), .ref us[j]]) := upd_same
          generalize upd H1 T0 (.tup [.int (j : Nat), .ref us[j]]) = H2 at *
          have smA := sm.trans smT
          have hs1 := hsz _ (List.getElem_mem g1)
          have hs2 := hsz _ (List.getElem_mem g2)
          have hpg := packQ_get L 0 j _ _ (List.getElem?_eq_getElem g1) (List.getElem?_eq_getElem g2)
          rw [Nat.zero_add] at hpg
          have hvl := hv.1
          rw [List.length_take, packQ_len] at hvl
          generalize L[2 * j] = q1 at *
          generalize L[2 * j + 1] = q2 at *
          refine ⟨T0, _, rfl, .inl (.inl hTT), rfl, _, _, rfl, _, _, rfl, ⟨us[j], _, rfl, .inl (.inl (smA _ _ b3)), rfl, _, _, rfl, _, _, rfl, rfl, rfl, rfl, yes ?_⟩⟩
          refine ⟨_, rfl, t1, _, 0, _, rfl, rfl, .inl (.inl (smA _ _ c2)), rfl, _, rfl, t2, _, 0, _, rfl, rfl, .inl (.inl (smA _ _ d2)), rfl, _, _, rfl, rfl, _, rfl, ?_⟩
          refine ⟨_, rfl, t1, _, 3, _, rfl, rfl, .inl (.inl (smA _ _ c2)), rfl, _, rfl, t2, _, 3, _, rfl, rfl, .inl (.inl (smA _ _ d2)), rfl, ?_⟩
          refine ⟨pa1, pa2, _, _, rfl, rfl, smA _ _ c3, smA _ _ d3, ?_, fun a na => ?_⟩
          · rw [List.length_map, List.length_map]
            have : 2 ^ i ≤ 2 ^ 12 := Nat.pow_le_pow_right (by decide) (by omega)
            exact Nat.le_trans (show _ ≤ 2 ^ 12 + 2 ^ 12 by omega) (by decide)
          · have smB : Same H2 (upd H2 a (.lst (q1.2.2.2.map V.int ++ q2.2.2.2.map V.int))) := same_upd na
            have haa : (upd H2 a (.lst (q1.2.2.2.map V.int ++ q2.2.2.2.map V.int))) a = some (.lst ((q1.2.2.2 ++ q2.2.2.2).map V.int)) := by rw [upd_same, List.map_append]
            have hD2B := smB _ _ (smT _ _ hD2)
            have hfoB := smB _ _ (smA _ _ hfo8)
            have n1 : a ≠ D2 := fun z => by have := smT _ _ hD2; rw [← z, na] at this; cases this
            have n2 : a ≠ fo := fun z => by have := smA _ _ hfo8; rw [← z, na] at this; cases this
            generalize upd H2 a (.lst (q1.2.2.2.map V.int ++ q2.2.2.2.map V.int)) = H3 at *
            refine ⟨(by show 4 ≤ sizeLine; decide), fun T1 nT1 => ?_⟩
            have smC : Same H3 (upd H3 T1 (.tup [.int (q1.1 + q2.1), .int 1, .int (j : Nat), .ref a])) := same_upd nT1
            have hT1 : (upd H3 T1 (.tup [.int (q1.1 + q2.1), .int 1, .int (j : Nat), .ref a])) T1 = some (.tup [.int (q1.1 + q2.1), .int 1, .int (j : Nat), .ref a]) := upd_same
            generalize upd H3 T1 (.tup [.int (q1.1 + q2.1), .int 1, .int (j : Nat), .ref a]) = H4' at *
            have hD2C := smC _ _ hD2B
            refine ⟨_, hD2C, ?_, same_put ((smA.trans smB).trans smC) nD2, vs' ++ [T1], ?_, ?_⟩
            · rw [List.length_map, hvl]
              exact small1000 (by omega)
            · rw [upd_same, List.map_append]
              rfl
            · rw [List.take_add_one, hpg]
              refine Quads.put (Quads.snoc (((hv.same smT).same smB).same smC) (a := a) (fun b hb => ?_) hT1 (smC _ _ haa)) (by simp) hD2C
              rcases (List.mem_cons.mp hb) with (e | e)
              · rw [e]; exact n1
              · rw [List.mem_singleton.mp e]; exact n2
        · obtain ⟨sm9, vs', hD2, hv⟩ := h
          rw [List.length_map, hul, List.take_of_length_le (by rw [packQ_len]; exact Nat.le_refl _)] at hv
          have hv9 := hv.less
          have hlt9 := sm9 _ _ (sm8 _ _ hlt7)
          have hp9 := sm9 _ _ (sm8 _ _ hp7)
          have hfo9 := sm9 _ _ hfo8
          -- the coins
          refine ⟨_, rfl, lt, rfl, ⟨_, .inl (.inl hlt9)⟩, fun D3 nD3 => ?_⟩
          have hD3fo : fo ≠ D3 := ne_of_none hfo9 nD3
          refine lc_list (K := K) (a := lt) (xs := ((rawL ws).map (·.2)).map V.int) (fun j H1 => Same H9 H1 ∧ ∃ vs : List Addr, H1 D3 = some (.lst (vs.map V.ref)) ∧ Quads [D3, fo] H1 vs (((rawL ws).take j).map coinQ))
            ⟨same_upd nD3, [], upd_same, by rw [List.take_zero]; exact Quads.nil⟩ (fun j H1 _ h => .inl (.inl (h.1 _ _ hlt9))) (fun j x H1 hx h => ?_) (fun H10 h => ?_)
          · obtain ⟨sm, vs3, hD3, hv3⟩ := h
            obtain ⟨x, rfl, hx'⟩ := int_of hx
            rw [List.getElem?_map] at hx'
            obtain ⟨y, hy, rfl⟩ : ∃ y, (rawL ws)[j]? = some y ∧ y.2 = x := by
              cases e : (rawL ws)[j]? with
              | none => rw [e] at hx'; cases hx'
              | some y => rw [e] at hx'; exact ⟨y, rfl, Option.some.inj hx'⟩
            obtain ⟨l, hl, _, rfl⟩ := raw_mem (List.mem_of_getElem? hy)
            have hgl : (ws.map V.int)[l]? = some (.int (wAt ws l)) := by
              unfold wAt
              rw [List.getElem?_map, List.getElem?_eq_getElem hl, List.getD_eq_getElem?_getD, List.getElem?_eq_getElem hl]
              rfl
            refine ⟨rfl, yes ?_⟩
            refine ⟨_, rfl, _, rfl, p, _, _, _, rfl, rfl, .inl (.inl (sm _ _ hp9)), atI_nat hgl, _, rfl, _, rfl, (by show 1 ≤ sizeLine; decide), fun a na => ?_⟩
            have smB : Same H1 (upd H1 a (.lst [.int (l : Int)])) := same_upd na
            have haa : (upd H1 a (.lst [.int (l : Int)])) a = some (.lst ([(l : Int)].map V.int)) := upd_same
            have n1 : a ≠ D3 := fun z => by rw [← z, na] at hD3; cases hD3
            have n2 : a ≠ fo := fun z => by have := sm _ _ hfo9; rw [← z, na] at this; cases this
            have hD3B := smB _ _ hD3
            generalize upd H1 a (.lst [.int (l : Int)]) = H3 at *
            refine ⟨(by show 4 ≤ sizeLine; decide), fun T1 nT1 => ?_⟩
            have smC : Same H3 (upd H3 T1 (.tup [.int (wAt ws l), .int 0, .int (l : Int), .ref a])) := same_upd nT1
            have hT1 : (upd H3 T1 (.tup [.int (wAt ws l), .int 0, .int (l : Int), .ref a])) T1 = some (.tup [.int (wAt ws l), .int 0, .int (l : Int), .ref a]) := upd_same
            generalize upd H3 T1 (.tup [.int (wAt ws l), .int 0, .int (l : Int), .ref a]) = H4' at *
            have hD3C := smC _ _ hD3B
            refine ⟨_, hD3C, ?_, same_put ((sm.trans smB).trans smC) nD3, vs3 ++ [T1], ?_, ?_⟩
            · rw [List.length_map, hv3.1, List.length_map, List.length_take]
              exact small1000 (by have := rawU_len ws ws.length; unfold rawL; omega)
            · rw [upd_same, List.map_append]
              rfl
            · rw [List.take_add_one, hy, List.map_append]
              refine Quads.put (Quads.snoc ((hv3.same smB).same smC) (a := a) (q := coinQ (wAt ws l, (l : Int))) (fun b hb => ?_) hT1 (smC _ _ haa)) (by simp) hD3C
              rcases (List.mem_cons.mp hb) with (e | e)
              · rw [e]; exact n1
              · rw [List.mem_singleton.mp e]; exact n2
          · obtain ⟨sm10, vs3, hD3, hv3⟩ := h
            rw [List.length_map, List.length_map, List.take_length] at hv3
            have hv10 := hv3.less.app (hv9.same sm10)
            have hD210 := sm10 _ _ hD2
            refine ⟨_, rfl, D3, D2, _, _, rfl, rfl, hD3, hD210, ?_, fun D4 nD4 => ?_⟩
            · rw [List.length_map, List.length_map, hv3.1, hv9.1, List.length_map, packQ_len]
              have := rawU_len ws ws.length
              exact Nat.le_trans (show _ ≤ 10000 by unfold rawL; omega) (by decide)
            · have hD4 : (upd H10 D4 (.lst (vs3.map V.ref ++ vs'.map V.ref))) D4 = some (.lst ((vs3 ++ vs').map V.ref)) := by rw [upd_same, List.map_append]
              have sm11 : Same H10 (upd H10 D4 (.lst (vs3.map V.ref ++ vs'.map V.ref))) := same_upd nD4
              have hv11 := hv10.same sm11
              generalize upd H10 D4 (.lst (vs3.map V.ref ++ vs'.map V.ref)) = H11 at *
              have hperm : ((rawL ws).map coinQ ++ packQ 0 L).Perm ((coinsL ws).map coinQ ++ packQ 0 L) := (((coinsL_perm ws).symm.map coinQ)).append_right _
              have hnd : (((rawL ws).map coinQ ++ packQ 0 L).map kQ).Nodup := (hperm.map kQ).nodup_iff.mpr (allQ_nodup ws L)
              have hat : ∀ v ∈ (vs3 ++ vs').map V.ref, ∃ (i : Nat) (t a : Addr) (q : Q4), v = .ref t ∧ (vs3 ++ vs')[i]? = some t ∧ ((rawL ws).map coinQ ++ packQ 0 L)[i]? = some q ∧ H11 t = some (.tup [.int q.1, .int q.2.1, .int q.2.2.1, .ref a]) := fun v hv => by
                obtain ⟨t, ht, rfl⟩ := List.mem_map.mp hv
                obtain ⟨i, hi⟩ := List.mem_iff_getElem?.mp ht
                have hi2 : i < ((rawL ws).map coinQ ++ packQ 0 L).length := by rw [← hv11.1]; exact (List.getElem?_eq_some_iff.mp hi).1
                obtain ⟨a, _, a1, _⟩ := hv11.2 i t _ hi (List.getElem?_eq_getElem hi2)
                exact ⟨i, t, a, _, rfl, hi, List.getElem?_eq_getElem hi2, a1⟩
              refine ⟨D4, _, kOfQ H11, rfl, .inl (.inl hD4), fun v hv => ?_, fun v hv u hu e => ?_, fun ys D5 hys hpm nD5 => ?_⟩
              · obtain ⟨i, t, a, q, rfl, _, _, h4⟩ := hat v hv
                refine ⟨t, a, rfl, ?_⟩
                rw [kOfQ_at h4]
                exact h4
              · obtain ⟨i, t, a, q, rfl, h2, h3, h4⟩ := hat v hv
                obtain ⟨i', t', a', q', rfl, h2', h3', h4'⟩ := hat u hu
                rw [kOfQ_at h4, kOfQ_at h4'] at e
                have g1 : (((rawL ws).map coinQ ++ packQ 0 L).map kQ)[i]? = some (kQ q) := by rw [List.getElem?_map, h3]; rfl
                have g2 : (((rawL ws).map coinQ ++ packQ 0 L).map kQ)[i']? = some (kQ q) := by rw [List.getElem?_map, h3', e]; rfl
                have := (List.getElem?_inj (List.getElem?_eq_some_iff.mp g1).1 hnd).mp (g1.trans g2.symm)
                subst this
                rw [h2] at h2'
                cases h2'
                rfl
              · obtain ⟨us5, ls5, rfl, hpl, hq5⟩ := hv11.perm hpm
                have hs5 : ls5.Pairwise fun a b => leQ a b = true := by
                  have hys' : (us5.map V.ref).Pairwise fun x y => ltQ (kOfQ H11) y x = false := hys
                  rw [List.pairwise_iff_getElem] at hys' ⊢
                  intro i1 i2 h1 h2 h12
                  have e1 : i1 < us5.length := by rw [hq5.1]; exact h1
                  have e2 : i2 < us5.length := by rw [hq5.1]; exact h2
                  have := hys' i1 i2 (by rw [List.length_map]; exact e1) (by rw [List.length_map]; exact e2) h12
                  obtain ⟨a1, _, b1, _⟩ := hq5.2 i1 _ _ (List.getElem?_eq_getElem e1) (List.getElem?_eq_getElem h1)
                  obtain ⟨a2, _, b2, _⟩ := hq5.2 i2 _ _ (List.getElem?_eq_getElem e2) (List.getElem?_eq_getElem h2)
                  rw [List.getElem_map, List.getElem_map] at this
                  simp only [ltQ] at this
                  rw [kOfQ_at b1, kOfQ_at b2] at this
                  simp only [leQ, this]
                  rfl
                have hfin : ls5 = levQ (coinsL ws) (i + 1) := by
                  refine levQ_uniq hG.srt ?_ hs5
                  rw [hLQ]
                  exact hpl.trans hperm
                rw [hfin] at hq5
                refine ⟨_, _, D5, us5, rfl, ?_, upd_same, hq5.same (same_upd nD5)⟩
                exact ((((sm7.trans sm8).trans sm9).trans sm10).trans sm11).trans (same_upd nD5)
    · obtain ⟨y6, y7, lv, ts, rfl, sm7, hlv, hts⟩ := h
      rw [Int.toNat_natCast] at hts
      have hlt7 := sm7 _ _ hlt6
      have hfo7 := sm7 _ _ hfo6
      have hlet := levQ_let (coinsL ws) n
      have hsz := levQ_sz (coinsL ws) n
      have hw7 : (levQ (coinsL ws) n).length ≤ 2 * (coinsL ws).length := by
        rw [levQ_len hG.srt]
        have := W_len_le (C := (coinsL ws).map (·.1)) (by rw [List.length_map]; exact hsome) n
        rw [List.length_map] at this
        omega
      have hlok : ∀ q ∈ levQ (coinsL ws) n, ∀ x ∈ q.2.2.2, ∃ l : Nat, x = (l : Int) ∧ l < ws.length := fun q hq x hx => by
        obtain ⟨y, hy, rfl⟩ := List.mem_map.mp (hlet q hq x hx)
        obtain ⟨l, h1, _, rfl⟩ := coins_mem hy
        exact ⟨l, rfl, h1⟩
      generalize levQ (coinsL ws) n = L at *
      -- level[: ..]
      refine ⟨.ref lv, rfl, .ref lt, rfl, lt, _, rfl, .inl (.inl (.inl hlt7)), _, _, rfl, rfl, .inl ⟨by decide, by decide⟩, _, _, rfl, rfl, _, rfl, lv, _, rfl, .inl (.inl hlv), fun sl nsl => ?_⟩
      have em : (2 * ((((rawL ws).map (·.2)).map V.int).length : Int) - 2) = ((2 * (coinsL ws).length - 2 : Nat) : Int) := by
        rw [List.length_map, hll]; omega
      have hsl : (upd H' sl (.lst (cutV (ts.map V.ref) none (some (2 * ((((rawL ws).map (·.2)).map V.int).length : Int) - 2))))) sl = some (.lst ((ts.take (2 * (coinsL ws).length - 2)).map V.ref)) := by
        rw [upd_same, em, cut_to, List.map_take]
      have smS : Same H' (upd H' sl (.lst (cutV (ts.map V.ref) none (some (2 * ((((rawL ws).map (·.2)).map V.int).length : Int) - 2))))) := same_upd nsl
      have hq8 := (hts.same smS).take (2 * (coinsL ws).length - 2)
      have hfo8 := smS _ _ hfo7
      have nslfo : sl ≠ fo := fun z => by rw [← z, nsl] at hfo7; cases hfo7
      generalize upd H' sl (.lst (cutV (ts.map V.ref) none (some (2 * ((((rawL ws).map (·.2)).map V.int).length : Int) - 2)))) = H8 at *
      have hq9 : ∀ q ∈ L.take (2 * (coinsL ws).length - 2), q ∈ L := fun q hq => List.mem_of_mem_take hq
      generalize L.take (2 * (coinsL ws).length - 2) = M at *
      generalize ts.take (2 * (coinsL ws).length - 2) = us at *
      have sm08 : Same H H8 := (sm06.trans sm7).trans smS
      refine ⟨sl, rfl, ⟨_, .inl (.inl hsl)⟩, ?_⟩
      refine for_list (K := K) (a := sl) (xs := us.map V.ref) (fun i σ H1 => ∃ (y2 y8 : Option V), σ = [some (.ref p), some (.int (n : Int)), y2, some (.ref lt), some (.ref fo), some (.ref lv), y6, y7, y8, none, none, none] ∧ Same H H1 ∧ H1 sl = some (.lst (us.map V.ref)) ∧ Quads [fo] H1 us M ∧ H1 fo = some (.lst ((cnts ws.length ((plQ (M.take i)).map Int.toNat)).map V.int)))
        ⟨none, none, rfl, sm08, hsl, hq8, by rw [hfo8, List.take_zero]; show _ = some (HO.lst ((cnts ws.length []).map V.int)); rw [cnts_nil]⟩ (fun i σ H1 _ h => ?_) (fun i x σ H1 hx h => ?_) (fun σ H1 h => ?_)
      · obtain ⟨_, _, _, _, h, _⟩ := h
        exact .inl (.inl h)
      · obtain ⟨y2, y8, rfl, sm, hs, hq, hf⟩ := h
        have hi : i < us.length := by
          have := (List.getElem?_eq_some_iff.mp hx).1
          rwa [List.length_map] at this
        rw [List.getElem?_map, List.getElem?_eq_getElem hi] at hx
        obtain rfl : V.ref us[i] = x := Option.some.inj hx
        have hi2 : i < M.length := by rw [← hq.1]; exact hi
        obtain ⟨a, a0, a1, a2⟩ := hq.2 i _ _ (List.getElem?_eq_getElem hi) (List.getElem?_eq_getElem hi2)
        have hok := hlok M[i] (hq9 _ (List.getElem_mem hi2))
        have hpl : plQ (M.take (i + 1)) = plQ (M.take i) ++ M[i].2.2.2 := by
          rw [List.take_add_one, List.getElem?_eq_getElem hi2, plQ_app]
          simp [plQ]
        rw [hpl]
        generalize M[i] = qd at *
        refine ⟨_, rfl, us[i], _, 3, _, rfl, rfl, .inl (.inl a1), rfl, a, rfl, ⟨_, .inl (.inl a2)⟩, ?_⟩
        refine for_list (K := K) (a := a) (xs := qd.2.2.2.map V.int) (fun j σ H2 => ∃ (y2 : Option V), σ = [some (.ref p), some (.int (n : Int)), y2, some (.ref lt), some (.ref fo), some (.ref lv), y6, y7, some (.ref us[i]), none, none, none] ∧ Same H H2 ∧ H2 sl = some (.lst (us.map V.ref)) ∧ Quads [fo] H2 us M ∧ H2 a = some (.lst (qd.2.2.2.map V.int)) ∧ H2 fo = some (.lst ((cnts ws.length ((plQ (M.take i) ++ qd.2.2.2.take j).map Int.toNat)).map V.int)))
          ⟨y2, rfl, sm, hs, hq, a2, by rw [List.take_zero, List.append_nil]; exact hf⟩ (fun j σ H2 _ h => ?_) (fun j x σ H2 hx h => ?_) (fun σ H2 h => ?_)
        · obtain ⟨_, _, _, _, _, h, _⟩ := h
          exact .inl (.inl h)
        · obtain ⟨y2', rfl, sm', hs', hq', ha', hf'⟩ := h
          obtain ⟨x, rfl, hx'⟩ := int_of hx
          obtain ⟨l, rfl, hl⟩ := hok x (List.mem_of_getElem? hx')
          have hget : ((cnts ws.length ((plQ (M.take i) ++ qd.2.2.2.take j).map Int.toNat)).map V.int)[l]? = some (.int (((plQ (M.take i) ++ qd.2.2.2.take j).map Int.toNat).count l : Nat)) := by
            rw [List.getElem?_map, cnts_get hl]
            rfl
          refine ⟨.ref fo, rfl, .int (l : Int), rfl, fo, _, _, _, rfl, rfl, .inl (.inl hf'), atI_nat hget, _, _, rfl, rfl, .ref fo, rfl, .int (l : Int), rfl, fo, _, (l : Int), l, rfl, rfl, hf', ?_, ?_⟩
          · rw [List.length_map, cnts_len]
            unfold ixN
            rw [if_pos (by omega), if_pos (by omega), Int.toNat_natCast]
          · refine ⟨some (.int (l : Int)), rfl, same_put sm' hHfo, ?_, hq'.put (by simp) hf', ?_, ?_⟩
            · rw [upd_ne nslfo]
              exact hs'
            · rw [upd_ne (a0 fo (by simp))]
              exact ha'
            · rw [upd_same, List.take_add_one, hx', ← List.append_assoc]
              exact bump_map hl
        · obtain ⟨y2', rfl, sm', hs', hq', ha', hf'⟩ := h
          rw [List.length_map, List.take_length] at hf'
          exact ⟨y2', some (.ref us[i]), rfl, sm', hs', hq', hf'⟩
      · obtain ⟨y2, y8, rfl, sm, hs, hq, hf⟩ := h
        rw [List.length_map, hq.1, List.take_length, hans] at hf
        exact ⟨.ref fo, rfl, q H1 fo sm hf⟩
end
end K2

namespace K2
open PySem PySem.Spec PyProof.Rows L2
/-! ### the search's table -/
abbrev Tab := List (List Key × V)
def key (a b : Nat) : List Key := [.inl (a : Int), .inl (b : Int)]
theorem key_inj {a b c d : Nat} (h : key a b = key c d) : a = c ∧ b = d := by
  simp only [key, List.cons.injEq, Sum.inl.injEq] at h
  omega
theorem key_kV (a b : Nat) : (key a b).map kV = [.int (a : Int), .int (b : Int)] := rfl
theorem putK_mem {kvs : Tab} {k : List Key} {v : V} {e : List Key × V} (h : e ∈ putK kvs k v) : e = (k, v) ∨ e ∈ kvs := by
  unfold putK at h
  split at h
  · obtain ⟨x, hx, rfl⟩ := List.mem_map.mp h
    by_cases q : x.1 = k
    · rw [if_pos q, q]; exact .inl rfl
    · rw [if_neg q]; exact .inr hx
  · rcases (List.mem_append.mp h) with (h | h)
    · exact .inr h
    · exact .inl (List.mem_singleton.mp h)
theorem putK_keys {kvs : Tab} {k : List Key} {v : V} : (putK kvs k v).map (·.1) = if (kvs.any fun kv => decide (kv.1 = k)) = true then kvs.map (·.1) else kvs.map (·.1) ++ [k] := by
  unfold putK
  split
  · rw [List.map_map]
    refine (List.map_congr_left fun x _ => ?_)
    show (if x.1 = k then (x.1, v) else x).1 = x.1
    split <;> rfl
  · simp
theorem putK_nodup {kvs : Tab} {k : List Key} {v : V} (h : (kvs.map (·.1)).Nodup) : ((putK kvs k v).map (·.1)).Nodup := by
  rw [putK_keys]
  split
  · exact h
  · rename_i q
    refine List.nodup_append.mpr ⟨h, by simp, fun a ha b hb e => q ?_⟩
    rw [List.mem_singleton.mp hb] at e
    obtain ⟨x, hx, hx2⟩ := List.mem_map.mp ha
    exact List.any_eq_true.mpr ⟨x, hx, decide_eq_true (hx2.trans e)⟩
theorem nodup_lt : ∀ (N : Nat) (l : List Nat), l.Nodup → (∀ x ∈ l, x < N) → l.length ≤ N
  | 0, l, _, h => by
    cases l with
    | nil => simp
    | cons x l => exact absurd (h x (by simp)) (by omega)
  | N + 1, l, nd, h => by
    have h1 := nodup_lt N (l.filter fun x => decide (x ≠ N)) (nd.sublist List.filter_sublist) (fun x hx => by
      obtain ⟨a, b⟩ := List.mem_filter.mp hx
      have := h x a
      have := of_decide_eq_true b
      omega)
    have h2 : l.length = (l.filter fun x => decide (x ≠ N)).length + l.count N := by
      have e : l.count N = (l.filter fun x => !decide (x ≠ N)).length := by
        rw [List.count_eq_length_filter]
        congr 1
        refine (List.filter_congr fun x _ => ?_)
        by_cases q : x = N <;> simp [q]
      rw [e]
      clear e nd h h1
      induction l with
      | nil => rfl
      | cons x l ih =>
        rw [List.filter_cons]; rw [List.filter_cons]
        by_cases q : x = N <;> simp [q] at ih ⊢ <;> omega
    have h3 : l.count N ≤ 1 := List.nodup_iff_count.mp nd N
    omega
def keyCode : List Key → Nat
  | [.inl a, .inl b] => a.toNat * 1000 + b.toNat
  | _ => 0
/-- the table at step d -/
structure TabOk (C : List Int) (L d : Nat) (kvs : Tab) : Prop where
  ent : ∀ e ∈ kvs, ∃ (a b : Nat) (c : Int), e = (key a b, .int c) ∧ a ≤ C.length ∧ b ≤ 2 * C.length ∧ Low C L d a b c
  nd : (kvs.map (·.1)).Nodup
theorem TabOk.len {C : List Int} {L d : Nat} {kvs : Tab} (h : TabOk C L d kvs) (hC : C.length ≤ 300) : kvs.length ≤ 400000 := by
  have h1 : ((kvs.map (·.1)).map keyCode).Nodup := by
    have := h.nd
    rw [List.Nodup, List.pairwise_map, List.pairwise_map]
    rw [List.Nodup, List.pairwise_map] at this
    refine List.Pairwise.imp_of_mem (fun {x y} hx hy q z => q ?_) this
    obtain ⟨a, b, c, rfl, h2, h3, _⟩ := h.ent x hx
    obtain ⟨a', b', c', rfl, h4, h5, _⟩ := h.ent y hy
    have z : (a : Int).toNat * 1000 + (b : Int).toNat = (a' : Int).toNat * 1000 + (b' : Int).toNat := z
    rw [Int.toNat_natCast, Int.toNat_natCast, Int.toNat_natCast, Int.toNat_natCast] at z
    have : a = a' ∧ b = b' := by omega
    rw [this.1, this.2]
  have h2 := nodup_lt 400000 _ h1 (fun x hx => by
    obtain ⟨k, hk, rfl⟩ := List.mem_map.mp hx
    obtain ⟨e, he, rfl⟩ := List.mem_map.mp hk
    obtain ⟨a, b, c, rfl, h2, h3, _⟩ := h.ent e he
    show (a : Int).toNat * 1000 + (b : Int).toNat < 400000
    rw [Int.toNat_natCast, Int.toNat_natCast]
    omega)
  simpa using h2
theorem TabOk.put {C : List Int} {L d a b : Nat} {kvs : Tab} {c : Int} (h : TabOk C L d kvs) (ha : a ≤ C.length) (hb : b ≤ 2 * C.length) (hl : Low C L d a b c) : TabOk C L d (putK kvs (key a b) (.int c)) := by
  refine ⟨fun e he => ?_, putK_nodup h.nd⟩
  rcases putK_mem he with rfl | q
  · exact ⟨a, b, c, rfl, ha, hb, hl⟩
  · exact h.ent e q
theorem val_mem {kvs : Tab} {k : List Key} {v : V} (h : valV kvs k = some v) : (k, v) ∈ kvs := by
  unfold valV at h
  cases e : kvs.find? (fun kv => decide (kv.1 = k)) with
  | none => (rw [e] at h); (cases h)
  | some p =>
    rw [e] at h
    have h1 := List.find?_some e
    have h2 := List.mem_of_find?_eq_some e
    obtain ⟨p1, p2⟩ := p
    have e1 : p1 = k := of_decide_eq_true h1
    have e2 : p2 = v := Option.some.inj h
    rw [← e1, ← e2]
    exact h2
theorem mem_val {kvs : Tab} {k : List Key} {v : V} (nd : (kvs.map (·.1)).Nodup) (h : (k, v) ∈ kvs) : valV kvs k = some v := by
  induction kvs with
  | nil => simp at h
  | cons p r ih =>
    have n1 := List.nodup_cons.mp nd
    rcases (List.mem_cons.mp h) with (e | e)
    · rw [← e, valV_pos rfl]
    · have ne : ¬ p.1 = k := fun z => n1.1 (List.mem_map.mpr ⟨(k, v), e, z.symm⟩)
      rw [valV_neg ne, ih n1.2 e]
theorem TabOk.val {C : List Int} {L d a b : Nat} {kvs : Tab} {v : V} (h : TabOk C L d kvs) (hv : valV kvs (key a b) = some v) : ∃ c, v = .int c ∧ a ≤ C.length ∧ b ≤ 2 * C.length ∧ Low C L d a b c := by
  obtain ⟨a', b', c, e, h1, h2, h3⟩ := h.ent _ (val_mem hv)
  obtain ⟨e1, e2⟩ := (Prod.mk.inj e)
  obtain ⟨rfl, rfl⟩ := key_inj e1
  exact ⟨c, e2, h1, h2, h3⟩
def HasUp (C : List Int) (L d : Nat) (kvs : Tab) : Prop := ∃ c, valV kvs (key (dn C L d) (fr C L d)) = some (.int c) ∧ Up C L d c
theorem Up.mono {C : List Int} {L d : Nat} {c c' : Int} (h : Up C L d c) (hc : c' ≤ c) : Up C L d c' := by
  unfold Up at *
  omega
theorem HasUp.put {C : List Int} {L d a b : Nat} {kvs : Tab} {c : Int} (h : HasUp C L d kvs) (hc : ∀ c', valV kvs (key a b) = some (.int c') → c ≤ c') : HasUp C L d (putK kvs (key a b) (.int c)) := by
  obtain ⟨c0, h1, h2⟩ := h
  by_cases e : key (dn C L d) (fr C L d) = key a b
  · exact ⟨c, by rw [valV_put, if_pos e], h2.mono (hc c0 (by rw [← e]; exact h1))⟩
  · exact ⟨c0, by rw [valV_put, if_neg e]; exact h1, h2⟩
theorem HasUp.new {C : List Int} {L d : Nat} {kvs : Tab} {c : Int} (h : Up C L d c) : HasUp C L d (putK kvs (key (dn C L d) (fr C L d)) (.int c)) := ⟨c, by rw [valV_put, if_pos rfl], h⟩
/-! the line -/
def wL (ws : List Int) : List Int := (coinsL ws).map (·.1)
theorem rev_seg {C : List Int} {a m : Nat} (h : a + m ≤ C.length) : ((C.reverse.drop a).take m).sum = S C (C.length - a) - S C (C.length - (a + m)) := by
  induction m with
  | zero => simp
  | succ m ih =>
    have h1 : a + m < C.reverse.length := by simp; omega
    have e1 : (C.reverse.drop a)[m]? = some C.reverse[a + m] := by
      rw [List.getElem?_drop, List.getElem?_eq_getElem h1]
    rw [List.take_add_one, e1]
    simp only [Option.toList_some, List.sum_append, List.sum_cons, List.sum_nil]
    rw [ih (by omega)]
    have e2 : C.reverse[a + m] = C.getD (C.length - (a + m) - 1) 0 := by
      rw [List.getElem_reverse, List.getD_eq_getElem?_getD, List.getElem?_eq_getElem (by omega)]
      simp only [Option.getD_some]
      congr 1
      omega
    have e3 := take_last (l := C) (b := C.length - (a + m)) (by omega) (by omega)
    rw [e2]
    unfold S
    rw [show C.length - (a + (m + 1)) = C.length - (a + m) - 1 by omega]
    omega
theorem walk_itemsT {d : Addr} {o : Obj} {kvs : Tab} : Walk (Itit d o kvs) kvs.length (fun H => H d = some (.frz o (.dT kvs))) (fun i H x H' => ∃ T q k v, kvs[i]? = some (k, v) ∧ x = .ref T ∧ H T = none ∧ H q = some (.tup (k.map kV)) ∧ H' = upd H T (.tup [.ref q, v])) :=
  ⟨fun _ _ lt q => ⟨q, lt⟩, fun _ q => ⟨q, Nat.le_refl _⟩, fun _ _ _ _ _ _ stays => stays⟩
end K2

namespace K2
open PySem PySem.Spec PyProof.Rows L2
/-! ### _law_least_sum -/
theorem cut_ab {xs : List V} {a b : Nat} (h : a ≤ b) (h2 : b ≤ xs.length) : cutV xs (some (a : Int)) (some (b : Int)) = (xs.drop a).take (b - a) := by
  unfold cutV
  rw [show HT.sIx xs.length 0 (some (a : Int)) = min a xs.length from HT.sIx_nat xs.length 0 a, show HT.sIx xs.length xs.length (some (b : Int)) = min b xs.length from HT.sIx_nat xs.length xs.length b, Nat.min_eq_left (by omega), Nat.min_eq_left (by omega)]
theorem len_seqK {X : Cx} (K : PySem.W.Frag) (h : X.K = K := by rfl) : CallR X (.builtin "len") (fun xs H Q => ∃ p ys, xs = [.ref p] ∧ (SqL K H p ys ∨ SqT K H p ys) ∧ Q (.int ys.length) H) := by subst h; exact call_len_seq
theorem raw_fst (ws : List Int) : (rawL ws).map (·.1) = usedL ws := by
  have key : ∀ i, i ≤ ws.length → (rawU ws i).map (·.1) = usedL (ws.take i) := by
    intro i
    induction i with
    | zero => intro _; simp [rawU, usedL]
    | succ i ih =>
      intro hi
      have hx : ws[i]? = some (wAt ws i) := by
        unfold wAt
        rw [List.getD_eq_getElem?_getD, List.getElem?_eq_getElem (show i < ws.length by omega)]
        rfl
      rw [rawU_succ, used_succ hx, List.map_append, ih (by omega)]
      congr 1
      split <;> rfl
  have := key ws.length (Nat.le_refl _)
  rw [List.take_length] at this
  exact this
theorem wL_srt (ws : List Int) : Srt (wL ws) := by
  show Srt ((coinsL ws).map (·.1))
  rw [← srtd_fst]
  refine (coinsL_srt ws).imp fun {x y} h => ?_
  simp only [lexLe, Bool.not_eq_true', SrtO.lexB_no, kLt, decide_eq_false_iff_not] at *
  omega
theorem line_eq {ws ns : List Int} (hp : ns.Perm (usedL ws)) (ho : OrdB true ns) : ns = (wL ws).reverse := by
  have ho : ns.Pairwise (· ≥ ·) := ho
  have h1 : (wL ws).Perm (usedL ws) := by
    rw [← raw_fst]
    exact (coinsL_perm ws).map _
  refine List.Perm.eq_of_pairwise (le := fun a b => a ≥ b) (fun a b _ _ h1 h2 => by omega) ho ?_ (hp.trans (h1.symm.trans (List.reverse_perm _).symm))
  rw [List.pairwise_reverse]
  exact (wL_srt ws).imp fun {a b} h => h
/-- what the search tells -/
def sumL (ws : List Int) (n : Nat) : Int := if (coinsL ws).length = 1 then (wL ws).sum else F (wL ws) n (2 * (wL ws).length - 2)
end K2

namespace K2
/-! ### what is asked of the lengths -/
theorem sum_perm {a b : List Int} (h : a.Perm b) : a.sum = b.sum := by
  induction h with
  | nil => rfl
  | cons x _ ih => simp only [List.sum_cons, ih]
  | swap x y l => simp only [List.sum_cons]; omega
  | trans _ _ ih1 ih2 => exact (ih1.trans ih2)
def letN (ws : List Int) : List Nat := (coinsL ws).map fun x => x.2.toNat
theorem letN_nodup (ws : List Int) : (letN ws).Nodup := by
  have := coins_nodup ws
  rw [List.Nodup, List.pairwise_map] at this
  rw [letN, List.Nodup, List.pairwise_map]
  refine List.Pairwise.imp_of_mem (fun {x y} hx hy q z => q ?_) this
  obtain ⟨a, _, _, rfl⟩ := coins_mem hx
  obtain ⟨b, _, _, rfl⟩ := coins_mem hy
  have z : ((a : Int)).toNat = ((b : Int)).toNat := z
  show (a : Int) = b
  omega
theorem letN_mem {ws : List Int} {l : Nat} : l ∈ letN ws ↔ l < ws.length ∧ 0 < wAt ws l := by
  constructor
  · intro h
    obtain ⟨x, hx, rfl⟩ := List.mem_map.mp h
    obtain ⟨a, h1, h2, rfl⟩ := coins_mem hx
    simpa using ⟨h1, h2⟩
  · intro ⟨h1, h2⟩
    refine List.mem_map.mpr ⟨(wAt ws l, (l : Int)), (coinsL_perm ws).mem_iff.mpr ?_, by simp⟩
    exact List.mem_map.mpr ⟨l, List.mem_filter.mpr ⟨by simpa using h1, decide_eq_true h2⟩, rfl⟩
theorem letN_perm (ws : List Int) : (letN ws).Perm ((List.range ws.length).filter fun l => decide (0 < wAt ws l)) := by
  have := (coinsL_perm ws).map (fun x => x.2.toNat)
  refine this.trans (List.Perm.of_eq ?_)
  rw [rawL, rawU, List.map_map]
  conv => rhs; rw [← List.map_id (List.filter _ _)]
  refine List.map_congr_left fun l _ => ?_
  simp
theorem letN_w (ws : List Int) : (letN ws).map (wAt ws) = wL ws := by
  rw [letN, wL, List.map_map]
  refine List.map_congr_left fun x hx => ?_
  obtain ⟨a, h1, h2, rfl⟩ := coins_mem hx
  simp
theorem wAt_get {ws : List Int} {l : Nat} (h : l < ws.length) : ws[l]? = some (wAt ws l) := by
  unfold wAt
  rw [List.getD_eq_getElem?_getD, List.getElem?_eq_getElem h]
  rfl
theorem range_map (ws : List Int) : (List.range ws.length).map (wAt ws) = ws := by
  refine List.ext_getElem? fun i => ?_
  by_cases h : i < ws.length
  · rw [wAt_get h]; simp [h]
  · simp [h]
/-- the facts -/
structure Facts (ws : List Int) (n : Nat) : Prop where
  len : (ansL ws n).length = ws.length
  good : goodB (ansL ws n) = true
  most : ∀ x ∈ ansL ws n, x ≤ (n : Int)
  pos : (ansL ws n).map (fun x => decide (0 < x)) = ws.map fun x => decide (0 < x)
  sum : ((List.range (ansL ws n).length).map fun l => wAt (ansL ws n) l * wAt ws l).sum = sumL ws n
theorem zero_of {ws : List Int} {n : Nat} (a : AskOk ws n) {w : Int} (h : w ∈ ws) (h0 : ¬ 0 < w) : w = 0 := by
  have := a.lo w h
  omega
theorem facts_one {ws : List Int} {n : Nat} (a : AskOk ws n) (h1 : (coinsL ws).length = 1) : Facts ws n := by
  have hn1 := a.n1
  have e : ansL ws n = ws.map fun w => if 0 < w then 1 else 0 := by rw [ansL, if_pos h1]
  have hu : (usedL ws).length = 1 := by rw [← coins_used]; exact h1
  have hused : usedL (ansL ws n) = [1] := by
    rw [e]
    unfold usedL at *
    rw [List.filter_map]
    have e2 : (ws.filter ((fun x => decide ((0 : Int) < x)) ∘ fun w => if 0 < w then 1 else 0)) = ws.filter fun x => decide (0 < x) := by
      refine (List.filter_congr fun x _ => ?_)
      by_cases q : 0 < x <;> simp [q]
    rw [e2]
    obtain ⟨w0, hw⟩ := List.length_eq_one_iff.mp hu
    have hw0 : 0 < w0 := by
      have : w0 ∈ ws.filter fun x => decide (0 < x) := by rw [hw]; simp
      exact of_decide_eq_true (List.mem_filter.mp this).2
    rw [hw]
    simp [hw0]
  refine ⟨by rw [e, List.length_map], ?_, fun x hx => ?_, ?_, ?_⟩
  · simp [goodB, hused]
  · rw [e] at hx
    obtain ⟨w, _, rfl⟩ := List.mem_map.mp hx
    split <;> omega
  · rw [e, List.map_map]
    refine (List.map_congr_left fun x _ => ?_)
    by_cases q : 0 < x <;> simp [q]
  · rw [sumL, if_pos h1]
    have hp : (wL ws).Perm (usedL ws) := by
      rw [← raw_fst]
      exact (coinsL_perm ws).map _
    have e3 : ∀ l : List Int, l.Perm (usedL ws) → l.sum = (usedL ws).sum := fun l h => sum_perm h
    rw [e3 _ hp]
    have e4 : (List.range (ansL ws n).length).map (fun l => wAt (ansL ws n) l * wAt ws l) = ws.map fun w => (if 0 < w then 1 else 0) * w := by
      have hl : (ansL ws n).length = ws.length := by rw [e, List.length_map]
      rw [hl]
      refine List.ext_getElem? fun i => ?_
      by_cases h : i < ws.length
      · have h2 : wAt (ansL ws n) i = if 0 < wAt ws i then 1 else 0 := by
          have h3 := wAt_get (ws := ansL ws n) (l := i) (by rw [hl]; exact h)
          rw [e, List.getElem?_map, wAt_get h] at h3
          rw [e]
          exact (Option.some.inj h3).symm
        rw [List.getElem?_map, List.getElem?_map, wAt_get h]
        simp [h, h2]
      · simp [h]
    rw [e4]
    have : ∀ l : List Int, (∀ w ∈ l, 0 ≤ w) → (l.map fun w => (if 0 < w then 1 else 0) * w).sum = (usedL l).sum := by
      intro l
      induction l with
      | nil => intro _; rfl
      | cons w l ih =>
        intro h
        have ih := ih fun x hx => h x (by simp [hx])
        have hw := h w (by simp)
        rw [List.map_cons, List.sum_cons, ih]
        unfold usedL
        by_cases q : 0 < w
        · rw [List.filter_cons_of_pos (by simpa using q)]
          simp [q]
        · rw [List.filter_cons_of_neg (by simpa using q)]
          simp [q]
    exact this ws fun w hw => (a.lo w hw).1
theorem facts_more {ws : List Int} {n : Nat} (a : AskOk ws n) (h1 : (coinsL ws).length ≠ 1) : Facts ws n := by
  have G := a.good h1
  have hn12 := a.n12
  have e : ansL ws n = cnts ws.length (tl (wL ws) n (letN ws) 0 n) := by rw [ansL, if_neg h1, a.letters h1]; rfl
  have G : Good (wL ws) n := G
  have nd := letN_nodup ws
  have hll : (letN ws).length = (wL ws).length := by rw [letN, wL, List.length_map, List.length_map]
  have hT : ∀ x ∈ tl (wL ws) n (letN ws) 0 n, x ∈ letN ws := fun x hx => tl_mem _ _ hx
  have hcnt : ∀ (i x : Nat), (letN ws)[i]? = some x → (tl (wL ws) n (letN ws) 0 n).count x = ln (wL ws) n 0 n i := fun i x h => count_tl nd h n 0
  have hpos : ∀ i, i < (wL ws).length → 1 ≤ ln (wL ws) n 0 n i := fun i hi => by
    obtain ⟨m, rfl⟩ : ∃ m, n = m + 1 := ⟨n - 1, by have := a.n1; omega⟩
    simp only [ln]
    rw [cd_zero G, if_pos hi]
    omega
  have hin : ∀ l, l ∈ letN ws → 1 ≤ (tl (wL ws) n (letN ws) 0 n).count l ∧ (tl (wL ws) n (letN ws) 0 n).count l ≤ n := fun l h => by
    obtain ⟨i, hi⟩ := List.mem_iff_getElem?.mp h
    rw [hcnt i l hi]
    exact ⟨hpos i (by rw [← hll]; exact (List.getElem?_eq_some_iff.mp hi).1), ln_le _ _ _⟩
  have hout : ∀ l, l ∉ letN ws → (tl (wL ws) n (letN ws) 0 n).count l = 0 := fun l h => List.count_eq_zero.mpr fun q => h (hT l q)
  have hsign : ∀ l, l < ws.length → (0 < (tl (wL ws) n (letN ws) 0 n).count l ↔ 0 < wAt ws l) := fun l hl => by
    by_cases q : l ∈ letN ws
    · have := hin l q
      have := (letN_mem.mp q).2
      omega
    · have := hout l q
      have q2 : ¬ 0 < wAt ws l := fun z => q (letN_mem.mpr ⟨hl, z⟩)
      omega
  have hlen : (ansL ws n).length = ws.length := by rw [e, cnts_len]
  refine ⟨hlen, ?_, fun x hx => ?_, ?_, ?_⟩
  · -- the sum
    have hk := kraft_all G (B := 12) hn12
    have hu : usedL (ansL ws n) = ((List.range ws.length).filter fun l => decide (0 < wAt ws l)).map fun l => ((tl (wL ws) n (letN ws) 0 n).count l : Int) := by
      rw [e]
      unfold usedL cnts
      rw [List.filter_map]
      congr 1
      refine List.filter_congr fun l hl => ?_
      have := hsign l (by simpa using hl)
      simp only [Function.comp_apply]
      rw [decide_eq_decide]
      omega
    have hs : ((usedL (ansL ws n)).map fun x => (4096 : Int) / 2 ^ x.toNat).sum = 4096 := by
      rw [hu, List.map_map]
      have e5 : (((List.range ws.length).filter fun l => decide (0 < wAt ws l)).map ((fun x : Int => (4096 : Int) / 2 ^ x.toNat) ∘ fun l => ((tl (wL ws) n (letN ws) 0 n).count l : Int))).sum = ((letN ws).map fun l => ((2 ^ (12 - (tl (wL ws) n (letN ws) 0 n).count l) : Nat) : Int)).sum := by
        have p := (letN_perm ws).map (fun l => ((2 ^ (12 - (tl (wL ws) n (letN ws) 0 n).count l) : Nat) : Int))
        rw [sum_perm p]
        congr 1
        refine List.map_congr_left fun l hl => ?_
        obtain ⟨h3, h4⟩ := List.mem_filter.mp hl
        have := hin l (letN_mem.mpr ⟨by simpa using h3, of_decide_eq_true h4⟩)
        simp only [Function.comp_apply, Int.toNat_natCast]
        generalize (tl (wL ws) n (letN ws) 0 n).count l = k at this
        have hk12 : k ≤ 12 := by omega
        have key : ∀ k : Fin 13, (4096 : Int) / 2 ^ k.1 = ((2 ^ (12 - k.1) : Nat) : Int) := by decide
        exact key ⟨k, by omega⟩
      rw [e5]
      have e6 := sumR_list (f := fun i => 2 ^ (12 - ln (wL ws) n 0 n i)) (lets := letN ws) (g := fun l => 2 ^ (12 - (tl (wL ws) n (letN ws) 0 n).count l)) (fun i x h => by rw [hcnt i x h])
      rw [hll, hk] at e6
      have e7 : ∀ l : List Nat, ((l.map fun l => ((2 ^ (12 - (tl (wL ws) n (letN ws) 0 n).count l) : Nat) : Int)).sum) = (((l.map fun l => 2 ^ (12 - (tl (wL ws) n (letN ws) 0 n).count l)).sum : Nat) : Int) := by
        intro l
        induction l with
        | nil => rfl
        | cons x l ih => simp only [List.map_cons, List.sum_cons, ih]; omega
      rw [e7, ← e6]
      rfl
    simp [goodB, hs]
  · rw [e] at hx
    obtain ⟨l, _, rfl⟩ := List.mem_map.mp hx
    by_cases q : l ∈ letN ws
    · have := (hin l q).2
      omega
    · rw [hout l q]
      omega
  · rw [e]
    unfold cnts
    rw [List.map_map]
    conv => rhs; rw [← range_map ws, List.map_map]
    refine List.map_congr_left fun l hl => ?_
    have := hsign l (by simpa using hl)
    simp only [Function.comp_apply]
    rw [decide_eq_decide]
    omega
  · rw [hlen, sumL, if_neg h1]
    have e8 : (List.range ws.length).map (fun l => wAt (ansL ws n) l * wAt ws l) = (List.range ws.length).map fun l => ((tl (wL ws) n (letN ws) 0 n).count l : Int) * wAt ws l := by
      refine List.map_congr_left fun l hl => ?_
      have hl' : l < ws.length := by simpa using hl
      have h3 := wAt_get (ws := ansL ws n) (l := l) (by rw [hlen]; exact hl')
      rw [e, cnts_get hl'] at h3
      rw [e, ← Option.some.inj h3]
    rw [e8, cnts_sum (fun x hx => (letN_mem.mp (hT x hx)).1), tl_sum G (letN_w ws) n 0 (by omega)]
    simp [md]
theorem facts {ws : List Int} {n : Nat} (a : AskOk ws n) : Facts ws n := by
  by_cases h : (coinsL ws).length = 1
  · exact facts_one a h
  · exact facts_more a h
end K2

namespace K7
open PySem PySem.Spec PyProof.Rows L2
/-! ### equal lists -/
theorem dp_ints {K : PySem.W.Frag} {H : Hp} : ∀ xs : List Int, DpAll K H (xs.map V.int) (xs.map PyData.int)
  | [] => .nil
  | x :: xs => .cons (.int x) (dp_ints xs)
theorem dp_bools {K : PySem.W.Frag} {H : Hp} : ∀ xs : List Bool, DpAll K H (xs.map V.bl) (xs.map PyData.bool)
  | [] => .nil
  | x :: xs => .cons (.bl x) (dp_bools xs)
theorem eqvA_ints : ∀ xs ys : List Int, PyData.eqvAll (xs.map .int) (ys.map .int) = decide (xs = ys)
  | [], [] => by simp [PyData.eqvAll]
  | [], _ :: _ => by simp [PyData.eqvAll]
  | _ :: _, [] => by simp [PyData.eqvAll]
  | x :: xs, y :: ys => by
    simp only [List.map_cons, PyData.eqvAll, PyData.eqv, eqvA_ints xs ys]
    by_cases h : x = y <;> simp [h]
theorem eqvA_bools : ∀ xs ys : List Bool, PyData.eqvAll (xs.map .bool) (ys.map .bool) = decide (xs = ys)
  | [], [] => by simp [PyData.eqvAll]
  | [], _ :: _ => by simp [PyData.eqvAll]
  | _ :: _, [] => by simp [PyData.eqvAll]
  | x :: xs, y :: ys => by
    simp only [List.map_cons, PyData.eqvAll, PyData.eqv, eqvA_bools xs ys]
    by_cases h : x = y <;> simp [h]
theorem eqv_ints (xs ys : List Int) : PyData.eqv (.list (xs.map .int)) (.list (ys.map .int)) = decide (xs = ys) := by rw [PyData.eqv, eqvA_ints]
theorem eqv_bools (xs ys : List Bool) : PyData.eqv (.list (xs.map .bool)) (.list (ys.map .bool)) = decide (xs = ys) := by rw [PyData.eqv, eqvA_bools]
theorem clA_ints : ∀ ns : List Int, PyData.canLayAll0 (ns.map PyData.int) = true
  | [] => by (simp [PyData.canLayAll0])
  | _ :: r => by simp [PyData.canLayAll0, PyData.canLay0, clA_ints r]
theorem dA_ints : ∀ ns : List Int, PyData.depthAll (ns.map PyData.int) = 0
  | [] => rfl
  | _ :: r => by simp [PyData.depthAll, PyData.depth, dA_ints r]
theorem shaped_intsQ (ns : List Int) : SeqAt.shaped (.list (ns.map PyData.int)) = true := by
  simp [SeqAt.shaped, PyData.canLay0, PyData.depth, clA_ints, dA_ints]
theorem clA_bools : ∀ ns : List Bool, PyData.canLayAll0 (ns.map PyData.bool) = true
  | [] => by (simp [PyData.canLayAll0])
  | _ :: r => by simp [PyData.canLayAll0, PyData.canLay0, clA_bools r]
theorem dA_bools : ∀ ns : List Bool, PyData.depthAll (ns.map PyData.bool) = 0
  | [] => rfl
  | _ :: r => by simp [PyData.depthAll, PyData.depth, dA_bools r]
theorem shaped_bools (ns : List Bool) : SeqAt.shaped (.list (ns.map PyData.bool)) = true := by
  simp [SeqAt.shaped, PyData.canLay0, PyData.depth, clA_bools, dA_bools]
def cellAt (xs : List Int) (k : Nat) : Int := if k < xs.length then xs.getD k 0 else if xs = [] then (k : Int) * 48271 else ((xs.getD (k % xs.length) 0 + k) * 48271).fmod 2147483647
theorem scCell : FnScope ["_law_script", "_law_k"] ["_law_script", "_law_k"] (defScope sCell) := ⟨rfl, rfl, rfl, by decide +kernel, rfl, by decide +kernel, by decide +kernel⟩
section
variable {P : Program} {w : World} {K : PySem.W.Frag} {mg : Str → Option Value} {base : Heap}
def spCell (K : PySem.W.Frag) : Sp := fun vs H Q _ => ∃ (p : Addr) (xs : List Int) (k : Nat), vs = [.ref p, .int (k : Int)] ∧ SqL K H p (xs.map V.int) ∧ k ≤ 100000 ∧ ∀ H', Same H H' → Q (.int (cellAt xs k)) H'
theorem ok_cell {f : Addr} {fd : FuncData} {j : Nat} (F : Fun K "_law_cell_at" "_law_cell_at" sCell f fd) (m1 : mg "len" = none) (m2 : mg "int" = none) : FnOk P w K mg base CX0 (j + 1) f fd ["_law_script", "_law_k"] (K7.spCell K) := by
  refine F.ok scCell (fun vs H Q E h => ?_) (fun cdv A outer s H vs Q E hr h => ?_)
  · obtain ⟨p, xs, k, rfl, _⟩ := h
    rfl
  · obtain ⟨p, xs, k, rfl, hp, hk, q⟩ := h
    refine ⟨_, pss_cons (ps_if (pt_cmpR op_lt (pv 1) (pe_callB call_len_seq (by rfl) m1 PySem.boot_len (pa_cons (pv 0) pa_nil)) (nomark _)) (pss_one (ps_ret (pe_ix ix_list (pv 0) (pv 1) (fun _ _ => rfl)))) pss_nil)
      (pss_cons (ps_if (pt_cmpR (op_eqD hr.units) (pv 0) (pe_lst pa_nil) (nomark _)) (pss_one (ps_ret (pe_op op_mul (pv 1) pe_int))) pss_nil)
      (pss_one (ps_ret (pe_op op_modN (pe_callTy call_int1 (by rfl) m2 (by decide +kernel) (pa_cons (pe_op op_mul (pe_op op_add (pe_ix ix_list (pv 0) (pe_op op_modN (pe_callTy call_int1 (by rfl) m2 (by decide +kernel) (pa_cons (pv 1) pa_nil)) (pe_callB call_len_seq (by rfl) m1 PySem.boot_len (pa_cons (pv 0) pa_nil))) (fun _ _ => rfl)) (pv 1)) pe_int) pa_nil)) pe_int)))), ?_⟩
    refine ⟨_, rfl, _, rfl, p, _, rfl, .inl hp, _, _, rfl, rfl, _, rfl, ite2 (fun e => ?_) (fun e => ?_)⟩
    · have hlt : k < xs.length := by
        have := of_decide_eq_true e
        rw [List.length_map] at this
        omega
      have q' := q H (Same.refl H)
      rw [cellAt, if_pos hlt] at q'
      refine ⟨_, rfl, _, rfl, p, _, _, .int (xs.getD k 0), rfl, rfl, hp, atI_nat ?_, q'⟩
      rw [List.getElem?_map, List.getElem?_eq_getElem hlt, List.getD_eq_getElem?_getD, List.getElem?_eq_getElem hlt]
      rfl
    · have hge : ¬ k < xs.length := fun z => e (decide_eq_true (by rw [List.length_map]; omega))
      refine ⟨_, rfl, Nat.zero_le _, fun z nz => ?_⟩
      have sm : Same H (upd H z (.lst [])) := same_upd nz
      have q' := q _ sm
      rw [cellAt, if_neg hge] at q'
      refine ⟨_, _, .lst (sm.seq hp) (dp_ints xs), .lst (ds := []) (.inl (.inl upd_same)) .nil, shaped_intsQ xs, shaped_intsQ [], ?_⟩
      have ee : PyData.eqv (.list (xs.map .int)) (.list []) = decide (xs = []) := eqv_ints xs []
      rw [ee]
      refine ⟨_, rfl, ite2 (fun e2 => ?_) (fun e2 => ?_)⟩
      · have : xs = [] := of_decide_eq_true e2
        rw [if_pos this] at q'
        exact ⟨_, rfl, _, _, rfl, rfl, .inl ⟨by omega, by omega⟩, q'⟩
      · have hne : ¬ xs = [] := fun z => e2 (decide_eq_true z)
        rw [if_neg hne] at q'
        have hpos : 0 < xs.length := List.length_pos_iff.mpr hne
        have hm : k % xs.length < xs.length := Nat.mod_lt _ hpos
        have em : (k : Int).fmod ((xs.map V.int).length : Int) = ((k % xs.length : Nat) : Int) := by
          rw [List.length_map, Int.fmod_eq_emod_of_nonneg _ (by omega)]
          rfl
        refine ⟨_, rfl, _, rfl, .inl ⟨_, rfl, _, rfl, p, _, rfl, .inl (sm.seq hp), _, _, rfl, rfl, by rw [List.length_map]; omega, p, _, _, .int (xs.getD (k % xs.length) 0), rfl, rfl, sm.seq hp, (by rw [em]; exact atI_nat (by
          rw [List.getElem?_map, List.getElem?_eq_getElem hm, List.getD_eq_getElem?_getD, List.getElem?_eq_getElem hm]
          rfl)), _, rfl, _, _, rfl, rfl, _, _, rfl, rfl, .inr ⟨by decide, by decide⟩, .inl ⟨_, rfl, _, _, rfl, rfl, (by show (2147483647 : Int) ≠ 0; decide), q'⟩⟩⟩
end
/-! ### _law_numbers -/
def InLims (ds lims : List Int) : Prop := ds.length ≤ lims.length ∧ ∀ (j : Nat) (d l : Int), ds[j]? = some d → lims[j]? = some l → 0 ≤ d ∧ d < l
theorem fmod_in {a l : Int} (h : 0 < l) : 0 ≤ a.fmod l ∧ a.fmod l < l := by
  rw [Int.fmod_eq_emod_of_nonneg _ (Int.le_of_lt h)]
  exact ⟨Int.emod_nonneg _ (by omega), Int.emod_lt_of_pos _ h⟩
theorem InLims.snoc {ds lims : List Int} {d l : Int} (h : InLims ds lims) (hl : lims[ds.length]? = some l) (hd : 0 ≤ d ∧ d < l) : InLims (ds ++ [d]) lims := by
  refine ⟨by have := (List.getElem?_eq_some_iff.mp hl).1; simp; omega, fun j d' l' h1 h2 => ?_⟩
  by_cases q : j < ds.length
  · rw [List.getElem?_append_left q] at h1
    exact h.2 j d' l' h1 h2
  · have e : j = ds.length := by
      have := (List.getElem?_eq_some_iff.mp h1).1
      simp at this
      omega
    subst e
    rw [List.getElem?_append_right (Nat.le_refl _)] at h1
    simp at h1
    rw [hl] at h2
    cases h2
    rw [← h1]
    exact hd
theorem scNums : FnScope ["_law_cell", "_law_limits", "_law_rest", "_law_found"] ["_law_cell", "_law_limits"] (defScope sNums) := ⟨rfl, rfl, rfl, by decide +kernel, rfl, by decide +kernel, by decide +kernel⟩
section
variable {P : Program} {w : World} {K : PySem.W.Frag} {mg : Str → Option Value} {base : Heap}
def spNums : Sp := fun vs H Q _ => ∃ (p : Addr) (c : Int) (lims : List Int), vs = [.int c, .ref p] ∧ H p = some (.lst (lims.map V.int)) ∧ lims.length ≤ 1000 ∧ (∀ l ∈ lims, 0 < l ∧ l < 1000000) ∧
  ∀ H' q ds, Same H H' → H q = none → H' q = some (.lst (ds.map V.int)) → ds.length = lims.length → InLims ds lims → Q (.ref q) H'
theorem ok_nums {f : Addr} {fd : FuncData} {j : Nat} (F : Fun K "_law_numbers" "_law_numbers" sNums f fd) (m1 : mg "int" = none) : FnOk P w K mg base CX0 (j + 1) f fd ["_law_cell", "_law_limits"] spNums := by
  refine F.ok scNums (fun vs H Q E h => ?_) (fun cdv A outer s H vs Q E hr h => ?_)
  · obtain ⟨p, c, lims, rfl, _⟩ := h
    rfl
  · obtain ⟨p, c, lims, rfl, hp, hl, hpos, q⟩ := h
    refine ⟨_, pss_cons (ps_set (i := 2) scNums.nd rfl (.inl rfl) (pv 0))
      (pss_cons (ps_if (pt_cmpR op_lt (pv 0) (pe_op op_pow pe_int pe_int) (nomark _))
        (pss_one (ps_set (i := 2) scNums.nd rfl (.inl rfl) (pe_op op_fdivN (pe_op op_pow (pe_op op_add (pe_op op_mul (pe_op op_modN (pe_callTy call_int1 (by rfl) m1 (by decide +kernel) (pa_cons (pv 0) pa_nil)) pe_int) pe_int) pe_int) pe_int) pe_int))) pss_nil)
      (pss_cons (ps_set (i := 3) scNums.nd rfl (.inl rfl) (pe_lst pa_nil))
      (pss_cons (ps_for PassesOwn.never rfl (pi_list (pv 1)) (pg_name (i := 1) scNums.nd rfl (.inl rfl))
        (pss_cons (ps_expr (pe_bm PySem.F.plainAttrs_list PySem.F.slot_list_append PySem.F.type_list_append mt_append (pv 3) (pa_cons (pe_op op_modN (pe_callTy call_int1 (by rfl) m1 (by decide +kernel) (pa_cons (pv 2) pa_nil)) (pv 1)) pa_nil)))
        (pss_one (ps_set (i := 2) scNums.nd rfl (.inl rfl) (pe_op op_fdivN (pv 2) (pv 1))))))
      (pss_one (ps_ret (pv 3)))))), ?_⟩
    refine ⟨_, rfl, _, rfl, _, _, rfl, rfl, ⟨by decide, by decide, by decide⟩, _, _, rfl, rfl, _, rfl, ite2 (fun e => ?_) (fun e => ?_)⟩
    · have hm := fmod_in (a := c) (l := 2147483647) (by decide)
      refine ⟨_, rfl, .inl ⟨_, rfl, _, _, rfl, rfl, (by show (2147483647 : Int) ≠ 0; decide), _, _, rfl, rfl, .inr ⟨by decide, by decide⟩, _, _, rfl, rfl, _, _, rfl, rfl, ⟨by decide, by decide, by omega⟩, _, _, rfl, rfl, ⟨by decide, by decide⟩, ?_⟩⟩
      refine ⟨Nat.zero_le _, fun D nD => ?_⟩
      have hpD : (upd H D (.lst [])) p = some (.lst (lims.map V.int)) := same_upd nD _ _ hp
      refine ⟨_, rfl, p, rfl, ⟨_, .inl (.inl hpD)⟩, ?_⟩
      refine for_list (K := K) (a := p) (xs := lims.map V.int) (fun i σ H' => ∃ (y1 : Option V) (r : Int) (ds : List Int), σ = [some (.int c), y1, some (.int r), some (.ref D)] ∧ Same H H' ∧ H' D = some (.lst (ds.map V.int)) ∧ ds.length = i ∧ InLims ds lims)
        ⟨_, _, [], rfl, same_upd nD, upd_same, rfl, Nat.zero_le _, fun j d l h => by simp at h⟩ (fun i σ H' _ h => ?_) (fun i x σ H' hx h => ?_) (fun σ H' h => ?_)
      · obtain ⟨_, _, _, _, sm, _⟩ := h
        exact .inl (.inl (sm _ _ hp))
      · obtain ⟨y1, r, ds, rfl, sm, hD, hdl, hin⟩ := h
        obtain ⟨x, rfl, hx'⟩ := int_of hx
        obtain ⟨hx0, hx1⟩ := hpos x (List.mem_of_getElem? hx')
        refine ⟨.ref D, rfl, .inl ⟨rfl, _, .inl (.inl hD)⟩, .int r, rfl, .inl ⟨r, rfl, .int x, rfl, _, _, rfl, rfl, (by omega), D, _, _, rfl, rfl, hD, ?_, ?_⟩⟩
        · rw [List.length_map]
          exact small1000 (by have := (List.getElem?_eq_some_iff.mp hx').1; omega)
        · refine ⟨.int r, rfl, .int x, rfl, _, _, rfl, rfl, ⟨(by omega), (by omega)⟩, some (.int x), r.fdiv x, ds ++ [r.fmod x], rfl, same_put sm nD, ?_, by simp [hdl], hin.snoc (by rw [hdl]; exact hx') (fmod_in hx0)⟩
          rw [upd_same, List.map_append]
          rfl
      · obtain ⟨y1, r, ds, rfl, sm, hD, hdl, hin⟩ := h
        rw [List.length_map] at hdl
        exact ⟨.ref D, rfl, q H' D ds sm nD hD hdl hin⟩
    · refine ⟨Nat.zero_le _, fun D nD => ?_⟩
      have hpD : (upd H D (.lst [])) p = some (.lst (lims.map V.int)) := same_upd nD _ _ hp
      refine ⟨_, rfl, p, rfl, ⟨_, .inl (.inl hpD)⟩, ?_⟩
      refine for_list (K := K) (a := p) (xs := lims.map V.int) (fun i σ H' => ∃ (y1 : Option V) (r : Int) (ds : List Int), σ = [some (.int c), y1, some (.int r), some (.ref D)] ∧ Same H H' ∧ H' D = some (.lst (ds.map V.int)) ∧ ds.length = i ∧ InLims ds lims)
        ⟨_, _, [], rfl, same_upd nD, upd_same, rfl, Nat.zero_le _, fun j d l h => by simp at h⟩ (fun i σ H' _ h => ?_) (fun i x σ H' hx h => ?_) (fun σ H' h => ?_)
      · obtain ⟨_, _, _, _, sm, _⟩ := h
        exact .inl (.inl (sm _ _ hp))
      · obtain ⟨y1, r, ds, rfl, sm, hD, hdl, hin⟩ := h
        obtain ⟨x, rfl, hx'⟩ := int_of hx
        obtain ⟨hx0, hx1⟩ := hpos x (List.mem_of_getElem? hx')
        refine ⟨.ref D, rfl, .inl ⟨rfl, _, .inl (.inl hD)⟩, .int r, rfl, .inl ⟨r, rfl, .int x, rfl, _, _, rfl, rfl, (by omega), D, _, _, rfl, rfl, hD, ?_, ?_⟩⟩
        · rw [List.length_map]
          exact small1000 (by have := (List.getElem?_eq_some_iff.mp hx').1; omega)
        · refine ⟨.int r, rfl, .int x, rfl, _, _, rfl, rfl, ⟨(by omega), (by omega)⟩, some (.int x), r.fdiv x, ds ++ [r.fmod x], rfl, same_put sm nD, ?_, by simp [hdl], hin.snoc (by rw [hdl]; exact hx') (fmod_in hx0)⟩
          rw [upd_same, List.map_append]
          rfl
      · obtain ⟨y1, r, ds, rfl, sm, hD, hdl, hin⟩ := h
        rw [List.length_map] at hdl
        exact ⟨.ref D, rfl, q H' D ds sm nD hD hdl hin⟩
end
end K7

namespace K7
open PySem PySem.Spec PyProof.Rows L2
open PySem.Calls
/-! ### bytes.fromhex(text) of a text that bytes have -/
abbrev dg : Nat → Nat := PySem.Builtin.Bytes.hexDigit
def sg (ks : List Nat) : List Nat := ks.flatMap fun k => [dg (k / 16), dg (k % 16)]
theorem hex_key {f : Nat → Nat → List Nat → Array UInt8 → Except Nat (Array UInt8)} (e0 : ∀ n i out, f n i [] out = .ok out)
    (e1 : ∀ (a b : Fin 16) n i rest out, f (n + 1) i (dg a.1 :: dg b.1 :: rest) out = f n (i + 2) rest (out.push (a.1 * 16 + b.1).toUInt8)) :
    ∀ (ks : List Nat) (n i : Nat) (out : Array UInt8), (∀ k ∈ ks, k < 256) → ks.length ≤ n → f n i (sg ks) out = .ok (out ++ (ks.map Nat.toUInt8).toArray)
  | [], n, i, out, _, _ => by
    show f n i [] out = _
    rw [e0]
    simp
  | k :: ks, 0, i, out, _, hn => by simp at hn
  | k :: ks, n + 1, i, out, hk, hn => by
    have k0 : k < 256 := hk k (by simp)
    have h1 : k / 16 < 16 := by omega
    have h2 : k % 16 < 16 := by omega
    show f (n + 1) i (dg (k / 16) :: dg (k % 16) :: sg ks) out = _
    rw [e1 ⟨k / 16, h1⟩ ⟨k % 16, h2⟩, hex_key e0 e1 ks n (i + 2) _ (fun k m => hk k (by simp [m])) (by simpa using hn)]
    have e : k / 16 * 16 + k % 16 = k := by omega
    simp [e]
theorem sg_len : ∀ ks : List Nat, (sg ks).length = 2 * ks.length
  | [] => rfl
  | k :: ks => by
    show ([dg (k / 16), dg (k % 16)] ++ sg ks).length = _
    rw [List.length_append, sg_len ks, List.length_cons]
    simp
    omega
theorem dg_lt (n : Nat) (h : n < 16) : dg n < 128 := by
  have : ∀ m : Fin 16, dg m.1 < 128 := by decide +kernel
  exact this ⟨n, h⟩
theorem sg_lt : ∀ {ks : List Nat}, (∀ k ∈ ks, k < 256) → ∀ c ∈ sg ks, c < 128
  | [], _, c, h => by (cases h)
  | k :: ks, hk, c, h => by
    have k0 : k < 256 := hk k (by simp)
    have h' : c ∈ [dg (k / 16), dg (k % 16)] ++ sg ks := h
    rcases (List.mem_append.mp h') with (q | q)
    · simp at q
      rcases q with rfl | rfl
      · exact dg_lt _ (by omega)
      · exact dg_lt _ (by omega)
    · exact sg_lt (fun k m => hk k (by simp [m])) c q
/-- a method of the class bytes, bound to it -/
def fhBound : Obj := { cls := .type "builtin_function_or_method", data := .fields #[.builtin "bytes.fromhex", .type "bytes"] }
def fhHO (u : Addr) : HO := .ext fun h => h.get? u = some fhBound
theorem fh_type : typeOf (.builtin "bytes.fromhex") = pure (.type "classmethod_descriptor") := by
  show builtinType _ = _
  rw [builtinType_eq_fast]
  kernel_rfl
theorem fh_entry : entryFor table "bytes.fromhex" = some Builtin.«bytes.fromhex» := entryFor_of_tree (by kernel_rfl)
theorem fh_quiet {as : Args} : (Code.builtin "bytes.fromhex" as).quiet = true := Code.quiet_builtin _ (by decide +kernel)
theorem fh_isType : isType (.type "bytes") = pure true := by first | rfl | kernel_rfl | (unfold isType; rw [isSubtype_type]; kernel_rfl)
theorem fh_sub : isSubtype (.type "bytes") (.type "bytes") = pure true := by
  rw [isSubtype_type]
  kernel_rfl
theorem fh_owner : (kfb_private% "ownerAndName") "bytes.fromhex" = ("bytes", "fromhex") := by first | decide +kernel | kernel_rfl
theorem fh_check {o : PySem.Str} {u : Tok} : checkBoundCall "bytes.fromhex" ⟨[.type "bytes", .str o u], []⟩ = pure () := by first | kernel_rfl | rfl
section
variable {prog : Program} {w : World} {M : Model} {E : Value → Shared → Prop} {s : Shared} {A : Around} {K : PySem.W.Frag}
theorem fh_run {R : Fin → Shared → Prop} (h : R (.done (.ret (.ref s.heap.objs.size))) { s with heap := s.heap.push fhBound }) :
    wpAny M A (Builtin.«classmethod_descriptor.__get__» ⟨[.builtin "bytes.fromhex", .none, .type "bytes"], []⟩) R E s := by
  unfold Builtin.«classmethod_descriptor.__get__»
  refine wpAny_bind (wpAny_of_eq (a := (.builtin "bytes.fromhex", none, some (.type "bytes"))) (by first | rfl | kernel_rfl) ?_)
  simp only [fh_owner]
  refine wpAny_bind (wpAny_of_eq (a := .type "bytes") rfl ?_)
  refine wpAny_bind (wpAny_of_eq (a := true) fh_isType ?_)
  refine PySem.W.KFB.if_not rfl ?_
  refine wpAny_bind (wpAny_of_eq (a := true) fh_sub ?_)
  refine PySem.W.KFB.if_not rfl ?_
  exact wpAny_bind (wpAny_newObj_type (wpAny_pure h))
theorem fh_tree {ks : List Nat} {u : Tok} {R : Fin → Shared → Prop} (hk : ∀ k ∈ ks, k < 256) (hl : ks.length ≤ 1000000)
    (h : R (.done (.ret (.bytes (ks.map Nat.toUInt8).toArray s.toks))) { s with toks := s.toks + 1 }) :
    wpAny M A (Builtin.«bytes.fromhex» ⟨[.type "bytes", .str ⟨(sg ks).toArray⟩ u], []⟩) R E s := by
  unfold Builtin.«bytes.fromhex» Builtin.Bytes.fromhexM
  dsimp only
  have hno : Array.findIdx? (fun x : Nat => decide (x ≥ 128)) (sg ks).toArray = none := by
    rw [Array.findIdx?_eq_none_iff]
    intro c hc
    have := sg_lt hk c (by simpa using hc)
    exact decide_eq_false (by omega)
  refine wpAny_bind (wpAny_of_eq (a := "bytes") (by first | rfl | kernel_rfl) ?_)
  refine PySem.W.KFB.if_not rfl ?_
  refine wpAny_bind (wpAny_of_eq (a := some ⟨(sg ks).toArray⟩) rfl ?_)
  dsimp only
  rw [hno]
  dsimp only
  split
  all_goals
    rename_i v heq
    have z := (hex_key (by intro n i out; cases n <;> rfl) (by
      intro a b n i rest out
      obtain ⟨a, ha⟩ := a
      obtain ⟨b, hb⟩ := b
      have ea : a = 0 ∨ a = 1 ∨ a = 2 ∨ a = 3 ∨ a = 4 ∨ a = 5 ∨ a = 6 ∨ a = 7 ∨ a = 8 ∨ a = 9 ∨ a = 10 ∨ a = 11 ∨ a = 12 ∨ a = 13 ∨ a = 14 ∨ a = 15 := by omega
      have eb : b = 0 ∨ b = 1 ∨ b = 2 ∨ b = 3 ∨ b = 4 ∨ b = 5 ∨ b = 6 ∨ b = 7 ∨ b = 8 ∨ b = 9 ∨ b = 10 ∨ b = 11 ∨ b = 12 ∨ b = 13 ∨ b = 14 ∨ b = 15 := by omega
      rcases ea with rfl | rfl | rfl | rfl | rfl | rfl | rfl | rfl | rfl | rfl | rfl | rfl | rfl | rfl | rfl | rfl <;>
        (rcases eb with rfl | rfl | rfl | rfl | rfl | rfl | rfl | rfl | rfl | rfl | rfl | rfl | rfl | rfl | rfl | rfl <;> rfl)) ks (sg ks).toArray.size 0 #[] hk (by simp [sg_len]; omega)).symm.trans heq
  · cases z
  · have e := Except.ok.inj z
    rw [← e]
    refine PySem.W.KFB.if_so (by decide +kernel) ?_
    refine wpAny_bind (wpAny_mkBytes ?_ ?_)
    · rw [Array.empty_append]
      exact wpAny_pure h
    · have hz := PySem.sizeLine_eq
      simp
      omega
theorem fh_call {x : Addr} {ks : List Nat} {u : Tok} {Q : Value → Shared → Prop} (ho : s.heap.get? x = some fhBound) (hk : ∀ k ∈ ks, k < 256) (hl : ks.length ≤ 1000000)
    (h : Q (.bytes (ks.map Nat.toUInt8).toArray s.toks) { s with toks := s.toks + 1 }) : wpAny (model prog w) A (call (.ref x) [.str ⟨(sg ks).toArray⟩ u]) Q E s := by
  refine wpAny_call (codeAny_of_tree ?_)
  show wpAny _ A.in1 (callAny (.ref x) ⟨[.str ⟨(sg ks).toArray⟩ u], []⟩) _ _ s
  simp only [callAny]
  refine wpAny_bind (wpAny_load ho ?_)
  simp only [fhBound, show (Value.type "builtin_function_or_method" == Value.type "method" || Value.type "builtin_function_or_method" == Value.type "builtin_function_or_method" || Value.type "builtin_function_or_method" == Value.type "method-wrapper") = true by decide, if_true]
  refine PySem.W.KFB.if_so (by decide) ?_
  refine wpAny_bind (wpAny_of_eq (a := ()) fh_check ?_)
  refine wpAny_bind (wpAny_pure (wpAny_pure ?_))
  exact ⟨fh_quiet, codeAny_builtin fh_entry (fh_tree hk hl h)⟩
theorem fh_fields {pos : Pos} {u : Addr} {first : List Value} {args : List (Bool × Sem Value)} {Q : Value → Shared → Prop} (hplain : args.any (·.1) = false)
    (h : wpAny M A (evalArgs (.ref u) true args []) (fun x s₁ => s₁.heap.get? u = some fhBound ∧ wpAny M A (call (.ref u) (first ++ x.pos) x.kw) Q E s₁) E s) :
    wpAny M A (callWith pos (.ref u) first args []) Q E s := by
  unfold callWith
  refine wpAny_bind (wpAny_holding (wpAny_mono h (fun x s₁ hx => ?_) fun _ _ z => z))
  refine wpAny_bind (wpAny_standAt ?_)
  simp only [hplain, List.any_nil, Bool.or_false]
  refine wpAny_bind (m := keeperOf (.ref u)) ?_
  unfold keeperOf
  refine wpAny_bind (wpAny_load hx.1 ?_)
  simp only [fhBound, show (Value.type "builtin_function_or_method" != Value.type "method") = true by decide, show (Value.type "builtin_function_or_method" == Value.type "builtin_function_or_method" || Value.type "builtin_function_or_method" == Value.type "method-wrapper") = true by decide, if_true]
  refine wpAny_pure ?_
  exact wpAny_bind (wpAny_mono hx.2 (fun r s₂ hr => wpAny_bind (wpAny_holding (wpAny_point (wpAny_pure hr)))) fun _ _ z => z)
theorem fh_with {pos : Pos} {u : Addr} {first : List Value} {env : Env} {e : Expr} {rest : List Expr} {Q : Value → Shared → Prop}
    (h : wpAny M A (spliced (backTo pos (starEach (e :: rest) env))) (fun vs s₁ => s₁.heap.get? u = some fhBound ∧ wpAny M A (call (.ref u) (first ++ vs)) Q E s₁) E s)
    (he : starEach (e :: rest) env = (false, eval e env) :: starEach rest env := by rfl) (hplain : (backTo pos (starEach rest env)).any (·.1) = false := by rfl) :
    wpAny M A (callWith pos (.ref u) first (backTo pos (starEach (e :: rest) env)) []) Q E s := by
  rw [he] at h ⊢
  exact fh_fields (by show (false || (backTo pos (starEach rest env)).any (·.1)) = false; rw [hplain]; rfl) (Calls.evalArgs_plain h)
theorem fh_find (K : PySem.W.Frag) : PySem.W.findCls K (.type "bytes") (.type "type") (PySem.Str.ofString "fromhex") = some (.get (.builtin "classmethod_descriptor.__get__") (.builtin "bytes.fromhex") .none (.type "bytes")) := by first | rfl | kernel_rfl
theorem fh_get {pl : Sem Bool} {Q : Value × List Value → Shared → Prop} (X : K.In s.heap)
    (h : Q (.ref s.heap.objs.size, []) { s with heap := s.heap.push fhBound, toks := s.toks + 1 }) : wpAny (model prog w) A (getMethod (.type "bytes") (PySem.Str.ofString "fromhex") pl) Q E s := by
  have L0 : PySem.W.Looks (model prog w) s.heap (typeOf (.type "bytes")) (.type "type") := PySem.W.Looks.of_pure (by first | rfl | kernel_rfl)
  have LO : PySem.W.Looks (model prog w) s.heap (opaqueClassAbove (.type "bytes")) none := PySem.W.Looks.of_pure (by
    unfold opaqueClassAbove
    dsimp only
    rw [show Manifest.isStub "bytes" = false by decide +kernel]
    rfl)
  have hg : PySem.W.findIn K (.type "type") "__getattribute__" = some (some (.builtin "type.__getattribute__")) := PySem.W.type_tga
  unfold getMethod specialOf
  refine wpAny_bind (wpAny_bind (L0.here ((PySem.W.looks_findIn X hg).here ?_)))
  dsimp only
  rw [if_pos PySem.W.canon_tga]
  refine wpAny_bind (wpAny_mono (E := E) (Q := fun v => Q (v, [])) ?_ (fun _ _ z => wpAny_pure z) fun _ _ z => z)
  refine PySem.W.cls_open X LO L0 hg (PySem.W.looks_hook X (r := none) (by rfl)) (by show PySem.W.subIn K _ _ = _; rfl) (fh_find K) ?_
  show wpAny _ _ (holding [.builtin "bytes.fromhex"] (call (.builtin "classmethod_descriptor.__get__") [.builtin "bytes.fromhex", .none, .type "bytes"]) >>= fun v => ret v) _ _ _
  exact wpAny_bind (wpAny_holding (wpAny_call_entry PySem.W.KFB.slot_get fh_type PySem.W.KFB.entry_get (fh_run ⟨_, rfl, wpAny_pure (wpAny_pure h)⟩) (PySem.W.KFB.args_get _ _ _)))
end
def rFh : List V → Hp → VK → Prop := fun vs H Q => ∃ ks : List Nat, vs = [.str ⟨(sg ks).toArray⟩] ∧ (∀ k ∈ ks, k < 256) ∧ ks.length ≤ 1000000 ∧ Q (.byt (ks.map Nat.toUInt8).toArray) H
def tFh (to : TE) (t : TA) : TE := fun σ H Q => to σ H fun x H1 => x = .ty "bytes" ∧ ∀ u, H1 u = none → t σ (upd H1 u (fhHO u)) fun vs H2 => H2 u = some (fhHO u) ∧ rFh vs H2 Q
theorem fh_at {X : Cx} {pins : List (Addr × Obj)} {s : Shared} {σ : L2.St} {H : Hp} {u : Addr} (I : Inv X pins σ H s) (hu : H u = some (fhHO u)) : s.heap.get? u = some fhBound := by
  have x : ObjOk X.prog X.w H s.heap u (.ext fun h => h.get? u = some fhBound) := I.hok u _ hu
  exact x.1
section
variable {X : Cx} {o e : Expr} {es : List Expr} {to : TE} {t : TA} {apos pos : Pos}
theorem pe_fromhex {pl : Sem Bool} (ho : PE X o to) (ha : PA X (e :: es) t) (hst : starEach (e :: es) X.env = (false, eval e X.env) :: starEach es X.env := by rfl) (hpl : (backTo pos (starEach es X.env)).any (·.1) = false := by rfl)
    (ht : eval (.Call (.Attribute o "fromhex" apos) (e :: es) [] pos) X.env = (do
      let own ← eval o X.env
      standAt apos.atName
      let (f, first) ← holding [own] (getMethod own "fromhex" pl)
      callWith pos f first (backTo pos (starEach (e :: es) X.env)) (backToKw pos (keywordEach [] X.env))) := by rfl) :
    PE X (.Call (.Attribute o "fromhex" apos) (e :: es) [] pos) (tFh to t) := by
  constructor
  intro pins s σ H Q I h
  refine PySem.W.methodCall_KW (pl := pl) (thn (ho.run pins s σ H _ I h) fun v s1 ⟨x, H1, I1, rx, ex, q⟩ => ?_) ht
  subst ex
  obtain rfl : v = Value.type "bytes" := rx
  refine fh_get I1.kIn ?_
  have eb : (s1.heap.push fhBound).get? s1.heap.objs.size = some fhBound := Heap.get?_push_size _ rfl
  have I2 := I1.laid (t' := s1.toks + 1) (a := s1.heap.objs.size) (o := fhHO s1.heap.objs.size) (h' := s1.heap.push fhBound) (fun b u q => Heap.get?_push_of_some _ q) (Nat.le_refl _) ⟨eb, ⟨_, eb⟩, fun h1 h2 f k => k _ f⟩
  show wpAny _ _ (callWith pos (.ref s1.heap.objs.size) [] (backTo pos (starEach (e :: es) X.env)) []) _ _ _
  refine fh_with (thn (ha.run pos pins _ σ _ _ I2 (q _ (I1.hok.fresh (Nat.le_refl _)))) fun us s2 ⟨vs, H2, I3, rv, hu, ks, ev, hk, hl, qq⟩ => ⟨fh_at I3 hu, ?_⟩) hst hpl
  subst ev
  obtain ⟨u1, rfl, ru1⟩ := (vals1 rv)
  obtain ⟨t1, rfl⟩ := ru1
  exact fh_call (fh_at I3 hu) hk hl ⟨.byt _, H2, I3.tok _, ⟨_, rfl⟩, qq⟩
/-! ### b.hex() -/
theorem mt_hex : MtR X "bytes.hex" (fun x vs H Q => ∃ ks : List Nat, x = .byt (ks.map Nat.toUInt8).toArray ∧ vs = [] ∧ (∀ k ∈ ks, k < 256) ∧ ks.length ≤ 1000000 ∧ Q (.str ⟨(sg ks).toArray⟩) H) := by
  intro pins s σ H x vs v us Q I rx rv h
  obtain ⟨ks, rfl, rfl, hk, hl, q⟩ := h
  obtain ⟨t, rfl⟩ := rx
  cases rv
  have hb : PySem.W.KBw.bInts (ks.map Nat.toUInt8).toArray = ks.map fun (k : Nat) => (k : Int) := by
    unfold PySem.W.KBw.bInts
    show ((ks.map Nat.toUInt8).map fun c : UInt8 => ((c.toNat : Nat) : Int)) = _
    rw [List.map_map]
    refine (List.map_congr_left fun n hn => ?_)
    show (((n.toUInt8).toNat : Nat) : Int) = n
    have := hk n hn
    simp [Nat.toUInt8]
    omega
  have ht : PySem.W.KBhx.text (ks.map fun (k : Nat) => (k : Int)) = ⟨(sg ks).toArray⟩ := by
    unfold PySem.W.KBhx.text PySem.W.KBhx.signs sg
    rw [List.flatMap_map]
    rfl
  refine PySem.W.KBhx.hex_K hb (by rw [List.length_map]; omega) fun t' k _ => ?_
  rw [ht]
  exact ⟨.str _, H, I.tok _, ⟨_, rfl⟩, q⟩
end
end K7

namespace K7
open PySem PySem.Spec PyProof.Rows L2
/-! ### of_hex, hex_of -/
def sgS (ks : List Nat) : Str := ⟨(sg ks).toArray⟩
def byB (ks : List Nat) : Array UInt8 := (ks.map Nat.toUInt8).toArray
def hexTab : Str := "0123456789abcdef"
theorem dg_in {n : Nat} (h : n < 16) : dg n ∈ hexTab.cps.toList := by
  have : ∀ m : Fin 16, dg m.1 ∈ hexTab.cps.toList := by decide +kernel
  exact this ⟨n, h⟩
theorem sg_in : ∀ {ks : List Nat}, (∀ k ∈ ks, k < 256) → ∀ c ∈ sg ks, c ∈ hexTab.cps.toList
  | [], _, c, h => by (cases h)
  | k :: ks, hk, c, h => by
    have k0 : k < 256 := hk k (by simp)
    have h' : c ∈ [dg (k / 16), dg (k % 16)] ++ sg ks := h
    rcases (List.mem_append.mp h') with (q | q)
    · simp at q
      rcases q with rfl | rfl
      · exact dg_in (by omega)
      · exact dg_in (by omega)
    · exact sg_in (fun k m => hk k (by simp [m])) c q
theorem scOfHex : FnScope ["text", "sign"] ["text"] (defScope sOfHex) := ⟨rfl, rfl, rfl, by decide +kernel, rfl, by decide +kernel, by decide +kernel⟩
section
variable {P : Program} {w : World} {K : PySem.W.Frag} {mg : Str → Option Value} {base : Heap}
def spOfHex : Sp := fun vs H Q _ => ∃ ks : List Nat, vs = [.str (sgS ks)] ∧ (∀ k ∈ ks, k < 256) ∧ ks.length ≤ 100000 ∧ ∀ H', Same H H' → Q (.byt (byB ks)) H'
theorem ok_ofHex {f : Addr} {fd : FuncData} {j : Nat} {t : Tok} (F : Fun K "of_hex" "of_hex" sOfHex f fd) (m1 : mg "isinstance" = none) (m2 : mg "str" = none) (m3 : mg "len" = none) (m4 : mg "all" = none) (m5 : mg "bytes" = none) (c1 : mg "SIGNS" = some (.str hexTab t)) :
    FnOk P w K mg base CX0 (j + 1) f fd ["text"] spOfHex := by
  refine F.ok scOfHex (fun vs H Q E h => ?_) (fun cdv A outer s H vs Q E hr h => ?_)
  · obtain ⟨ks, rfl, _⟩ := h
    rfl
  · obtain ⟨ks, rfl, hk, hl, q⟩ := h
    refine ⟨_, pss_cons (ps_if (PW.pt (pw_or (pt_not (pt_val (pe_callB call_isi (by rfl) m1 (by decide +kernel) (pa_cons (pv 0) (pa_cons (pe_bltn (v := .ty "str") (by rfl) m2 (by decide +kernel) rfl) pa_nil)))))
        (pw_or (pt_truth (pe_op op_and (pe_callB call_len_str (by rfl) m3 PySem.boot_len (pa_cons (pv 0) pa_nil)) pe_int) (by intro _; rfl))
        (pw_or1 (pt_not (pt_val (pe_callB (cr_all rfl) (by rfl) m4 (by decide +kernel) (pa_cons (pe_lc (own := [("sign", 1)]) (g := gName 1) (tt := tYes) rfl scOfHex.nd (pi_str (pv 0)) (blkOk_by (N := ["text", "sign"]) (sc := defScope sOfHex) (by decide +kernel))
          (fun _ _ _ _ _ => pg_name (i := 1) scOfHex.nd rfl (Or.inl rfl)) (fun _ _ _ _ _ => pts_nil)
          (fun _ _ _ _ _ => pe_cmpR op_in_sign (pv 1) (pe_glob (v := .str hexTab) rfl c1 ⟨_, rfl⟩) (by with_unfolding_all rfl))) pa_nil))))))))
        (pss_one ps_never) pss_nil)
      (pss_one (ps_ret (pe_fromhex (pe_bltn (v := .ty "bytes") (by rfl) m5 (by decide +kernel) rfl) (pa_cons (pv 0) pa_nil)))), ?_⟩
    have hsz : (sgS ks).length = 2 * ks.length := sg_len ks
    have hz := PySem.sizeLine_eq
    refine ⟨_, rfl, _, _, _, _, _, rfl, .ty "str", .base (.str _), kit_ty (a := "str") (r := true) (by decide +kernel), _, rfl, ?_⟩
    refine iteF ?_
    refine ⟨_, rfl, _, rfl, by rw [hsz, hz]; omega, _, _, rfl, rfl, _, rfl, ?_⟩
    have hev : Builtin.bitAnd (((sgS ks).length : Nat) : Int) 1 = 0 := by
      rw [PyProof.Rows.bitAnd_m1, hsz]
      omega
    rw [hev]
    refine iteF ?_
    refine ⟨_, rfl, _, rfl, fun D nD => ?_⟩
    refine lc_it (walk_str (z := sgS ks)) (fun i H' => Same H H' ∧ H' D = some (.lst (List.replicate i (.bl true)))) ⟨same_upd nD, upd_same⟩ (fun _ _ _ _ => trivial) (fun i x H1 H2 hi h y => ?_) (fun H' h => ?_)
    · obtain ⟨rfl, c, hc, rfl⟩ := y
      refine ⟨rfl, yes ?_⟩
      have hcs : c ∈ sg ks := by
        have := Array.mem_of_getElem? hc
        simpa [sgS] using this
      refine ⟨_, rfl, c, hexTab, rfl, rfl, _, h.2, ?_, same_put h.1 nD, ?_⟩
      · rw [List.length_replicate]
        have : (sgS ks).cps.size = 2 * ks.length := hsz
        omega
      · rw [upd_same, decide_eq_true (sg_in hk c hcs), List.replicate_succ']
    · have hall : (List.replicate (sgS ks).cps.size true).all id = true := by simp
      refine ⟨D, List.replicate (sgS ks).cps.size true, rfl, .inl (.inl (by rw [h.2, List.map_replicate])), _, rfl, ?_⟩
      rw [hall]
      refine iteF ?_
      refine ⟨rfl, fun u nu => ⟨_, rfl, upd_same, ks, rfl, hk, by omega, ?_⟩⟩
      exact q _ (same_put h.1 (none_back h.1 nu))
end
end K7

namespace K7
open PySem PySem.Spec PyProof.Rows L2 TL
section
variable {X : Cx} {o : Expr} {to : TE}
def tB0 (r : V → List V → Hp → VK → Prop) (to : TE) : TE := fun σ H Q => to σ H fun x H1 => (∃ b, x = .byt b) ∧ r x [] H1 Q
theorem pe_b0 {id : String} {name : Str} {apos pos : Pos} {r : V → List V → Hp → VK → Prop} (slot : Slot "bytes" name id) (ty : typeOf (.builtin id) = pure (.type "method_descriptor")) (rule : MtR X id r) (ho : PE X o to)
    (hbase : attributeBase o name X.env (eval o X.env) = eval o X.env := by rfl) (hline : (apos.endLine == pos.line) = true := by rfl) : PE X (.Call (.Attribute o name apos) [] [] pos) (tB0 r to) := by
  constructor
  intro pins s σ H Q I h
  refine PySem.Call_method0 hbase hline (thn (ho.run pins s σ H _ I h) fun v s1 ⟨x, H1, I1, r1, ⟨b, eb⟩, q1⟩ => ?_)
  subst eb
  obtain ⟨t, rfl⟩ := _root_.id r1
  exact ⟨"bytes", _, PySem.W.FB.plainAttrs_bytes, slot, ty, PySem.W.typeIs_bytes _ _ _, (fun _ e => nomatch e), Calls.callWith_builtin rfl (PySem.evalArgs_none (rule pins s1 σ H1 _ [] _ [] Q I1 r1 .nil q1))⟩
end
section
variable {P : Program} {w : World} {K : PySem.W.Frag} {mg : Str → Option Value} {base : Heap}
/-! ### _law_hex -/
theorem scHex : FnScope ["_law_numbers_here", "_law_one"] ["_law_numbers_here"] (defScope sHex) := ⟨rfl, rfl, rfl, by decide +kernel, rfl, by decide +kernel, by decide +kernel⟩
theorem tab_at {n : Nat} (h : n < 16) : atI hexTab.cps.toList ((n : Nat) : Int) = some (dg n) := by
  have : ∀ m : Fin 16, hexTab.cps.toList[m.1]? = some (dg m.1) := by decide +kernel
  exact atI_nat (this ⟨n, h⟩)
def two (k : Nat) : Str := ⟨#[dg (k / 16)]⟩ ++ ⟨#[dg (k % 16)]⟩
theorem joinL_nil : ∀ ls : List (List Nat), joinL [] ls = ls.flatten
  | [] => rfl
  | [p] => by simp [joinL]
  | p :: q :: r => by
    show p ++ ([] ++ joinL [] (q :: r)) = _
    rw [joinL_nil (q :: r)]
    rfl
theorem join_two (ks : List Nat) : Txt.join "" (ks.map two) = sgS ks := by
  refine (List.cons.inj (map_tl_inj (l := [_]) (m := [_]) ?_)).1
  rw [List.map_singleton, List.map_singleton, join_eq, tl_join]
  show [joinL [] ((ks.map two).map tl)] = [(sg ks)]
  rw [joinL_nil, List.map_map]
  congr 1
def spHex : Sp := fun vs H Q _ => ∃ (p : Addr) (ks : List Nat), vs = [.ref p] ∧ H p = some (.lst (ks.map fun (k : Nat) => V.int (k : Int))) ∧ (∀ k ∈ ks, k < 256) ∧ ks.length ≤ 100000 ∧ ∀ H', Same H H' → Q (.str (sgS ks)) H'
theorem ok_hex {f : Addr} {fd : FuncData} {j : Nat} (F : Fun K "_law_hex" "_law_hex" sHex f fd) (m1 : mg "int" = none) : FnOk P w K mg base CX0 (j + 1) f fd ["_law_numbers_here"] spHex := by
  refine F.ok scHex (fun vs H Q E h => ?_) (fun cdv A outer s H vs Q E hr h => ?_)
  · obtain ⟨p, ks, rfl, _⟩ := h
    rfl
  · obtain ⟨p, ks, rfl, hp, hk, hl, q⟩ := h
    refine ⟨_, pss_one (ps_ret (pe_join pe_str (pe_lc (own := [("_law_one", 1)]) (g := gName 1) (tt := tYes) rfl scHex.nd (pi_list (pv 0)) (blkOk_by (N := ["_law_numbers_here", "_law_one"]) (sc := defScope sHex) (by decide +kernel))
        (fun _ _ _ _ _ => pg_name (i := 1) scHex.nd rfl (Or.inl rfl)) (fun _ _ _ _ _ => pts_nil)
        (fun _ _ _ _ _ => pe_op op_add_str (pe_ix ix_str pe_str (pe_op op_fdivN (pv 1) pe_int) (fun _ _ => rfl)) (pe_ix ix_str pe_str (pe_op op_modN (pe_callTy call_int1 (by rfl) m1 (by decide +kernel) (pa_cons (pv 1) pa_nil)) pe_int) (fun _ _ => rfl)))))), ?_⟩
    refine ⟨⟨_, rfl⟩, _, rfl, p, rfl, ⟨_, .inl (.inl hp)⟩, fun D nD => ?_⟩
    have hz := PySem.sizeLine_eq
    refine lc_list (K := K) (a := p) (xs := ks.map fun (k : Nat) => V.int (k : Int)) (fun i H' => Same H H' ∧ H' D = some (.lst (((ks.take i).map two).map V.str))) ⟨same_upd nD, upd_same⟩ (fun i H' _ h => .inl (.inl (h.1 _ _ hp))) (fun i x H1 hx h => ?_) (fun H1 h => ?_)
    · obtain ⟨k, hk', rfl⟩ : ∃ k, ks[i]? = some k ∧ x = V.int (k : Int) := by
        rw [List.getElem?_map] at hx
        cases e : ks[i]? with
        | none => (rw [e] at hx); (cases hx)
        | some k => rw [e] at hx; exact ⟨k, rfl, (Option.some.inj hx).symm⟩
      have k0 := hk k (List.mem_of_getElem? hk')
      have e1 : ((k : Nat) : Int).fdiv 16 = ((k / 16 : Nat) : Int) := by
        rw [Int.fdiv_eq_ediv_of_nonneg _ (by decide)]
        rfl
      have e2 : ((k : Nat) : Int).fmod 16 = ((k % 16 : Nat) : Int) := by
        rw [Int.fmod_eq_emod_of_nonneg _ (by decide)]
        rfl
      refine ⟨rfl, yes ?_⟩
      refine ⟨_, rfl, _, _, rfl, rfl, ⟨by decide, by decide⟩, hexTab, _, dg (k / 16), rfl, rfl, (by rw [hz]; decide), (by rw [e1]; exact tab_at (by omega)), ?_⟩
      refine ⟨_, rfl, .inl ⟨_, rfl, _, _, rfl, rfl, (by show (16 : Int) ≠ 0; decide), hexTab, _, dg (k % 16), rfl, rfl, (by rw [hz]; decide), (by rw [e2]; exact tab_at (by omega)), ?_⟩⟩
      refine ⟨_, _, rfl, rfl, (by rw [hz]; show 1 + 1 ≤ 16777216; decide), _, h.2, ?_, same_put h.1 nD, ?_⟩
      · rw [List.length_map, List.length_map, List.length_take]
        omega
      · rw [upd_same, List.take_add_one, hk', List.map_append, List.map_append]
        rfl
    · have e : ks.take (ks.map fun (k : Nat) => V.int (k : Int)).length = ks := by rw [List.length_map, List.take_length]
      rw [e] at h
      have hsum : ((ks.map two).map (·.length)).sum = 2 * ks.length := by
        rw [List.map_map]
        have : ((fun x : Str => x.length) ∘ two) = fun _ => 2 := by
          funext k
          rfl
        rw [this]
        clear this h e hp hk q hl
        induction ks with
        | nil => rfl
        | cons k ks ih =>
          rw [List.map_cons, List.sum_cons, ih, List.length_cons]
          omega
      refine ⟨_, D, ks.map two, rfl, rfl, .inl (.inl (.inl h.2)), ?_, ?_⟩
      · rw [hsum, List.length_map]
        show 2 * ks.length + ks.length * 0 ≤ _
        omega
      · rw [join_two]
        exact q H1 h.1
end
end K7

namespace K7
open PySem PySem.Spec PyProof.Rows L2
/-! ### _law_back -/
theorem scBack : FnScope ["_law_back_here", "_law_found"] ["_law_back_here"] (defScope sBack) := ⟨rfl, rfl, rfl, by decide +kernel, rfl, by decide +kernel, by decide +kernel⟩
section
variable {P : Program} {w : World} {K : PySem.W.Frag} {mg : Str → Option Value} {base : Heap}
def spBack : Sp := fun vs H Q _ => ∃ b : Nat, vs = [.int (b : Int)] ∧ 1 ≤ b ∧ b ≤ 5000 ∧ Q (.int ((Nat.log2 b : Nat) : Int)) H
theorem ok_back {f : Addr} {fd : FuncData} {j : Nat} (F : Fun K "_law_back" "_law_back" sBack f fd) : FnOk P w K mg base CX0 (j + 1) f fd ["_law_back_here"] spBack := by
  refine F.ok scBack (fun vs H Q E h => ?_) (fun cdv A outer s H vs Q E hr h => ?_)
  · obtain ⟨b, rfl, _⟩ := h
    rfl
  · obtain ⟨b, rfl, h1, h2, q⟩ := h
    refine ⟨_, pss_cons (ps_set (i := 1) scBack.nd rfl (.inl rfl) pe_int)
      (pss_cons (ps_while PassesOwn.never (pt_cmpR op_le (pe_op op_shl pe_int (pv 1)) (pv 0) (nomark _))
        (pss_one (ps_set (i := 1) scBack.nd rfl (.inl rfl) (pe_op op_add (pv 1) pe_int))))
      (pss_one (ps_ret (pv 1)))), ?_⟩
    refine ⟨fun m σ H' => ∃ c : Nat, m = 5000 - c ∧ c ≤ 20 ∧ H' = H ∧ σ = [some (.int (b : Int)), some (.int (c : Int))] ∧ 2 ^ c ≤ b, ⟨5000, 0, rfl, by omega, rfl, rfl, by simpa using h1⟩, fun m σ H' hW => ?_⟩
    obtain ⟨c, rfl, hc, rfl, rfl, hle⟩ := hW
    refine ⟨_, rfl, _, _, rfl, rfl, ⟨by omega, by omega, by decide⟩, _, rfl, _, _, rfl, rfl, _, rfl, ?_⟩
    have e2 : (2 : Int) * 2 ^ ((c : Int)).toNat = ((2 ^ (c + 1) : Nat) : Int) := by
      rw [Int.toNat_natCast, Nat.pow_succ, Nat.mul_comm]
      push_cast
      rfl
    rw [e2]
    refine ite2 (fun e => ?_) (fun e => ?_)
    · have e3 : 2 ^ (c + 1) ≤ b := by
        have := of_decide_eq_true e
        omega
      have hc12 : c < 12 := by
        refine Nat.lt_of_not_le fun z => ?_
        have : 2 ^ 13 ≤ 2 ^ (c + 1) := Nat.pow_le_pow_right (by decide) (by omega)
        omega
      refine ⟨fun σ' H'' => ∃ m', m' < 5000 - c ∧ ∃ c : Nat, m' = 5000 - c ∧ c ≤ 20 ∧ H'' = H' ∧ σ' = [some (.int (b : Int)), some (.int (c : Int))] ∧ 2 ^ c ≤ b, fun σ' H'' h => h, ?_⟩
      exact ⟨_, rfl, _, _, rfl, rfl, 5000 - (c + 1), by omega, c + 1, rfl, by omega, rfl, by simp, e3⟩
    · have e3 : ¬ 2 ^ (c + 1) ≤ b := fun z => e (decide_eq_true (by omega))
      have : Nat.log2 b = c := by
        refine (Nat.log2_eq_iff (by omega)).mpr ⟨hle, by omega⟩
      rw [this] at q
      exact ⟨_, rfl, q⟩
end
end K7

namespace K7
open PySem PySem.Spec PyProof.Rows L2
/-! ### _law_told_lengths -/
def toldL : List Int := List.replicate 239 8 ++ List.replicate 34 9
def toldB : List Int := List.replicate 6 4 ++ List.replicate 5 3
theorem rep_flat (n : Nat) (x : V) : (List.replicate n [x]).flatten = List.replicate n x := by
  induction n with
  | zero => rfl
  | succ n ih => rw [List.replicate_succ, List.flatten_cons, ih, List.replicate_succ]; rfl
theorem half {σ : L2.St} {H : Hp} {Q : VK} (x1 x2 : V) (n1 n2 : Nat) (h1 : n1 ≤ 1000) (h2 : n2 ≤ 1000)
    (h : ∀ H' p, Same H H' → H p = none → H' p = some (.lst (List.replicate n1 x1 ++ List.replicate n2 x2)) → Q (.ref p) H') :
    tOp rCat (tOp rRep (tLst (tCons (tC x1) tNil)) (tC (V.int (n1 : Int)))) (tOp rRep (tLst (tCons (tC x2) tNil)) (tC (V.int (n2 : Int)))) σ H Q := by
  have hz := PySem.sizeLine_eq
  refine ⟨by show 1 ≤ sizeLine; rw [hz]; decide, fun a na => ⟨_, _, _, rfl, rfl, upd_same, by omega, by omega, by rw [hz]; simp; omega, fun b nb => ⟨by show 1 ≤ sizeLine; rw [hz]; decide, fun a2 na2 => ⟨_, _, _, rfl, rfl, upd_same, by omega, by omega, by rw [hz]; simp; omega, fun b2 nb2 => ?_⟩⟩⟩⟩
  rw [Int.toNat_natCast, Int.toNat_natCast, rep_flat, rep_flat] at *
  have s1 : Same H (upd H a (.lst [x1])) := same_upd na
  generalize upd H a (.lst [x1]) = H1 at *
  have s2 : Same H1 (upd H1 b (.lst (List.replicate n1 x1))) := same_upd nb
  have e2 : (upd H1 b (.lst (List.replicate n1 x1))) b = some (.lst (List.replicate n1 x1)) := upd_same
  generalize upd H1 b (.lst (List.replicate n1 x1)) = H2 at *
  have s3 : Same H2 (upd H2 a2 (.lst [x2])) := same_upd na2
  generalize upd H2 a2 (.lst [x2]) = H3 at *
  have s4 : Same H3 (upd H3 b2 (.lst (List.replicate n2 x2))) := same_upd nb2
  have e4 : (upd H3 b2 (.lst (List.replicate n2 x2))) b2 = some (.lst (List.replicate n2 x2)) := upd_same
  generalize upd H3 b2 (.lst (List.replicate n2 x2)) = H4 at *
  have s14 := ((s1.trans s2).trans s3).trans s4
  refine ⟨_, _, _, _, rfl, rfl, s4 _ _ (s3 _ _ e2), e4, by rw [List.length_replicate, List.length_replicate, hz]; omega, fun p np => ?_⟩
  exact h _ p (s14.trans (same_upd np)) (none_back s14 np) upd_same
theorem scTold : FnScope [] [] (defScope sTold) := ⟨rfl, rfl, rfl, by decide +kernel, rfl, by decide +kernel, by decide +kernel⟩
section
variable {P : Program} {w : World} {K : PySem.W.Frag} {mg : Str → Option Value} {base : Heap}
def spTold : Sp := fun vs H Q _ => vs = [] ∧ ∀ H' t p q, Same H H' → H' t = some (.tup [.ref p, .ref q]) → H' p = some (.lst (toldL.map V.int)) → H' q = some (.lst (toldB.map V.int)) → H t = none → H p = none → H q = none → Q (.ref t) H'
theorem ok_told {f : Addr} {fd : FuncData} {j : Nat} (F : Fun K "_law_told_lengths" "_law_told_lengths" sTold f fd) : FnOk P w K mg base CX0 (j + 1) f fd [] spTold := by
  refine F.ok scTold (fun vs H Q E h => ?_) (fun cdv A outer s H vs Q E hr h => ?_)
  · obtain ⟨rfl, _⟩ := h
    rfl
  · obtain ⟨rfl, q⟩ := h
    have hz := PySem.sizeLine_eq
    refine ⟨_, pss_one (ps_ret (pe_tup (pa_cons (pe_op op_cat (pe_op op_rep (pe_lst (pa_cons pe_int pa_nil)) pe_int) (pe_op op_rep (pe_lst (pa_cons pe_int pa_nil)) pe_int))
      (pa_cons (pe_op op_cat (pe_op op_rep (pe_lst (pa_cons pe_int pa_nil)) pe_int) (pe_op op_rep (pe_lst (pa_cons pe_int pa_nil)) pe_int)) pa_nil)))), ?_⟩
    refine half (.int 8) (.int 9) 239 34 (by decide) (by decide) fun H1 p s1 np hp => ?_
    refine half (.int 4) (.int 3) 6 5 (by decide) (by decide) fun H2 p2 s2 np2 hp2 => ?_
    refine ⟨by show 2 ≤ sizeLine; rw [hz]; decide, fun t nt => ?_⟩
    have s12 := s1.trans s2
    refine q _ t p p2 (s12.trans (same_upd nt)) upd_same ?_ ?_ (none_back s12 nt) np (none_back s1 np2)
    · have := same_upd (o := .tup [.ref p, .ref p2]) nt _ _ (s2 _ _ hp)
      rw [this]
      simp [toldL]
    · have := same_upd (o := .tup [.ref p, .ref p2]) nt _ _ hp2
      rw [this]
      simp [toldB]
end
end K7

namespace K7
open PySem PySem.Spec PyProof.Rows L2
/-! ### items and _law_cost -/
inductive Itm where
  | b (k : Nat)
  | c (many back : Nat)
def ItmAt (H : Hp) : Itm → V → Prop
  | .b k, v => v = .int (k : Int)
  | .c m r, v => ∃ t, v = .ref t ∧ H t = some (.tup [.int (m : Int), .int (r : Int)])
def ItmOk : Itm → Prop
  | .b k => k < 256
  | .c m r => 3 ≤ m ∧ m ≤ 18 ∧ 1 ≤ r ∧ r ≤ 1024
theorem ItmAt.same {H H' : Hp} {it : Itm} {v : V} (h : ItmAt H it v) (s : Same H H') : ItmAt H' it v := by
  cases it with
  | b k => exact h
  | c m r =>
    obtain ⟨t, e, ht⟩ := h
    exact ⟨t, e, s _ _ ht⟩
def costO (L B : List Int) : Itm → Option Int
  | .b k => if 0 < L.getD k 0 then some (L.getD k 0) else none
  | .c m r => if L.getD (254 + m) 0 = 0 ∨ B.getD (Nat.log2 r) 0 = 0 then none else some (L.getD (254 + m) 0 + B.getD (Nat.log2 r) 0 + (Nat.log2 r : Nat))
def optV : Option Int → V
  | none => .non
  | some i => .int i
theorem at_getD {L : List Int} {k : Nat} (h : k < L.length) : atI (L.map V.int) (k : Int) = some (.int (L.getD k 0)) := by
  refine atI_nat ?_
  rw [List.getElem?_map, List.getElem?_eq_getElem h, List.getD_eq_getElem?_getD, List.getElem?_eq_getElem h]
  rfl
theorem scCost : FnScope ["_law_item", "_law_letters", "_law_backs", "_law_sort"] ["_law_item", "_law_letters", "_law_backs"] (defScope sCost) := ⟨rfl, rfl, rfl, by decide +kernel, rfl, by decide +kernel, by decide +kernel⟩
section
variable {P : Program} {w : World} {K : PySem.W.Frag} {mg : Str → Option Value} {base : Heap}
def spCost : Sp := fun vs H Q _ => ∃ (v : V) (it : Itm) (pL pB : Addr) (L B : List Int), vs = [v, .ref pL, .ref pB] ∧ ItmAt H it v ∧ ItmOk it ∧ H pL = some (.lst (L.map V.int)) ∧ H pB = some (.lst (B.map V.int)) ∧ L.length = 273 ∧ B.length = 11 ∧ Q (optV (costO L B it)) H
theorem ok_cost {f fB : Addr} {fd fdB : FuncData} {j : Nat} (F : Fun K "_law_cost" "_law_cost" sCost f fd) (GB : FnOk P w K mg base CX0 (j + 1) fB fdB ["_law_back_here"] spBack) (bB : Binds K fdB ["_law_back_here"] []) (kB : PySem.W.keepIn K (.ref fB) = true) (gB : mg "_law_back" = some (.ref fB))
    (m1 : mg "isinstance" = none) (m2 : mg "int" = none) : FnOk P w K mg base CX0 (j + 2) f fd ["_law_item", "_law_letters", "_law_backs"] spCost := by
  refine F.ok scCost (fun vs H Q E h => ?_) (fun cdv A outer s H vs Q E hr h => ?_)
  · obtain ⟨v, it, pL, pB, L, B, rfl, _⟩ := h
    rfl
  · obtain ⟨v, it, pL, pB, L, B, rfl, hi, ok, hL, hB, lL, lB, q⟩ := h
    refine ⟨_, pss_cons (ps_if (pt_val (pe_callB call_isi (by rfl) m1 (by decide +kernel) (pa_cons (pv 0) (pa_cons (pe_bltn (v := .ty "int") (by rfl) m2 (by decide +kernel) rfl) pa_nil))))
        (pss_one (ps_ret (pe_ifExp (pt_cmpR op_gt (pe_ix ix_list (pv 1) (pv 0) (fun _ _ => rfl)) pe_int (nomark _)) (pe_ix ix_list (pv 1) (pv 0) (fun _ _ => rfl)) pe_non))) pss_nil)
      (pss_cons (ps_set (i := 3) scCost.nd rfl (.inl rfl) (pe_call GB hr (by rfl) gB kB bB .nil pass0 (pa_cons (pe_ix ix_tup (pv 0) pe_int (fun _ _ => rfl)) pa_nil)))
      (pss_cons (ps_if (PW.pt (pw_or (pt_cmpR op_eq (pe_ix ix_list (pv 1) (pe_op op_add pe_int (pe_ix ix_tup (pv 0) pe_int (fun _ _ => rfl))) (fun _ _ => rfl)) pe_int (nomark _)) (pw_or1 (pt_cmpR op_eq (pe_ix ix_list (pv 2) (pv 3) (fun _ _ => rfl)) pe_int (nomark _))))) (pss_one (ps_ret pe_non)) pss_nil)
      (pss_one (ps_ret (pe_op op_add (pe_op op_add (pe_ix ix_list (pv 1) (pe_op op_add pe_int (pe_ix ix_tup (pv 0) pe_int (fun _ _ => rfl))) (fun _ _ => rfl)) (pe_ix ix_list (pv 2) (pv 3) (fun _ _ => rfl))) (pv 3)))))), ?_⟩
    cases it with
    | b k =>
      have ek : v = .int (k : Int) := hi
      subst ek
      have k0 : k < 256 := ok
      have ea := at_getD (L := L) (k := k) (by omega)
      refine ⟨_, rfl, _, _, _, _, _, rfl, .ty "int", .base (.int _), kit_ty (a := "int") (r := true) (by decide +kernel), _, rfl, iteT ?_⟩
      refine ⟨_, rfl, _, rfl, pL, _, _, _, rfl, rfl, .inl (.inl hL), ea, _, _, rfl, rfl, _, rfl, ?_⟩
      have q : Q (optV (if 0 < L.getD k 0 then some (L.getD k 0) else none)) H := q
      refine ite2 (fun e => ?_) (fun e => ?_)
      · rw [if_pos (of_decide_eq_true e)] at q
        exact ⟨_, rfl, _, rfl, pL, _, _, _, rfl, rfl, .inl (.inl hL), ea, q⟩
      · rw [if_neg (fun z => e (decide_eq_true z))] at q
        exact q
    | c m r =>
      obtain ⟨t, ev, ht⟩ := hi
      subst ev
      obtain ⟨o1, o2, o3, o4⟩ := ok
      have hlog : Nat.log2 r < 11 := (Nat.log2_lt (by omega)).mpr (by omega)
      have ea := at_getD (L := L) (k := 254 + m) (by omega)
      have eb := at_getD (L := B) (k := Nat.log2 r) (by omega)
      have ec : ((254 + m : Nat) : Int) = 254 + (m : Int) := by push_cast; rfl
      rw [ec] at ea
      refine ⟨_, rfl, _, _, .type "tuple", _, false, rfl, .ty "int", .base (.tup ht), kit_ty (a := "tuple") (r := false) (by decide +kernel), _, rfl, iteF ?_⟩
      refine ⟨_, rfl, t, _, 1, _, rfl, rfl, .inl (.inl ht), rfl, r, rfl, o3, by omega, ?_⟩
      have q : Q (optV (if L.getD (254 + m) 0 = 0 ∨ B.getD (Nat.log2 r) 0 = 0 then none else some (L.getD (254 + m) 0 + B.getD (Nat.log2 r) 0 + (Nat.log2 r : Nat)))) H := q
      refine ⟨_, rfl, _, rfl, t, _, 0, _, rfl, rfl, .inl (.inl ht), rfl, _, _, rfl, rfl, pL, _, _, _, rfl, rfl, .inl (.inl hL), ea, rfl, _, rfl, ite2 (fun e => ?_) (fun e => ?_)⟩
      · have e1 : V.int (L.getD (254 + m) 0) = V.int 0 := of_decide_eq_true e
        rw [if_pos (.inl (V.int.inj e1))] at q
        exact q
      · have e1 : ¬ L.getD (254 + m) 0 = 0 := fun z => e (decide_eq_true (congrArg V.int z))
        refine ⟨_, rfl, _, rfl, pB, _, _, _, rfl, rfl, .inl (.inl hB), eb, rfl, _, rfl, ite2 (fun e => ?_) (fun e => ?_)⟩
        · have e2 : V.int (B.getD (Nat.log2 r) 0) = V.int 0 := of_decide_eq_true e
          rw [if_pos (.inr (V.int.inj e2))] at q
          exact q
        · have e2 : ¬ B.getD (Nat.log2 r) 0 = 0 := fun z => e (decide_eq_true (congrArg V.int z))
          rw [if_neg (fun z => z.elim e1 e2)] at q
          exact ⟨_, rfl, _, rfl, t, _, 0, _, rfl, rfl, .inl (.inl ht), rfl, _, _, rfl, rfl, pL, _, _, _, rfl, rfl, .inl (.inl hL), ea, _, rfl, _, rfl, pB, _, _, _, rfl, rfl, .inl (.inl hB), eb, _, _, rfl, rfl, _, rfl, _, _, rfl, rfl, q⟩
end
end K7

namespace K7
open PySem PySem.Spec PyProof.Rows L2
/-! ### prices: good lengths, drawn out runs -/
def usedL (xs : List Int) : List Int := xs.filter fun x => decide (0 < x)
def goodP (xs : List Int) : Bool := if (usedL xs).length < 2 then decide (usedL xs = []) || decide (usedL xs = [1]) else decide (((usedL xs).map fun x => (1 : Int) * 2 ^ (12 - x).toNat).sum = 4096)
theorem used_succ {xs : List Int} {i : Nat} {x : Int} (h : xs[i]? = some x) : usedL (xs.take (i + 1)) = usedL (xs.take i) ++ (if 0 < x then [x] else []) := by
  rw [List.take_add_one, h]
  unfold usedL
  rw [List.filter_append]
  congr 1
  by_cases q : 0 < x <;> simp [q]
theorem used_le (xs : List Int) : (usedL xs).length ≤ xs.length := List.length_filter_le _ _
theorem same_tupK {K : PySem.W.Frag} {H H' : Hp} {a : Addr} {xs : List V} (e : Same H H') (h : SqT K H a xs) : SqT K H' a xs := by
  rcases h with (h | ⟨o, h⟩) | h
  · exact .inl (.inl (e _ _ h))
  · exact .inl (.inr ⟨o, e _ _ h⟩)
  · exact .inr h
theorem iteC {A B : Prop} {c : Bool} (hc : c = true) (h : A) : if c = true then A else B := by
  rw [if_pos hc]
  exact h
theorem scAreGood : FnScope ["lengths", "used", "length"] ["lengths"] (defScope sAreGood) := ⟨rfl, rfl, rfl, by decide +kernel, rfl, by decide +kernel, by decide +kernel⟩
theorem scAreP : FnScope ["lengths", "many"] ["lengths", "many"] (defScope sAreP) := ⟨rfl, rfl, rfl, by decide +kernel, rfl, by decide +kernel, by decide +kernel⟩
theorem scPInit : FnScope ["self", "letters", "backs"] ["self", "letters", "backs"] (defScope sPInit) := ⟨rfl, rfl, rfl, by decide +kernel, rfl, by decide +kernel, by decide +kernel⟩
theorem scPLet : FnScope ["self"] ["self"] (defScope sPLet) := ⟨rfl, rfl, rfl, by decide +kernel, rfl, by decide +kernel, by decide +kernel⟩
theorem scPBk : FnScope ["self"] ["self"] (defScope sPBk) := ⟨rfl, rfl, rfl, by decide +kernel, rfl, by decide +kernel, by decide +kernel⟩
section
variable {P : Program} {w : World} {K : PySem.W.Frag} {mg : Str → Option Value} {base : Heap}
def spAreGood : Sp := fun vs H Q _ => ∃ (p : Addr) (xs : List Int), vs = [.ref p] ∧ H p = some (.lst (xs.map V.int)) ∧ xs.length ≤ 1000 ∧ (∀ x ∈ xs, x ≤ 12) ∧ ∀ H', Same H H' → Q (.bl (goodP xs)) H'
theorem ok_areGood {f : Addr} {fd : FuncData} {j : Nat} {t12 : Tok} (F : Fun K "are_good" "are_good" sAreGood f fd) (m1 : mg "sum" = none) (m2 : mg "len" = none) (cL : mg "LONGEST" = some (.int 12 t12)) : FnOk P w K mg base CX0 (j + 1) f fd ["lengths"] spAreGood := by
  refine F.ok scAreGood (fun vs H Q E h => ?_) (fun cdv A outer s H vs Q E hr h => ?_)
  · obtain ⟨p, xs, rfl, _⟩ := h
    rfl
  · obtain ⟨p, xs, rfl, hp, hl, h12, q⟩ := h
    refine ⟨_, pss_cons (ps_setLc (i := 1) (own := [("length", 2)]) (g := gName 2) rfl scAreGood.nd rfl rfl (sw_true rfl rfl rfl (by decide +kernel))
          (pi_list (pv 0)) (blkOk_by (N := ["lengths", "used", "length"]) (sc := defScope sAreGood) (by decide +kernel))
          (fun _ _ _ _ _ => pg_name (i := 2) scAreGood.nd rfl (.inl rfl)) (fun _ _ _ _ _ => pts_one (pt_cmpR op_gt (pv 2) pe_int (nomark _))) (fun _ _ _ _ _ => pv 2))
      (pss_cons (ps_if (pt_cmpR op_lt (pe_callB call_len_seq (by rfl) m2 PySem.boot_len (pa_cons (pv 1) pa_nil)) pe_int (nomark _))
        (pss_one (ps_ret (pe_or (pe_cmpR (op_eqD hr.units) (pv 1) (pe_lst pa_nil) (nomark _)) (pe_one (pe_cmpR (op_eqD hr.units) (pv 1) (pe_lst (pa_cons pe_int pa_nil)) (nomark _)))))) pss_nil)
      (pss_one (ps_ret (pe_cmpR op_eq (pe_callB (cr_sum rfl) (by rfl) m1 (by decide +kernel) (pa_cons (pe_lc (own := [("length", 2)]) (g := gName 2) (tt := tYes) rfl scAreGood.nd (pi_list (pv 1)) (blkOk_by (N := ["lengths", "used", "length"]) (sc := defScope sAreGood) (by decide +kernel))
          (fun _ _ _ _ _ => pg_name (i := 2) scAreGood.nd rfl (.inl rfl)) (fun _ _ _ _ _ => pts_nil) (fun _ _ _ _ _ => pe_op op_shl pe_int (pe_op op_sub (pe_glob (v := .int 12) rfl cL ⟨_, rfl⟩) (pv 2)))) pa_nil)) (pe_op op_shl pe_int (pe_glob (v := .int 12) rfl cL ⟨_, rfl⟩)) (nomark _))))), ?_⟩
    refine ⟨_, rfl, p, rfl, ⟨_, .inl (.inl hp)⟩, fun D nD => ?_⟩
    refine lc_list (K := K) (a := p) (xs := xs.map V.int) (fun i H' => Same H H' ∧ H' D = some (.lst ((usedL (xs.take i)).map V.int))) ⟨same_upd nD, upd_same⟩ (fun i H' _ h => .inl (.inl (h.1 _ _ hp))) (fun i x H1 hx h => ?_) (fun H1 h => ?_)
    · obtain ⟨x, rfl, hx'⟩ := int_of hx
      refine ⟨rfl, _, rfl, _, _, rfl, rfl, _, rfl, ?_⟩
      rw [used_succ hx']
      refine ite2 (fun e => ?_) (fun e => ?_)
      · rw [if_pos (show 0 < x from of_decide_eq_true e)]
        refine ⟨_, rfl, _, h.2, ?_, same_put h.1 nD, ?_⟩
        · rw [List.length_map]
          have := used_le (xs.take i)
          rw [List.length_take] at this
          exact small1000 (by omega)
        · rw [upd_same, List.map_append]
          rfl
      · rw [if_neg (show ¬ 0 < x from fun z => e (decide_eq_true z)), List.append_nil]
        exact h
    · have e : (xs.take (xs.map V.int).length) = xs := by rw [List.length_map, List.take_length]
      rw [e] at h
      obtain ⟨sm1, hD⟩ := h
      have hul := used_le xs
      have hq : ∀ H', Same H H' → ∀ b, b = goodP xs → Q (.bl b) H' := fun H' sm b hb => by rw [hb]; exact q H' sm
      unfold goodP at hq
      have hpos : ∀ x ∈ usedL xs, 0 < x ∧ x ≤ 12 := fun x hx => ⟨of_decide_eq_true (List.mem_filter.mp hx).2, h12 x (List.mem_filter.mp hx).1⟩
      generalize usedL xs = us at *
      refine ⟨_, rfl, D, _, rfl, .inl (.inl (.inl hD)), _, _, rfl, rfl, _, rfl, ite2 (fun e => ?_) (fun e => ?_)⟩
      · have hlt : us.length < 2 := by
          have := of_decide_eq_true e
          rw [List.length_map] at this
          omega
        refine ⟨_, rfl, Nat.zero_le _, fun z nz => ?_⟩
        have sm2 : Same H1 (upd H1 z (.lst [])) := same_upd nz
        have hz : (upd H1 z (.lst [])) z = some (.lst []) := upd_same
        generalize upd H1 z (.lst []) = H2 at *
        refine ⟨_, _, .lst (.inl (.inl (sm2 _ _ hD))) (dp_ints us), .lst (ds := []) (.inl (.inl hz)) .nil, shaped_intsQ us, shaped_intsQ [], _, rfl, ?_⟩
        rw [show PyData.eqv (.list (us.map .int)) (.list []) = decide (us = []) from eqv_ints us []]
        refine ite2 (fun e => ?_) (fun e => ?_)
        · exact hq _ (sm1.trans sm2) _ (by rw [if_pos hlt, e]; rfl)
        · have e0 : decide (us = []) = false := by simpa using e
          refine ⟨_, rfl, (by show 1 ≤ sizeLine; decide), fun z2 nz2 => ?_⟩
          have sm3 : Same H2 (upd H2 z2 (.lst [.int 1])) := same_upd nz2
          have hz2 : (upd H2 z2 (.lst [.int 1])) z2 = some (.lst [.int 1]) := upd_same
          generalize upd H2 z2 (.lst [.int 1]) = H3 at *
          refine ⟨_, _, .lst (.inl (.inl (sm3 _ _ (sm2 _ _ hD)))) (dp_ints us), .lst (ds := [.int 1]) (.inl (.inl hz2)) (.cons (.int 1) .nil), shaped_intsQ us, shaped_intsQ [1], ?_⟩
          rw [show PyData.eqv (.list (us.map .int)) (.list [.int 1]) = decide (us = [1]) from eqv_ints us [1]]
          exact hq _ ((sm1.trans sm2).trans sm3) _ (by rw [if_pos hlt, e0]; rfl)
      · have hge : ¬ us.length < 2 := fun z => e (decide_eq_true (by rw [List.length_map]; omega))
        refine ⟨_, rfl, D, rfl, ⟨_, .inl (.inl hD)⟩, fun D2 nD2 => ?_⟩
        refine lc_list (K := K) (a := D) (xs := us.map V.int) (fun i H' => Same H1 H' ∧ H' D2 = some (.lst (((us.take i).map fun x => (1 : Int) * 2 ^ (12 - x).toNat).map V.int))) ⟨same_upd nD2, upd_same⟩ (fun i H' _ h => .inl (.inl (h.1 _ _ hD))) (fun i x H5 hx h => ?_) (fun H4 h => ?_)
        · obtain ⟨x, rfl, hx'⟩ := int_of hx
          have hb := hpos x (List.mem_of_getElem? hx')
          refine ⟨rfl, yes ?_⟩
          refine ⟨_, rfl, _, _, rfl, rfl, _, _, rfl, rfl, ⟨by omega, by omega, by decide⟩, _, h.2, ?_, same_put h.1 nD2, ?_⟩
          · rw [List.length_map, List.length_map, List.length_take]
            exact small1000 (by omega)
          · rw [upd_same, List.take_add_one, hx', List.map_append, List.map_append]
            rfl
        · have e : (us.take (us.map V.int).length) = us := by rw [List.length_map, List.take_length]
          rw [e] at h
          refine ⟨D2, _, rfl, .inl (.inl h.2), _, _, rfl, rfl, ⟨by decide, by decide, by decide⟩, rfl, ?_⟩
          refine hq _ (sm1.trans h.1) _ ?_
          rw [if_neg hge, decide_eq_decide]
          exact ⟨fun h => V.int.inj h, fun h => congrArg V.int h⟩
/-- of what is good -/
def PrL (n : Nat) (xs : List Int) : Prop := xs.length = n ∧ (∀ x ∈ xs, 0 ≤ x ∧ x ≤ 12) ∧ goodP xs = true
def spAreP : Sp := fun vs H Q _ => ∃ (p : Addr) (xs : List Int) (n : Nat), vs = [.ref p, .int (n : Int)] ∧ H p = some (.lst (xs.map V.int)) ∧ n ≤ 1000 ∧ PrL n xs ∧ ∀ H', Same H H' → Q (.bl true) H'
theorem ok_areP {f fN fG : Addr} {fd fdN fdG : FuncData} {j : Nat} {t12 : Tok} (F : Fun K "are_prices" "are_prices" sAreP f fd)
    (GN : FnOk P w K mg base CX0 (j + 3) fN fdN ["told", "least", "most"] spAreNum) (bN : Binds K fdN ["told", "least", "most"] []) (kN : PySem.W.keepIn K (.ref fN) = true) (gN : mg "are_numbers" = some (.ref fN))
    (GG : FnOk P w K mg base CX0 (j + 3) fG fdG ["lengths"] spAreGood) (bG : Binds K fdG ["lengths"] []) (kG : PySem.W.keepIn K (.ref fG) = true) (gG : mg "are_good" = some (.ref fG))
    (m2 : mg "len" = none) (cL : mg "LONGEST" = some (.int 12 t12)) : FnOk P w K mg base CX0 (j + 4) f fd ["lengths", "many"] spAreP := by
  refine F.ok scAreP (fun vs H Q E h => ?_) (fun cdv A outer s H vs Q E hr h => ?_)
  · obtain ⟨p, xs, n, rfl, _⟩ := h
    rfl
  · obtain ⟨p, xs, n, rfl, hp, hn, ⟨hl, hx, hg⟩, q⟩ := h
    refine ⟨_, pss_one (ps_ret (pe_and (pe_call GN hr (by rfl) gN kN bN .nil pass0 (pa_cons (pv 0) (pa_cons pe_int (pa_cons (pe_glob (v := .int 12) rfl cL ⟨_, rfl⟩) pa_nil))))
      (pe_and (pe_cmpR op_eq (pe_callB call_len_seq (by rfl) m2 PySem.boot_len (pa_cons (pv 0) pa_nil)) (pv 1) (nomark _)) (pe_one (pe_call GG hr (by rfl) gG kG bG .nil pass0 (pa_cons (pv 0) pa_nil)))))), ?_⟩
    refine ⟨_, rfl, p, xs, 0, 12, rfl, hp, by omega, fun H1 s1 => ⟨_, rfl, ?_⟩⟩
    refine iteC (List.all_eq_true.mpr fun x m => decide_eq_true (hx x m)) ?_
    refine ⟨_, rfl, p, _, rfl, .inl (.inl (.inl (s1 _ _ hp))), _, rfl, rfl, _, rfl, ite2 (fun e => ?_) (fun e => ?_)⟩
    · refine ⟨_, rfl, p, xs, rfl, s1 _ _ hp, by omega, fun x m => (hx x m).2, fun H2 s2 => ?_⟩
      have q' := q H2 (s1.trans s2)
      rw [← hg] at q'
      exact q'
    · exact absurd (decide_eq_true (show V.int ((xs.map V.int).length : Int) = V.int (n : Int) by rw [List.length_map, hl])) e
/-! ### back_of -/
def spBackOf : Sp := fun vs H Q _ => ∃ b : Nat, vs = [.int (b : Int)] ∧ 1 ≤ b ∧ b ≤ 5000 ∧ Q (.int ((Nat.log2 b : Nat) : Int)) H
end
end K7

namespace K7
open PySem PySem.Spec PyProof.Rows L2
/-! ### Prices -/
def prF (p q : Addr) : List (Str × V) := [(("_letters" : Str), V.ref p), (("_backs" : Str), V.ref q)]
theorem lkH {k : Str} {v : V} {r : List (Str × V)} : List.lookup k ((k, v) :: r) = some v := by
  rw [List.lookup, beq_self_eq_true]
theorem lkP {k g : Str} {v : V} {r : List (Str × V)} (h : (k == g) = false) : List.lookup k ((g, v) :: r) = List.lookup k r := by
  rw [List.lookup, h]
theorem prF_l (p q : Addr) : (prF p q).lookup ("_letters" : Str) = some (.ref p) := lkH
theorem prF_b (p q : Addr) : (prF p q).lookup ("_backs" : Str) = some (.ref q) := (lkP (by decide +kernel)).trans lkH
theorem prF_m (p q : Addr) : (prF p q).lookup ("letters" : Str) = none := (lkP (by decide +kernel)).trans ((lkP (by decide +kernel)).trans rfl)
theorem prF_n (p q : Addr) : (prF p q).lookup ("backs" : Str) = none := (lkP (by decide +kernel)).trans ((lkP (by decide +kernel)).trans rfl)
theorem prF_put (p q : Addr) : putF "_backs" (.ref q) (putF "_letters" (.ref p) []) = prF p q := (if_neg (by decide +kernel)).trans rfl
def PcAt (C : Addr) (H : Hp) (a : Addr) (L B : List Int) : Prop := ∃ dx p q, H a = some (.ins C dx (prF p q)) ∧ H p = some (.lst (L.map V.int)) ∧ H q = some (.lst (B.map V.int))
theorem PcAt.same {C a : Addr} {H H' : Hp} {L B : List Int} (h : PcAt C H a L B) (s : Same H H') : PcAt C H' a L B := by
  obtain ⟨dx, p, q, h1, h2, h3⟩ := h
  exact ⟨dx, p, q, s _ _ h1, s _ _ h2, s _ _ h3⟩
/-- what the written part says of Prices -/
structure PrTxt (K : PySem.W.Frag) (mg : Str → Option Value) (C fI fL fB : Addr) : Prop where
  cl : Cls K C
  nL : NoAttr K C "_letters"
  nB : NoAttr K C "_backs"
  gC : mg "Prices" = some (.ref C)
  made : Mk K C fI
  mL : Meth K C "letters" fL
  mB : Meth K C "backs" fB
  ity : ∀ {H : Hp} {a dx : Addr} {fs : List (Str × V)}, H a = some (.ins C dx fs) → TyOf K H (.ref a) (.ref C)
  isC : PySem.W.kitOne K (.ref C) (.ref C) = some true
section
variable {P : Program} {w : World} {K : PySem.W.Frag} {mg : Str → Option Value} {base : Heap} {C fI fL fB : Addr}
def spPInit (C : Addr) : Sp := fun vs H Q _ => ∃ (a dx pl pb : Addr) (L B : List Int), vs = [.ref a, .ref pl, .ref pb] ∧ H a = some (.ins C dx []) ∧ H pl = some (.lst (L.map V.int)) ∧ H pb = some (.lst (B.map V.int)) ∧ PrL 273 L ∧ PrL 11 B ∧
  ∀ H', (∀ b o, b ≠ a → H b = some o → H' b = some o) → PcAt C H' a L B → Q .non H'
theorem ok_pInit (T : PrTxt K mg C fI fL fB) {fP : Addr} {fd fdP : FuncData} {j : Nat} {t1 t2 : Tok} (F : Fun K "__init__" "Prices.__init__" sPInit fI fd)
    (GP : FnOk P w K mg base CX0 (j + 4) fP fdP ["lengths", "many"] spAreP) (bP : Binds K fdP ["lengths", "many"] []) (kP : PySem.W.keepIn K (.ref fP) = true) (gP : mg "are_prices" = some (.ref fP))
    (m4 : mg "list" = none) (c1 : mg "LETTERS" = some (.int 273 t1)) (c2 : mg "BACKS" = some (.int 11 t2)) : FnOk P w K mg base CX0 (j + 5) fI fd ["self", "letters", "backs"] (spPInit C) := by
  refine F.ok scPInit (fun vs H Q E h => ?_) (fun cdv A outer s H vs Q E hr h => ?_)
  · obtain ⟨a, dx, pl, pb, L, B, rfl, _⟩ := h
    rfl
  · obtain ⟨a, dx, pl, pb, L, B, rfl, ha, hL, hB, gl, gb, q⟩ := h
    refine ⟨_, pss_cons (ps_if (PW.pt (pw_or (pt_not (pt_val (pe_call GP hr (by rfl) gP kP bP .nil pass0 (pa_cons (pv 1) (pa_cons (pe_glob (v := .int 273) rfl c1 ⟨_, rfl⟩) pa_nil)))))
        (pw_or1 (pt_not (pt_val (pe_call GP hr (by rfl) gP kP bP .nil pass0 (pa_cons (pv 2) (pa_cons (pe_glob (v := .int 11) rfl c2 ⟨_, rfl⟩) pa_nil)))))))) (pss_one ps_never) pss_nil)
      (pss_cons (ps_fld (pv 0) (pe_callTy call_list_of (by rfl) m4 (by decide +kernel) (pa_cons (pv 1) pa_nil)) rfl)
      (pss_one (ps_fld (pv 0) (pe_callTy call_list_of (by rfl) m4 (by decide +kernel) (pa_cons (pv 2) pa_nil)) rfl))), ?_⟩
    refine ⟨_, rfl, pl, L, 273, rfl, hL, by decide, gl, fun H1 s1 => ⟨_, rfl, iteF ?_⟩⟩
    refine ⟨_, rfl, pb, B, 11, rfl, s1 _ _ hB, by decide, gb, fun H2 s2 => ⟨_, rfl, iteF ?_⟩⟩
    have s12 := s1.trans s2
    refine ⟨_, rfl, pl, _, rfl, .inl (.inl (.inl (s12 _ _ hL))), fun p np => ?_⟩
    have s3 := s12.trans (same_upd (o := .lst (L.map V.int)) np)
    refine ⟨_, rfl, a, C, dx, _, rfl, s3 _ _ ha, T.cl, T.nL, (by show 0 < 1000; decide), ?_⟩
    have nap : a ≠ p := ne_of_none (s12 _ _ ha) np
    have npa : p ≠ a := Ne.symm nap
    have h4 : (upd (upd H2 p (.lst (L.map V.int))) a (.ins C dx (putF "_letters" (.ref p) []))) pb = some (.lst (B.map V.int)) := by
      rw [upd_ne (fun z => by rw [z, ha] at hB; cases hB)]
      exact s3 _ _ hB
    refine ⟨_, rfl, pb, _, rfl, .inl (.inl (.inl h4)), fun q' nq => ?_⟩
    have hpa : (upd (upd H2 p (.lst (L.map V.int))) a (.ins C dx (putF "_letters" (.ref p) []))) a = some (.ins C dx (putF "_letters" (.ref p) [])) := upd_same
    have hpp : (upd (upd H2 p (.lst (L.map V.int))) a (.ins C dx (putF "_letters" (.ref p) []))) p = some (.lst (L.map V.int)) := by
      rw [upd_ne npa]
      exact upd_same
    have naq : a ≠ q' := ne_of_none hpa nq
    have npq : p ≠ q' := ne_of_none hpp nq
    refine ⟨_, rfl, a, C, dx, _, rfl, (by rw [upd_ne naq]; exact hpa), T.cl, T.nB, (by show 1 < 1000; decide), ?_⟩
    refine q _ (fun b o hb e => ?_) ⟨dx, p, q', ?_, ?_, ?_⟩
    · have eb := s3 _ _ e
      have e5 : (upd (upd H2 p (.lst (L.map V.int))) a (.ins C dx (putF "_letters" (.ref p) []))) b = some o := by
        rw [upd_ne hb]
        exact eb
      rw [upd_ne hb, upd_ne (ne_of_none e5 nq)]
      exact e5
    · rw [upd_same, prF_put]
    · rw [upd_ne npa, upd_ne npq]
      exact hpp
    · rw [upd_ne (Ne.symm naq)]
      exact upd_same
def spPLet (C : Addr) : Sp := fun vs H Q _ => ∃ (a : Addr) (L B : List Int), vs = [.ref a] ∧ PcAt C H a L B ∧ ∀ H' p, Same H H' → H p = none → H' p = some (.lst (L.map V.int)) → Q (.ref p) H'
theorem ok_pLet (T : PrTxt K mg C fI fL fB) {fd : FuncData} {j : Nat} (F : Fun K "letters" "Prices.letters" sPLet fL fd) (m4 : mg "list" = none) : FnOk P w K mg base CX0 (j + 1) fL fd ["self"] (spPLet C) := by
  refine F.ok scPLet (fun vs H Q E h => ?_) (fun cdv A outer s H vs Q E hr h => ?_)
  · obtain ⟨a, L, B, rfl, _⟩ := h
    rfl
  · obtain ⟨a, L, B, rfl, ⟨dx, p, r, ha, hp, hr'⟩, q⟩ := h
    refine ⟨_, pss_one (ps_ret (pe_callTy call_list_of (by rfl) m4 (by decide +kernel) (pa_cons (pe_fld (pv 0) rfl) pa_nil))), ?_⟩
    refine ⟨_, rfl, a, C, dx, _, _, rfl, ha, T.cl, T.nL, prF_l p r, p, _, rfl, .inl (.inl (.inl hp)), fun z nz => ?_⟩
    exact q _ z (same_upd nz) nz upd_same
def spPBk (C : Addr) : Sp := fun vs H Q _ => ∃ (a : Addr) (L B : List Int), vs = [.ref a] ∧ PcAt C H a L B ∧ ∀ H' p, Same H H' → H p = none → H' p = some (.lst (B.map V.int)) → Q (.ref p) H'
theorem ok_pBk (T : PrTxt K mg C fI fL fB) {fd : FuncData} {j : Nat} (F : Fun K "backs" "Prices.backs" sPBk fB fd) (m4 : mg "list" = none) : FnOk P w K mg base CX0 (j + 1) fB fd ["self"] (spPBk C) := by
  refine F.ok scPBk (fun vs H Q E h => ?_) (fun cdv A outer s H vs Q E hr h => ?_)
  · obtain ⟨a, L, B, rfl, _⟩ := h
    rfl
  · obtain ⟨a, L, B, rfl, ⟨dx, p, r, ha, hp, hr'⟩, q⟩ := h
    refine ⟨_, pss_one (ps_ret (pe_callTy call_list_of (by rfl) m4 (by decide +kernel) (pa_cons (pe_fld (pv 0) rfl) pa_nil))), ?_⟩
    refine ⟨_, rfl, a, C, dx, _, _, rfl, ha, T.cl, T.nB, prF_b p r, r, _, rfl, .inl (.inl (.inl hr')), fun z nz => ?_⟩
    exact q _ z (same_upd nz) nz upd_same
theorem told_good : PrL 273 toldL ∧ PrL 11 toldB := by
  refine ⟨⟨by decide +kernel, ?_, by decide +kernel⟩, ⟨by decide +kernel, ?_, by decide +kernel⟩⟩
  · intro x hx
    rcases List.mem_append.mp hx with h | h
    · rw [(List.mem_replicate.mp h).2]; decide
    · rw [(List.mem_replicate.mp h).2]; decide
  · intro x hx
    rcases List.mem_append.mp hx with h | h
    · rw [(List.mem_replicate.mp h).2]; decide
    · rw [(List.mem_replicate.mp h).2]; decide
end
end K7

namespace K7
open PySem PySem.Spec PyProof.Rows L2
theorem scDrawn : FnScope ["runs", "lengths", "length", "many"] ["runs"] (defScope sDrawn) := ⟨rfl, rfl, rfl, by decide +kernel, rfl, by decide +kernel, by decide +kernel⟩
section
variable {P : Program} {w : World} {K : PySem.W.Frag} {mg : Str → Option Value} {base : Heap}
/-! ### drawn_out -/
def spDrawn (K : PySem.W.Frag) : Sp := fun vs H Q _ => ∃ (T t1 t2 : Addr) (l1 l2 : Int) (n1 n2 : Nat), vs = [.ref T] ∧ SqT K H T [.ref t1, .ref t2] ∧ SqT K H t1 [.int l1, .int (n1 : Int)] ∧ SqT K H t2 [.int l2, .int (n2 : Int)] ∧ n1 ≤ 1000 ∧ n2 ≤ 1000 ∧
  ∀ H' p, Same H H' → H p = none → H' p = some (.lst ((List.replicate n1 l1 ++ List.replicate n2 l2).map V.int)) → Q (.ref p) H'
theorem ok_drawn {f : Addr} {fd : FuncData} {j : Nat} (F : Fun K "drawn_out" "drawn_out" sDrawn f fd) : FnOk P w K mg base CX0 (j + 1) f fd ["runs"] (spDrawn K) := by
  refine F.ok scDrawn (fun vs H Q E h => ?_) (fun cdv A outer s H vs Q E hr h => ?_)
  · obtain ⟨T, t1, t2, l1, l2, n1, n2, rfl, _⟩ := h
    rfl
  · obtain ⟨T, t1, t2, l1, l2, n1, n2, rfl, hT, h1, h2, b1, b2, q⟩ := h
    have hz := PySem.sizeLine_eq
    refine ⟨_, pss_cons (ps_set (i := 1) scDrawn.nd rfl (.inl rfl) (pe_lst pa_nil))
      (pss_cons (ps_for PassesOwn.never rfl (pi_tup (pv 0)) (pg_tup rfl (pgs_cons (pg_name (i := 2) scDrawn.nd rfl (.inl rfl)) (pgs_cons (pg_name (i := 3) scDrawn.nd rfl (.inl rfl)) pgs_nil)))
        (pss_one (ps_expr (pe_bm PySem.F.plainAttrs_list PySem.F.slot_list_extend PySem.F.type_list_extend mt_extend (pv 1) (pa_cons (pe_op op_rep (pe_lst (pa_cons (pv 2) pa_nil)) (pv 3)) pa_nil)))))
      (pss_one (ps_ret (pv 1)))), ?_⟩
    refine ⟨Nat.zero_le _, fun D nD => ?_⟩
    refine ⟨_, rfl, T, rfl, ⟨_, same_tupK (same_upd nD) hT⟩, ?_⟩
    obtain ⟨R, hR⟩ : ∃ R : List (Addr × Int × Nat), R = [(t1, l1, n1), (t2, l2, n2)] := ⟨_, rfl⟩
    have eR : [V.ref t1, V.ref t2] = R.map fun r => V.ref r.1 := by rw [hR]; rfl
    have fR : ∀ r ∈ R, SqT K H r.1 [.int r.2.1, .int (r.2.2 : Int)] ∧ r.2.2 ≤ 1000 := by
      rw [hR]
      intro r hr
      rcases List.mem_cons.mp hr with rfl | hr
      · exact ⟨h1, b1⟩
      · rw [List.mem_singleton.mp hr]
        exact ⟨h2, b2⟩
    rw [eR] at hT
    refine for_tup (K := K) (a := T) (xs := R.map fun r => V.ref r.1) (fun i σ H' => ∃ (y z : Option V) (acc : List Int), σ = [some (.ref T), some (.ref D), y, z] ∧ Same H H' ∧ H' D = some (.lst (acc.map V.int)) ∧ acc = ((R.take i).flatMap fun r => List.replicate r.2.2 r.2.1) ∧ acc.length ≤ 1000 * i) ⟨_, _, [], rfl, same_upd nD, upd_same, rfl, Nat.zero_le _⟩ (fun i σ H' _ h => ?_) (fun i x σ H' hx h => ?_) (fun σ H' h => ?_)
    · obtain ⟨_, _, _, _, s1, _⟩ := h
      exact same_tupK s1 hT
    · obtain ⟨y, z, acc, rfl, s1, hD, ha, hal⟩ := h
      rw [List.getElem?_map] at hx
      cases er : R[i]? with
      | none => rw [er] at hx; cases hx
      | some r =>
        rw [er] at hx
        obtain rfl : V.ref r.1 = x := Option.some.inj hx
        obtain ⟨f1, f2⟩ := fR r (List.mem_of_getElem? er)
        have hi : i < 2 := by
          have := (List.getElem?_eq_some_iff.mp er).1
          rw [hR] at this
          simpa using this
        refine ⟨r.1, _, rfl, same_tupK s1 f1, rfl, _, _, rfl, _, _, rfl, rfl, ?_⟩
        refine ⟨.ref D, rfl, .inl ⟨rfl, _, .inl (.inl hD)⟩, _, rfl, (by show 1 ≤ sizeLine; rw [hz]; decide), fun a na => ⟨_, rfl, _, _, _, rfl, rfl, upd_same, by omega, by omega, by rw [hz]; simp; omega, fun b nb => ?_⟩⟩
        rw [Int.toNat_natCast, rep_flat]
        have s2 : Same H' (upd (upd H' a (.lst [.int r.2.1])) b (.lst (List.replicate r.2.2 (.int r.2.1)))) := (same_upd na).trans (same_upd nb)
        refine ⟨D, b, _, _, rfl, rfl, s2 _ _ hD, upd_same, ?_, ?_⟩
        · rw [List.length_map, List.length_replicate, hz]
          omega
        · refine ⟨_, _, acc ++ List.replicate r.2.2 r.2.1, rfl, same_put (s1.trans s2) nD, ?_, ?_, ?_⟩
          · rw [upd_same, List.map_append, List.map_replicate]
          · rw [ha, List.take_add_one, er, List.flatMap_append]
            simp
          · rw [List.length_append, List.length_replicate]
            omega
    · obtain ⟨y, z, acc, rfl, s1, hD, ha, _⟩ := h
      refine ⟨_, rfl, q H' D s1 nD ?_⟩
      rw [hD, ha, hR]
      simp
end
end K7

namespace K7
open PySem PySem.Spec PyProof.Rows L2
theorem scToldP : FnScope [] [] (defScope sToldP) := ⟨rfl, rfl, rfl, by decide +kernel, rfl, by decide +kernel, by decide +kernel⟩
section
variable {P : Program} {w : World} {K : PySem.W.Frag} {mg : Str → Option Value} {base : Heap} {C fI fL fB : Addr}
/-- a table of two runs that stands in the written part -/
def RunsAt (K : PySem.W.Frag) (mg : Str → Option Value) (x : Str) (l1 : Int) (n1 : Nat) (l2 : Int) (n2 : Nat) : Prop :=
  ∃ T t1 t2, mg x = some (.ref T) ∧ ∀ H, SqT K H T [.ref t1, .ref t2] ∧ SqT K H t1 [.int l1, .int (n1 : Int)] ∧ SqT K H t2 [.int l2, .int (n2 : Int)]
def spToldP (C : Addr) : Sp := fun vs H Q _ => vs = [] ∧ ∀ H' a, Same H H' → H a = none → PcAt C H' a toldL toldB → Q (.ref a) H'
theorem ok_toldP (T : PrTxt K mg C fI fL fB) {f fD : Addr} {fd fdI fdD : FuncData} {j : Nat} (F : Fun K "told_prices" "told_prices" sToldP f fd)
    (GI : FnOk P w K mg base CX0 (j + 5) fI fdI ["self", "letters", "backs"] (spPInit C)) (bI : Binds K fdI ["self", "letters", "backs"] [])
    (GD : FnOk P w K mg base CX0 (j + 6) fD fdD ["runs"] (spDrawn K)) (bD : Binds K fdD ["runs"] []) (kD : PySem.W.keepIn K (.ref fD) = true) (gD : mg "drawn_out" = some (.ref fD))
    (R1 : RunsAt K mg "TOLD_LETTERS" 8 239 9 34) (R2 : RunsAt K mg "TOLD_BACKS" 4 6 3 5) : FnOk P w K mg base CX0 (j + 7) f fd [] (spToldP C) := by
  obtain ⟨A1, a1, a2, r1, h1⟩ := R1
  obtain ⟨A2, b1, b2, r2, h2⟩ := R2
  refine F.ok scToldP (fun vs H Q E h => ?_) (fun cdv A outer s H vs Q E hr h => ?_)
  · obtain ⟨rfl, _⟩ := h
    rfl
  · obtain ⟨rfl, q⟩ := h
    refine ⟨_, pss_one (ps_ret (pe_make T.made GI hr (by rfl) T.gC bI .nil pass0 (pa_cons (pe_call GD hr (by rfl) gD kD bD .nil pass0 (pa_cons (pe_glob (v := .ref A1) rfl r1 rfl) pa_nil)) (pa_cons (pe_call GD hr (by rfl) gD kD bD .nil pass0 (pa_cons (pe_glob (v := .ref A2) rfl r2 rfl) pa_nil)) pa_nil)))), ?_⟩
    refine ⟨A1, a1, a2, 8, 9, 239, 34, rfl, (h1 _).1, (h1 _).2.1, (h1 _).2.2, by decide, by decide, fun H1 p s1 np hp => ?_⟩
    refine ⟨A2, b1, b2, 4, 3, 6, 5, rfl, (h2 _).1, (h2 _).2.1, (h2 _).2.2, by decide, by decide, fun H2 p2 s2 np2 hp2 => ?_⟩
    intro x dx nx nd ne
    have sm : Same H2 (upd (upd H2 dx (.own x)) x (.ins C dx [])) := fun b o e => by
      rw [upd_ne (ne_of_none e nx), upd_ne (ne_of_none e nd)]
      exact e
    refine ⟨x, dx, p, p2, toldL, toldB, rfl, upd_same, sm _ _ (s2 _ _ hp), sm _ _ hp2, told_good.1, told_good.2, fun H3 k3 hP => ⟨rfl, ?_⟩⟩
    have s12 := s1.trans s2
    refine q H3 x (fun b o e => k3 b o (ne_of_none (s12 _ _ e) nx) (sm _ _ (s12 _ _ e))) (none_back s12 nx) hP
end
end K7

namespace K7
open PySem PySem.Spec PyProof.Rows L2 SBX
/-! ### words of good lengths: pure -/
open K2 (wAt coinsL)
def lvW (ls : List Int) (i : Nat) : List (Int × Int) := ((List.range ls.length).filter fun k => decide (wAt ls k = (i : Int))).map fun (k : Nat) => ((i : Int), (k : Int))
def tnW (ls : List Int) (n : Nat) : List (Int × Int) := (List.range n).flatMap fun i => lvW ls (i + 1)
theorem tn_succ (ls : List Int) (n : Nat) : tnW ls (n + 1) = tnW ls n ++ lvW ls (n + 1) := by
  unfold tnW
  rw [List.range_succ, List.flatMap_append]
  simp
theorem mem_lv {ls : List Int} {i : Nat} {x : Int × Int} : x ∈ lvW ls i ↔ ∃ k : Nat, k < ls.length ∧ wAt ls k = (i : Int) ∧ x = ((i : Int), (k : Int)) := by
  unfold lvW
  simp only [List.mem_map, List.mem_filter, List.mem_range, decide_eq_true_eq]
  exact ⟨fun ⟨k, ⟨h1, h2⟩, h3⟩ => ⟨k, h1, h2, h3.symm⟩, fun ⟨k, h1, h2, h3⟩ => ⟨k, ⟨h1, h2⟩, h3.symm⟩⟩
theorem mem_tn {ls : List Int} {n : Nat} {x : Int × Int} : x ∈ tnW ls n ↔ ∃ i k : Nat, i < n ∧ k < ls.length ∧ wAt ls k = ((i + 1 : Nat) : Int) ∧ x = (((i + 1 : Nat) : Int), (k : Int)) := by
  unfold tnW
  rw [List.mem_flatMap]
  constructor
  · rintro ⟨i, hi, h⟩
    obtain ⟨k, h1, h2, h3⟩ := mem_lv.mp h
    exact ⟨i, k, List.mem_range.mp hi, h1, h2, h3⟩
  · rintro ⟨i, k, h0, h1, h2, h3⟩
    exact ⟨i, List.mem_range.mpr h0, mem_lv.mpr ⟨k, h1, h2, h3⟩⟩
def ltW (a b : Int × Int) : Prop := a.1 < b.1 ∨ (a.1 = b.1 ∧ a.2 < b.2)
theorem lv_srt (ls : List Int) (i : Nat) : (lvW ls i).Pairwise ltW := by
  unfold lvW
  rw [List.pairwise_map]
  refine (List.Pairwise.filter _ List.pairwise_lt_range).imp fun {a b} h => Or.inr ⟨rfl, Int.ofNat_lt.mpr h⟩
theorem tn_srt (ls : List Int) : ∀ n, (tnW ls n).Pairwise ltW
  | 0 => List.Pairwise.nil
  | n + 1 => by
    rw [tn_succ, List.pairwise_append]
    refine ⟨tn_srt ls n, lv_srt ls _, fun a ha b hb => .inl ?_⟩
    obtain ⟨i, k, h1, _, _, rfl⟩ := mem_tn.mp ha
    obtain ⟨k2, _, _, rfl⟩ := mem_lv.mp hb
    show ((i + 1 : Nat) : Int) < ((n + 1 : Nat) : Int)
    omega
theorem lt_le {a b : Int × Int} (h : ltW a b) : K2.lexLe a b = true := by
  unfold K2.lexLe
  have h : a.1 < b.1 ∨ (a.1 = b.1 ∧ a.2 < b.2) := h
  have : SrtO.lexB b a = false := by
    unfold SrtO.lexB
    rcases h with h | ⟨h1, h2⟩
    · have h1 : ¬ b.1 < a.1 := by omega
      have h2 : ¬ b.1 = a.1 := by omega
      simp [h1, h2]
    · have h3 : ¬ b.2 < a.2 := by omega
      have h4 : ¬ b.1 < a.1 := by omega
      simp [h3, h4]
  rw [this]
  rfl
theorem tn_nodup (ls : List Int) (n : Nat) : (tnW ls n).Nodup := (tn_srt ls n).imp fun {a b} h e => by
  subst e
  rcases h with h | ⟨_, h⟩ <;> omega
theorem raw_nd (ls : List Int) : (K2.rawL ls).Nodup := by
  have h := K2.raw_nodup ls
  exact (List.pairwise_map.mp h).imp fun {a b} h e => h (by rw [e])
theorem turn_is {ls : List Int} (h : ∀ x ∈ ls, 0 ≤ x ∧ x ≤ 12) : tnW ls 12 = coinsL ls := by
  refine K2.coinsL_uniq ?_ ((tn_srt ls 12).imp lt_le)
  refine (List.perm_ext_iff_of_nodup (tn_nodup ls 12) (raw_nd ls)).mpr fun x => ?_
  rw [mem_tn]
  constructor
  · rintro ⟨i, k, h1, h2, h3, rfl⟩
    unfold K2.rawL K2.rawU
    refine List.mem_map.mpr ⟨k, List.mem_filter.mpr ⟨List.mem_range.mpr h2, decide_eq_true (by rw [h3]; omega)⟩, ?_⟩
    rw [h3]
  · intro hx
    obtain ⟨l, h1, h2, rfl⟩ := K2.raw_mem hx
    have hm : wAt ls l ∈ ls := List.mem_of_getElem? (K2.wAt_get h1)
    have h3 := h _ hm
    refine ⟨(wAt ls l).toNat - 1, l, by omega, h1, by omega, ?_⟩
    show (wAt ls l, (l : Int)) = _
    congr 1
    omega
/-- the codes, in their turn -/
def cds : List (Int × Int) → Nat → Nat → List (Nat × Nat × Nat)
  | [], _, _ => []
  | x :: r, n, a => (x.2.toNat, n * 2 ^ (x.1.toNat - a), x.1.toNat) :: cds r (n * 2 ^ (x.1.toNat - a) + 1) x.1.toNat
def kr (T : List (Int × Int)) : Nat := (T.map fun x => 2 ^ (12 - x.1.toNat)).sum
theorem cds_key : ∀ (T : List (Int × Int)) (n a : Nat), (cds T n a).map (fun t => (t.2.2, t.1)) = T.map fun x => (x.1.toNat, x.2.toNat)
  | [], _, _ => rfl
  | x :: r, n, a => by rw [cds, List.map_cons, List.map_cons, cds_key r]
theorem cds_lt : ∀ (T : List (Int × Int)) (n a : Nat), (T.Pairwise fun x y => x.1 ≤ y.1) → (∀ x ∈ T, (a : Int) ≤ x.1 ∧ 1 ≤ x.1 ∧ x.1 ≤ 12) → n * 2 ^ (12 - a) + kr T ≤ 4096 → ∀ t ∈ cds T n a, t.2.1 < 2 ^ t.2.2 ∧ 1 ≤ t.2.2 ∧ t.2.2 ≤ 12
  | [], _, _, _, _, _, t, m => by cases m
  | x :: r, n, a, hp, ha, hk, t, m => by
    obtain ⟨a1, a2, a3⟩ := ha x (List.mem_cons_self ..)
    have hkr : kr (x :: r) = 2 ^ (12 - x.1.toNat) + kr r := by unfold kr; rw [List.map_cons, List.sum_cons]
    obtain ⟨l, hl⟩ : ∃ l : Nat, x.1 = (l : Int) := ⟨x.1.toNat, by omega⟩
    have el : x.1.toNat = l := by omega
    rw [el] at hkr
    have hla : a ≤ l := by omega
    have hl12 : l ≤ 12 := by omega
    have e1 : 2 ^ (12 - a) = 2 ^ (l - a) * 2 ^ (12 - l) := by rw [← Nat.pow_add]; congr 1; omega
    have e2 : (4096 : Nat) = 2 ^ l * 2 ^ (12 - l) := by rw [← Nat.pow_add, show l + (12 - l) = 12 by omega]
    have hpos : 0 < 2 ^ (12 - l) := Nat.pow_pos (by decide)
    have hk2 : (n * 2 ^ (l - a) + 1) * 2 ^ (12 - l) + kr r ≤ 4096 := by
      rw [hkr, e1, ← Nat.mul_assoc] at hk
      rw [Nat.add_mul, Nat.one_mul]
      omega
    have hlt : n * 2 ^ (l - a) + 1 ≤ 2 ^ l := by
      have : (n * 2 ^ (l - a) + 1) * 2 ^ (12 - l) ≤ 2 ^ l * 2 ^ (12 - l) := by omega
      exact Nat.le_of_mul_le_mul_right this hpos
    rw [cds, el] at m
    rcases List.mem_cons.mp m with rfl | m
    · exact ⟨by show n * 2 ^ (l - a) < 2 ^ l; omega, by show 1 ≤ l; omega, hl12⟩
    · obtain ⟨p1, p2⟩ := List.pairwise_cons.mp hp
      refine cds_lt r _ l p2 (fun y hy => ?_) hk2 t m
      have := p1 y hy
      obtain ⟨b1, b2, b3⟩ := ha y (List.mem_cons_of_mem _ hy)
      exact ⟨by omega, b2, b3⟩
theorem kr_perm {a b : List (Int × Int)} (h : a.Perm b) : kr a = kr b := by
  unfold kr
  exact (h.map _).sum_nat
theorem kr_used (ls : List Int) : kr (coinsL ls) = ((usedL ls).map fun x : Int => 2 ^ (12 - x.toNat)).sum := by
  rw [kr_perm (K2.coinsL_perm ls)]
  have e : (K2.rawL ls).map (·.1) = usedL ls := K2.raw_fst ls
  rw [← e, List.map_map]
  rfl
structure WdOk (ls : List Int) : Prop where
  len : ls.length ≤ 300
  in_ : ∀ x ∈ ls, 0 ≤ x ∧ x ≤ 12
  good : goodP ls = true
theorem kr_good {ls : List Int} (h : WdOk ls) : kr (coinsL ls) ≤ 4096 := by
  rw [kr_used]
  have hg := h.good
  unfold goodP at hg
  by_cases q : (usedL ls).length < 2
  · rw [if_pos q] at hg
    rcases Bool.or_eq_true _ _ ▸ hg with e | e
    · rw [of_decide_eq_true e]
      decide
    · rw [of_decide_eq_true e]
      decide
  · rw [if_neg q] at hg
    have e := of_decide_eq_true hg
    have e2 : ∀ xs : List Int, (∀ x ∈ xs, x ≤ 12) → ((xs.map fun x : Int => (1 : Int) * 2 ^ (12 - x).toNat).sum) = (((xs.map fun x : Int => 2 ^ (12 - x.toNat)).sum : Nat) : Int) → True := fun _ _ _ => trivial
    have e3 : ∀ xs : List Int, (∀ x ∈ xs, 0 ≤ x) → ((xs.map fun x : Int => (1 : Int) * 2 ^ (12 - x).toNat).sum) = (((xs.map fun x : Int => 2 ^ (12 - x.toNat)).sum : Nat) : Int) := by
      intro xs
      induction xs with
      | nil => intro _; rfl
      | cons x r ih =>
        intro hx
        have h0 := hx x (List.mem_cons_self ..)
        rw [List.map_cons, List.sum_cons, List.map_cons, List.sum_cons, ih fun y hy => hx y (List.mem_cons_of_mem _ hy), Int.natCast_add, Int.natCast_pow, Int.one_mul]
        rw [show (12 - x).toNat = 12 - x.toNat by omega]
        rfl
    have hu : ∀ x ∈ usedL ls, 0 ≤ x := fun x hx => by
      have := (List.mem_filter.mp hx).1
      exact (h.in_ x this).1
    rw [e3 _ hu] at e
    omega
abbrev cdL (ls : List Int) : List (Nat × Nat × Nat) := cds (coinsL ls) 0 0
theorem coin_fst {ls : List Int} (h : WdOk ls) : ∀ x ∈ coinsL ls, 1 ≤ x.1 ∧ x.1 ≤ 12 ∧ ∃ k : Nat, k < ls.length ∧ x.1 = wAt ls k ∧ x.2 = (k : Int) := fun x hx => by
  obtain ⟨l, h1, h2, rfl⟩ := K2.coins_mem hx
  have h3 := h.in_ _ (List.mem_of_getElem? (K2.wAt_get h1))
  exact ⟨by show 1 ≤ wAt ls l; omega, h3.2, l, h1, rfl, rfl⟩
theorem coin_srt {ls : List Int} (h : WdOk ls) : (coinsL ls).Pairwise fun x y => x.1 ≤ y.1 := by
  rw [← turn_is h.in_]
  exact (tn_srt ls 12).imp fun {a b} q => by rcases q with q | ⟨q, _⟩ <;> omega
theorem cd_lt {ls : List Int} (h : WdOk ls) : ∀ t ∈ cdL ls, t.2.1 < 2 ^ t.2.2 ∧ 1 ≤ t.2.2 ∧ t.2.2 ≤ 12 :=
  cds_lt _ 0 0 (coin_srt h) (fun x hx => by
    obtain ⟨a, b, _⟩ := coin_fst h x hx
    exact ⟨by omega, a, b⟩) (by have := kr_good h; omega)
theorem cd_len (ls : List Int) : (cdL ls).length = (coinsL ls).length := by
  have := congrArg List.length (cds_key (coinsL ls) 0 0)
  simpa using this
theorem cd_keys (ls : List Int) : (cdL ls).map (·.1) = (coinsL ls).map fun x => x.2.toNat := by
  have := congrArg (List.map Prod.snd) (cds_key (coinsL ls) 0 0)
  rw [List.map_map, List.map_map] at this
  exact this
theorem cd_lens (ls : List Int) : (cdL ls).map (·.2.2) = (coinsL ls).map fun x => x.1.toNat := by
  have := congrArg (List.map Prod.fst) (cds_key (coinsL ls) 0 0)
  rw [List.map_map, List.map_map] at this
  exact this
theorem cd_nodup (ls : List Int) : ((cdL ls).map (·.1)).Nodup := by
  rw [cd_keys]
  exact K2.letN_nodup ls
/-- a letter's word -/
def wdS (ls : List Int) (k : Nat) : Str := match (cdL ls).find? fun t => decide (t.1 = k) with
  | some t => bitS t.2.1 t.2.2
  | none => ⟨#[]⟩
theorem find_key {l : List (Nat × Nat × Nat)} (nd : (l.map (·.1)).Nodup) {t : Nat × Nat × Nat} (h : t ∈ l) : (l.find? fun x => decide (x.1 = t.1)) = some t := by
  induction l with
  | nil => cases h
  | cons x r ih =>
    rw [List.map_cons, List.nodup_cons] at nd
    rcases List.mem_cons.mp h with rfl | h
    · exact List.find?_cons_of_pos (by simp)
    · have : x.1 ≠ t.1 := fun e => nd.1 (e ▸ List.mem_map.mpr ⟨t, h, rfl⟩)
      rw [List.find?_cons_of_neg (by simpa using this)]
      exact ih nd.2 h
theorem wd_at {ls : List Int} {t : Nat × Nat × Nat} (h : t ∈ cdL ls) : wdS ls t.1 = bitS t.2.1 t.2.2 := by
  unfold wdS
  rw [find_key (cd_nodup ls) h]
theorem cd_of {ls : List Int} (h : WdOk ls) {k : Nat} (hk : k < ls.length) (h0 : 0 < wAt ls k) : ∃ t ∈ cdL ls, t.1 = k ∧ (t.2.2 : Int) = wAt ls k := by
  have hx : (wAt ls k, (k : Int)) ∈ coinsL ls := by
    rw [← turn_is h.in_]
    have h3 := h.in_ _ (List.mem_of_getElem? (K2.wAt_get hk))
    refine mem_tn.mpr ⟨(wAt ls k).toNat - 1, k, by omega, hk, by omega, ?_⟩
    congr 1
    omega
  obtain ⟨i, hi⟩ := List.getElem?_of_mem hx
  have e := cds_key (coinsL ls) 0 0
  have e2 : ((cdL ls).map fun t => (t.2.2, t.1))[i]? = some ((wAt ls k).toNat, k) := by
    rw [e, List.getElem?_map, hi]
    rfl
  rw [List.getElem?_map] at e2
  cases e3 : (cdL ls)[i]? with
  | none => rw [e3] at e2; cases e2
  | some t =>
    rw [e3] at e2
    have e4 := Option.some.inj e2
    refine ⟨t, List.mem_of_getElem? e3, congrArg Prod.snd e4, ?_⟩
    have := congrArg Prod.fst e4
    dsimp only at this
    omega
theorem wd_len {ls : List Int} (h : WdOk ls) {k : Nat} (hk : k < ls.length) (h0 : 0 < wAt ls k) : ((wdS ls k).length : Int) = wAt ls k := by
  obtain ⟨t, h1, rfl, h3⟩ := cd_of h hk h0
  rw [wd_at h1, ← h3]
  unfold bitS
  show (((bitsL t.2.1 t.2.2).toArray.size : Nat) : Int) = _
  rw [List.size_toArray, bits_len]
def entW (t : Nat × Nat × Nat) : Key × V := (.inl (t.1 : Int), .str (bitS t.2.1 t.2.2))
def WdAt (H : Hp) (d : Addr) (ls : List Int) : Prop := ∃ kvs : List (Key × V), H d = some (.dK kvs) ∧ kvs.length ≤ 1000 ∧ ∀ k : Nat, k < ls.length → 0 < wAt ls k → valV kvs (.inl (k : Int)) = some (.str (wdS ls k))
theorem ent_val {l : List (Nat × Nat × Nat)} (nd : (l.map (·.1)).Nodup) {t : Nat × Nat × Nat} (h : t ∈ l) : valV (l.map entW) (.inl (t.1 : Int)) = some (.str (bitS t.2.1 t.2.2)) := by
  unfold valV
  rw [List.find?_map]
  have e : (fun kv : Key × V => decide (kv.1 = Sum.inl (t.1 : Int))) ∘ entW = fun x => decide (x.1 = t.1) := by
    funext x
    show decide ((Sum.inl (x.1 : Int) : Key) = Sum.inl (t.1 : Int)) = _
    congr 1
    exact propext ⟨fun z => by have := Sum.inl.inj z; omega, fun z => by rw [z]⟩
  rw [e, find_key nd h]
  rfl
theorem put_new {kvs : List (Key × V)} {k : Key} {v : V} (h : ∀ e ∈ kvs, e.1 ≠ k) : putK kvs k v = kvs ++ [(k, v)] := by
  unfold putK
  have : (kvs.any fun kv => decide (kv.1 = k)) = false := by
    rw [List.any_eq_false]
    intro x hx
    simpa using h x hx
  rw [this]
  rfl
theorem ent_put {l : List (Nat × Nat × Nat)} {i : Nat} {t : Nat × Nat × Nat} (nd : (l.map (·.1)).Nodup) (h : l[i]? = some t) : putK ((l.take i).map entW) (.inl (t.1 : Int)) (.str (bitS t.2.1 t.2.2)) = (l.take (i + 1)).map entW := by
  rw [List.take_add_one, h, List.map_append, put_new]
  · rfl
  · intro e he z
    obtain ⟨x, hx, rfl⟩ := List.mem_map.mp he
    have z2 : (x.1 : Int) = (t.1 : Int) := Sum.inl.inj z
    have hlt := (List.getElem?_eq_some_iff.mp h).1
    obtain ⟨j, hj⟩ := List.getElem?_of_mem hx
    have hji : j < i := by
      have := (List.getElem?_eq_some_iff.mp hj).1
      rw [List.length_take] at this
      omega
    rw [List.getElem?_take_of_lt hji] at hj
    have hjl := (List.getElem?_eq_some_iff.mp hj).1
    have a1 : (l.map (·.1))[j]? = some x.1 := by rw [List.getElem?_map, hj]; rfl
    have a2 : (l.map (·.1))[i]? = some t.1 := by rw [List.getElem?_map, h]; rfl
    have hx1 : x.1 = t.1 := by omega
    have := (List.getElem?_inj (by rw [List.length_map]; exact hjl) nd).mp (a1.trans (by rw [hx1, a2]))
    omega
theorem cd_in {ls : List Int} (h : WdOk ls) {t : Nat × Nat × Nat} (ht : t ∈ cdL ls) : t.1 < ls.length ∧ 0 < wAt ls t.1 := by
  have hm : (t.2.2, t.1) ∈ (cdL ls).map fun t => (t.2.2, t.1) := List.mem_map.mpr ⟨t, ht, rfl⟩
  rw [cds_key] at hm
  obtain ⟨x, hx, e⟩ := List.mem_map.mp hm
  obtain ⟨a1, _, k, hk, e1, e2⟩ := coin_fst h x hx
  have e3 : x.2.toNat = t.1 := congrArg Prod.snd e
  have : k = t.1 := by omega
  subst this
  exact ⟨hk, by omega⟩
theorem nodup_toNat : ∀ {ys : List Int}, (∀ y ∈ ys, 0 ≤ y) → ys.Nodup → (ys.map Int.toNat).Nodup
  | [], _, _ => List.nodup_nil
  | y :: r, h, hn => by
    rw [List.nodup_cons] at hn
    rw [List.map_cons, List.nodup_cons]
    refine ⟨fun z => ?_, nodup_toNat (fun x hx => h x (List.mem_cons_of_mem _ hx)) hn.2⟩
    obtain ⟨x, hx, e⟩ := List.mem_map.mp z
    have a := h x (List.mem_cons_of_mem _ hx)
    have b := h y (List.mem_cons_self ..)
    have : x = y := by omega
    exact hn.1 (this ▸ hx)
/-- the words that have a letter, in a turn of the letters -/
def WdK (H : Hp) (d : Addr) (ls : List Int) : Prop := ∃ ys : List Nat, H d = some (.dK (ys.map fun (y : Nat) => ((Sum.inl (y : Int) : Key), V.str (wdS ls y)))) ∧ ys.length ≤ 300 ∧ ys.Nodup ∧ ∀ k, k ∈ ys ↔ k < ls.length ∧ 0 < wAt ls k
end K7

/-! ### sorted(d): a dict's keys, whole numbers, any number of them -/
namespace L2
open PySem PySem.Spec PyProof.Rows
def rSortedDA : List V → Hp → VK → Prop := fun xs H Q => ∃ (a : Addr) (kvs : List (Key × V)) (ks : List Int), xs = [.ref a] ∧ Rd H a (.dK kvs) ∧ kvs.map (·.1) = ks.map Sum.inl ∧ ks.length ≤ 100000 ∧
    ∀ (ys : List Int) (p : Addr), ys.Perm ks → ys.Pairwise (· ≤ ·) → H p = none → Q (.ref p) (upd H p (.lst (ys.map V.int)))
theorem cr_sortedDA {X : Cx} (hcalm : X.calm = true) : CallR X (.builtin "sorted") rSortedDA := by
  intro pins s σ H xs us Q I r q
  obtain ⟨a, kvs, ks, rfl, hd, hks, h64, q⟩ := q
  obtain ⟨u, rfl, rx⟩ := vals1 r
  cases rx
  obtain ⟨z, lo, vs, rel, dd⟩ := dk_rd I.hok hd
  obtain ⟨ep, hat⟩ := dd.dictAt
  have hkeys : vs.map (·.1) = ks.map Sum.inl := rel.keys.symm.trans hks
  have hl : vs.length = ks.length := by
    have e := congrArg List.length hkeys
    rw [List.length_map, List.length_map] at e
    exact e
  have h16 : vs.length ≤ sizeLine := by rw [hl, sizeLine_eq]; omega
  refine Calls.call_function_entry PyProof.Rows.kind_sorted PyProof.Rows.plain_sorted PyProof.Rows.entry_sorted (PyProof.Rows.args_sorted1 _) ?_
  unfold Builtin.«sorted»
  refine wpAny_bind (m := checkCount "sorted" 1 1 _) (wpAny_pure ?_)
  refine wpAny_bind (PySem.W.kdu_collect (A := X.A.in1) (PySem.W.kdl_dict (knd := mixKind X.prog X.w) (kvs := vs) (ep := ep) lo) (I.ok.hd hcalm) hat h16 fun h' tk acc hk hacc => ?_)
  have hal : acc.toList.length = ks.length := by rw [Array.length_toList, hacc.1, hl]
  have hS : IntsAre acc.toList ks := ints_each hal fun j v e => by
    obtain ⟨k, x, e1, e2⟩ := hacc.2 j v (by rw [← Array.getElem?_toList]; exact e)
    have e3 : (vs.map (·.1))[j]? = some k := by rw [List.getElem?_map, e1]; rfl
    rw [hkeys, List.getElem?_map] at e3
    cases e4 : ks[j]? with
    | none => rw [e4] at e3; cases e3
    | some y =>
      rw [e4] at e3
      have e5 : Sum.inl y = k := Option.some.inj e3
      subst e5
      rcases keyIs_shape (show keyIs (Sum.inl y) v = true from e2) with ⟨i, t, ek, ev⟩ | ⟨z, t, ek, ev⟩
      · cases ek
        exact ⟨y, t, rfl, ev⟩
      · cases ek
  have I1 : Inv X pins σ H { s with heap := h', toks := tk } := I.kept hk
  have hz : acc.toList.length ≤ sizeLine := by rw [hal, sizeLine_eq]; omega
  refine wpAny_bind (wpAny_newList ?_ hz)
  have hoL : (h'.push (seqObj "list" acc.toList.toArray 0)).get? h'.objs.size = some (seqObj "list" acc.toList.toArray 0) := Heap.get?_push_size _ rfl
  show wpAny _ _ _ _ _ { s with heap := h'.push (seqObj "list" acc.toList.toArray 0), toks := tk }
  refine wpAny_bind (wpAny_holding (wpAny_call_entry PyProof.Rows.slot_list_sort ⟨_, hoL, rfl⟩ PyProof.Rows.entry_list_sort
    (SrtO.list_sort_ord (s := { s with heap := h'.push (seqObj "list" acc.toList.toArray 0), toks := tk }) SrtO.swo_int hoL hz (fun h2 => SrtO.ints_sortable hS h2) fun out h1 h2 => ⟨_, rfl, ?_⟩) (PyProof.Rows.args_list_sort _)))
  obtain ⟨k1, k2, k3⟩ := SrtO.ints_out hS h1 h2
  obtain ⟨e', he'⟩ := PyProof.Rows.sortedHeap_at (vs := acc.toList) (out := out.toArray) hoL
  have hlen : ((out.map SrtO.iv).map V.int).length ≤ sizeLine := by
    rw [List.length_map, k2.length_eq, sizeLine_eq]
    omega
  refine wpAny_pure ⟨_, rfl, .ref h'.objs.size, upd H h'.objs.size (.lst ((out.map SrtO.iv).map V.int)), I1.laid (t' := tk) (fun b u e => ?_) (Nat.le_refl _)
    (show ObjOk X.prog X.w _ _ _ (.lst ((out.map SrtO.iv).map V.int)) from ⟨hlen, out, e', vals_of_ints k1, he'⟩), rfl, q _ _ k2 k3 (I1.hok.fresh (Nat.le_refl _))⟩
  have hb : b < h'.objs.size := Heap.lt_size e
  rw [PyProof.Rows.sortedHeap_old (Nat.ne_of_lt hb) (by rw [size_push']; exact Nat.lt_succ_of_lt hb)]
  exact Heap.get?_push_of_some _ e
end L2

namespace L2
open PySem PySem.Spec PyProof.Rows
/-- a dict comprehension over anything that is walked -/
theorem dc_it {J : It} {n : Nat} {G : Hp → Prop} {Y : Nat → Hp → V → Hp → Prop} (w : Walk J n G Y) {g : TG} {tt : TT} {tk tv : TE} {vs : List Nat} {σ : St} {H1 : Hp} {D : Addr} {Qd : Hp → Prop} (Pv : Nat → Hp → Prop) (h0 : Pv 0 (upd H1 D (.dK []))) (hG : ∀ i H, i ≤ n → Pv i H → G H)
    (hs : ∀ i x H H', i < n → Pv i H → Y i H x H' → g x (wipe σ vs) H' fun σ2 H2 => wipe σ2 vs = wipe σ vs ∧ tt σ2 H2 fun b H3 =>
      if b = true then tk σ2 H3 fun y H4 => tv σ2 H4 fun z H5 => ∃ kvs k, y = kV k ∧ H5 D = some (.dK kvs) ∧ kvs.length < sizeLine ∧ Pv (i + 1) (upd H5 D (.dK (putK kvs k z))) else Pv (i + 1) H3) (hd : ∀ H, Pv n H → Qd H) :
    ∃ W : Nat → Nat → Hp → Prop, (∃ m, W 0 m (upd H1 D (.dK []))) ∧ ∀ i m H, W i m H →
      (J.stop i H ∧ Qd H) ∨ (J.go i H ∧ ∃ Nx : Hp → Prop, (∀ H', Nx H' → ∃ m', m' < m ∧ W (i + 1) m' H') ∧ ∀ x H', J.yld i H x H' → g x (wipe σ vs) H' fun σ2 H2 => wipe σ2 vs = wipe σ vs ∧ tt σ2 H2 fun b H3 =>
        if b = true then tk σ2 H3 fun y H4 => tv σ2 H4 fun z H5 => ∃ kvs k, y = kV k ∧ H5 D = some (.dK kvs) ∧ kvs.length < sizeLine ∧ Nx (upd H5 D (.dK (putK kvs k z))) else Nx H3) := by
  refine ⟨fun i m H => m = n - i ∧ i ≤ n ∧ Pv i H, ⟨n, by simp, Nat.zero_le _, h0⟩, ?_⟩
  rintro i m H ⟨rfl, hi, p⟩
  have q := hG i H hi p
  by_cases hlt : i < n
  · exact .inr ⟨w.goes i H hlt q, Pv (i + 1), fun H' p' => ⟨n - (i + 1), by omega, rfl, hlt, p'⟩, fun x H' y => hs i x H H' hlt p (w.yields i H x H' hlt q y)⟩
  · have e : i = n := by omega
    subst e
    exact .inl ⟨w.stops H q, hd H p⟩
end L2
namespace K7
open PySem PySem.Spec PyProof.Rows L2 SBX
open K2 (wAt coinsL)
/-! ### words -/
def stW : List (Int × Int) → Nat → Nat → Nat → Nat × Nat
  | _, n, a, 0 => (n, a)
  | [], n, a, _ + 1 => (n, a)
  | x :: r, n, a, i + 1 => stW r (n * 2 ^ (x.1.toNat - a) + 1) x.1.toNat i
theorem stW_zero (T : List (Int × Int)) (n a : Nat) : stW T n a 0 = (n, a) := by cases T <;> rfl
theorem stW_at : ∀ (T : List (Int × Int)) (n a i : Nat) (x : Int × Int), T[i]? = some x → (cds T n a)[i]? = some (x.2.toNat, (stW T n a i).1 * 2 ^ (x.1.toNat - (stW T n a i).2), x.1.toNat) ∧ stW T n a (i + 1) = ((stW T n a i).1 * 2 ^ (x.1.toNat - (stW T n a i).2) + 1, x.1.toNat)
  | [], n, a, i, x, h => by simp at h
  | y :: r, n, a, 0, x, h => by
    have h : some y = some x := h
    obtain rfl := Option.some.inj h
    exact ⟨rfl, by cases r <;> rfl⟩
  | y :: r, n, a, i + 1, x, h => stW_at r _ _ i x h
theorem stW_le : ∀ (T : List (Int × Int)) (n a i : Nat) (x : Int × Int), (T.Pairwise fun x y => x.1 ≤ y.1) → (∀ x ∈ T, (a : Int) ≤ x.1) → T[i]? = some x → ((stW T n a i).2 : Int) ≤ x.1
  | [], n, a, i, x, _, _, h => by simp at h
  | y :: r, n, a, 0, x, hp, ha, h => ha x (List.mem_of_getElem? h)
  | y :: r, n, a, i + 1, x, hp, ha, h => by
    obtain ⟨p1, p2⟩ := List.pairwise_cons.mp hp
    have h0 := ha y (List.mem_cons_self ..)
    refine stW_le r _ _ i x p2 (fun z hz => ?_) h
    have := p1 z hz
    omega
abbrev NWd : List Str := ["lengths", "letter", "length", "turn", "found", "number", "ahead"]
theorem scWords : FnScope NWd ["lengths"] (defScope sWords) := ⟨rfl, rfl, rfl, by decide +kernel, rfl, by decide +kernel, by decide +kernel⟩
section
variable {P : Program} {w : World} {K : PySem.W.Frag} {mg : Str → Option Value} {base : Heap}
def spWords : Sp := fun vs H Q _ => ∃ (p : Addr) (ls : List Int), vs = [.ref p] ∧ H p = some (.lst (ls.map V.int)) ∧ 2 ≤ ls.length ∧ WdOk ls ∧ ∀ H' d, Same H H' → H d = none → WdK H' d ls → Q (.ref d) H'
theorem ok_words {f fB fG : Addr} {fd fdB fdG : FuncData} {j k1 k2 : Nat} {t1 : Tok} (F : Fun K "words" "words" sWords f fd)
    (GB : FnOk P w K mg base CX0 k1 fB fdB ["told", "most"] K2.spByLet) (bB : Binds K fdB ["told", "most"] []) (kB : PySem.W.keepIn K (.ref fB) = true) (gB : mg "are_by_letters" = some (.ref fB)) (l1 : k1 ≤ j)
    (GG : FnOk P w K mg base CX0 k2 fG fdG ["lengths"] spAreGood) (bG : Binds K fdG ["lengths"] []) (kG : PySem.W.keepIn K (.ref fG) = true) (gG : mg "are_good" = some (.ref fG)) (l2 : k2 ≤ j)
    (m2 : mg "sorted" = none) (m3 : mg "enumerate" = none) (c1 : mg "LONGEST" = some (.int 12 t1)) :
    FnOk P w K mg base CX0 (j + 1) f fd ["lengths"] spWords := by
  refine F.ok scWords (fun vs H Q E h => ?_) (fun cdv A outer s H vs Q E hr h => ?_)
  · obtain ⟨p, ls, rfl, _⟩ := h
    rfl
  · obtain ⟨p, ls, rfl, hp, h2, hW, q⟩ := h
    refine ⟨_, pss_cons (ps_if (PW.pt (pw_or (pt_not (pt_val (pe_call GB (hr.mono l1) (by rfl) gB kB bB .nil pass0 (pa_cons (pv 0) (pa_cons (pe_glob (v := .int 12) rfl c1 ⟨_, rfl⟩) pa_nil)))))
          (pw_or1 (pt_not (pt_val (pe_call GG (hr.mono l2) (by rfl) gG kG bG .nil pass0 (pa_cons (pv 0) pa_nil))))))) (pss_one ps_never) pss_nil)
      (pss_cons (ps_set (i := 3) scWords.nd rfl (.inl rfl) (pe_callB cr_sortedPO (by rfl) m2 (by decide +kernel) (pa_cons (pe_lc (own := [("letter", 1), ("length", 2)]) (g := gTup K 2 (gCons (gName 1) (gCons (gName 2) gNil))) rfl scWords.nd
          (pi_enum (by rfl) m3 (pa_cons (pv 0) pa_nil)) (blkOk_by (N := NWd) (sc := defScope sWords) (by decide +kernel))
          (fun _ _ _ _ _ => pg_tup rfl (pgs_cons (pg_name (i := 1) scWords.nd rfl (.inl rfl)) (pgs_cons (pg_name (i := 2) scWords.nd rfl (.inl rfl)) pgs_nil)))
          (fun _ _ _ _ _ => pts_one (pt_cmpR op_gt (pv 2) pe_int (nomark _)))
          (fun _ _ _ _ _ => pe_tup (pa_cons (pv 2) (pa_cons (pv 1) pa_nil)))) pa_nil)))
      (pss_cons (ps_set (i := 4) scWords.nd rfl (.inr rfl) pe_dnewK)
      (pss_cons (ps_set (i := 5) scWords.nd rfl (.inl rfl) pe_int)
      (pss_cons (ps_set (i := 6) scWords.nd rfl (.inl rfl) pe_int)
      (pss_cons (ps_for PassesOwn.never rfl (pi_list (pv 3)) (pg_tup rfl (pgs_cons (pg_name (i := 2) scWords.nd rfl (.inl rfl)) (pgs_cons (pg_name (i := 1) scWords.nd rfl (.inl rfl)) pgs_nil)))
        (pss_cons (ps_set (i := 5) scWords.nd rfl (.inl rfl) (pe_op op_shl (pv 5) (pe_op op_sub (pv 2) (pv 6))))
        (pss_cons (ps_dput (hu_of hr) (pv 4) (pv 1) (pe_bm PySem.F.plainAttrs_str PySem.F.slot_str_zfill PySem.F.type_str_zfill mt_zfill (pe_joined1 (pe_fmtB bs0 (pv 5))) (pa_cons (pv 2) pa_nil)) rfl)
        (pss_cons (ps_aug (i := 5) scWords.nd rfl (.inl rfl) pe_int ip_add)
        (pss_one (ps_set (i := 6) scWords.nd rfl (.inl rfl) (pv 2)))))))
      (pss_one (ps_ret (pe_dc (own := [("letter", 1)]) (g := gName 1) (tt := tYes) rfl scWords.nd (pi_list (pe_callB (cr_sortedDA rfl) (by rfl) m2 (by decide +kernel) (pa_cons (pv 4) pa_nil))) (blkOk_by (N := NWd) (sc := defScope sWords) (by decide +kernel))
          (fun _ _ _ _ _ => pg_name (i := 1) scWords.nd rfl (.inl rfl)) (fun _ _ _ _ _ => pts_nil) (fun _ _ _ _ _ => pv 1) (fun _ _ _ _ _ => pe_dget (hu_of hr) (pv 4) (pv 1) (fun _ _ => rfl)))))))))), ?_⟩
    have hz := PySem.sizeLine_eq
    have hlen : 2 ≤ ls.length ∧ ls.length ≤ 300 := ⟨h2, hW.len⟩
    have hb : ((ls.all fun x => decide (0 ≤ x ∧ x ≤ 12)) && decide (2 ≤ ls.length ∧ ls.length ≤ 300)) = true := by
      rw [Bool.and_eq_true, List.all_eq_true]
      exact ⟨fun x hx => decide_eq_true (hW.in_ x hx), decide_eq_true hlen⟩
    refine ⟨_, rfl, p, ls, 12, rfl, hp, by omega, fun H0 sm0 => ?_⟩
    rw [hb]
    refine ⟨_, rfl, iteF ?_⟩
    refine ⟨_, rfl, p, ls, rfl, sm0 _ _ hp, by omega, fun x hx => (hW.in_ x hx).2, fun H1 sm01 => ?_⟩
    have sm1 := sm0.trans sm01
    rw [hW.good]
    refine ⟨_, rfl, iteF ?_⟩
    have hp1 : H1 p = some (.lst (ls.map V.int)) := sm1 _ _ hp
    refine ⟨_, rfl, p, _, rfl, .inl (.inl hp1), fun D nD => ?_⟩
    refine lc_it (walk_enum (K := K) (a := p) (xs := ls.map V.int)) (fun i H' => Same H1 H' ∧ ∃ us, H' D = some (.lst (us.map V.ref)) ∧ K2.Tups H' us (K2.rawU ls i)) ⟨same_upd nD, [], upd_same, by rw [show K2.rawU ls 0 = [] from rfl]; exact K2.Tups.nil⟩ (fun i H' _ h => .inl (.inl (h.1 _ _ hp1))) (fun i x H2 H3 hi h y => ?_) (fun H2 h => ?_)
    · obtain ⟨sm, us, hD, hu⟩ := h
      obtain ⟨T0, x0, y0, rfl, nT0, rfl, e0, e1⟩ := y
      obtain rfl := Option.some.inj e0
      obtain ⟨rfl, hi2⟩ := K2.enum_at e1
      have sm2 : Same H2 (upd H2 T0 (.tup [.int (i : Nat), .int (wAt ls i)])) := same_upd nT0
      refine ⟨T0, _, rfl, .inl (.inl upd_same), rfl, _, _, rfl, _, _, rfl, rfl, rfl, ?_⟩
      refine ⟨_, rfl, _, _, rfl, rfl, _, rfl, ?_⟩
      rw [K2.rawU_succ]
      have hu2 := hu.same sm2
      have hD2 := sm2 _ _ hD
      generalize upd H2 T0 (.tup [.int (i : Nat), .int (wAt ls i)]) = H3 at *
      refine ite2 (fun e => ?_) (fun e => ?_)
      · have hw : 0 < wAt ls i := of_decide_eq_true e
        rw [if_pos hw]
        refine ⟨_, rfl, _, rfl, (by show 2 ≤ sizeLine; decide), fun T1 nT1 => ?_⟩
        have sm3 : Same H3 (upd H3 T1 (.tup [.int (wAt ls i), .int (i : Nat)])) := same_upd nT1
        refine ⟨_, sm3 _ _ hD2, ?_, same_put ((sm.trans sm2).trans sm3) nD, us ++ [T1], ?_, ?_⟩
        · rw [List.length_map, hu.1]
          exact Nat.lt_of_le_of_lt (Nat.le_trans (K2.rawU_len ls i) (show i ≤ 300 by omega)) (by decide)
        · rw [upd_same, List.map_append]
          rfl
        · exact ((hu2.same sm3).snoc upd_same).put (sm3 _ _ hD2)
      · have hw : ¬ 0 < wAt ls i := fun z => e (decide_eq_true z)
        rw [if_neg hw, List.append_nil]
        exact ⟨sm.trans sm2, us, hD2, hu2⟩
    · obtain ⟨sm2, us, hD, hu⟩ := h
      rw [List.length_map] at hu
      have hu : K2.Tups H2 us (K2.rawL ls) := hu
      refine ⟨D, us.map V.ref, K2.kOf H2, rfl, .inl (.inl hD), fun x hx => hu.of_mem hx, fun ys C0 hs hst nC0 => ?_⟩
      obtain ⟨cs, rfl, hcs⟩ := hu.of_perm hst.perm
      have hcl : (cs.map V.ref).map (K2.kOf H2) = coinsL ls := by
        refine K2.coinsL_uniq ?_ ?_
        · have := hst.perm.map (K2.kOf H2)
          rw [hu.kOf] at this
          exact this
        · refine List.pairwise_map.mpr (hs.imp fun {a b} h => ?_)
          show (!SrtO.lexB (K2.kOf H2 b) (K2.kOf H2 a)) = true
          have h' : SrtO.lexB (K2.kOf H2 b) (K2.kOf H2 a) = false := h
          rw [h']
          rfl
      rw [hcl] at hcs
      have hC0 : (upd H2 C0 (.lst (cs.map V.ref))) C0 = some (.lst (cs.map V.ref)) := upd_same
      have sm3 : Same H1 (upd H2 C0 (.lst (cs.map V.ref))) := sm2.trans (same_upd nC0)
      have hcs3 := hcs.fresh (o := .lst (cs.map V.ref)) nC0
      generalize upd H2 C0 (.lst (cs.map V.ref)) = H3 at *
      have hcl2 := K2.coins_len ls
      dsimp only [gName]
      refine fun d nd => ?_
      have sm4 : Same H3 (upd H3 d (.dK [])) := same_upd nd
      have hd4 : (upd H3 d (.dK [])) d = some (.dK []) := upd_same
      have hC4 := sm4 _ _ hC0
      have hcs4 := hcs3.same sm4
      have nd0 : H1 d = none := none_back sm3 nd
      have sm14 := sm3.trans sm4
      generalize upd H3 d (.dK []) = H4 at *
      refine ⟨_, rfl, C0, rfl, ⟨_, .inl (.inl hC4)⟩, ?_⟩
      have hcdl := cd_len ls
      refine for_list (K := K) (a := C0) (xs := cs.map V.ref) (fun i σ H' => ∃ y1 y2, σ = [some (.ref p), y1, y2, some (.ref C0), some (.ref d), some (.int ((stW (coinsL ls) 0 0 i).1 : Int)), some (.int ((stW (coinsL ls) 0 0 i).2 : Int))] ∧ Same H1 H' ∧ H' C0 = some (.lst (cs.map V.ref)) ∧ K2.Tups H' cs (coinsL ls) ∧ H' d = some (.dK (((cdL ls).take i).map entW)))
        ⟨none, none, by rw [stW_zero]; rfl, sm14, hC4, hcs4, hd4⟩ (fun i σ H' _ h => ?_) (fun i x σ H' hx h => ?_) (fun σ H' h => ?_)
      · obtain ⟨_, _, _, _, h4, _⟩ := h
        exact .inl (.inl h4)
      · obtain ⟨y1, y2, rfl, sm, hC, hT, hd⟩ := h
        obtain ⟨t, ht, rfl⟩ := List.mem_map.mp (List.mem_of_getElem? hx)
        rw [List.getElem?_map] at hx
        cases e1 : cs[i]? with
        | none => rw [e1] at hx; cases hx
        | some t0 =>
        rw [e1] at hx
        obtain rfl : t0 = t := V.ref.inj (Option.some.inj hx)
        have hi := (List.getElem?_eq_some_iff.mp e1).1
        have hi2 : i < (coinsL ls).length := by rw [← hT.1]; exact hi
        have e2 : (coinsL ls)[i]? = some (coinsL ls)[i] := List.getElem?_eq_getElem hi2
        generalize (coinsL ls)[i] = x at e2
        have ht0 := hT.2 i t0 x e1 e2
        obtain ⟨c1', c2', k, c3, c4, c5⟩ := coin_fst hW x (List.mem_of_getElem? e2)
        obtain ⟨a1, a2⟩ := stW_at _ 0 0 i x e2
        have a3 := stW_le _ 0 0 i x (coin_srt hW) (fun y hy => by have := coin_fst hW y hy; omega) e2
        have a4 := cd_lt hW _ (List.mem_of_getElem? a1)
        rw [a2]
        generalize (stW (coinsL ls) 0 0 i).1 = n at *
        generalize (stW (coinsL ls) 0 0 i).2 = a at *
        dsimp only at a4 ⊢
        obtain ⟨l, el⟩ : ∃ l : Nat, x.1 = (l : Int) := ⟨x.1.toNat, by omega⟩
        have el2 : x.1.toNat = l := by omega
        have ek : x.2.toNat = k := by omega
        rw [el2] at a1 a4 ⊢
        rw [ek] at a1
        rw [el, c5] at ht0
        rw [el] at a3
        have a5 : a ≤ l := by omega
        refine ⟨t0, _, rfl, .inl (.inl ht0), rfl, _, _, rfl, _, _, rfl, rfl, ?_⟩
        have e6 : (n : Int) * 2 ^ ((l : Int) - (a : Int)).toNat = ((n * 2 ^ (l - a) : Nat) : Int) := by
          rw [show ((l : Int) - (a : Int)).toNat = l - a by omega, Int.natCast_mul, Int.natCast_pow]
          rfl
        have hlt : n * 2 ^ (l - a) < 2 ^ l := a4.1
        have h4096 : 2 ^ l ≤ 2 ^ 12 := Nat.pow_le_pow_right (by decide) a4.2.2
        have hn1 : n ≤ 4096 := by
          have := Nat.le_mul_of_pos_right n (Nat.pow_pos (n := l - a) (show 0 < 2 by decide))
          omega
        refine ⟨_, rfl, _, rfl, _, rfl, _, _, rfl, rfl, _, _, rfl, rfl, ⟨by omega, by omega, ?_⟩, ?_⟩
        · rw [Int.natAbs_natCast]
          exact Nat.lt_of_le_of_lt hn1 (by decide)
        dsimp only [gName]
        rw [e6]
        generalize n * 2 ^ (l - a) = m at *
        refine ⟨_, rfl, m, rfl, by omega, rfl, _, rfl, _, _, rfl, rfl, ?_, ?_⟩
        · have : ∀ l : Nat, l ≤ 12 → PadOk (l : Int) = true := by decide +kernel
          exact this l a4.2.2
        rw [zfill_bits a4.2.1 hlt]
        refine ⟨_, rfl, _, rfl, d, _, rfl, DPut.k (k := .inl (k : Int)) hd ?_, ?_⟩
        · rw [List.length_map, List.length_take]
          omega
        have hput := ent_put (cd_nodup ls) a1
        dsimp only at hput
        refine ⟨_, rfl, _, _, rfl, rfl, ?_⟩
        dsimp only [gName]
        refine ⟨_, rfl, ?_⟩
        dsimp only [gName]
        refine ⟨some (.int (k : Int)), some (.int (l : Int)), rfl, same_put sm nd0, ?_, ?_, ?_⟩
        · rw [upd_ne (ne_of hC hd (fun z => nomatch z))]
          exact hC
        · exact hT.ext fun b xs e => by rw [upd_ne (ne_of e hd (fun z => nomatch z))]; exact e
        · rw [upd_same, hput]
      · obtain ⟨y1, y2, rfl, sm, hC, hT, hd⟩ := h
        have el : (cs.map V.ref).length = (cdL ls).length := by rw [List.length_map, hT.1, hcdl]
        rw [el, List.take_length] at hd
        refine ⟨_, rfl, d, _, ((cdL ls).map fun t => ((t.1 : Nat) : Int)), rfl, .inl hd, ?_, ?_, fun ys D2 hpm hpw nD2 => ?_⟩
        · rw [List.map_map, List.map_map]
          rfl
        · rw [List.length_map]
          omega
        have sm2' : Same H' (upd H' D2 (.lst (ys.map V.int))) := same_upd nD2
        have hD2 : (upd H' D2 (.lst (ys.map V.int))) D2 = some (.lst (ys.map V.int)) := upd_same
        have hd5 := sm2' _ _ hd
        have sm5 := sm.trans sm2'
        generalize upd H' D2 (.lst (ys.map V.int)) = H5 at *
        have hmem : ∀ y ∈ ys, ∃ t ∈ cdL ls, y = (t.1 : Int) := fun y hy => by
          obtain ⟨t, h1, h2⟩ := List.mem_map.mp (hpm.mem_iff.mp hy)
          exact ⟨t, h1, h2.symm⟩
        have hynd : ys.Nodup := by
          refine hpm.nodup_iff.mpr ?_
          have := cd_nodup ls
          have e : ((cdL ls).map fun t => ((t.1 : Nat) : Int)) = ((cdL ls).map (·.1)).map fun (n : Nat) => (n : Int) := by rw [List.map_map]; rfl
          rw [e]
          exact List.pairwise_map.mpr (List.Pairwise.imp (fun {a b} q z => q (by omega)) this)
        have hyl : ys.length ≤ 300 := by rw [hpm.length_eq, List.length_map]; omega
        refine ⟨D2, rfl, ⟨_, .inl (.inl hD2)⟩, fun R nR => ?_⟩
        have nR1 := none_back sm5 nR
        have wOf : ∀ y ∈ ys, ∃ t ∈ cdL ls, y = (t.1 : Int) ∧ wdS ls y.toNat = bitS t.2.1 t.2.2 := fun y hy => by
          obtain ⟨t, h1, rfl⟩ := hmem y hy
          exact ⟨t, h1, rfl, by rw [Int.toNat_natCast]; exact wd_at h1⟩
        refine dc_it (walk_list (K := K) (a := D2) (xs := ys.map V.int)) (fun i H' => Same H5 H' ∧ H' R = some (.dK ((ys.take i).map fun y => (Sum.inl y, V.str (wdS ls y.toNat))))) ⟨same_upd nR, upd_same⟩ (fun i H' _ h => .inl (.inl (h.1 _ _ hD2))) (fun i x H6 H7 hi h y => ?_) (fun H6 h => ?_)
        · obtain ⟨rfl, hy⟩ := y
          obtain ⟨y, rfl, hy'⟩ := int_of hy
          obtain ⟨t, h1, rfl, h3⟩ := wOf y (List.mem_of_getElem? hy')
          refine ⟨rfl, yes ⟨_, rfl, _, rfl, _, rfl, d, .str (bitS t.2.1 t.2.2), rfl, ?_, _, .inl (t.1 : Int), rfl, h.2, ?_, same_put h.1 nR, ?_⟩⟩
          · have g := DGet.k (H := H7) (k := .inl (t.1 : Int)) (h.1 _ _ hd5)
            rw [ent_val (cd_nodup ls) h1] at g
            exact g
          · rw [List.length_map, List.length_take]
            omega
          · rw [upd_same, put_new, List.take_add_one, hy', List.map_append, ← h3]
            · rfl
            · intro e he z
              obtain ⟨y2, hy2, rfl⟩ := List.mem_map.mp he
              have z2 : y2 = (t.1 : Int) := Sum.inl.inj z
              obtain ⟨j, hj⟩ := List.getElem?_of_mem hy2
              have hji : j < i := by
                have := (List.getElem?_eq_some_iff.mp hj).1
                rw [List.length_take] at this
                omega
              rw [List.getElem?_take_of_lt hji] at hj
              have hjl := (List.getElem?_eq_some_iff.mp hj).1
              have := (List.getElem?_inj hjl hynd).mp (hj.trans (by rw [z2, hy']))
              omega
        · obtain ⟨h1, h2⟩ := h
          have e : ys.take (ys.map V.int).length = ys := by rw [List.length_map, List.take_length]
          rw [e] at h2
          refine q H6 R (sm1.trans (sm5.trans h1)) (none_back sm1 nR1) ⟨ys.map Int.toNat, ?_, by rw [List.length_map]; omega, ?_, fun k => ⟨fun hk => ?_, fun hk => ?_⟩⟩
          · rw [h2, List.map_map]
            congr 2
            refine List.map_congr_left fun y hy => ?_
            obtain ⟨t, _, rfl⟩ := hmem y hy
            show (Sum.inl (t.1 : Int), _) = (Sum.inl (((t.1 : Int).toNat : Nat) : Int), _)
            rw [Int.toNat_natCast]
          · refine nodup_toNat (fun y hy => ?_) hynd
            obtain ⟨t, _, rfl⟩ := hmem y hy
            omega
          · obtain ⟨y, hy, rfl⟩ := List.mem_map.mp hk
            obtain ⟨t, ht, rfl⟩ := hmem y hy
            rw [Int.toNat_natCast]
            exact cd_in hW ht
          · obtain ⟨t, ht, rfl, _⟩ := cd_of hW hk.1 hk.2
            exact List.mem_map.mpr ⟨(t.1 : Int), hpm.mem_iff.mpr (List.mem_map.mpr ⟨t, ht, rfl⟩), Int.toNat_natCast _⟩
end
end K7

namespace K7
open PySem PySem.Spec PyProof.Rows L2
theorem ixL {X : Cx} (K : PySem.W.Frag) (h : X.K = K := by rfl) : IxR X (rIxL K) := by subst h; exact ix_list
/-! ### _law_data -/
abbrev NDa : List Str := ["_law_script", "_law_at", "_law_most", "_law_found", "_law_many", "_law_k", "_law_digits", "_law_begin", "_law_turn"]
theorem scData : FnScope NDa ["_law_script", "_law_at", "_law_most"] (defScope sData) := ⟨rfl, rfl, rfl, by decide +kernel, rfl, by decide +kernel, by decide +kernel⟩
def bys (ks : List Nat) : List V := (ks.map fun (k : Nat) => (k : Int)).map V.int
theorem bys_eq (ks : List Nat) : bys ks = ks.map fun (k : Nat) => V.int (k : Int) := by
  unfold bys
  rw [List.map_map]
  rfl
theorem bys_len (ks : List Nat) : (bys ks).length = ks.length := by
  unfold bys
  rw [List.length_map, List.length_map]
theorem bys_app (a b : List Nat) : bys a ++ bys b = bys (a ++ b) := by
  unfold bys
  rw [List.map_append, List.map_append]
theorem bys_one (k : Nat) : [V.int (k : Int)] = bys [k] := rfl
theorem bys_cut (ks : List Nat) (a b : Nat) : cutV (bys ks) (some (a : Int)) (some (b : Int)) = bys ((ks.drop (min a ks.length)).take (min b ks.length - min a ks.length)) := by
  unfold cutV
  rw [HT.sIx_nat, HT.sIx_nat, bys_len]
  unfold bys
  rw [← List.map_drop, ← List.map_drop, ← List.map_take, ← List.map_take]
theorem bys_to (ks : List Nat) (b : Nat) : cutV (bys ks) none (some (b : Int)) = bys (ks.take b) := by
  unfold cutV
  rw [HT.sIx_nat, HT.sIx_none, bys_len, List.drop_zero, Nat.sub_zero]
  unfold bys
  rw [← List.map_take, ← List.map_take]
  congr 2
  by_cases h : b ≤ ks.length
  · rw [Nat.min_eq_left h]
  · rw [Nat.min_eq_right (by omega), List.take_length, List.take_of_length_le (by omega)]
theorem nat_of {x : Int} (h : 0 ≤ x) : ∃ k : Nat, x = (k : Int) := ⟨x.toNat, by omega⟩
theorem item_in {d1 d2 : Int} (h1 : 0 ≤ d1 ∧ d1 < 256) : ∃ v : Nat, v < 256 ∧ atI [V.int 97, V.int 98, V.int 32, V.int 0, V.int 255, V.int d1, V.int (d1.fmod 4), V.int 200] (d2.fmod 8) = some (.int (v : Int)) := by
  have a1 := fmod_in (a := d1) (l := 4) (by decide)
  have a2 := fmod_in (a := d2) (l := 8) (by decide)
  obtain ⟨k1, rfl⟩ := nat_of h1.1
  obtain ⟨k4, e4⟩ := nat_of a1.1
  rw [e4] at a1 ⊢
  obtain ⟨n, en⟩ := nat_of a2.1
  rw [en] at a2 ⊢
  have hn : n = 0 ∨ n = 1 ∨ n = 2 ∨ n = 3 ∨ n = 4 ∨ n = 5 ∨ n = 6 ∨ n = 7 := by omega
  rcases hn with rfl | rfl | rfl | rfl | rfl | rfl | rfl | rfl
  · exact ⟨97, by decide, rfl⟩
  · exact ⟨98, by decide, rfl⟩
  · exact ⟨32, by decide, rfl⟩
  · exact ⟨0, by decide, rfl⟩
  · exact ⟨255, by decide, rfl⟩
  · exact ⟨k1, by omega, rfl⟩
  · exact ⟨k4, by omega, rfl⟩
  · exact ⟨200, by decide, rfl⟩
section
variable {P : Program} {w : World} {K : PySem.W.Frag} {mg : Str → Option Value} {base : Heap}
def spData (K : PySem.W.Frag) : Sp := fun vs H Q _ => ∃ (p : Addr) (xs : List Int) (a n : Nat), vs = [.ref p, .int (a : Int), .int (n : Int)] ∧ SqL K H p (xs.map V.int) ∧ a ≤ 50000 ∧ n ≤ 1000 ∧
  ∀ H' r ks, Same H H' → H r = none → H' r = some (.lst (bys ks)) → (∀ k ∈ ks, k < 256) → ks.length ≤ n → Q (.ref r) H'
theorem ok_data {f fC fN : Addr} {fd fdC fdN : FuncData} {j : Nat} (F : Fun K "_law_data" "_law_data" sData f fd) (GC : FnOk P w K mg base CX0 (j + 1) fC fdC ["_law_script", "_law_k"] (K7.spCell K)) (bC : Binds K fdC ["_law_script", "_law_k"] []) (kC : PySem.W.keepIn K (.ref fC) = true) (gC : mg "_law_cell_at" = some (.ref fC))
    (GN : FnOk P w K mg base CX0 (j + 1) fN fdN ["_law_cell", "_law_limits"] spNums) (bN : Binds K fdN ["_law_cell", "_law_limits"] []) (kN : PySem.W.keepIn K (.ref fN) = true) (gN : mg "_law_numbers" = some (.ref fN))
    (m1 : mg "len" = none) (m2 : mg "int" = none) (m3 : mg "range" = none) : FnOk P w K mg base CX0 (j + 2) f fd ["_law_script", "_law_at", "_law_most"] (spData K) := by
  refine F.ok scData (fun vs H Q E h => ?_) (fun cdv A outer s H vs Q E hr h => ?_)
  · obtain ⟨p, xs, a, n, rfl, _⟩ := h
    rfl
  · obtain ⟨p, xs, a, n, rfl, hp, ha, hn, q⟩ := h
    refine ⟨_, pss_cons (ps_par (i := 3) (j := 4) rfl scData.nd rfl rfl (by decide) rfl rfl (pa_cons (pe_lst pa_nil) (pa_cons (pe_op op_modN (pe_callTy call_int1 (by rfl) m2 (by decide +kernel) (pa_cons (pe_call GC hr (by rfl) gC kC bC .nil pass0 (pa_cons (pv 0) (pa_cons (pv 1) pa_nil))) pa_nil)) (pe_op op_add (pv 2) pe_int)) pa_nil)) (by rfl))
      (pss_cons (ps_for PassesOwn.never rfl (pi_range1 (by rfl) m3 (pa_cons pe_int pa_nil)) (pg_name (i := 5) scData.nd rfl (.inl rfl))
        (pss_cons (ps_set (i := 6) scData.nd rfl (.inr rfl) (pe_call GN hr (by rfl) gN kN bN .nil pass0 (pa_cons (pe_call GC hr (by rfl) gC kC bC .nil pass0 (pa_cons (pv 0) (pa_cons (pe_op op_add (pe_op op_add (pv 1) pe_int) (pv 5)) pa_nil))) (pa_cons (pe_lst (pa_cons pe_int (pa_cons pe_int (pa_cons pe_int (pa_cons pe_int pa_nil))))) pa_nil))))
        (pss_one (ps_if (pt_cmpR op_eq (pe_ix ix_list (pv 6) pe_int (fun _ _ => rfl)) pe_int (nomark _))
          (pss_one (ps_set (i := 3) scData.nd rfl (.inl rfl) (pe_op op_cat (pv 3) (pe_op op_rep (pe_lst (pa_cons (pe_ix ix_list (pv 6) pe_int (fun _ _ => rfl)) pa_nil)) (pe_op op_add pe_int (pe_ix ix_list (pv 6) pe_int (fun _ _ => rfl)))))))
          (pss_one (ps_if (PW.pt (pw_and (pt_cmpR op_lt (pe_ix ix_list (pv 6) pe_int (fun _ _ => rfl)) pe_int (nomark _)) (pw_and1 (pt_cmpR (op_neD hr.units) (pv 3) (pe_lst pa_nil) (nomark _)))))
            (pss_cons (ps_set (i := 7) scData.nd rfl (.inl rfl) (pe_op op_modN (pe_callTy call_int1 (by rfl) m2 (by decide +kernel) (pa_cons (pe_ix ix_list (pv 6) pe_int (fun _ _ => rfl)) pa_nil)) (pe_callB call_len_seq (by rfl) m1 PySem.boot_len (pa_cons (pv 3) pa_nil))))
            (pss_one (ps_set (i := 3) scData.nd rfl (.inl rfl) (pe_op op_cat (pv 3) (pe_slice sl_list (pv 3) (po_some (pv 7)) (po_some (pe_op op_add (pe_op op_add (pv 7) pe_int) (pe_op op_modN (pe_callTy call_int1 (by rfl) m2 (by decide +kernel) (pa_cons (pe_ix ix_list (pv 6) pe_int (fun _ _ => rfl)) pa_nil)) pe_int))))))))
            (pss_one (ps_if (pt_cmpR op_eq (pe_ix ix_list (pv 6) pe_int (fun _ _ => rfl)) pe_int (nomark _))
              (pss_one (ps_set (i := 3) scData.nd rfl (.inl rfl) (pe_op op_cat (pv 3) (pe_lc (own := [("_law_turn", 8)]) (g := gName 8) (tt := tYes) rfl scData.nd (pi_range1 (by rfl) m3 (pa_cons pe_int pa_nil)) (blkOk_by (N := NDa) (sc := defScope sData) (by decide +kernel))
                (fun _ _ _ _ _ => pg_name (i := 8) scData.nd rfl (.inl rfl)) (fun _ _ _ _ _ => pts_nil) (fun _ _ _ _ _ => pe_op op_add pe_int (pe_op op_and (pe_op op_shr (pe_ix (ixL K) (pv 6) pe_int (fun _ _ => rfl)) (pv 8)) pe_int))))))
              (pss_one (ps_expr (pe_bm PySem.F.plainAttrs_list PySem.F.slot_list_append PySem.F.type_list_append mt_append (pv 3) (pa_cons (pe_ix ix_list (pe_lst (pa_cons pe_int (pa_cons pe_int (pa_cons pe_int (pa_cons pe_int (pa_cons pe_int (pa_cons (pe_ix ix_list (pv 6) pe_int (fun _ _ => rfl)) (pa_cons (pe_op op_modN (pe_callTy call_int1 (by rfl) m2 (by decide +kernel) (pa_cons (pe_ix ix_list (pv 6) pe_int (fun _ _ => rfl)) pa_nil)) pe_int) (pa_cons pe_int pa_nil)))))))))
                (pe_op op_modN (pe_callTy call_int1 (by rfl) m2 (by decide +kernel) (pa_cons (pe_ix ix_list (pv 6) pe_int (fun _ _ => rfl)) pa_nil)) pe_int) (fun _ _ => rfl)) pa_nil))))))))))))
      (pss_one (ps_ret (pe_slice sl_list (pv 3) po_none (po_some (pv 4)))))), ?_⟩
    refine ⟨Nat.zero_le _, fun D nD => ?_⟩
    have sm0 : Same H (upd H D (.lst [])) := same_upd nD
    have hD0 : (upd H D (.lst [])) D = some (.lst (bys [])) := upd_same
    generalize upd H D (.lst []) = H0 at *
    refine ⟨_, rfl, _, rfl, p, xs, a, rfl, sm0.seq hp, by omega, fun H1 sm1 => ?_⟩
    refine .inl ⟨_, rfl, _, rfl, _, _, rfl, rfl, _, _, rfl, rfl, (by omega), _, _, rfl, ?_⟩
    have hm := fmod_in (a := cellAt xs a) (l := (n : Int) + 1) (by omega)
    obtain ⟨many, em⟩ := nat_of hm.1
    rw [em] at hm
    have sm01 := sm0.trans sm1
    refine ⟨24, rfl, by decide, by decide, ?_⟩
    refine for_range (lo := 0) (n := 24) (fun i σ H' => ∃ (y5 y6 y7 : Option V) (D : Addr) (ks : List Nat), σ = [some (.ref p), some (.int (a : Int)), some (.int (n : Int)), some (.ref D), some (.int ((cellAt xs a).fmod ((n : Int) + 1))), y5, y6, y7, none] ∧ Same H H' ∧ H D = none ∧ H' D = some (.lst (bys ks)) ∧ (∀ k ∈ ks, k < 256) ∧ ks.length ≤ 40 * i)
      ⟨none, none, none, D, [], rfl, sm01, nD, sm1 _ _ hD0, fun k h => by (cases h), by simp⟩ (fun i σ H' hi h => ?_) (fun σ H' h => ?_)
    · obtain ⟨y5, y6, y7, D, ks0, rfl, sm, nD, hD, hk, hl⟩ := h
      refine ⟨_, rfl, _, rfl, _, _, rfl, rfl, _, rfl, _, _, rfl, rfl, p, xs, a + 1 + i, ?_, sm.seq hp, by omega, fun H5 sm5 => ?_⟩
      · show [V.ref p, V.int ((a : Int) + 1 + (0 + (i : Int)))] = _
        rw [show (a : Int) + 1 + (0 + (i : Int)) = ((a + 1 + i : Nat) : Int) by omega]
      · refine ⟨(by show 4 ≤ sizeLine; decide), fun z nz => ?_⟩
        refine ⟨z, cellAt xs (a + 1 + i), [6, 256, 40, 300], rfl, upd_same, by decide, by decide, fun H6 dg ds sm6 nq hdg hdl hin => ?_⟩
        obtain ⟨d0, d1, d2, d3, rfl⟩ : ∃ d0 d1 d2 d3, ds = [d0, d1, d2, d3] := by
          match ds, hdl with
          | [a, b, c, d], _ => exact ⟨a, b, c, d, rfl⟩
        have hd0 := hin.2 0 d0 6 rfl rfl
        have hd1 := hin.2 1 d1 256 rfl rfl
        have hd2 := hin.2 2 d2 40 rfl rfl
        have hd3 := hin.2 3 d3 300 rfl rfl
        have sm46 : Same H' H6 := (sm5.trans (same_upd nz)).trans sm6
        have sm06 : Same H H6 := sm.trans sm46
        have hD6 := sm46 _ _ hD
        have hdgS : SqL K H6 dg [.int d0, .int d1, .int d2, .int d3] := .inl (.inl hdg)
        clear nq hin hdl hdg hm em
        have hz := PySem.sizeLine_eq
        have fin : ∀ (H9 : Hp) (r : Addr) (ks2 : List Nat) (y7 : Option V), Same H H9 → H9 r = none → (∀ k ∈ ks2, k < 256) → ks2.length ≤ 40 →
            ∃ (y5' y6' y7' : Option V) (D : Addr) (ks : List Nat), [some (.ref p), some (.int (a : Int)), some (.int (n : Int)), some (.ref r), some (.int ((cellAt xs a).fmod ((n : Int) + 1))), some (.int (0 + (i : Int))), some (.ref dg), y7, none] = [some (.ref p), some (.int (a : Int)), some (.int (n : Int)), some (.ref D), some (.int ((cellAt xs a).fmod ((n : Int) + 1))), y5', y6', y7', none] ∧ Same H (upd H9 r (.lst (bys ks0 ++ bys ks2))) ∧ H D = none ∧ (upd H9 r (.lst (bys ks0 ++ bys ks2))) D = some (.lst (bys ks)) ∧ (∀ k ∈ ks, k < 256) ∧ ks.length ≤ 40 * (i + 1) := by
          intro H9 r ks2 y7 sm9 nr h2 hl2
          refine ⟨_, _, y7, r, ks0 ++ ks2, rfl, sm9.trans (same_upd nr), none_back sm9 nr, by rw [upd_same, bys_app], fun k m => ?_, by rw [List.length_append]; omega⟩
          rcases (List.mem_append.mp m) with (m | m)
          · exact hk k m
          · exact h2 k m
        obtain ⟨k1, rfl⟩ := nat_of hd1.1
        refine ⟨_, rfl, dg, _, 0, _, rfl, rfl, hdgS, rfl, rfl, _, rfl, ite2 (fun e => ?_) (fun e => ?_)⟩
        · refine ⟨_, rfl, _, rfl, dg, _, 1, _, rfl, rfl, hdgS, rfl, (by show 1 ≤ sizeLine; rw [hz]; decide), fun z1 nz1 => ?_⟩
          have s1 : Same H6 (upd H6 z1 (.lst [.int (k1 : Int)])) := same_upd nz1
          have e1 : (upd H6 z1 (.lst [.int (k1 : Int)])) z1 = some (.lst [.int (k1 : Int)]) := upd_same
          refine ⟨_, rfl, dg, _, 2, _, rfl, rfl, s1.seq hdgS, rfl, _, _, rfl, rfl, z1, 1 + d2, _, rfl, rfl, e1, by omega, by omega, (by rw [hz]; simp; omega), fun r1 nr1 => ?_⟩
          rw [rep_flat]
          have s2 := same_upd (o := .lst (List.replicate (1 + d2).toNat (V.int (k1 : Int)))) nr1
          have e2 : (upd (upd H6 z1 (.lst [.int (k1 : Int)])) r1 (.lst (List.replicate (1 + d2).toNat (V.int (k1 : Int))))) r1 = some (.lst (List.replicate (1 + d2).toNat (V.int (k1 : Int)))) := upd_same
          have eb : List.replicate (1 + d2).toNat (V.int (k1 : Int)) = bys (List.replicate (1 + d2).toNat k1) := by simp [bys]
          rw [eb] at s2 e2 ⊢
          refine ⟨D, r1, _, _, rfl, rfl, s2 _ _ (s1 _ _ hD6), e2, (by rw [bys_len, bys_len, List.length_replicate, hz]; omega), fun r2 nr2 => ?_⟩
          exact fin _ r2 _ y7 ((sm06.trans s1).trans s2) nr2 (fun k m => by rw [List.eq_of_mem_replicate m]; omega) (by rw [List.length_replicate]; omega)
        · refine ⟨_, rfl, dg, _, 0, _, rfl, rfl, hdgS, rfl, _, _, rfl, rfl, _, rfl, ite2 (fun e3 => ?ltYes) (fun e3 => ?ltNo)⟩
          case' ltYes =>
            refine ⟨_, rfl, Nat.zero_le _, fun z2 nz2 => ?_⟩
            have sm67 : Same H6 (upd H6 z2 (.lst [])) := same_upd nz2
            have hz2 : (upd H6 z2 (.lst [])) z2 = some (.lst []) := upd_same
            generalize upd H6 z2 (.lst []) = H7 at *
            have hD7 := sm67 _ _ hD6
            refine ⟨_, _, .lst (.inl (.inl hD7)) (dp_ints _), .lst (ds := []) (.inl (.inl hz2)) .nil, shaped_intsQ _, shaped_intsQ [], _, rfl, ite2 (fun e4 => ?good) (fun e4 => ?_)⟩
            case good =>
              have hne : ks0 ≠ [] := by
                intro z
                subst z
                cases e4
              have hpos : 0 < ks0.length := List.length_pos_iff.mpr hne
              have hb := fmod_in (a := d3) (l := (ks0.length : Int)) (by omega)
              have hc := fmod_in (a := d2) (l := 20) (by decide)
              obtain ⟨b, eb⟩ := nat_of hb.1
              obtain ⟨c, ec⟩ := nat_of hc.1
              have hdg7 := sm67.seq hdgS
              refine ⟨_, rfl, dg, _, 3, _, rfl, rfl, hdg7, rfl, .inl ⟨_, rfl, _, rfl, D, _, rfl, .inl (.inl (.inl hD7)), _, _, rfl, rfl, (by rw [bys_len]; omega), ?_⟩⟩
              refine ⟨_, rfl, _, rfl, _, rfl, _, rfl, _, rfl, _, _, rfl, rfl, _, rfl, dg, _, 2, _, rfl, rfl, hdg7, rfl, .inl ⟨_, rfl, _, _, rfl, rfl, (by show (20 : Int) ≠ 0; decide), _, _, rfl, rfl, _, rfl, D, _, rfl, .inl (.inl hD7), fun r nr => ?_⟩⟩
              have ecut : cutV (bys ks0) (some (d3.fmod ((bys ks0).length : Int))) (some (d3.fmod ((bys ks0).length : Int) + 3 + d2.fmod 20)) = bys ((ks0.drop (min b ks0.length)).take (min (b + 3 + c) ks0.length - min b ks0.length)) := by
                rw [bys_len, eb, ec]
                exact bys_cut ks0 b (b + 3 + c)
              rw [ecut]
              have s2 := same_upd (o := .lst (bys ((ks0.drop (min b ks0.length)).take (min (b + 3 + c) ks0.length - min b ks0.length)))) nr
              have hlen : ((ks0.drop (min b ks0.length)).take (min (b + 3 + c) ks0.length - min b ks0.length)).length ≤ 40 := by
                rw [List.length_take]
                omega
              refine ⟨D, r, _, _, rfl, rfl, s2 _ _ hD7, upd_same, (by rw [bys_len, bys_len, hz]; omega), fun r2 nr2 => ?_⟩
              exact fin _ r2 _ _ ((sm06.trans sm67).trans s2) nr2 (fun k m => hk k (List.mem_of_mem_drop (List.mem_of_mem_take m))) hlen
          case' ltNo =>
            obtain ⟨H7, eH, sm67, hD7⟩ : ∃ H7, H7 = H6 ∧ Same H6 H7 ∧ H7 D = some (.lst (bys ks0)) := ⟨H6, rfl, Same.refl H6, hD6⟩
            rw [← eH]
          all_goals
            have hdg7 := sm67.seq hdgS
            have sm07 := sm06.trans sm67
            refine ⟨_, rfl, dg, _, 0, _, rfl, rfl, hdg7, rfl, rfl, _, rfl, ite2 (fun e5 => ?_) (fun e5 => ?_)⟩
            · refine ⟨_, rfl, 8, rfl, by decide, by decide, fun C nC => ?_⟩
              have s8 : Same H7 (upd H7 C (.lst [])) := same_upd nC
              refine lc_range (lo := 0) (n := 8) (fun i H' => ∃ ks2 : List Nat, Same H7 H' ∧ H' C = some (.lst (bys ks2)) ∧ ks2.length = i ∧ ∀ k ∈ ks2, k < 256) ⟨[], s8, upd_same, rfl, fun k m => by (cases m)⟩ (fun i8 H8 hi8 h => ?_) (fun H8 h => ?_)
              · obtain ⟨ks2, sm78, hC, hl2, hk2⟩ := h
                refine ⟨rfl, yes ?_⟩
                refine ⟨_, rfl, dg, _, 1, _, rfl, rfl, sm78.seq hdg7, rfl, _, rfl, _, _, rfl, rfl, (by omega), _, _, rfl, rfl, _, _, rfl, rfl, _, hC, ?_, ?_⟩
                · rw [bys_len, hz]
                  omega
                · refine ⟨ks2 ++ [97 + (k1 / 2 ^ i8) % 2], same_put sm78 nC, ?_, by simp [hl2], fun k m => ?_⟩
                  · have ev : (97 : Int) + Builtin.bitAnd ((k1 : Int) / 2 ^ (0 + (i8 : Int)).toNat) 1 = ((97 + (k1 / 2 ^ i8) % 2 : Nat) : Int) := by
                      rw [PyProof.Rows.bitAnd_m1, Int.zero_add, Int.toNat_natCast]
                      push_cast
                      rfl
                    rw [upd_same]
                    show some (HO.lst (bys ks2 ++ [V.int (97 + Builtin.bitAnd ((k1 : Int) / 2 ^ (0 + (i8 : Int)).toNat) 1)])) = _
                    rw [ev, ← bys_app]
                    rfl
                  · rcases (List.mem_append.mp m) with (m | m)
                    · exact hk2 k m
                    · rw [List.mem_singleton.mp m]
                      omega
              · obtain ⟨ks2, sm78, hC, hl2, hk2⟩ := h
                refine ⟨D, C, _, _, rfl, rfl, sm78 _ _ hD7, hC, (by rw [bys_len, bys_len, hz]; omega), fun r2 nr2 => ?_⟩
                exact fin _ r2 _ _ (sm07.trans sm78) nr2 hk2 (by omega)
            · refine ⟨_, rfl, .inl ⟨rfl, _, .inl (.inl hD7)⟩, ?_⟩
              refine ⟨_, rfl, dg, _, 1, _, rfl, rfl, hdg7, rfl, _, rfl, dg, _, 1, _, rfl, rfl, hdg7, rfl, .inl ⟨_, rfl, _, _, rfl, rfl, (by show (4 : Int) ≠ 0; decide), (by show 8 ≤ sizeLine; rw [hz]; decide), fun z3 nz3 => ?_⟩⟩
              obtain ⟨v, hv, ev⟩ := item_in (d1 := (k1 : Int)) (d2 := d2) hd1
              have s3 := same_upd (o := .lst [V.int 97, V.int 98, V.int 32, V.int 0, V.int 255, V.int (k1 : Int), V.int ((k1 : Int).fmod 4), V.int 200]) nz3
              have e3' : (upd H7 z3 (.lst [V.int 97, V.int 98, V.int 32, V.int 0, V.int 255, V.int (k1 : Int), V.int ((k1 : Int).fmod 4), V.int 200])) z3 = some (.lst [V.int 97, V.int 98, V.int 32, V.int 0, V.int 255, V.int (k1 : Int), V.int ((k1 : Int).fmod 4), V.int 200]) := upd_same
              refine ⟨_, rfl, dg, _, 2, _, rfl, rfl, s3.seq hdg7, rfl, .inl ⟨_, rfl, _, _, rfl, rfl, (by show (8 : Int) ≠ 0; decide), z3, _, _, _, rfl, rfl, .inl (.inl e3'), ev, D, _, _, rfl, rfl, s3 _ _ hD7, (by rw [bys_len, hz]; omega), ?_⟩⟩
              refine ⟨_, _, y7, D, ks0 ++ [v], rfl, same_put (sm07.trans s3) nD, nD, by rw [upd_same, ← bys_app]; rfl, fun k m => ?_, by simp; omega⟩
              rcases (List.mem_append.mp m) with (m | m)
              · exact hk k m
              · rw [List.mem_singleton.mp m]
                exact hv
    · obtain ⟨y5, y6, y7, D, ks, rfl, sm, nD, hD, hk, hl⟩ := h
      refine ⟨_, rfl, _, rfl, _, rfl, D, _, rfl, .inl (.inl hD), fun r nr => ?_⟩
      refine q _ r (ks.take many) (sm.trans (same_upd nr)) (none_back sm nr) ?_ (fun k m => hk k (List.mem_of_mem_take m)) ?_
      · rw [upd_same, em, bys_to]
      · rw [List.length_take]
        omega
end
end K7

namespace K7
open PySem PySem.Spec PyProof.Rows L2
/-! ### what a row tells -/
def copyN (every : List Nat) (b : Nat) : Nat → List Nat
  | 0 => every
  | m + 1 => copyN (every ++ [every.getD (every.length - b) 0]) b m
def tells : List Nat → List Itm → Option (List Nat)
  | every, [] => some every
  | every, .b k :: r => tells (every ++ [k]) r
  | every, .c m b :: r => if b ≤ every.length then tells (copyN every b m) r else none
theorem tells_app : ∀ (a b : List Itm) (every : List Nat), tells every (a ++ b) = (tells every a).bind fun e => tells e b
  | [], b, every => rfl
  | .b k :: a, b, every => by
    show tells (every ++ [k]) (a ++ b) = (tells (every ++ [k]) a).bind _
    exact tells_app a b _
  | .c m r :: a, b, every => by
    show (if r ≤ every.length then tells (copyN every r m) (a ++ b) else none) = (if r ≤ every.length then tells (copyN every r m) a else none).bind _
    by_cases h : r ≤ every.length
    · rw [if_pos h, if_pos h]
      exact tells_app a b _
    · rw [if_neg h, if_neg h]
      rfl
theorem copyN_succ (b : Nat) : ∀ (m : Nat) (every : List Nat), copyN every b (m + 1) = copyN every b m ++ [(copyN every b m).getD ((copyN every b m).length - b) 0]
  | 0, every => rfl
  | m + 1, every => by
    show copyN (every ++ [every.getD (every.length - b) 0]) b (m + 1) = _
    rw [copyN_succ b m]
    rfl
theorem copyN_len (b : Nat) : ∀ (m : Nat) (every : List Nat), (copyN every b m).length = every.length + m
  | 0, every => rfl
  | m + 1, every => by
    show (copyN (every ++ _) b m).length = _
    rw [copyN_len b m, List.length_append, List.length_singleton]
    omega
theorem copyN_lt (b : Nat) : ∀ (m : Nat) {every : List Nat}, (∀ k ∈ every, k < 256) → ∀ k ∈ copyN every b m, k < 256
  | 0, every, h => h
  | m + 1, every, h => by
    refine copyN_lt b m (every := every ++ [every.getD (every.length - b) 0]) fun k q => ?_
    rcases (List.mem_append.mp q) with (q | q)
    · exact h k q
    · rw [List.mem_singleton.mp q, List.getD_eq_getElem?_getD]
      cases e : every[every.length - b]? with
      | none => decide
      | some x => exact h x (List.mem_of_getElem? e)
theorem copyN_pre (b : Nat) : ∀ (m : Nat) (every : List Nat), ∃ r, copyN every b m = every ++ r
  | 0, every => ⟨[], by simp [copyN]⟩
  | m + 1, every => by
    obtain ⟨r, e⟩ := copyN_pre b m (every ++ [every.getD (every.length - b) 0])
    exact ⟨[every.getD (every.length - b) 0] ++ r, by show copyN (every ++ _) b m = _; rw [e, List.append_assoc]⟩
abbrev RowAt (H : Hp) : List Itm → List V → Prop := Paired (ItmAt H)
theorem ItmAt.put {H : Hp} {it : Itm} {v : V} {D : Addr} {xs ys : List V} (h : ItmAt H it v) (hD : H D = some (.lst xs)) : ItmAt (upd H D (.lst ys)) it v := by
  cases it with
  | b k => exact h
  | c m r =>
    obtain ⟨t, e, ht⟩ := h
    refine ⟨t, e, ?_⟩
    rw [upd_ne (ne_of ht hD (fun z => nomatch z))]
    exact ht
end K7

namespace K7
open PySem PySem.Spec PyProof.Rows L2
/-! ### _law_items -/
def mlGo (e : List Nat) (h b : Nat) : Nat → Nat → Nat
  | 0, m => m
  | f + 1, m => if e.getD (h + m) 0 = e.getD (h + m - b) 0 then mlGo e h b f (m + 1) else m
def ml (e : List Nat) (h b lim : Nat) : Nat := mlGo e h b lim 0
theorem mlGo_le (e : List Nat) (h b : Nat) : ∀ f m, m ≤ mlGo e h b f m ∧ mlGo e h b f m ≤ m + f
  | 0, m => ⟨Nat.le_refl _, Nat.le_refl _⟩
  | f + 1, m => by
    show m ≤ (if e.getD (h + m) 0 = e.getD (h + m - b) 0 then mlGo e h b f (m + 1) else m) ∧ _ ≤ _
    have := mlGo_le e h b f (m + 1)
    by_cases c : e.getD (h + m) 0 = e.getD (h + m - b) 0
    · rw [if_pos c]
      refine ⟨by omega, ?_⟩
      show (if e.getD (h + m) 0 = e.getD (h + m - b) 0 then mlGo e h b f (m + 1) else m) ≤ _
      rw [if_pos c]
      omega
    · rw [if_neg c]
      refine ⟨Nat.le_refl _, ?_⟩
      show (if e.getD (h + m) 0 = e.getD (h + m - b) 0 then mlGo e h b f (m + 1) else m) ≤ _
      rw [if_neg c]
      omega
def prsB (e : List Nat) (h lim b : Nat) (i : Nat) : List (Int × Int) := (List.range i).map fun o => (-(((3 + o : Nat) : Int)), ((b : Nat) : Int))
def prs (e : List Nat) (h lim : Nat) (i : Nat) : List (Int × Int) := (List.range i).flatMap fun b => prsB e h lim (1 + b) (ml e h (1 + b) lim - 2)
theorem prs_succ (e : List Nat) (h lim i : Nat) : prs e h lim (i + 1) = prs e h lim i ++ prsB e h lim (1 + i) (ml e h (1 + i) lim - 2) := by
  unfold prs
  rw [List.range_succ, List.flatMap_append]
  simp
theorem prsB_succ (e : List Nat) (h lim b i : Nat) : prsB e h lim b (i + 1) = prsB e h lim b i ++ [(-(((3 + i : Nat) : Int)), ((b : Nat) : Int))] := by
  unfold prsB
  rw [List.range_succ, List.map_append]
  rfl
theorem prs_len (e : List Nat) (h lim : Nat) (hl : lim ≤ 18) : ∀ i, (prs e h lim i).length ≤ 16 * i
  | 0 => by simp [prs]
  | i + 1 => by
    rw [prs_succ, List.length_append]
    have h1 := prs_len e h lim hl i
    have h2 : (prsB e h lim (1 + i) (ml e h (1 + i) lim - 2)).length = ml e h (1 + i) lim - 2 := by simp [prsB]
    have h3 := (mlGo_le e h (1 + i) lim 0).2
    have h4 : ml e h (1 + i) lim ≤ 0 + lim := h3
    omega
theorem prs_neg {e : List Nat} {h lim i : Nat} {p : Int × Int} (m : p ∈ prs e h lim i) : p.1 ≤ 0 ∧ 0 ≤ p.2 := by
  obtain ⟨b, _, hb⟩ := List.mem_flatMap.mp m
  obtain ⟨o, _, rfl⟩ := List.mem_map.mp hb
  exact ⟨by show -(((3 + o : Nat) : Int)) ≤ 0; omega, by show (0 : Int) ≤ ((1 + b : Nat) : Int); omega⟩
def PrAt (H : Hp) (p : Int × Int) (v : V) : Prop := ∃ t, v = .ref t ∧ H t = some (.tup [.int p.1, .int p.2])
theorem PrAt.same {H H' : Hp} {p : Int × Int} {v : V} (h : PrAt H p v) (s : Same H H') : PrAt H' p v := by
  obtain ⟨t, e, ht⟩ := h
  exact ⟨t, e, s _ _ ht⟩
theorem PrAt.put {H : Hp} {p : Int × Int} {v : V} {D : Addr} {xs ys : List V} (h : PrAt H p v) (hD : H D = some (.lst xs)) : PrAt (upd H D (.lst ys)) p v := by
  obtain ⟨t, e, ht⟩ := h
  exact ⟨t, e, by rw [upd_ne (ne_of ht hD (fun z => nomatch z))]; exact ht⟩
theorem paired_app {α β : Type} {G : α → β → Prop} : ∀ {l₁ : List α} {l₂ : List β} {m₁ : List α} {m₂ : List β}, Paired G l₁ l₂ → Paired G m₁ m₂ → Paired G (l₁ ++ m₁) (l₂ ++ m₂)
  | _, _, _, _, .nil, h => h
  | _, _, _, _, .cons a t, h => .cons a (paired_app t h)
theorem paired_of {α β : Type} {G : α → β → Prop} {k : β → α} (hk : ∀ a b, G a b → k b = a) : ∀ {l₁ : List α} {l₂ : List β}, Paired G l₁ l₂ → l₂.map k = l₁
  | _, _, .nil => rfl
  | _, _, .cons a t => by rw [List.map_cons, hk _ _ a, paired_of hk t]
def prOf (H : Hp) : V → Int × Int
  | .ref t => match H t with
    | some (.tup [.int a, .int b]) => (a, b)
    | _ => (0, 0)
  | _ => (0, 0)
theorem prOf_at {H : Hp} {p : Int × Int} {v : V} (h : PrAt H p v) : prOf H v = p := by
  obtain ⟨t, rfl, ht⟩ := h
  unfold prOf
  simp only [ht]
theorem at_of' {ks : List Nat} {i : Int} {k : Nat} (e : i = (k : Int)) (h : k < ks.length) : atI (bys ks) i = some (.int ((ks.getD k 0 : Nat) : Int)) := by
  subst e
  rw [bys_eq]
  refine atI_nat ?_
  rw [List.getElem?_map, List.getElem?_eq_getElem h, List.getD_eq_getElem?_getD, List.getElem?_eq_getElem h]
  rfl
abbrev NIt : List Str := ["_law_every", "_law_lead", "_law_place", "_law_end", "_law_found", "_law_here", "_law_back_here", "_law_many", "_law_one"]
theorem scItems : FnScope NIt ["_law_every", "_law_lead", "_law_place", "_law_end"] (defScope sItems) := ⟨rfl, rfl, rfl, by decide +kernel, rfl, by decide +kernel, by decide +kernel⟩
section
variable {P : Program} {w : World} {K : PySem.W.Frag} {mg : Str → Option Value} {base : Heap}
/-- the items that can stand at a place: a byte, then copies in their turn -/
structure IsItems (every : List Nat) (here lim : Nat) (its : List Itm) : Prop where
  ex : ∃ cs : List (Int × Int), its = .b (every.getD here 0) :: cs.map (fun p => .c (-p.1).toNat p.2.toNat) ∧ SrtO.Srtd SrtO.lexB cs ∧ cs.Perm (prs every here lim (min 1024 here))
def spItems : Sp := fun vs H Q _ => ∃ (pe : Addr) (every : List Nat) (lead place en : Nat), vs = [.ref pe, .int (lead : Int), .int (place : Int), .int (en : Int)] ∧ H pe = some (.lst (bys every)) ∧ place < en ∧ lead + en ≤ every.length ∧ every.length ≤ 1000 ∧
  ∀ H' r us its, Same H H' → H r = none → H' r = some (.lst us) → RowAt H' its us → IsItems every (lead + place) (min 18 (en - place)) its → Q (.ref r) H'
theorem ok_items {f : Addr} {fd : FuncData} {j : Nat} (F : Fun K "_law_items" "_law_items" sItems f fd) (m1 : mg "range" = none) (m2 : mg "min" = none) (m3 : mg "sorted" = none) :
    FnOk P w K mg base CX0 (j + 1) f fd ["_law_every", "_law_lead", "_law_place", "_law_end"] spItems := by
  refine F.ok scItems (fun vs H Q E h => ?_) (fun cdv A outer s H vs Q E hr h => ?_)
  · obtain ⟨pe, every, lead, place, en, rfl, _⟩ := h
    rfl
  · obtain ⟨pe, every, lead, place, en, rfl, hpe, hlt, hle, hl, q⟩ := h
    have hz := PySem.sizeLine_eq
    refine ⟨_, pss_cons (ps_par (i := 4) (j := 5) rfl scItems.nd rfl rfl (by decide) rfl rfl (pa_cons (pe_lst pa_nil) (pa_cons (pe_op op_add (pv 1) (pv 2)) pa_nil)) (by rfl))
      (pss_cons (ps_for PassesOwn.never rfl (pi_range2 (by rfl) m1 (pa_cons pe_int (pa_cons (pe_op op_add (pe_callB (call_min2 rfl) (by rfl) m2 (by decide +kernel) (pa_cons pe_int (pa_cons (pv 5) pa_nil))) pe_int) pa_nil))) (pg_name (i := 6) scItems.nd rfl (.inr rfl))
        (pss_cons (ps_set (i := 7) scItems.nd rfl (.inl rfl) pe_int)
        (pss_cons (ps_while PassesOwn.never (PW.pt (pw_and (pt_cmpR op_lt (pv 7) (pe_callB (call_min2 rfl) (by rfl) m2 (by decide +kernel) (pa_cons pe_int (pa_cons (pe_op op_sub (pv 3) (pv 2)) pa_nil))) (nomark _))
            (pw_and1 (pt_cmpR op_eq (pe_ix ix_list (pv 0) (pe_op op_add (pv 5) (pv 7)) (fun _ _ => rfl)) (pe_ix ix_list (pv 0) (pe_op op_sub (pe_op op_add (pv 5) (pv 7)) (pv 6)) (fun _ _ => rfl)) (nomark _)))))
          (pss_one (ps_set (i := 7) scItems.nd rfl (.inl rfl) (pe_op op_add (pv 7) pe_int))))
        (pss_one (ps_expr (pe_bm PySem.F.plainAttrs_list PySem.F.slot_list_extend PySem.F.type_list_extend mt_extend (pv 4) (pa_cons (pe_lc (own := [("_law_one", 8)]) (g := gName 8) (tt := tYes) rfl scItems.nd (pi_range2 (by rfl) m1 (pa_cons pe_int (pa_cons (pe_op op_add (pv 7) pe_int) pa_nil))) (blkOk_by (N := NIt) (sc := defScope sItems) (by decide +kernel))
            (fun _ _ _ _ _ => pg_name (i := 8) scItems.nd rfl (.inl rfl)) (fun _ _ _ _ _ => pts_nil) (fun _ _ _ _ _ => pe_tup (pa_cons (pe_un un_neg (pv 8)) (pa_cons (pv 6) pa_nil)))) pa_nil)))))))
      (pss_one (ps_ret (pe_op op_cat (pe_lst (pa_cons (pe_ix ix_list (pv 0) (pv 5) (fun _ _ => rfl)) pa_nil)) (pe_lc (own := [("_law_one", 8), ("_law_back_here", 6)]) (g := gTup K 2 (gCons (gName 8) (gCons (gName 6) gNil))) (tt := tYes) rfl scItems.nd (pi_list (pe_callB cr_sortedPO (by rfl) m3 (by decide +kernel) (pa_cons (pv 4) pa_nil))) (blkOk_by (N := NIt) (sc := defScope sItems) (by decide +kernel))
            (fun _ _ _ _ _ => pg_tup rfl (pgs_cons (pg_name (i := 8) scItems.nd rfl (.inl rfl)) (pgs_cons (pg_name (i := 6) scItems.nd rfl (.inl rfl)) pgs_nil))) (fun _ _ _ _ _ => pts_nil) (fun _ _ _ _ _ => pe_tup (pa_cons (pe_un un_neg (pv 8)) (pa_cons (pv 6) pa_nil)))))))), ?_⟩
    refine ⟨Nat.zero_le _, fun D nD => ?_⟩
    have s0 : Same H (upd H D (.lst [])) := same_upd nD
    have hD0 : (upd H D (.lst [])) D = some (.lst []) := upd_same
    generalize upd H D (.lst []) = H0 at *
    refine ⟨_, rfl, _, rfl, _, _, rfl, rfl, _, _, rfl, ?_⟩
    have eh : (lead : Int) + (place : Int) = ((lead + place : Nat) : Int) := by push_cast; rfl
    have hB : (if (lead : Int) + (place : Int) < 1024 then (lead : Int) + (place : Int) else 1024) = ((min 1024 (lead + place) : Nat) : Int) := by
      split <;> omega
    have hlim : (if (en : Int) - (place : Int) < 18 then (en : Int) - (place : Int) else 18) = ((min 18 (en - place) : Nat) : Int) := by
      split <;> omega
    refine ⟨_, rfl, _, _, rfl, _, _, rfl, rfl, _, _, rfl, ⟨by decide, by decide, (by split <;> omega), (by split <;> omega)⟩, ?_⟩
    have hn : ((if (lead : Int) + (place : Int) < 1024 then (lead : Int) + (place : Int) else 1024) + 1 - 1).toNat = min 1024 (lead + place) := by omega
    refine for_range (lo := 1) (n := ((if (lead : Int) + (place : Int) < 1024 then (lead : Int) + (place : Int) else 1024) + 1 - 1).toNat) (fun i σ H' => ∃ (y6 y7 : Option V) (us : List V), σ = [some (.ref pe), some (.int (lead : Int)), some (.int (place : Int)), some (.int (en : Int)), some (.ref D), some (.int ((lead : Int) + (place : Int))), y6, y7, none] ∧ Same H H' ∧ H' D = some (.lst us) ∧ Paired (PrAt H') (prs every (lead + place) (min 18 (en - place)) i) us)
      ⟨none, none, [], rfl, s0, hD0, .nil⟩ (fun i σ H' hi h => ?_) (fun σ H' h => ?_)
    · obtain ⟨y6, y7, us, rfl, sm, hD, hpr⟩ := h
      rw [hn] at hi
      have hpe' := sm _ _ hpe
      refine ⟨fun m σ H'' => ∃ c : Nat, m = 100 - c ∧ c ≤ min 18 (en - place) ∧ H'' = H' ∧ σ = [some (.ref pe), some (.int (lead : Int)), some (.int (place : Int)), some (.int (en : Int)), some (.ref D), some (.int ((lead : Int) + (place : Int))), some (.int (1 + (i : Int))), some (.int (c : Int)), none] ∧ mlGo every (lead + place) (1 + i) (min 18 (en - place)) 0 = mlGo every (lead + place) (1 + i) (min 18 (en - place) - c) c, ⟨100, 0, rfl, Nat.zero_le _, rfl, rfl, rfl⟩, fun m σ Hw hW => ?_⟩
      obtain ⟨c, rfl, hc, rfl, rfl, hml⟩ := hW
      refine ⟨_, rfl, _, rfl, _, rfl, _, _, rfl, rfl, _, _, rfl, _, _, rfl, rfl, _, rfl, ite2 (fun e1 => ?in1) (fun e1 => ?out2)⟩
      case' in1 =>
        have hcl : c < min 18 (en - place) := by
          have e1' : (c : Int) < (if (en : Int) - (place : Int) < 18 then (en : Int) - (place : Int) else 18) := of_decide_eq_true e1
          rw [hlim] at e1'
          omega
        have hgo : min 18 (en - place) - c = (min 18 (en - place) - (c + 1)) + 1 := by omega
        rw [hgo] at hml
        refine ⟨_, rfl, _, rfl, _, rfl, _, _, rfl, rfl, pe, _, _, _, rfl, rfl, .inl (.inl hpe'), at_of' (k := lead + place + c) (by push_cast; rfl) (by omega), ?_⟩
        refine ⟨_, rfl, _, rfl, _, rfl, _, _, rfl, rfl, _, rfl, _, _, rfl, rfl, pe, _, _, _, rfl, rfl, .inl (.inl hpe'), at_of' (k := lead + place + c - (1 + i)) (by omega) (by omega), rfl, _, rfl, ite2 (fun e2 => ?go) (fun e2 => ?out1)⟩
        case go =>
          have e2' : every.getD (lead + place + c) 0 = every.getD (lead + place + c - (1 + i)) 0 := by
            have := V.int.inj (of_decide_eq_true e2)
            omega
          refine ⟨fun σ' H'' => ∃ m', m' < 100 - c ∧ ∃ c : Nat, m' = 100 - c ∧ c ≤ min 18 (en - place) ∧ H'' = Hw ∧ σ' = [some (.ref pe), some (.int (lead : Int)), some (.int (place : Int)), some (.int (en : Int)), some (.ref D), some (.int ((lead : Int) + (place : Int))), some (.int (1 + (i : Int))), some (.int (c : Int)), none] ∧ mlGo every (lead + place) (1 + i) (min 18 (en - place)) 0 = mlGo every (lead + place) (1 + i) (min 18 (en - place) - c) c, fun σ' H'' h => h, ?_⟩
          refine ⟨_, rfl, _, _, rfl, rfl, 100 - (c + 1), by omega, c + 1, rfl, by omega, rfl, by simp, ?_⟩
          rw [hml]
          show (if every.getD (lead + place + c) 0 = every.getD (lead + place + c - (1 + i)) 0 then _ else _) = _
          rw [if_pos e2']
        case' out1 =>
          have hmc : ml every (lead + place) (1 + i) (min 18 (en - place)) = c := by
            have e2' : ¬ every.getD (lead + place + c) 0 = every.getD (lead + place + c - (1 + i)) 0 := fun z => e2 (decide_eq_true (by rw [z]))
            show mlGo _ _ _ _ _ = c
            rw [hml]
            show (if every.getD (lead + place + c) 0 = every.getD (lead + place + c - (1 + i)) 0 then _ else _) = _
            rw [if_neg e2']
      case' out2 =>
        have hmc : ml every (lead + place) (1 + i) (min 18 (en - place)) = c := by
          have e1' : ¬ (c : Int) < (if (en : Int) - (place : Int) < 18 then (en : Int) - (place : Int) else 18) := fun z => e1 (decide_eq_true z)
          rw [hlim] at e1'
          show mlGo _ _ _ _ _ = c
          rw [hml, show min 18 (en - place) - c = 0 by omega]
          rfl
        refine iteF ?_
      all_goals
        refine ⟨_, rfl, .inl ⟨rfl, _, .inl (.inl hD)⟩, ?_⟩
        refine ⟨_, rfl, _, _, rfl, rfl, _, _, rfl, ⟨by decide, by decide, by omega, by omega⟩, fun C nC => ?_⟩
        refine lc_range (lo := 3) (n := ((c : Int) + 1 - 3).toNat) (fun k H'' => ∃ us2, Same Hw H'' ∧ H'' C = some (.lst us2) ∧ Paired (PrAt H'') (prsB every (lead + place) (min 18 (en - place)) (1 + i) k) us2) ⟨[], same_upd nC, upd_same, .nil⟩ (fun k H1 hk h => ?_) (fun H1 h => ?_)
        · obtain ⟨us2, sm2, hC, hp2⟩ := h
          have hu2 := hp2.length
          have hu3 : (prsB every (lead + place) (min 18 (en - place)) (1 + i) k).length = k := by simp [prsB]
          refine ⟨rfl, yes ?_⟩
          refine ⟨_, rfl, _, rfl, _, rfl, (by show 2 ≤ sizeLine; rw [hz]; decide), fun t nt => ?_⟩
          have st := same_upd (o := .tup [.int (-(3 + (k : Int))), .int (1 + (i : Int))]) nt
          have ht : PrAt (upd H1 t (.tup [.int (-(3 + (k : Int))), .int (1 + (i : Int))])) (-(((3 + k : Nat) : Int)), ((1 + i : Nat) : Int)) (.ref t) := ⟨t, rfl, by rw [upd_same]; push_cast; rfl⟩
          refine ⟨us2, st _ _ hC, (by rw [hz]; omega), us2 ++ [.ref t], same_put (sm2.trans st) nC, upd_same, ?_⟩
          rw [prsB_succ]
          exact ((hp2.mono fun p v h => (h.same st).put (ys := us2 ++ [.ref t]) (st _ _ hC)).snoc (ht.put (st _ _ hC)))
        · obtain ⟨us2, sm2, hC, hp2⟩ := h
          have e3 : ((c : Int) + 1 - 3).toNat = ml every (lead + place) (1 + i) (min 18 (en - place)) - 2 := by rw [hmc]; omega
          rw [e3] at hp2
          have hu2 := hp2.length
          have hu3 : (prsB every (lead + place) (min 18 (en - place)) (1 + i) (ml every (lead + place) (1 + i) (min 18 (en - place)) - 2)).length ≤ 16 := by
            simp [prsB]
            omega
          have hlp := prs_len every (lead + place) (min 18 (en - place)) (by omega) i
          have hus := hpr.length
          refine ⟨D, C, _, _, rfl, rfl, sm2 _ _ hD, hC, ?_, ?_⟩
          · rw [hz]
            omega
          · refine ⟨_, _, us ++ us2, rfl, same_put (sm.trans sm2) nD, upd_same, ?_⟩
            rw [prs_succ]
            exact paired_app (hpr.mono fun p v h => (h.same sm2).put (sm2 _ _ hD)) (hp2.mono fun p v h => h.put (sm2 _ _ hD))
    · obtain ⟨y6, y7, us, rfl, sm, hD, hpr⟩ := h
      rw [hn] at hpr
      have hpe' := sm _ _ hpe
      refine ⟨_, rfl, _, rfl, pe, _, _, _, rfl, rfl, .inl (.inl hpe'), at_of' (k := lead + place) (by push_cast; rfl) (by omega), (by show 1 ≤ sizeLine; rw [hz]; decide), fun z nz => ?_⟩
      have sz := same_upd (o := .lst [.int ((every.getD (lead + place) 0 : Nat) : Int)]) nz
      have hzz : (upd H' z (.lst [.int ((every.getD (lead + place) 0 : Nat) : Int)])) z = some (.lst [.int ((every.getD (lead + place) 0 : Nat) : Int)]) := upd_same
      have hpr1 := hpr.mono fun p v h => h.same sz
      have hD1 := sz _ _ hD
      have sm1 := sm.trans sz
      generalize upd H' z (.lst [.int ((every.getD (lead + place) 0 : Nat) : Int)]) = H1 at *
      refine ⟨_, rfl, D, us, prOf H1, rfl, .inl (.inl hD1), ?_, fun ys p hsrt hstb np => ?_⟩
      · intro x hx
        obtain ⟨pr, t, e, ht⟩ := hpr1.right x hx
        have := prOf_at (H := H1) ⟨t, e, ht⟩
        exact ⟨t, e, by rw [this]; exact ht⟩
      · have sp := same_upd (o := .lst ys) np
        have hp0 : (upd H1 p (.lst ys)) p = some (.lst ys) := upd_same
        have hz2 := sp _ _ hzz
        have hys : ∀ x ∈ ys, ∃ pr, PrAt (upd H1 p (.lst ys)) pr x ∧ prOf H1 x = pr ∧ pr.1 ≤ 0 ∧ 0 ≤ pr.2 := by
          intro x hx
          obtain ⟨jj, hj⟩ := List.mem_iff_getElem?.mp (hstb.perm.mem_iff.mp hx)
          have hm : us.map (prOf H1) = prs every (lead + place) (min 18 (en - place)) (min 1024 (lead + place)) := paired_of (fun a b h => prOf_at h) hpr1
          obtain ⟨pr, hpa⟩ := hpr1.right x (hstb.perm.mem_iff.mp hx)
          have e := prOf_at hpa
          refine ⟨pr, hpa.same sp, e, prs_neg (i := min 1024 (lead + place)) (e := every) (h := lead + place) (lim := min 18 (en - place)) ?_⟩
          rw [← hm, ← e]
          exact List.mem_map.mpr ⟨x, hstb.perm.mem_iff.mp hx, rfl⟩
        have hperm : (ys.map (prOf H1)).Perm (prs every (lead + place) (min 18 (en - place)) (min 1024 (lead + place))) := by
          rw [← paired_of (fun a b h => prOf_at h) hpr1]
          exact hstb.perm.map _
        have hyl : ys.length ≤ 16 * 1024 := by
          have h1 := hperm.length_eq
          rw [List.length_map] at h1
          have h2 := prs_len every (lead + place) (min 18 (en - place)) (by omega) (min 1024 (lead + place))
          omega
        have sm2 := sm1.trans sp
        generalize upd H1 p (.lst ys) = H2 at *
        refine ⟨p, rfl, ⟨_, .inl (.inl hp0)⟩, fun C nC => ?_⟩
        refine lc_list (K := K) (a := p) (xs := ys) (fun i H'' => ∃ us3, Same H2 H'' ∧ H'' C = some (.lst us3) ∧ Paired (ItmAt H'') (((ys.map (prOf H1)).take i).map fun q => Itm.c (-q.1).toNat q.2.toNat) us3) ⟨[], same_upd nC, upd_same, .nil⟩ (fun i H'' _ h => .inl (.inl (h.choose_spec.1 _ _ hp0))) (fun i x H3 hx h => ?_) (fun H3 h => ?_)
        · obtain ⟨us3, s3, hC, hi3⟩ := h
          have hil : ys.length > i := (List.getElem?_eq_some_iff.mp hx).1
          obtain ⟨pr, ⟨t0, rfl, ht0⟩, epr, hn1, hn2⟩ := hys x (List.mem_of_getElem? hx)
          have hl3 := hi3.length
          rw [List.length_map, List.length_take, List.length_map] at hl3
          refine ⟨t0, _, rfl, .inl (.inl (s3 _ _ ht0)), rfl, _, _, rfl, _, _, rfl, rfl, rfl, yes ?_⟩
          refine ⟨_, rfl, _, rfl, _, rfl, (by show 2 ≤ sizeLine; rw [hz]; decide), fun t nt => ?_⟩
          have st := same_upd (o := .tup [.int (-pr.1), .int pr.2]) nt
          have ht : ItmAt (upd H3 t (.tup [.int (-pr.1), .int pr.2])) (.c (-pr.1).toNat pr.2.toNat) (.ref t) := ⟨t, rfl, by rw [upd_same, Int.toNat_of_nonneg (by omega), Int.toNat_of_nonneg hn2]⟩
          refine ⟨us3, st _ _ hC, (by rw [hz]; omega), us3 ++ [.ref t], same_put (s3.trans st) nC, upd_same, ?_⟩
          have etk : (ys.map (prOf H1)).take (i + 1) = (ys.map (prOf H1)).take i ++ [pr] := by
            rw [List.take_add_one, List.getElem?_map, hx]
            show _ ++ [prOf H1 (.ref t0)] = _
            rw [epr]
          rw [etk, List.map_append]
          exact (hi3.mono fun it v h => (h.same st).put (st _ _ hC)).snoc (ht.put (st _ _ hC))
        · obtain ⟨us3, s3, hC, hi3⟩ := h
          have etk : (ys.map (prOf H1)).take ys.length = ys.map (prOf H1) := List.take_of_length_le (by rw [List.length_map]; exact Nat.le_refl _)
          rw [etk] at hi3
          have hl3 := hi3.length
          rw [List.length_map, List.length_map] at hl3
          refine ⟨z, C, _, _, rfl, rfl, s3 _ _ hz2, hC, (by rw [hz, ← hl3]; show 1 + ys.length ≤ _; omega), fun r nr => ?_⟩
          have sr := same_upd (o := .lst ([V.int ((every.getD (lead + place) 0 : Nat) : Int)] ++ us3)) nr
          refine q _ r _ (.b (every.getD (lead + place) 0) :: (ys.map (prOf H1)).map fun q => Itm.c (-q.1).toNat q.2.toNat) ((sm2.trans s3).trans sr) (none_back (sm2.trans s3) nr) upd_same (.cons rfl (hi3.mono fun it v h => h.same sr)) ⟨⟨ys.map (prOf H1), rfl, SrtO.srtd_map hsrt, hperm⟩⟩
end
end K7

namespace K7
open PySem PySem.Spec PyProof.Rows L2
theorem back_at {ks : List Nat} {b : Nat} (h1 : 1 ≤ b) (h2 : b ≤ ks.length) : atI (bys ks) (-(b : Int)) = some (.int ((ks.getD (ks.length - b) 0 : Nat) : Int)) := by
  unfold atI ixN
  rw [if_neg (by omega), bys_len, if_pos (by omega)]
  show (bys ks)[(-(b : Int) + (ks.length : Int)).toNat]? = _
  have e : (-(b : Int) + (ks.length : Int)).toNat = ks.length - b := by omega
  have hi : ks.length > ks.length - b := by omega
  rw [e, bys_eq, List.getElem?_map, List.getElem?_eq_getElem hi, List.getD_eq_getElem?_getD, List.getElem?_eq_getElem hi]
  rfl
theorem back_at' {ks : List Nat} {b : Nat} {bv : Int} (e : bv = (b : Int)) (h1 : 1 ≤ b) (h2 : b ≤ ks.length) : atI (bys ks) (-bv) = some (.int ((ks.getD (ks.length - b) 0 : Nat) : Int)) := by
  subst e
  exact back_at h1 h2
end K7

namespace K7
open PySem PySem.Spec PyProof.Rows L2
/-! ### _law_told_by -/
abbrev NTb : List Str := ["_law_row", "_law_lead", "_law_every", "_law_item", "_law_turn"]
def optL (H : Hp) (v : V) : Option (List Nat) → Prop
  | none => v = .non
  | some e => ∃ r, v = .ref r ∧ H r = some (.lst (bys e))
section
variable {P : Program} {w : World} {K : PySem.W.Frag} {mg : Str → Option Value} {base : Heap}
def spToldBy : Sp := fun vs H Q _ => ∃ (pr pl : Addr) (us : List V) (its : List Itm) (lead : List Nat), vs = [.ref pr, .ref pl] ∧ H pr = some (.lst us) ∧ RowAt H its us ∧ (∀ it ∈ its, ItmOk it) ∧ its.length ≤ 1000 ∧ H pl = some (.lst (bys lead)) ∧ lead.length ≤ 1000 ∧
  ∀ H' v, Same H H' → optL H' v (tells lead its) → (∀ r, v = .ref r → H r = none) → Q v H'
end
end K7

namespace K7
open PySem PySem.Spec PyProof.Rows L2
/-! ### the search, as a table -/
def lexL (p q : Int × Int) : Bool := !SrtO.lexB q p
theorem lexL_iff {p q : Int × Int} : lexL p q = true ↔ p.1 < q.1 ∨ (p.1 = q.1 ∧ p.2 ≤ q.2) := by
  unfold lexL
  rw [Bool.not_eq_true', ← Bool.not_eq_true, SrtO.lexB_iff]
  omega
def itmP (p : Int × Int) : Itm := .c (-p.1).toNat p.2.toNat
def itemsF (e : List Nat) (h lim : Nat) : List Itm := .b (e.getD h 0) :: ((prs e h lim (min 1024 h)).mergeSort lexL).map itmP
theorem IsItems.eq {e : List Nat} {h lim : Nat} {its : List Itm} (I : IsItems e h lim its) : its = itemsF e h lim := by
  obtain ⟨cs, rfl, hs, hp⟩ := I.ex
  have hm : ((prs e h lim (min 1024 h)).mergeSort lexL).Pairwise fun a b => lexL a b = true := List.pairwise_mergeSort (fun a b c h1 h2 => by
    rw [lexL_iff] at *
    omega) (fun a b => by
    rw [Bool.or_eq_true, lexL_iff, lexL_iff]
    omega) _
  have e : cs = (prs e h lim (min 1024 h)).mergeSort lexL := by
    refine List.Perm.eq_of_pairwise (le := fun a b => lexL a b = true) (fun a b _ _ h1 h2 => ?_) (hs.imp fun {a b} h => by unfold lexL; rw [h]; rfl) hm (hp.trans (List.mergeSort_perm _ _).symm)
    rw [lexL_iff] at h1 h2
    obtain ⟨a1, a2⟩ := a
    obtain ⟨b1, b2⟩ := b
    simp at h1 h2 ⊢
    omega
  rw [e]
  rfl
def lenI : Itm → Nat
  | .b _ => 1
  | .c m _ => m
theorem mem_prs {e : List Nat} {h lim i : Nat} {p : Int × Int} (m : p ∈ prs e h lim i) : ∃ o b : Nat, p = (-((3 + o : Nat) : Int), ((1 + b : Nat) : Int)) ∧ b < i ∧ 3 + o ≤ lim := by
  obtain ⟨b, hb0, hb⟩ := List.mem_flatMap.mp m
  obtain ⟨o, ho, rfl⟩ := List.mem_map.mp hb
  have h1 := List.mem_range.mp ho
  have h2 := (mlGo_le e h (1 + b) lim 0).2
  have h3 : ml e h (1 + b) lim ≤ 0 + lim := h2
  exact ⟨o, b, rfl, List.mem_range.mp hb0, by omega⟩
theorem itemsF_ok {e : List Nat} {h lim : Nat} (hk : ∀ k ∈ e, k < 256) (hl1 : 1 ≤ lim) (hl : lim ≤ 18) {it : Itm} (m : it ∈ itemsF e h lim) : ItmOk it ∧ 1 ≤ lenI it ∧ lenI it ≤ lim := by
  rcases (List.mem_cons.mp m) with (rfl | m)
  · refine ⟨?_, Nat.le_refl _, hl1⟩
    show e.getD h 0 < 256
    rw [List.getD_eq_getElem?_getD]
    cases q : e[h]? with
    | none => decide
    | some x => exact hk x (List.mem_of_getElem? q)
  · obtain ⟨p, hp, rfl⟩ := List.mem_map.mp m
    obtain ⟨o, b, rfl, hb, ho⟩ := mem_prs ((List.mergeSort_perm _ _).mem_iff.mp hp)
    have e1 : (-(-((3 + o : Nat) : Int))).toNat = 3 + o := by omega
    have e2 : ((1 + b : Nat) : Int).toNat = 1 + b := by omega
    show ItmOk (.c (-(-((3 + o : Nat) : Int))).toNat ((1 + b : Nat) : Int).toNat) ∧ 1 ≤ (-(-((3 + o : Nat) : Int))).toNat ∧ (-(-((3 + o : Nat) : Int))).toNat ≤ lim
    rw [e1, e2]
    exact ⟨⟨by omega, by omega, by omega, by omega⟩, by omega, ho⟩
abbrev Cell2 := Option Int × Option Itm
def stepS (L B : List Int) (cs : Nat → Option Int) (place : Nat) (acc : Cell2) (it : Itm) : Cell2 :=
  match costO L B it, cs (place + lenI it) with
  | some a, some b => match acc.1 with
    | none => (some (a + b), some it)
    | some c => if a + b < c then (some (a + b), some it) else acc
  | _, _ => acc
def tab (e : List Nat) (lead en : Nat) (L B : List Int) : Nat → Nat → Cell2
  | 0 => fun p => if p = en then (some 0, none) else (none, none)
  | n + 1 => fun p => if p = en - (n + 1) then (itemsF e (lead + p) (min 18 (en - p))).foldl (stepS L B (fun q => (tab e lead en L B n q).1) p) (none, none) else tab e lead en L B n p
def rowS (T : Nat → Cell2) (en : Nat) : Nat → Nat → List Itm
  | 0, _ => []
  | f + 1, p => if p < en then (match (T p).2 with
    | some it => it :: rowS T en f (p + lenI it)
    | none => []) else []
end K7

namespace K7
open PySem PySem.Spec PyProof.Rows L2
theorem fold_first {L B : List Int} {cs : Nat → Option Int} {p : Nat} {its : List Itm} (h : (its.foldl (stepS L B cs p) (none, none)).1 ≠ none) :
    ∃ it ∈ its, (its.foldl (stepS L B cs p) (none, none)).2 = some it ∧ cs (p + lenI it) ≠ none := by
  have key : ∀ (l : List Itm) (acc : Cell2), (∀ x ∈ l, x ∈ its) → (acc.1 ≠ none → ∃ it ∈ its, acc.2 = some it ∧ cs (p + lenI it) ≠ none) →
      (l.foldl (stepS L B cs p) acc).1 ≠ none → ∃ it ∈ its, (l.foldl (stepS L B cs p) acc).2 = some it ∧ cs (p + lenI it) ≠ none := by
    intro l
    induction l with
    | nil => exact fun acc _ hA h => hA h
    | cons x l ih =>
      intro acc hm hA h
      refine ih _ (fun y m => hm y (by simp [m])) (fun hx => ?_) h
      have hx0 := hm x (by simp)
      unfold stepS at hx ⊢
      cases h1 : costO L B x with
      | none =>
        simp only [h1] at hx ⊢
        exact hA hx
      | some a =>
        cases h2 : cs (p + lenI x) with
        | none =>
          simp only [h1, h2] at hx ⊢
          exact hA hx
        | some r =>
          cases h3 : acc.1 with
          | none =>
            simp only [h1, h2, h3] at hx ⊢
            exact ⟨x, hx0, rfl, by rw [h2]; exact fun z => by cases z⟩
          | some c =>
            simp only [h1, h2, h3] at hx ⊢
            by_cases h4 : a + r < c
            · rw [if_pos h4]
              exact ⟨x, hx0, rfl, by rw [h2]; exact fun z => by cases z⟩
            · rw [if_neg h4]
              exact hA (by rw [h3]; exact fun z => by cases z)
  exact key its (none, none) (fun x m => m) (fun z => absurd rfl z) h
theorem tab_first {e : List Nat} {lead en : Nat} {L B : List Int} (hk : ∀ k ∈ e, k < 256) : ∀ {n p : Nat}, n ≤ en → en - n ≤ p → p < en → (tab e lead en L B n p).1 ≠ none →
    ∃ it, (tab e lead en L B n p).2 = some it ∧ 1 ≤ lenI it ∧ p + lenI it ≤ en ∧ (tab e lead en L B n (p + lenI it)).1 ≠ none
  | 0, p, _, h1, h2, _ => by omega
  | n + 1, p, hn, h1, h2, h3 => by
    by_cases ep : p = en - (n + 1)
    · have et : tab e lead en L B (n + 1) p = (itemsF e (lead + p) (min 18 (en - p))).foldl (stepS L B (fun q => (tab e lead en L B n q).1) p) (none, none) := by
        show (if p = en - (n + 1) then _ else _) = _
        rw [if_pos ep]
      rw [et] at h3 ⊢
      obtain ⟨it, hm, h4, h5⟩ := fold_first h3
      obtain ⟨_, h6, h7⟩ := itemsF_ok hk (by omega) (by omega) hm
      refine ⟨it, h4, h6, by omega, ?_⟩
      show (if p + lenI it = en - (n + 1) then _ else tab e lead en L B n (p + lenI it) : Cell2).1 ≠ none
      rw [if_neg (by omega)]
      exact h5
    · have et : tab e lead en L B (n + 1) p = tab e lead en L B n p := by
        show (if p = en - (n + 1) then _ else _) = _
        rw [if_neg ep]
      rw [et] at h3 ⊢
      obtain ⟨it, h4, h5, h6, h7⟩ := tab_first hk (n := n) (by omega) (by omega) h2 h3
      refine ⟨it, h4, h5, h6, ?_⟩
      show (if p + lenI it = en - (n + 1) then _ else tab e lead en L B n (p + lenI it) : Cell2).1 ≠ none
      rw [if_neg (by omega)]
      exact h7
end K7

namespace K7
open PySem PySem.Spec PyProof.Rows L2
abbrev NSr : List Str := ["_law_every", "_law_lead", "_law_begin", "_law_end", "_law_letters", "_law_backs", "_law_costs", "_law_first", "_law_place", "_law_item", "_law_cost_here", "_law_rest", "_law_row"]
theorem putK_len {kvs : List (Key × V)} {k : Key} {v : V} : (putK kvs k v).length ≤ kvs.length + 1 := by
  unfold putK
  split
  · rw [List.length_map]
    omega
  · simp
/-- the dict of costs, the dict of firsts: right from place lo to hi -/
def CostD (H : Hp) (a : Addr) (T : Nat → Cell2) (lo hi : Nat) : Prop := ∃ kvs : List (Key × V), H a = some (.dK kvs) ∧ kvs.length ≤ hi + 1 - lo ∧ ∀ p, lo ≤ p → p ≤ hi → valV kvs (Sum.inl (p : Int)) = some (optV (T p).1)
def FirstD (H : Hp) (a : Addr) (T : Nat → Cell2) (lo hi : Nat) : Prop := ∃ kvs : List (Key × V), H a = some (.dK kvs) ∧ kvs.length ≤ hi - lo ∧ ∀ p it, lo ≤ p → p < hi → (T p).2 = some it → ∃ v, valV kvs (Sum.inl (p : Int)) = some v ∧ ItmAt H it v ∧ ItmOk it
theorem CostD.get {H : Hp} {a : Addr} {T : Nat → Cell2} {lo hi q : Nat} {y : Int} (h : CostD H a T lo hi) (h1 : lo ≤ q) (h2 : q ≤ hi) (e : y = (q : Int)) : DGet H a (.int y) (some (optV (T q).1)) := by
  obtain ⟨kvs, hk, _, hv⟩ := h
  subst e
  rw [← hv q h1 h2]
  exact DGet.k (k := Sum.inl (q : Int)) hk
theorem CostD.same {H H' : Hp} {a : Addr} {T : Nat → Cell2} {lo hi : Nat} (h : CostD H a T lo hi) (s : Same H H') : CostD H' a T lo hi := by
  obtain ⟨kvs, hk, h2, hv⟩ := h
  exact ⟨kvs, s _ _ hk, h2, hv⟩
theorem FirstD.same {H H' : Hp} {a : Addr} {T : Nat → Cell2} {lo hi : Nat} (h : FirstD H a T lo hi) (s : Same H H') : FirstD H' a T lo hi := by
  obtain ⟨kvs, hk, h2, hv⟩ := h
  refine ⟨kvs, s _ _ hk, h2, fun p it q1 q2 e => ?_⟩
  obtain ⟨v, e1, e2, e3⟩ := hv p it q1 q2 e
  exact ⟨v, e1, e2.same s, e3⟩
theorem ItmAt.putD {H : Hp} {it : Itm} {v : V} {D : Addr} {xs ys : List (Key × V)} (h : ItmAt H it v) (hD : H D = some (.dK xs)) : ItmAt (upd H D (.dK ys)) it v := by
  cases it with
  | b k => exact h
  | c m r =>
    obtain ⟨t, e, ht⟩ := h
    refine ⟨t, e, ?_⟩
    rw [upd_ne (ne_of ht hD (fun z => nomatch z))]
    exact ht
theorem FirstD.other {H : Hp} {a d : Addr} {T : Nat → Cell2} {lo hi : Nat} {xs ys : List (Key × V)} (h : FirstD H a T lo hi) (hd : H d = some (.dK xs)) (ne : a ≠ d) : FirstD (upd H d (.dK ys)) a T lo hi := by
  obtain ⟨kvs, hk, h2, hv⟩ := h
  refine ⟨kvs, by rw [upd_ne ne]; exact hk, h2, fun p it q1 q2 e => ?_⟩
  obtain ⟨v, e1, e2, e3⟩ := hv p it q1 q2 e
  exact ⟨v, e1, e2.putD hd, e3⟩
theorem CostD.other {H : Hp} {a d : Addr} {T : Nat → Cell2} {lo hi : Nat} {o : HO} (h : CostD H a T lo hi) (ne : a ≠ d) : CostD (upd H d o) a T lo hi := by
  obtain ⟨kvs, hk, h2, hv⟩ := h
  exact ⟨kvs, by rw [upd_ne ne]; exact hk, h2, hv⟩
def upT (T : Nat → Cell2) (p : Nat) (c : Cell2) : Nat → Cell2 := fun q => if q = p then c else T q
theorem putK_same {kvs : List (Key × V)} {k : Key} {v x : V} (h : valV kvs k = some x) : (putK kvs k v).length = kvs.length := by
  unfold putK
  rw [valV_any, h]
  show (kvs.map _).length = _
  rw [List.length_map]
theorem CostD.put {H : Hp} {a : Addr} {T : Nat → Cell2} {lo hi p : Nat} (c : Cell2) (h : CostD H a T lo hi) (hp : lo = p ∨ lo = p + 1) (hph : p ≤ hi) :
    ∃ kvs : List (Key × V), H a = some (.dK kvs) ∧ kvs.length ≤ hi + 1 ∧ CostD (upd H a (.dK (putK kvs (Sum.inl (p : Int)) (optV c.1)))) a (upT T p c) p hi := by
  obtain ⟨kvs, h1, h2, h3⟩ := h
  refine ⟨kvs, h1, by omega, putK kvs (Sum.inl (p : Int)) (optV c.1), upd_same, ?_, fun q q1 q2 => ?_⟩
  · rcases hp with rfl | rfl
    · rw [putK_same (h3 lo (Nat.le_refl _) hph)]
      exact h2
    · have := putK_len (kvs := kvs) (k := Sum.inl (p : Int)) (v := optV c.1)
      omega
  · rw [valV_put]
    unfold upT
    by_cases e : q = p
    · subst e
      rw [if_pos rfl, if_pos rfl]
    · rw [if_neg (fun z => e (by have := Sum.inl.inj z; omega)), if_neg e]
      exact h3 q (by omega) q2
theorem FirstD.up {H : Hp} {a : Addr} {T : Nat → Cell2} {lo hi p : Nat} (h : FirstD H a T lo hi) (hp : lo = p + 1) : FirstD H a (upT T p (none, none)) p hi := by
  obtain ⟨kvs, h1, h2, h3⟩ := h
  refine ⟨kvs, h1, by omega, fun q it q1 q2 e => ?_⟩
  unfold upT at e
  by_cases eq : q = p
  · rw [if_pos eq] at e
    cases e
  · rw [if_neg eq] at e
    exact h3 q it (by omega) q2 e
def FirstP (H : Hp) (a : Addr) (T : Nat → Cell2) (p hi : Nat) (acc : Cell2) : Prop := ∃ kvs : List (Key × V), H a = some (.dK kvs) ∧ kvs.length ≤ hi - p ∧ (acc.2 = none → kvs.length + 1 ≤ hi - p) ∧ ∀ q it, p ≤ q → q < hi → (upT T p acc q).2 = some it → ∃ v, valV kvs (Sum.inl (q : Int)) = some v ∧ ItmAt H it v ∧ ItmOk it
theorem FirstD.start {H : Hp} {a : Addr} {T : Nat → Cell2} {lo hi p : Nat} (h : FirstD H a T lo hi) (hp : lo = p + 1) (hph : p < hi) : FirstP H a T p hi (none, none) := by
  obtain ⟨kvs, h1, h2, h3⟩ := h
  refine ⟨kvs, h1, by omega, fun _ => by omega, fun q it q1 q2 e => ?_⟩
  unfold upT at e
  by_cases eq : q = p
  · rw [if_pos eq] at e
    cases e
  · rw [if_neg eq] at e
    exact h3 q it (by omega) q2 e
theorem FirstP.same {H H' : Hp} {a : Addr} {T : Nat → Cell2} {p hi : Nat} {acc : Cell2} (h : FirstP H a T p hi acc) (s : Same H H') : FirstP H' a T p hi acc := by
  obtain ⟨kvs, hk, h2, h4, hv⟩ := h
  refine ⟨kvs, s _ _ hk, h2, h4, fun q it q1 q2 e => ?_⟩
  obtain ⟨v, e1, e2, e3⟩ := hv q it q1 q2 e
  exact ⟨v, e1, e2.same s, e3⟩
theorem FirstP.other {H : Hp} {a d : Addr} {T : Nat → Cell2} {p hi : Nat} {acc : Cell2} {xs ys : List (Key × V)} (h : FirstP H a T p hi acc) (hd : H d = some (.dK xs)) (ne : a ≠ d) : FirstP (upd H d (.dK ys)) a T p hi acc := by
  obtain ⟨kvs, hk, h2, h4, hv⟩ := h
  refine ⟨kvs, by rw [upd_ne ne]; exact hk, h2, h4, fun q it q1 q2 e => ?_⟩
  obtain ⟨v, e1, e2, e3⟩ := hv q it q1 q2 e
  exact ⟨v, e1, e2.putD hd, e3⟩
theorem FirstP.put {H : Hp} {a : Addr} {T : Nat → Cell2} {p hi : Nat} {acc : Cell2} {it : Itm} {v : V} (c : Option Int) (h : FirstP H a T p hi acc) (hph : p < hi) (hv : ItmAt H it v) (ok : ItmOk it) :
    ∃ kvs : List (Key × V), H a = some (.dK kvs) ∧ kvs.length ≤ hi ∧ FirstP (upd H a (.dK (putK kvs (Sum.inl (p : Int)) v))) a T p hi (c, some it) := by
  obtain ⟨kvs, h1, h2, h4, h3⟩ := h
  refine ⟨kvs, h1, by omega, putK kvs (Sum.inl (p : Int)) v, upd_same, ?_, (fun z => by cases z), fun q it' q1 q2 e => ?_⟩
  · cases ea : acc.2 with
    | none =>
      have := putK_len (kvs := kvs) (k := Sum.inl (p : Int)) (v := v)
      have := h4 ea
      omega
    | some i0 =>
      obtain ⟨x, hx, _⟩ := h3 p i0 (Nat.le_refl _) hph (by unfold upT; rw [if_pos rfl]; exact ea)
      rw [putK_same hx]
      exact h2
  · rw [valV_put]
    unfold upT at e
    by_cases eq : q = p
    · rw [if_pos eq] at e
      cases e
      exact ⟨v, by rw [if_pos (by rw [eq])], hv.putD h1, ok⟩
    · rw [if_neg eq] at e
      obtain ⟨v', e1, e2, e3⟩ := h3 q it' q1 q2 (by unfold upT; rw [if_neg eq]; exact e)
      exact ⟨v', by rw [if_neg (fun z => eq (by have := Sum.inl.inj z; omega))]; exact e1, e2.putD h1, e3⟩
theorem upT_twice {T : Nat → Cell2} {p : Nat} {x y : Cell2} : upT (upT T p x) p y = upT T p y := by
  funext q
  unfold upT
  by_cases e : q = p
  · rw [if_pos e, if_pos e]
  · rw [if_neg e, if_neg e, if_neg e]
theorem FirstP.done {H : Hp} {a : Addr} {T : Nat → Cell2} {p hi : Nat} {acc : Cell2} (h : FirstP H a T p hi acc) : FirstD H a (upT T p acc) p hi := by
  obtain ⟨kvs, h1, h2, _, h3⟩ := h
  exact ⟨kvs, h1, h2, h3⟩
theorem FirstD.get {H : Hp} {a : Addr} {T : Nat → Cell2} {lo hi q : Nat} {it : Itm} (h : FirstD H a T lo hi) (h1 : lo ≤ q) (h2 : q < hi) (e : (T q).2 = some it) : ∃ v, DGet H a (.int (q : Int)) (some v) ∧ ItmAt H it v ∧ ItmOk it := by
  obtain ⟨kvs, hk, _, hv⟩ := h
  obtain ⟨v, e1, e2, e3⟩ := hv q it h1 h2 e
  exact ⟨v, by rw [← e1]; exact DGet.k (k := Sum.inl (q : Int)) hk, e2, e3⟩
theorem FirstD.otherL {H : Hp} {a d : Addr} {T : Nat → Cell2} {lo hi : Nat} {xs ys : List V} (h : FirstD H a T lo hi) (hd : H d = some (.lst xs)) (ne : a ≠ d) : FirstD (upd H d (.lst ys)) a T lo hi := by
  obtain ⟨kvs, hk, h2, hv⟩ := h
  refine ⟨kvs, by rw [upd_ne ne]; exact hk, h2, fun p it q1 q2 e => ?_⟩
  obtain ⟨v, e1, e2, e3⟩ := hv p it q1 q2 e
  exact ⟨v, e1, e2.put hd, e3⟩
section
variable {P : Program} {w : World} {K : PySem.W.Frag} {mg : Str → Option Value} {base : Heap}
def spSearch : Sp := fun vs H Q _ => ∃ (pe pL pB : Addr) (every : List Nat) (lead b en : Nat) (L B : List Int), vs = [.ref pe, .int (lead : Int), .int (b : Int), .int (en : Int), .ref pL, .ref pB] ∧ H pe = some (.lst (bys every)) ∧ (∀ k ∈ every, k < 256) ∧ b ≤ en ∧ lead + en = every.length ∧ every.length ≤ 1000 ∧
  H pL = some (.lst (L.map V.int)) ∧ H pB = some (.lst (B.map V.int)) ∧ L.length = 273 ∧ B.length = 11 ∧
  ∀ H' t pc pr us, Same H H' → H' t = some (.tup [.ref pc, .ref pr]) → H' pc = some (.lst ((List.range (en - b + 1)).map fun i => optV (tab every lead en L B (en - b) (b + i)).1)) → H' pr = some (.lst us) →
    RowAt H' (if (tab every lead en L B (en - b) b).1 = none then [] else rowS (tab every lead en L B (en - b)) en (en - b) b) us → H t = none → H pc = none → H pr = none → Q (.ref t) H'
end
end K7

namespace K7
open PySem PySem.Spec PyProof.Rows L2 SBX
open K2 (wAt coinsL)
/-! ### _law_bits -/
theorem bits_S (n w : Nat) : (⟨#[48 + n / 2 ^ w % 2]⟩ : Str) ++ bitS n w = bitS n (w + 1) := by
  unfold bitS
  rw [bits_top]
  show (⟨#[48 + n / 2 ^ w % 2] ++ (bitsL n w).toArray⟩ : Str) = _
  simp
theorem bitS_len (n w : Nat) : (bitS n w).length = w := by
  unfold bitS
  show (bitsL n w).toArray.size = w
  rw [List.size_toArray, bits_len]
theorem tab01 {c : Int} {j : Nat} (h : j < 2) (hc : c = (j : Int)) : atI (("01" : Str).cps.toList) c = some (48 + j) := by
  subst hc
  rcases (show j = 0 ∨ j = 1 by omega) with rfl | rfl <;> decide +kernel
theorem scLBits : FnScope ["_law_number", "_law_breadth", "_law_found", "_law_turn"] ["_law_number", "_law_breadth"] (defScope sLBits) := ⟨rfl, rfl, rfl, by decide +kernel, rfl, by decide +kernel, by decide +kernel⟩
section
variable {P : Program} {w : World} {K : PySem.W.Frag} {mg : Str → Option Value} {base : Heap}
def spLBits : Sp := fun vs H Q _ => ∃ n b : Nat, vs = [.int (n : Int), .int (b : Int)] ∧ b ≤ 100 ∧ n ≤ 1000000 ∧ ∀ H', Same H H' → Q (.str (bitS n b)) H'
theorem ok_lbits {f : Addr} {fd : FuncData} {j : Nat} (F : Fun K "_law_bits" "_law_bits" sLBits f fd) (m1 : mg "range" = none) (m2 : mg "int" = none) : FnOk P w K mg base CX0 (j + 1) f fd ["_law_number", "_law_breadth"] spLBits := by
  refine F.ok scLBits (fun vs H Q E h => ?_) (fun cdv A outer s H vs Q E hr h => ?_)
  · obtain ⟨n, b, rfl, _⟩ := h
    rfl
  · obtain ⟨n, b, rfl, hb, hn, q⟩ := h
    have hz := PySem.sizeLine_eq
    refine ⟨_, pss_cons (ps_set (i := 2) scLBits.nd rfl (.inl rfl) pe_str)
      (pss_cons (ps_for PassesOwn.never rfl (pi_range1 rfl m1 (pa_cons (pv 1) pa_nil)) (pg_name (i := 3) scLBits.nd rfl (.inl rfl))
        (pss_one (ps_par (i := 2) (j := 0) rfl scLBits.nd rfl rfl (by decide) rfl rfl (pa_cons (pe_op op_add_str (pe_ix ix_str pe_str (pe_op op_modN (pe_callTy call_int1 (by rfl) m2 (by decide +kernel) (pa_cons (pv 0) pa_nil)) pe_int) (fun _ _ => rfl)) (pv 2)) (pa_cons (pe_op op_fdivN (pv 0) pe_int) pa_nil)) (by rfl))))
      (pss_one (ps_ret (pv 2)))), ?_⟩
    refine ⟨_, rfl, _, rfl, by omega, by omega, ?_⟩
    refine for_it walk_range (fun i σ H' => ∃ y3, σ = [some (.int ((n / 2 ^ i : Nat) : Int)), some (.int (b : Int)), some (.str (bitS n i)), y3] ∧ Same H H') ⟨none, ?_, Same.refl _⟩ (fun _ _ _ _ _ => True.intro) (fun i x σ H' H3 hi h y => ?_) (fun σ H' h => ?_)
    · rw [Nat.pow_zero, Nat.div_one]
      rfl
    · obtain ⟨y3, rfl, sm⟩ := h
      obtain ⟨rfl, rfl⟩ := y
      rw [Int.toNat_natCast] at hi
      have hm : ((n / 2 ^ i : Nat) : Int).fmod 2 = ((n / 2 ^ i % 2 : Nat) : Int) := by
        rw [Int.fmod_eq_emod_of_nonneg _ (by decide)]
        rfl
      have hd : ((n / 2 ^ i : Nat) : Int).fdiv 2 = ((n / 2 ^ (i + 1) : Nat) : Int) := by
        rw [Int.fdiv_eq_ediv_of_nonneg _ (by decide), Nat.pow_succ, ← Nat.div_div_eq_div_mul]
        rfl
      have ht := tab01 (Nat.mod_lt (n / 2 ^ i) (by decide)) hm
      dsimp only [gName]
      refine ⟨_, rfl, .inl ⟨_, rfl, _, _, rfl, rfl, (by show (2 : Int) ≠ 0; decide), "01", _, _, rfl, rfl, (by rw [hz]; decide), ht, ?_⟩⟩
      refine ⟨_, rfl, _, _, rfl, rfl, (by rw [hz, bitS_len]; show 1 + i ≤ 16777216; omega), ?_⟩
      rw [bits_S]
      refine ⟨_, rfl, _, _, rfl, rfl, ⟨by decide, by decide⟩, ?_⟩
      refine ⟨_, _, rfl, some (.int (0 + (i : Int))), ?_, sm⟩
      rw [← hd]
      rfl
    · obtain ⟨y3, rfl, sm⟩ := h
      rw [Int.toNat_natCast]
      exact ⟨_, rfl, q H' sm⟩
end
/-! ### _law_words -/
def lvU (ls : List Int) (i j : Nat) : List (Int × Int) := ((List.range j).filter fun k => decide (wAt ls k = (i : Int))).map fun (k : Nat) => ((i : Int), (k : Int))
def preW (ls : List Int) (i j : Nat) : List (Int × Int) := tnW ls i ++ lvU ls (i + 1) j
theorem pre_zero (ls : List Int) (i : Nat) : preW ls i 0 = tnW ls i := by unfold preW lvU; simp
theorem pre_succ (ls : List Int) (i j : Nat) : preW ls i (j + 1) = preW ls i j ++ (if wAt ls j = ((i + 1 : Nat) : Int) then [(((i + 1 : Nat) : Int), (j : Int))] else []) := by
  unfold preW lvU
  rw [List.range_succ, List.filter_append, List.map_append, List.append_assoc]
  congr 2
  by_cases h : wAt ls j = ((i + 1 : Nat) : Int)
  · rw [if_pos h, List.filter_cons_of_pos (by simpa using h)]
    rfl
  · rw [if_neg h, List.filter_cons_of_neg (by simpa using h)]
    rfl
theorem pre_full (ls : List Int) (i : Nat) : preW ls i ls.length = tnW ls (i + 1) := (tn_succ ls i).symm
theorem pre_le (ls : List Int) (i : Nat) : ∀ d j, j + d = ls.length → ∃ r, tnW ls (i + 1) = preW ls i j ++ r
  | 0, j, h => ⟨[], by rw [← pre_full, ← h, Nat.add_zero, List.append_nil]⟩
  | d + 1, j, h => by
    obtain ⟨r, hr⟩ := pre_le ls i d (j + 1) (by omega)
    rw [pre_succ, List.append_assoc] at hr
    exact ⟨_, hr⟩
theorem tn_le (ls : List Int) : ∀ d i, ∃ r, tnW ls (i + d) = tnW ls i ++ r
  | 0, i => ⟨[], by rw [Nat.add_zero, List.append_nil]⟩
  | d + 1, i => by
    obtain ⟨r, hr⟩ := tn_le ls d i
    refine ⟨r ++ lvW ls (i + d + 1), ?_⟩
    rw [show i + (d + 1) = i + d + 1 by omega, tn_succ, hr, List.append_assoc]
theorem pre_at {ls : List Int} (h : WdOk ls) {i j : Nat} (hi : i < 12) (hj : j < ls.length) (e : wAt ls j = ((i + 1 : Nat) : Int)) : (coinsL ls)[(preW ls i j).length]? = some (((i + 1 : Nat) : Int), (j : Int)) := by
  obtain ⟨r, hr⟩ := pre_le ls i (ls.length - (j + 1)) (j + 1) (by omega)
  obtain ⟨r2, hr2⟩ := tn_le ls (12 - (i + 1)) (i + 1)
  rw [show i + 1 + (12 - (i + 1)) = 12 by omega, turn_is h.in_, hr, pre_succ, if_pos e] at hr2
  rw [hr2, List.append_assoc, List.append_assoc, List.getElem?_append_right (Nat.le_refl _), Nat.sub_self]
  rfl
abbrev NLW : List Str := ["_law_lengths", "_law_found", "_law_number", "_law_last", "_law_length", "_law_letter", "_law_one"]
theorem scLWords : FnScope NLW ["_law_lengths"] (defScope sLWords) := ⟨rfl, rfl, rfl, by decide +kernel, rfl, by decide +kernel, by decide +kernel⟩
section
variable {P : Program} {w : World} {K : PySem.W.Frag} {mg : Str → Option Value} {base : Heap}
def spLWords : Sp := fun vs H Q _ => ∃ (p : Addr) (ls : List Int), vs = [.ref p] ∧ H p = some (.lst (ls.map V.int)) ∧ WdOk ls ∧ ∀ H' d, Same H H' → H d = none → WdAt H' d ls → Q (.ref d) H'
theorem ok_lwords {f fB : Addr} {fd fdB : FuncData} {j k1 : Nat} (F : Fun K "_law_words" "_law_words" sLWords f fd)
    (GB : FnOk P w K mg base CX0 k1 fB fdB ["_law_number", "_law_breadth"] spLBits) (bB : Binds K fdB ["_law_number", "_law_breadth"] []) (kB : PySem.W.keepIn K (.ref fB) = true) (gB : mg "_law_bits" = some (.ref fB)) (l1 : k1 ≤ j)
    (m1 : mg "range" = none) (m2 : mg "enumerate" = none) : FnOk P w K mg base CX0 (j + 1) f fd ["_law_lengths"] spLWords := by
  refine F.ok scLWords (fun vs H Q E h => ?_) (fun cdv A outer s H vs Q E hr h => ?_)
  · obtain ⟨p, ls, rfl, _⟩ := h
    rfl
  · obtain ⟨p, ls, rfl, hp, hW, q⟩ := h
    have hz := PySem.sizeLine_eq
    have hlen := hW.len
    refine ⟨_, pss_cons (ps_par3 (i := 1) (j := 2) (l := 3) rfl scLWords.nd rfl rfl rfl (by decide) (by decide) (by decide) rfl rfl rfl (pa_cons pe_dnewK (pa_cons pe_int (pa_cons pe_int pa_nil))) (by rfl))
      (pss_cons (ps_for PassesOwn.never rfl (pi_range2 (by rfl) m1 (pa_cons pe_int (pa_cons pe_int pa_nil))) (pg_name (i := 4) scLWords.nd rfl (.inl rfl))
        (pss_one (ps_for PassesOwn.never rfl (pi_enum (by rfl) m2 (pa_cons (pv 0) pa_nil)) (pg_tup rfl (pgs_cons (pg_name (i := 5) scLWords.nd rfl (.inl rfl)) (pgs_cons (pg_name (i := 6) scLWords.nd rfl (.inl rfl)) pgs_nil)))
          (pss_one (ps_if (pt_cmpR op_eq (pv 6) (pv 4) (nomark _))
            (pss_cons (ps_set (i := 2) scLWords.nd rfl (.inl rfl) (pe_op op_shl (pv 2) (pe_op op_sub (pv 4) (pv 3))))
            (pss_cons (ps_asg (pe_tup (pa_cons (pe_call GB (hr.mono l1) (by rfl) gB kB bB .nil pass0 (pa_cons (pv 2) (pa_cons (pv 4) pa_nil))) (pa_cons (pv 4) pa_nil))) (pg_tup (by rfl) (pgs_cons (pg_sub (pv 1) (pv 5) (set_dict (hu_of hr))) (pgs_cons (pg_name (i := 3) scLWords.nd rfl (.inl rfl)) pgs_nil))))
            (pss_one (ps_set (i := 2) scLWords.nd rfl (.inl rfl) (pe_op op_add (pv 2) pe_int))))) pss_nil)))))
      (pss_one (ps_ret (pv 1)))), ?_⟩
    refine fun d nd => ⟨_, _, _, rfl, ?_⟩
    have sd : Same H (upd H d (.dK [])) := same_upd nd
    have hd0 : (upd H d (.dK [])) d = some (.dK []) := upd_same
    generalize upd H d (.dK []) = H0 at *
    refine ⟨_, _, rfl, ⟨by omega, by omega, by omega, by omega⟩, ?_⟩
    refine for_it walk_range (fun i σ H' => ∃ y4 y5 y6, σ = [some (.ref p), some (.ref d), some (.int ((stW (coinsL ls) 0 0 (tnW ls i).length).1 : Int)), some (.int ((stW (coinsL ls) 0 0 (tnW ls i).length).2 : Int)), y4, y5, y6] ∧ Same H H' ∧ H' d = some (.dK (((cdL ls).take (tnW ls i).length).map entW))) ⟨none, none, none, ?_, sd, hd0⟩ (fun _ _ _ _ _ => True.intro) (fun i x σ H' H3 hi h y => ?_) (fun σ H' h => ?_)
    · rw [show (tnW ls 0).length = 0 from rfl, stW_zero]
      rfl
    · obtain ⟨y4, y5, y6, rfl, sm, hd⟩ := h
      obtain ⟨rfl, rfl⟩ := y
      dsimp only [gName]
      have hi : i < 12 := hi
      refine ⟨_, rfl, p, _, rfl, .inl (.inl (sm _ _ hp)), ?_⟩
      refine for_it (walk_enum (K := K) (a := p) (xs := ls.map V.int)) (fun j σ H' => ∃ y5 y6, σ = [some (.ref p), some (.ref d), some (.int ((stW (coinsL ls) 0 0 (preW ls i j).length).1 : Int)), some (.int ((stW (coinsL ls) 0 0 (preW ls i j).length).2 : Int)), some (.int (1 + (i : Int))), y5, y6] ∧ Same H H' ∧ H' d = some (.dK (((cdL ls).take (preW ls i j).length).map entW))) ⟨y5, y6, ?_, sm, ?_⟩ (fun j σ H' _ z => ?_) (fun j x σ H' H3 hj z y => ?_) (fun σ H' z => ?_)
      · rw [pre_zero]
        rfl
      · rw [pre_zero]
        exact hd
      · obtain ⟨_, _, _, sm, _⟩ := z
        exact .inl (.inl (sm _ _ hp))
      · obtain ⟨y5, y6, rfl, sm, hd⟩ := z
        obtain ⟨T0, x0, y0, rfl, nT0, rfl, e0, e1⟩ := y
        obtain rfl := Option.some.inj e0
        obtain ⟨rfl, hj2⟩ := K2.enum_at e1
        have sm2 : Same H' (upd H' T0 (.tup [.int (j : Nat), .int (wAt ls j)])) := same_upd nT0
        have hd2 := sm2 _ _ hd
        refine ⟨T0, _, rfl, .inl (.inl upd_same), rfl, _, _, rfl, _, _, rfl, rfl, ?_⟩
        have sm3 := sm.trans sm2
        generalize upd H' T0 (.tup [.int (j : Nat), .int (wAt ls j)]) = H4 at *
        refine ⟨_, rfl, _, rfl, rfl, _, rfl, ?_⟩
        rw [pre_succ]
        refine ite2 (fun e => ?_) (fun e => ?_)
        · have ew : wAt ls j = ((i + 1 : Nat) : Int) := by
            have := V.int.inj (of_decide_eq_true e)
            omega
          rw [if_pos ew]
          have e2 := pre_at hW hi hj2 ew
          obtain ⟨a1, a2⟩ := stW_at _ 0 0 _ _ e2
          have a3 := stW_le _ 0 0 _ _ (coin_srt hW) (fun y hy => by have := coin_fst hW y hy; omega) e2
          have a4 := cd_lt hW _ (List.mem_of_getElem? a1)
          rw [List.length_append, show [(((i + 1 : Nat) : Int), (j : Int))].length = 1 from rfl, a2]
          generalize (stW (coinsL ls) 0 0 (preW ls i j).length).1 = n at *
          generalize (stW (coinsL ls) 0 0 (preW ls i j).length).2 = a at *
          generalize (preW ls i j).length = m at *
          dsimp only at a4 a3 ⊢
          rw [Int.toNat_natCast] at a1 a4 ⊢
          rw [Int.toNat_natCast] at a1
          have a5 : a ≤ i + 1 := by omega
          have hput := ent_put (cd_nodup ls) a1
          dsimp only at hput
          have ei : (1 : Int) + (i : Int) = ((i + 1 : Nat) : Int) := by omega
          rw [ei]
          have e6 : (n : Int) * 2 ^ (((i + 1 : Nat) : Int) - (a : Int)).toNat = ((n * 2 ^ (i + 1 - a) : Nat) : Int) := by
            rw [show (((i + 1 : Nat) : Int) - (a : Int)).toNat = i + 1 - a by omega, Int.natCast_mul, Int.natCast_pow]
            rfl
          have hlt : n * 2 ^ (i + 1 - a) < 2 ^ (i + 1) := a4.1
          have h4096 : 2 ^ (i + 1) ≤ 2 ^ 12 := Nat.pow_le_pow_right (by decide) a4.2.2
          have hn1 : n ≤ 4096 := by
            have := Nat.le_mul_of_pos_right n (Nat.pow_pos (n := i + 1 - a) (show 0 < 2 by decide))
            omega
          refine ⟨_, rfl, _, rfl, _, rfl, _, _, rfl, rfl, _, _, rfl, rfl, ⟨by omega, by omega, ?_⟩, ?_⟩
          · rw [Int.natAbs_natCast]
            exact Nat.lt_of_le_of_lt hn1 (by decide)
          dsimp only [gName]
          rw [e6]
          generalize n * 2 ^ (i + 1 - a) = c at *
          refine ⟨_, rfl, _, rfl, c, i + 1, rfl, by omega, by omega, fun H5 sm5 => ?_⟩
          have hd5 := sm5 _ _ hd2
          have sm35 := sm3.trans sm5
          refine ⟨_, rfl, (by show 2 ≤ sizeLine; omega), fun T1 nT1 => ?_⟩
          have sm6 : Same H5 (upd H5 T1 (.tup [.str (bitS c (i + 1)), .int ((i + 1 : Nat) : Int)])) := same_upd nT1
          have hd6 := sm6 _ _ hd5
          have sm36 := sm35.trans sm6
          refine ⟨T1, _, rfl, .inl (.inl upd_same), rfl, _, _, rfl, ?_⟩
          generalize upd H5 T1 (.tup [.str (bitS c (i + 1)), .int ((i + 1 : Nat) : Int)]) = H6 at *
          refine ⟨_, rfl, _, rfl, d, _, rfl, DPut.k (k := .inl (j : Int)) hd6 ?_, _, _, rfl, rfl, ?_⟩
          · rw [List.length_map, List.length_take]
            have := cd_len ls
            have := K2.coins_len ls
            omega
          refine ⟨_, rfl, _, _, rfl, rfl, ?_⟩
          dsimp only [gName]
          refine ⟨some (.int (j : Int)), some (.int (wAt ls j)), ?_, same_put sm36 nd, ?_⟩
          · rfl
          · rw [upd_same, hput]
        · have ew : wAt ls j ≠ ((i + 1 : Nat) : Int) := fun z => e (decide_eq_true (by rw [z]; congr 1; omega))
          rw [if_neg ew, List.append_nil]
          exact ⟨_, _, rfl, sm3, hd2⟩
      · obtain ⟨y5, y6, rfl, sm, hd⟩ := z
        rw [List.length_map, pre_full] at hd ⊢
        exact ⟨_, _, _, rfl, sm, hd⟩
    · obtain ⟨y4, y5, y6, rfl, sm, hd⟩ := h
      have e12 : tnW ls ((13 : Int) - 1).toNat = coinsL ls := turn_is hW.in_
      have hcd := cd_len ls
      have hcl := K2.coins_len ls
      rw [e12, ← hcd, List.take_length] at hd
      refine ⟨_, rfl, q H' d sm nd ⟨_, hd, by rw [List.length_map]; omega, fun k hk h0 => ?_⟩⟩
      obtain ⟨t, ht, rfl, _⟩ := cd_of hW hk h0
      rw [ent_val (cd_nodup ls) ht, wd_at ht]
end
end K7

namespace SBX
open PySem PyProof.Rows TL
abbrev tx (l : List Nat) : Str := ⟨l.toArray⟩
theorem tx_app (a b : List Nat) : tx a ++ tx b = tx (a ++ b) := by
  show (⟨a.toArray ++ b.toArray⟩ : Str) = _
  simp
theorem tx_len (a : List Nat) : (tx a).length = a.length := by
  show a.toArray.size = _
  simp
theorem tx_join (ls : List (List Nat)) : Txt.join "" (ls.map tx) = tx ls.flatten := by
  refine (List.cons.inj (map_tl_inj (l := [_]) (m := [_]) ?_)).1
  rw [List.map_singleton, List.map_singleton, join_eq, tl_join]
  show [joinL [] ((ls.map tx).map tl)] = [ls.flatten]
  rw [K7.joinL_nil, List.map_map]
  congr 2
  rw [show (tl ∘ tx) = fun l => l from rfl, List.map_id']
end SBX
namespace L2
open PySem PySem.Spec PyProof.Rows
def tJnd (ts : List TE) : TE := fun σ H Q => tJs ts Str.empty σ H fun out H1 => Q (.str out) H1
theorem pe_joinedN {X : Cx} {v1 v2 : Expr} {rest : List Expr} {ts : List TE} {pos : Pos} (h : PJ X (v1 :: v2 :: rest) ts) : PE X (.JoinedStr (v1 :: v2 :: rest) pos) (tJnd ts) := pe_joined h
end L2
namespace K7
open PySem PySem.Spec PyProof.Rows L2 SBX
open K2 (wAt coinsL)
/-! ### runs: pure -/
def stR (rs : List (Int × Int)) (n : Int) : List (Int × Int) := match rs.getLast? with
  | some x => if x.1 = n ∧ x.2 < 32 then rs.dropLast ++ [(n, x.2 + 1)] else rs ++ [(n, 1)]
  | none => [(n, 1)]
def rnL (ls : List Int) : List (Int × Int) := ls.foldl stR []
theorem rn_snoc (ls : List Int) (n : Int) : rnL (ls ++ [n]) = stR (rnL ls) n := by unfold rnL; rw [List.foldl_append]; rfl
theorem stR_end (r : List (Int × Int)) (m k n : Int) : stR (r ++ [(m, k)]) n = if m = n ∧ k < 32 then r ++ [(n, k + 1)] else r ++ [(m, k)] ++ [(n, 1)] := by
  unfold stR
  simp
theorem rn_ok (ls : List Int) : ∀ i, i ≤ ls.length → (rnL (ls.take i) = [] ↔ i = 0) ∧ (rnL (ls.take i)).length ≤ i ∧ ∀ x ∈ rnL (ls.take i), x.1 ∈ ls ∧ 1 ≤ x.2 ∧ x.2 ≤ 32
  | 0, _ => by simp [rnL]
  | i + 1, h => by
    obtain ⟨h0, h1, h2⟩ := rn_ok ls i (by omega)
    rw [List.take_add_one, List.getElem?_eq_getElem (by omega)]
    show (rnL (ls.take i ++ [ls[i]]) = [] ↔ i + 1 = 0) ∧ (rnL (ls.take i ++ [ls[i]])).length ≤ i + 1 ∧ ∀ x ∈ rnL (ls.take i ++ [ls[i]]), x.1 ∈ ls ∧ 1 ≤ x.2 ∧ x.2 ≤ 32
    rw [rn_snoc]
    have hm : ls[i] ∈ ls := List.getElem_mem _
    generalize ls[i] = n at *
    generalize rnL (ls.take i) = R at *
    rcases List.eq_nil_or_concat R with rfl | ⟨r, x, rfl⟩
    · refine ⟨by simp [stR], by simp [stR], fun x hx => ?_⟩
      have hx : x ∈ [(n, (1 : Int))] := hx
      rw [List.mem_singleton.mp hx]
      exact ⟨hm, Int.le_refl 1, (by decide : (1 : Int) ≤ 32)⟩
    · obtain ⟨m, k⟩ := x
      rw [List.concat_eq_append] at *
      rw [stR_end]
      have hk := h2 (m, k) (by simp)
      split
      · rename_i hc
        refine ⟨by simp, by simp at h1 ⊢; omega, fun y hy => ?_⟩
        rcases List.mem_append.mp hy with hy | hy
        · exact h2 y (List.mem_append_left _ hy)
        · rw [List.mem_singleton.mp hy]
          exact ⟨hm, by show 1 ≤ k + 1; have : 1 ≤ k := hk.2.1; omega, by show k + 1 ≤ 32; omega⟩
      · refine ⟨by simp, by simp at h1 ⊢; omega, fun y hy => ?_⟩
        rcases List.mem_append.mp hy with hy | hy
        · exact h2 y hy
        · rw [List.mem_singleton.mp hy]
          exact ⟨hm, Int.le_refl 1, (by decide : (1 : Int) ≤ 32)⟩
/-- a run's text -/
def rnT (x : Int × Int) : List Nat := bitsL x.1.toNat 4 ++ bitsL (x.2.toNat - 1) 5
def hdT (ls : List Int) : List Nat := ((rnL ls).map rnT).flatten
theorem hd_len (ls : List Int) : (hdT ls).length = 9 * (rnL ls).length := by
  unfold hdT
  induction rnL ls with
  | nil => rfl
  | cons x r ih =>
    rw [List.map_cons, List.flatten_cons, List.length_append, ih, List.length_cons]
    have : (rnT x).length = 9 := by unfold rnT; rw [List.length_append, bits_len, bits_len]
    omega
/-! ### runs_of -/
section
variable {P : Program} {w : World} {K : PySem.W.Frag} {mg : Str → Option Value} {base : Heap}
def spRunsOf : Sp := fun vs H Q _ => ∃ (p : Addr) (ls : List Int), vs = [.ref p] ∧ H p = some (.lst (ls.map V.int)) ∧ ls.length ≤ 1000 ∧ (∀ x ∈ ls, 0 ≤ x ∧ x ≤ 12) ∧ ∀ H' r us, Same H H' → H r = none → H' r = some (.lst (us.map V.ref)) → K2.Tups H' us (rnL ls) → Q (.ref r) H'
end
/-! ### runs_written -/
section
variable {P : Program} {w : World} {K : PySem.W.Frag} {mg : Str → Option Value} {base : Heap}
def spRunsW : Sp := fun vs H Q _ => ∃ (p : Addr) (ls : List Int), vs = [.ref p] ∧ H p = some (.lst (ls.map V.int)) ∧ ls.length ≤ 1000 ∧ (∀ x ∈ ls, 0 ≤ x ∧ x ≤ 12) ∧ ∀ H', Same H H' → Q (.str (tx (hdT ls))) H'
end
end K7

namespace K7
open PySem PySem.Spec PyProof.Rows L2 SBX
/-! ### _law_head -/
theorem at_int {ls : List Int} {i : Nat} (h : i < ls.length) : atI (ls.map V.int) (i : Int) = some (.int (ls.getD i 0)) := by
  refine atI_nat ?_
  rw [List.getElem?_map, List.getD_eq_getElem?_getD, List.getElem?_eq_getElem h]
  rfl
theorem take_at {ls : List Int} {i : Nat} (h : i < ls.length) : ls.take (i + 1) = ls.take i ++ [ls.getD i 0] := by
  rw [List.take_add_one, List.getD_eq_getElem?_getD, List.getElem?_eq_getElem h]
  rfl
theorem getD_memI {ls : List Int} {i : Nat} (h : i < ls.length) : ls.getD i 0 ∈ ls := by
  rw [List.getD_eq_getElem?_getD, List.getElem?_eq_getElem h]
  exact List.getElem_mem h
def ClosedR (ls : List Int) (at_ : Nat) : Prop := at_ < ls.length → stR (rnL (ls.take at_)) (ls.getD at_ 0) = rnL (ls.take at_) ++ [(ls.getD at_ 0, 1)]
section
variable {P : Program} {w : World} {K : PySem.W.Frag} {mg : Str → Option Value} {base : Heap}
def spLHead : Sp := fun vs H Q _ => ∃ (p : Addr) (ls : List Int), vs = [.ref p] ∧ H p = some (.lst (ls.map V.int)) ∧ ls.length ≤ 1000 ∧ (∀ x ∈ ls, 0 ≤ x ∧ x ≤ 12) ∧ ∀ H', Same H H' → Q (.str (tx (hdT ls))) H'
end
end K7

namespace K7
open PySem PySem.Spec PyProof.Rows L2
/-! ### items of any kind -/
inductive Any where
  | num (n : Int)
  | tup (l : List Int)
  | lst (l : List Int)
def AnyAt (H : Hp) : Any → V → Prop
  | .num n, v => v = .int n
  | .tup l, v => ∃ t, v = .ref t ∧ H t = some (.tup (l.map V.int))
  | .lst l, v => ∃ t, v = .ref t ∧ H t = some (.lst (l.map V.int))
theorem AnyAt.same {H H' : Hp} {x : Any} {v : V} (h : AnyAt H x v) (s : Same H H') : AnyAt H' x v := by
  cases x with
  | num n => exact h
  | tup l =>
    obtain ⟨t, e, ht⟩ := h
    exact ⟨t, e, s _ _ ht⟩
  | lst l =>
    obtain ⟨t, e, ht⟩ := h
    exact ⟨t, e, s _ _ ht⟩
def stepA (size : Int) : Any → Option Int
  | .num n => if 0 ≤ n ∧ n ≤ 255 then some (size + 1) else none
  | .tup [m, b] => if 3 ≤ m ∧ m ≤ 18 ∧ 1 ≤ b ∧ b ≤ 1024 ∧ b ≤ size then some (size + m) else none
  | _ => none
def firstBad (size : Int) (i : Nat) : List Any → Option Nat
  | [] => none
  | x :: r => match stepA size x with
    | some s => firstBad s (i + 1) r
    | none => some i
theorem firstBad_yes {size s : Int} {i : Nat} {x : Any} {r : List Any} (h : stepA size x = some s) : firstBad size i (x :: r) = firstBad s (i + 1) r := by
  show (match stepA size x with
    | some s => firstBad s (i + 1) r
    | none => some i) = _
  rw [h]
theorem firstBad_no {size : Int} {i : Nat} {x : Any} {r : List Any} (h : stepA size x = none) : firstBad size i (x :: r) = some i := by
  show (match stepA size x with
    | some s => firstBad s (i + 1) r
    | none => some i) = _
  rw [h]
theorem stepA_ne {size : Int} : ∀ {l : List Int}, l.length ≠ 2 → stepA size (.tup l) = none
  | [], _ => rfl
  | [_], _ => rfl
  | [_, _], h => absurd rfl h
  | _ :: _ :: _ :: _, _ => rfl
def optN : Option Nat → V
  | none => .non
  | some i => .int (i : Int)
end K7

namespace K7
open PySem PySem.Spec PyProof.Rows L2
/-! ### items of rows: is_item, copy_behind, item_bits, are_bytes -/
def itemB : Any → Bool
  | .num n => decide (0 ≤ n ∧ n ≤ 255)
  | .tup [m, b] => decide (3 ≤ m ∧ m ≤ 18) && decide (1 ≤ b ∧ b ≤ 1024)
  | _ => false
theorem itemB_ne : ∀ {l : List Int}, l.length ≠ 2 → itemB (.tup l) = false
  | [], _ => rfl
  | [_], _ => rfl
  | [_, _], h => absurd rfl h
  | _ :: _ :: _ :: _, _ => rfl
theorem scCopyB : FnScope ["whole", "item", "many", "back", "_"] ["whole", "item"] (defScope sCopyB) := ⟨rfl, rfl, rfl, by decide +kernel, rfl, by decide +kernel, by decide +kernel⟩
theorem scAreBytes : FnScope ["told", "most"] ["told", "most"] (defScope sAreBytes) := ⟨rfl, rfl, rfl, by decide +kernel, rfl, by decide +kernel, by decide +kernel⟩
section
variable {P : Program} {w : World} {K : PySem.W.Frag} {mg : Str → Option Value} {base : Heap}
def spIsItem : Sp := fun vs H Q _ => ∃ (v : V) (x : Any), vs = [v] ∧ AnyAt H x v ∧ Q (.bl (itemB x)) H
def spCopyB : Sp := fun vs H Q _ => ∃ (W t : Addr) (every : List Nat) (m b : Nat), vs = [.ref W, .ref t] ∧ H W = some (.lst (bys every)) ∧ H t = some (.tup [.int (m : Int), .int (b : Int)]) ∧ 1 ≤ b ∧ b ≤ every.length ∧ m ≤ 18 ∧ every.length ≤ 100000 ∧
  ∀ H', (∀ a, a ≠ W → H' a = H a) → H' W = some (.lst (bys (copyN every b m))) → Q .non H'
theorem ok_copyB {f : Addr} {fd : FuncData} {j : Nat} (F : Fun K "copy_behind" "copy_behind" sCopyB f fd) (m3 : mg "range" = none) : FnOk P w K mg base CX0 (j + 1) f fd ["whole", "item"] spCopyB := by
  refine F.ok scCopyB (fun vs H Q E h => ?_) (fun cdv A outer s H vs Q E hr h => ?_)
  · obtain ⟨W, t, every, m, b, rfl, _⟩ := h
    rfl
  · obtain ⟨W, t, every, m, b, rfl, hW, ht, b1, b2, hm, hl, q⟩ := h
    have hz := PySem.sizeLine_eq
    refine ⟨_, pss_cons (ps_asg (pv 1) (pg_tup (by rfl) (pgs_cons (pg_name (i := 2) scCopyB.nd rfl (.inl rfl)) (pgs_cons (pg_name (i := 3) scCopyB.nd rfl (.inl rfl)) pgs_nil))))
      (pss_one (ps_for PassesOwn.never rfl (pi_range1 (by rfl) m3 (pa_cons (pv 2) pa_nil)) (pg_name (i := 4) scCopyB.nd rfl (.inl rfl))
        (pss_one (ps_expr (pe_bm PySem.F.plainAttrs_list PySem.F.slot_list_append PySem.F.type_list_append mt_append (pv 0) (pa_cons (pe_ix ix_list (pv 0) (pe_un un_neg (pv 3)) (fun _ _ => rfl)) pa_nil)))))), ?_⟩
    refine ⟨_, rfl, t, _, rfl, .inl (.inl ht), rfl, _, _, rfl, _, _, rfl, rfl, ?_⟩
    refine ⟨_, rfl, m, rfl, (by omega), (by omega), ?_⟩
    refine for_range (lo := 0) (n := (m : Int).toNat) (fun i σ H' => ∃ y : Option V, σ = [some (.ref W), some (.ref t), some (.int (m : Int)), some (.int (b : Int)), y] ∧ (∀ a, a ≠ W → H' a = H a) ∧ H' W = some (.lst (bys (copyN every b i)))) ⟨_, rfl, fun a h => rfl, hW⟩ (fun i σ H' hi h => ?_) (fun σ H' h => ?_)
    · obtain ⟨y, rfl, heq, hE⟩ := h
      refine ⟨_, rfl, .inl ⟨rfl, _, .inl (.inl hE)⟩, _, rfl, _, rfl, _, rfl, W, _, _, _, rfl, rfl, .inl (.inl hE), back_at b1 (by rw [copyN_len]; omega), W, _, _, rfl, rfl, hE, (by rw [bys_len, copyN_len, hz]; omega), _, rfl, fun a h => ?_, ?_⟩
      · rw [upd_ne h]
        exact heq a h
      · rw [upd_same, copyN_succ, ← bys_app]
        rfl
    · obtain ⟨y, rfl, heq, hE⟩ := h
      rw [Int.toNat_natCast] at hE
      exact q H' heq hE
def spItemB : Sp := fun vs H Q _ => ∃ (v : V) (it : Itm) (pL pB : Addr) (L B : List Int), vs = [v, .ref pL, .ref pB] ∧ ItmAt H it v ∧ ItmOk it ∧ H pL = some (.lst (L.map V.int)) ∧ H pB = some (.lst (B.map V.int)) ∧ PrL 273 L ∧ PrL 11 B ∧ Q (optV (costO L B it)) H
def spAreBytes : Sp := fun vs H Q _ => ∃ (b : Array UInt8) (n : Nat), vs = [.byt b, .int (n : Int)] ∧ b.size ≤ 1000000 ∧ Q (.bl (decide (b.size ≤ n))) H
theorem ok_areBytes {f : Addr} {fd : FuncData} {j : Nat} (F : Fun K "are_bytes" "are_bytes" sAreBytes f fd) (m1 : mg "isinstance" = none) (m2 : mg "bytes" = none) (m3 : mg "len" = none) : FnOk P w K mg base CX0 (j + 1) f fd ["told", "most"] spAreBytes := by
  refine F.ok scAreBytes (fun vs H Q E h => ?_) (fun cdv A outer s H vs Q E hr h => ?_)
  · obtain ⟨b, n, rfl, _⟩ := h
    rfl
  · obtain ⟨b, n, rfl, hb, q⟩ := h
    have hz := PySem.sizeLine_eq
    refine ⟨_, pss_one (ps_ret (pe_and (pe_callB call_isi (by rfl) m1 (by decide +kernel) (pa_cons (pv 0) (pa_cons (pe_bltn (v := .ty "bytes") (by rfl) m2 (by decide +kernel) rfl) pa_nil)))
      (pe_one (pe_cmpR op_le (pe_callB call_len (by rfl) m3 PySem.boot_len (pa_cons (pv 0) pa_nil)) (pv 1) (nomark _))))), ?_⟩
    refine ⟨_, rfl, _, _, _, _, _, rfl, .ty "bytes", .byt _, kit_ty (a := "bytes") (r := true) (by decide +kernel), _, rfl, iteT ?_⟩
    refine ⟨_, rfl, _, b.size, rfl, ⟨by omega, rfl⟩, _, rfl, _, _, rfl, rfl, ?_⟩
    have e : decide (((b.size : Nat) : Int) ≤ (n : Int)) = decide (b.size ≤ n) := by simp
    show Q (.bl (decide (((b.size : Nat) : Int) ≤ (n : Int)))) H
    rw [e]
    exact q
end
end K7

/-! ### own exceptions that say super().__init__(f"..{x}") and then self.x = x -/
namespace SX
open PySem PySem.W PySem.Calls PyProof.Rows PySem.HandSPX
def sxA (f : Str) (p1 p2 : Pos) : Arguments := { posonlyargs := [], args := [⟨"self", none, p1⟩, ⟨f, none, p2⟩], vararg := none, kwonlyargs := [], kw_defaults := [], kwarg := none, defaults := [] }
def sxB (f pre : Str) (k : Nat) (q : Nat → Pos) : List Stmt :=
  [.Expr (.Call (.Attribute (.Call (.Name "super" (q 0)) [] [] (q 1)) "__init__" (q 2)) [.JoinedStr [.Constant (.str pre) k (q 3), .FormattedValue (.Name f (q 4)) (-1) none (q 5)] (q 6)] [] (q 7)) (q 8),
   .Assign [.Attribute (.Name "self" (q 9)) f (q 10)] (.Name f (q 11)) (q 12)]
def sxS (f : Str) : Scope := { kind := .function, names := [("self", .local), (f, .local), ("__class__", .free), ("super", .globalImplicit)], isGenerator := false, isCoroutine := false, more := [] }
/-- the call's places stand so that nothing of its row is asked -/
def SxPos (q : Nat → Pos) : Prop := ∀ (env : Env) (o : Expr) (es : List Expr) (pe : Pos), ∃ pl : Sem Bool, eval (.Call (.Attribute o "__init__" (q 2)) [.JoinedStr es pe] [] (q 7)) env = (do
  let ov ← attributeBase o "__init__" env (eval o env)
  standAt (q 2).atName
  let (g, first) ← holding [ov] (getMethod ov "__init__" pl)
  callWith (q 7) g first (backTo (q 7) (starEach [.JoinedStr es pe] env)) [])
/-- what the written part says of such a class -/
structure SxTxt (prog : Program) (K : Frag) (mg : Str → Option Value) (C fI : Addr) (cn f pre qual : Str) : Prop where
  gC : mg cn = some (.ref C)
  cls : ∃ nm q N bs bm sn sub ab col dd k0 k1 k2 k3 k5, K.lookup C = some (excClassObj nm q C N bs bm true sn sub ab col dd k0 k1 k2 k3 k5 "ValueError.__new__") ∧ refsVE bm = true ∧ alongIn K "__init__" bm = some (some (.builtin "ValueError.__init__"))
  sa : findIn K (.ref C) "__setattr__" = some (some (.builtin "object.__setattr__"))
  ga : findIn K (.ref C) "__getattribute__" = some (some (.builtin "BaseException.__getattribute__"))
  gg : findIn K (.ref C) "__getattr__" = some none
  noN : findIn K (.ref C) f = some none
  iC : findIn K (.ref C) "__init__" = some (some (.ref fI))
  tI : typeIn K (.ref fI) = some (.type "function")
  kC : keepIn K (.ref C) = true
  exC : subIn K (.ref C) (.type "BaseException") = some true
  veC : subIn K (.ref C) (.type "ValueError") = some true
  seC : subIn K (.ref C) (.ref C) = some true
  tyC : typeIn K (.ref C) = some (.type "type")
  hdC : hasDictIn K C = true
  op : nsIn K cStatics "thirdparty.any" = some none
  sup : mg "super" = none
  top : (prog.main.scope.names.lookup ("super" : Str)).isSome = false
  fn : ∃ (oc : Value) (od : Option Addr) (doc pm : Value) (an : Option Addr) (ct : Value) (osl : Array (Option Value)) (p1 p2 : Pos) (k : Nat) (q : Nat → Pos) (cda cc : Addr) (ccl : Value) (cdd : Option Addr) (vs : Array Value) (ccs : Array (Option Value)) (file : Str) (tf : Tok) (cl : Value) (cld : Option Addr) (csl : Array (Option Value)),
    K.lookup fI = some ⟨oc, od, .func (ksFn "__init__" qual (sxA f p1 p2) (sxB f pre k q) (sxS f) .none .none doc pm an (.ref cda) ct cc), osl⟩ ∧ codeIn K (.ref cda) qual = true ∧
    K.lookup cda = some ⟨ccl, cdd, .fields vs, ccs⟩ ∧ vs[2]? = some (.str file tf) ∧ ((prog.main.file : Str) == file) = true ∧ K.lookup cc = some ⟨cl, cld, .cell (some (.ref C)), csl⟩ ∧ SxPos q
  fBind : ∀ (doc pm : Value) (an : Option Addr) (cdv ct : Value) (cc : Addr) (p1 p2 : Pos) (k : Nat) (q : Nat → Pos) (a v : Value), bindArgs (ksFn "__init__" qual (sxA f p1 p2) (sxB f pre k q) (sxS f) .none .none doc pm an cdv ct cc) ⟨[a, v], []⟩ = pure [(("self" : Str), a), (f, v)]
  preS : pre.length ≤ 1000
  fSelf : (("self" : Str) == f) = false
  fDbg : (f == ("__debug__" : Str)) = false
  fLoc : (sxS f).names.lookup f = some .local
  fSup : (sxS f).names.lookup ("super" : Str) = some .globalImplicit
  fCls : (sxS f).names.lookup ("__class__" : Str) = some .free
/-- what such an __init__ leaves of a new exception at x -/
structure SxEnd (h h' : Heap) (x C dx : Addr) (f : Str) (v : Value) : Prop where
  keep : ∀ b o, b ≠ x → h.get? b = some o → h'.get? b = some o
  obj : ∃ t1, h'.get? x = some { cls := .ref C, dict := some dx, data := .fields #[.ref t1, .none, .none, .none, .bool false, .none] }
  dbig : h.objs.size ≤ dx
  dne : dx ≠ x
  ns : h'.Ns1 dx (fun y => if y = f then some v else none)
theorem boot_super : bootBuiltins "super" = some (.type "super") := by decide +kernel
theorem drop_first (C : Addr) (l : List Value) : ((Value.ref C :: l).dropWhile fun y => y != .ref C).drop 1 = l := by simp [List.dropWhile_cons]
section
variable {prog : Program} {w : World} {A : Around} {E : Value → Shared → Prop} {R : Result → Shared → Prop} {K : Frag} {mg : Str → Option Value} {C fI : Addr} {cn f pre qual : Str}
/-- a built-in __init__ that is bound to x, called -/
theorem call_mw {h : Heap} {g : Array GenState} {d : Drawn} {t : Nat} {os : OsState} {u x t0 : Addr} {rest : List Value} {Q : Value → Shared → Prop} {nm q : Str} {N : Addr} {bs bm : List Value} {hdct : Bool} {sn : List Str} {sub : List Value} {ab : Bool} {col : Option Bool} {dd : Option Addr} {k0 k1 k2 k3 k5 : Option Value}
    (hC : h.get? C = some (excClassObj nm q C N bs bm hdct sn sub ab col dd k0 k1 k2 k3 k5 "ValueError.__new__")) (hx : h.get? x = some (excO C t0)) (hu : h.get? u = some (kxs_mw "ValueError.__init__" x)) (hr : rest.length ≤ sizeLine)
    (hq : ∀ h' t1, (∀ b o, b ≠ x → h.get? b = some o → h'.get? b = some o) → h'.get? x = some (excO C t1) → Q .none ⟨h', g, d, t, os⟩) : wpAny (model prog w) A (call (.ref u) rest) Q E ⟨h, g, d, t, os⟩ := by
  refine' wpAny_call (codeAny_of_tree _)
  show wpAny (model prog w) A.in1 (callAny (.ref u) ⟨rest, []⟩) _ _ _
  (simp only [callAny]); (refine wpAny_bind (wpAny_load hu ?_))
  have c1 : (Value.type "method-wrapper" == Value.type "method" || Value.type "method-wrapper" == Value.type "builtin_function_or_method" || Value.type "method-wrapper" == Value.type "method-wrapper") = true := by decide
  simp only [kxs_mw, c1, if_true]
  refine W.KFB.if_so (by decide) (wpAny_bind (check_bound_init F.excBase_ValueError.toExcCallFacts hC hx rfl ?_))
  refine wpAny_bind (wpAny_pure (wpAny_pure ⟨plainId_quiet F.excBase_ValueError.init.plain _, codeAny_builtin F.excBase_ValueError.initEntry ?_⟩))
  exact exc_init_tree (cls := .ref C) (t0 := t0) (dv := none) (c2 := .none) (c3 := .none) (b4 := .bool false) hx hr fun h' k hx' _ => hq h' _ k hx'
abbrev sxE (f pre qual : Str) (p1 p2 : Pos) (kk : Nat) (q : Nat → Pos) (doc pm : Value) (an : Option Addr) (cda : Addr) (ct : Value) (cc L fI : Addr) : Env :=
  callEnv (ksFn "__init__" qual (sxA f p1 p2) (sxB f pre kk q) (sxS f) .none .none doc pm an (.ref cda) ct cc) L fI
/-- from the bound __init__'s call on -/
theorem sx_rest (T : SxTxt prog K mg C fI cn f pre qual) {s : Shared} {x t0 u cda cc : Addr} {v : Value} {oc : Value} {od : Option Addr} {doc pm ct : Value} {an : Option Addr} {osl : Array (Option Value)} {p1 p2 : Pos} {kk : Nat} {q : Nat → Pos} {nm qn : Str} {N : Addr} {bs bm : List Value} {sn : List Str} {sub : List Value} {ab : Bool} {col : Option Bool} {dd : Option Addr} {k0 k1 k2 k3 k5 : Option Value}
    {h₀ h₂ h₃ : Heap} {y : Str} {tk tk2 : Nat}
    (ho : K.lookup fI = some ⟨oc, od, .func (ksFn "__init__" qual (sxA f p1 p2) (sxB f pre kk q) (sxS f) .none .none doc pm an (.ref cda) ct cc), osl⟩)
    (hcl : clsIn K C = some { name := nm, bases := bs, mro := .ref C :: bm, ns := N, qualname := qn, hasDict := true, slotNames := sn, subclasses := sub, abstract := ab, collection := col, hasDel := false })
    (hC : K.lookup C = some (excClassObj nm qn C N bs bm true sn sub ab col dd k0 k1 k2 k3 k5 "ValueError.__new__")) (hbm : refsVE bm = true) (X : K.In s.heap) (hx : s.heap.get? x = some (excO C t0)) (hnx : K.lookup x = none)
    (k : ∀ b o, s.heap.get? b = some o → h₀.get? b = some o) (k2' : ∀ b o, h₀.get? b = some o → h₂.get? b = some o) (k3' : ∀ b o, h₂.get? b = some o → h₃.get? b = some o)
    (hu : h₃.get? u = some (kxs_mw "ValueError.__init__" x)) (hns : h₃.Ns s.heap.objs.size fun y => List.lookup y [(("self" : Str), Value.ref x), (f, v)].reverse)
    (vself : List.lookup ("self" : Str) ([(("self" : Str), Value.ref x), (f, v)].reverse) = some (.ref x)) (vfld : List.lookup f ([(("self" : Str), Value.ref x), (f, v)].reverse) = some v)
    (hq : ∀ h' tk dx, SxEnd s.heap h' x C dx f v → R (.ok (.ret .none)) { s with heap := h', toks := tk }) :
    wpAny (model prog w) (A.deeper (sxE f pre qual p1 p2 kk q doc pm an cda ct cc s.heap.objs.size fI)) (call (.ref u) [.str y tk])
      (fun _ s' => PySem.wpAt (model prog w) (A.deeper (sxE f pre qual p1 p2 kk q doc pm an cda ct cc s.heap.objs.size fI)) (.func (sxB f pre kk q) (sxE f pre qual p1 p2 kk q doc pm an cda ct cc s.heap.objs.size fI))
        (execs [.Assign [.Attribute (.Name "self" (q 9)) f (q 10)] (.Name f (q 11)) (q 12)] (sxE f pre qual p1 p2 kk q doc pm an cda ct cc s.heap.objs.size fI))
        (fun fl s' => R (Except.ok (Flow.ret (match fl with | Flow.ret v => v | _ => Value.none))) s')
        (fun e s' => wpAny (model prog w) (A.deeper (sxE f pre qual p1 p2 kk q doc pm an cda ct cc s.heap.objs.size fI)) (leaving (sxE f pre qual p1 p2 kk q doc pm an cda ct cc s.heap.objs.size fI) e) (fun _ s'' => R (.error e) s'') (fun e' s'' => R (.error e') s'') s') s')
      (fun e s' => wpAny (model prog w) (A.deeper (sxE f pre qual p1 p2 kk q doc pm an cda ct cc s.heap.objs.size fI)) (leaving (sxE f pre qual p1 p2 kk q doc pm an cda ct cc s.heap.objs.size fI) e) (fun _ s'' => R (.error e) s'') (fun e' s'' => R (.error e') s'') s')
      { s with heap := h₃, toks := tk2 } := by
  have X₃ : K.In h₃ := ((X.keeps k).keeps k2').keeps k3'
  have hx₃ := k3' _ _ (k2' _ _ (k _ _ hx))
  refine call_mw (X₃ _ _ hC) hx₃ hu (by rw [sizeLine_eq]; show 1 ≤ 16777216; decide) fun h' t1 k' hx' => ?_
  have X' : K.In h' := fun a o e => by
    by_cases ha : a = x
    · rw [ha, hnx] at e; cases e
    · exact k' a o ha (X₃ a o e)
  have hxL : s.heap.objs.size ≠ x := Nat.ne_of_gt (Heap.lt_size hx)
  have hns' := hns.at fun o e => k' _ o hxL e
  refine wpAt_of_wpAny (wpAny_execs_cons (plainObj_wpAny_Assign_Attribute ?_))
  refine wpAny_Name (wpAny_loadName_local rfl T.fLoc hns' vfld (wpAny_Name (wpAny_loadName_local rfl rfl hns' vself ?_) (by decide))) T.fDbg
  refine set_plain X' (ox := excO C t1) (od := none) ⟨hx', rfl, rfl, trivial⟩ T.sa (exc_osa X' hx' hcl (show refsVE (.ref C :: bm) = true from hbm) rfl T.noN (fun h₅ tk₅ dx k₅ dn dne hx₅ hn₅ => ?_))
  obtain ⟨oL, _, _, hL, _⟩ := hns'
  have z : s.heap.objs.size < h'.objs.size := Heap.lt_size hL
  refine wpAny_execs_nil (hq h₅ tk₅ dx ⟨fun b o hb e => k₅ b o hb (k' b o hb (k3' _ _ (k2' _ _ (k b o e)))), ⟨_, hx₅⟩, Nat.le_of_lt (Nat.lt_of_lt_of_le z dn), dne, hn₅⟩)
theorem sx_init (T : SxTxt prog K mg C fI cn f pre qual) {s : Shared} {x t0 : Addr} {v : Value} (X : K.In s.heap) (hlim : s.heap.NoLimit) (G : s.heap.Ns mainGlobals mg) (B : ∃ mb, s.heap.Ns builtinsNs mb ∧ ∀ y : Str, y ≠ "__name__" → mb y = bootBuiltins y)
    (hx : s.heap.get? x = some (excO C t0)) (hnx : K.lookup x = none) (hroom : A.depth < recursionLimit) (hv : (∃ (i : Int) (t : Tok), v = .int i t ∧ i.natAbs.log2 < 1920) ∨ v = .none)
    (hq : ∀ h' tk dx, SxEnd s.heap h' x C dx f v → R (.ok (.ret .none)) { s with heap := h', toks := tk }) :
    codeAny (model prog w) A (.call (.ref fI) ⟨[.ref x, v], []⟩) R s := by
  obtain ⟨oc, od, doc, pm, an, ct, osl, p1, p2, kk, q, cda, cc, ccl, cdd, vs, ccs, file, tf, cl, cld, csl, ho, hcd, hcode, hvs, hfile, hcell, hpos⟩ := T.fn
  obtain ⟨nm, qn, N, bs, bm, sn, sub, ab, col, dd, k0, k1, k2, k3, k5, hC, hbm, hal⟩ := T.cls
  obtain ⟨mb, Bn, Bb⟩ := B
  have hcl : clsIn K C = some { name := nm, bases := bs, mro := .ref C :: bm, ns := N, qualname := qn, hasDict := true, slotNames := sn, subclasses := sub, abstract := ab, collection := col, hasDel := false } := by unfold clsIn; rw [hC] <;> rfl
  have hxC : x ≠ C := fun z => by rw [z, hC] at hnx; cases hnx
  refine ks_codeAny_call_defAt (fd := ksFn "__init__" qual (sxA f p1 p2) (sxB f pre kk q) (sxS f) .none .none doc pm an (.ref cda) ct cc) (body := sxB f pre kk q) (binds := [("self", .ref x), (f, v)]) hroom (X _ _ ho) rfl hlim (codeRec_of X hcd) rfl (BindsTo.of_eq ?_) ?_ ?_ (fun h₀ hns k => ?_) rfl rfl rfl
  · exact T.fBind _ _ _ _ _ _ _ _ _ _ _ _
  · intro y hy
    rcases List.mem_cons.mp hy with rfl | hy
    · exact fun z => by cases z
    rcases List.mem_cons.mp hy with rfl | hy
    · exact fun z => by cases z
    rcases List.mem_cons.mp hy with rfl | hy
    · exact fun z => by cases z
    rcases List.mem_cons.mp hy with rfl | hy
    · exact fun z => by cases z
    · cases hy
  · intro y hy
    rcases List.mem_cons.mp hy with rfl | hy
    · rfl
    rcases List.mem_cons.mp hy with rfl | hy
    · exact T.fLoc
    · cases hy
  have hxL : s.heap.objs.size ≠ x := Nat.ne_of_gt (Heap.lt_size hx)
  have X₁ : K.In h₀ := X.keeps k
  have hx₁ := k _ _ hx
  have vself : List.lookup ("self" : Str) ([(("self" : Str), Value.ref x), (f, v)].reverse) = some (.ref x) := by
    show List.lookup ("self" : Str) [(f, v), (("self" : Str), Value.ref x)] = some (.ref x)
    rw [List.lookup, T.fSelf] <;> rfl
  have vfld : List.lookup f ([(("self" : Str), Value.ref x), (f, v)].reverse) = some v := by
    show List.lookup f [(f, v), (("self" : Str), Value.ref x)] = some v
    rw [List.lookup, beq_self_eq_true]
  obtain ⟨pl, hpl⟩ := hpos (callEnv (ksFn "__init__" qual (sxA f p1 p2) (sxB f pre kk q) (sxS f) .none .none doc pm an (.ref cda) ct cc) s.heap.objs.size fI) (.Call (.Name "super" (q 0)) [] [] (q 1)) [.Constant (.str pre) kk (q 3), .FormattedValue (.Name f (q 4)) (-1) none (q 5)] (q 6)
  refine ks_wpAt_execs_cons (ks_wpAt_Expr_any (ks_wpAt_MethodCall ?_ hpl))
  refine ks_wpAt_super_base T.fSup T.fCls (by decide) rfl (k _ _ (X _ _ ho)) rfl rfl rfl (k _ _ (X _ _ hcode)) rfl hvs hfile T.top ?_
  refine ks_loadName_global rfl T.fSup (loadGlobal_builtin (mg := mg) (mb := mb) (G.keeps k) T.sup (Bn.keeps k) ((Bb _ (by decide)).trans boot_super) ⟨rfl, ?_⟩)
  refine wpAny_loadName_free rfl T.fCls (c := cc) (v := .ref C) rfl ⟨_, k _ _ (X _ _ hcell), rfl⟩ ?_
  refine wpAny_loadName_local rfl rfl hns vself ?_
  refine ks_wpAny_isType_cls (X₁ _ _ hC) rfl ⟨rfl, ?_⟩
  refine ks_wpAny_call_super (X₁ _ _ hC) rfl hx₁ rfl (fun c e => by cases e) (looks_subIn X₁ T.seC) (fun h₂ e₂ k₂ => ?_)
  have X₂ : K.In h₂ := X₁.keeps k₂
  have hx₂ := k₂ _ _ hx₁
  have I₂ : InstAt h₂ x (excO C t0) C none := ⟨hx₂, rfl, rfl, trivial⟩
  refine kxs_getMethod kxs_ValueError e₂ (looks_opaque X₂ T.op) (l₀ := .ref C :: bm) ((looks_clsIn X₂ hcl).andThen .now) (drop_first C bm) X₂ hal (I₂.type.andThen (looks_subIn X₂ T.veC)) hxC rfl ?_
  have e₃ : (h₂.push (kxs_mw "ValueError.__init__" x)).get? h₂.objs.size = some (kxs_mw "ValueError.__init__" x) := Heap.get?_push_at rfl rfl
  have k₃ : ∀ b o, h₂.get? b = some o → (h₂.push (kxs_mw "ValueError.__init__" x)).get? b = some o := fun b o e => Heap.get?_push_of_some _ e
  have hns₃ := (hns.keeps k₂).keeps k₃
  generalize h₂.push (kxs_mw "ValueError.__init__" x) = h₃ at e₃ k₃ hns₃ ⊢
  refine kxs_callWith (i := "ValueError.__init__") (x := x) rfl (evalArgs_plain ?_)
  have hlen : ∀ i : Int, i.natAbs.log2 < 1920 → (Str.empty ++ pre ++ Str.ofString (toString i)).length ≤ sizeLine := fun i hi => by
    have e := int_text_length_le (k := 1920) (by decide) hi
    have := T.preS
    rw [strLen_append, strLen_append, PySem.ofString_length, sizeLine_eq]
    show 0 + pre.length + (toString i).length ≤ 16777216
    omega
  have hpre : (Str.empty ++ pre).length ≤ sizeLine := by
    have := T.preS
    rw [strLen_append, sizeLine_eq]
    show 0 + pre.length ≤ 16777216
    omega
  rcases hv with ⟨i, ti, rfl, hi⟩ | rfl
  · refine Calls.spliced_cons (wpAny_JoinedStr (v₁ := .Constant (.str pre) kk (q 3)) (v₂ := .FormattedValue (.Name f (q 4)) (-1) none (q 5)) (rest := []) (pos := q 6) (wpAny_Constant_str ⟨pre, _, rfl, hpre, ?_⟩))
    refine wpAny_FormattedValue_plain (wpAny_Name (wpAny_loadName_local rfl T.fLoc hns₃ vfld (wpAny_formatField_int hi ⟨_, _, rfl, hlen i hi, hlen i hi, ?_⟩)) T.fDbg)
    refine Calls.spliced_nil ⟨e₃, ?_⟩
    exact sx_rest T ho hcl hC hbm X hx hnx k k₂ k₃ e₃ hns₃ vself vfld hq
  · refine Calls.spliced_cons (wpAny_JoinedStr (v₁ := .Constant (.str pre) kk (q 3)) (v₂ := .FormattedValue (.Name f (q 4)) (-1) none (q 5)) (rest := []) (pos := q 6) (wpAny_Constant_str ⟨pre, _, rfl, hpre, ?_⟩))
    have hn4 : (Str.empty ++ pre ++ Str.ofString "None").length ≤ sizeLine := by
      have := T.preS
      rw [strLen_append, strLen_append, sizeLine_eq]
      show 0 + pre.length + 4 ≤ 16777216
      omega
    refine wpAny_FormattedValue_plain (wpAny_Name (wpAny_loadName_local rfl T.fLoc hns₃ vfld (wpAny_formatField_none ⟨_, _, rfl, hn4, hn4, ?_⟩)) T.fDbg)
    exact Calls.spliced_nil ⟨e₃, sx_rest T ho hcl hC hbm X hx hnx k k₂ k₃ e₃ hns₃ vself vfld hq⟩
/-- a made one: e new, its dict d new -/
structure SxMade (h h' : Heap) (e C d : Addr) (f : Str) (v : Value) : Prop where
  keep : ∀ b o, h.get? b = some o → h'.get? b = some o
  new : h.objs.size ≤ e
  obj : ∃ oe fs, h'.get? e = some oe ∧ oe.cls = .ref C ∧ oe.dict = some d ∧ oe.data = .fields fs ∧ fs[1]? = some .none ∧ fs[2]? = some .none
  dbig : h.objs.size ≤ d
  dne : d ≠ e
  ns : h'.Ns1 d (fun y => if y = f then some v else none)
theorem sx_made (T : SxTxt prog K mg C fI cn f pre qual) {s : Shared} {v : Value} (X : K.In s.heap) (hlim : s.heap.NoLimit) (G : s.heap.Ns mainGlobals mg) (B : ∃ mb, s.heap.Ns builtinsNs mb ∧ ∀ y : Str, y ≠ "__name__" → mb y = bootBuiltins y)
    (hroom : A.depth + 1 < recursionLimit) (hv : (∃ (i : Int) (t : Tok), v = .int i t ∧ i.natAbs.log2 < 1920) ∨ v = .none)
    (hq : ∀ h' tk e d, SxMade s.heap h' e C d f v → R (.ok (.ret (.ref e))) { s with heap := h', toks := tk }) : codeAny (model prog w) A (.call (.ref C) ⟨[v], []⟩) R s := by
  obtain ⟨nm, qn, N, bs, bm, sn, sub, ab, col, dd, k0, k1, k2, k3, k5, hC, hbm, hal⟩ := T.cls
  obtain ⟨hp, g, dr, tk, os⟩ := s
  obtain ⟨mb, Bn, Bb⟩ := B
  have kp : ∀ b o, hp.get? b = some o → ((hp.push (kdv_tup [v])).push (excO C hp.objs.size)).get? b = some o := fun b o z => Heap.get?_push_of_some _ (Heap.get?_push_of_some _ z)
  have atE : ((hp.push (kdv_tup [v])).push (excO C hp.objs.size)).get? (hp.objs.size + 1) = some (excO C hp.objs.size) := by heap_get
  have notK : K.lookup (hp.objs.size + 1) = none := by
    cases z : K.lookup (hp.objs.size + 1) with
    | none => rfl
    | some o => exact absurd (Nat.lt_of_succ_lt (Heap.lt_size (X _ _ z))) (Nat.lt_irrefl _)
  have hone : ([v] : List Value).length ≤ sizeLine := by
    rw [sizeLine_eq]
    show 1 ≤ 16777216
    decide
  refine call_own F.excBase_ValueError (fun Y => refsVE_contains Y bm hbm) (X _ _ hC) (looks_findIn X T.iC) (fun self => bind_fn X self T.tI) hone (sx_init (s := ⟨(hp.push (kdv_tup [v])).push (excO C hp.objs.size), g, dr, tk, os⟩) T (X.keeps kp) (hlim.keeps kp) (G.keeps kp) ⟨mb, Bn.keeps kp, Bb⟩ atE notK ?_ hv fun h' tk' dx M => ?_)
  · show A.depth + 1 < recursionLimit
    exact hroom
  · have z : hp.objs.size + 1 + 1 ≤ dx := by
      have zz := M.dbig
      rw [Heap.size_push, Heap.size_push] at zz
      exact zz
    obtain ⟨t1, ho⟩ := M.obj
    exact ⟨rfl, hq h' tk' (hp.objs.size + 1) dx ⟨fun b o zb => M.keep b o (Nat.ne_of_lt (Nat.lt_succ_of_lt (Heap.lt_size zb))) (kp b o zb), Nat.le_succ _, ⟨_, _, ho, rfl, rfl, rfl, rfl, rfl⟩, (by show hp.objs.size ≤ dx; omega), M.dne, M.ns⟩⟩
end
end SX
namespace L2
open PySem PySem.Spec PyProof.Rows
section
variable {X : Cx} {C fI : Addr} {cn f pre qual : Str}
/-- C(e), C with such an __init__: an int or None -/
def tMkSx (C : Addr) (f : Str) (ta : TA) : St → Hp → XK → Prop := fun σ H Q => ta σ H fun vs H1 => ∃ v, vs = [v] ∧ ((∃ i : Int, v = .int i ∧ i.natAbs.log2 < 1920) ∨ v = .non) ∧ ∀ d, H1 d = none → Q (.ref C) (some d) (upd H1 d (.xd [(f, v)]))
theorem relO_sx {f : Str} {v : V} {u : Value} (r : RelV v u) (g : Str) : RelO (List.lookup g [(f, v)]) (if g = f then some u else none) := by
  by_cases hg : g = f
  · rw [if_pos hg, hg, List.lookup, beq_self_eq_true]
    exact r
  · have e : (g == f) = false := by simpa using hg
    rw [if_neg hg, List.lookup, e]
    trivial
theorem pmk_sx {a : Expr} {ta : TA} {p pos : Pos} {k : Nat} (T : SX.SxTxt X.prog X.K X.mg C fI cn f pre qual) (hr : Room k X.A) (ha : PA X [a] ta) (hg : Gl X cn) (hdb : (cn == ("__debug__" : Str)) = false := by decide)
    (he : starEach (a :: []) X.env = (false, eval a X.env) :: starEach [] X.env := by rfl) (hpl : (backTo pos (starEach [] X.env)).any (·.1) = false := by rfl) : L2N.PMk X (.Call (.Name cn p) [a] [] pos) (tMkSx C f ta) := by
  intro pins s σ H Q I h
  refine wpAny_Call_Name_kw (ld_glob I hg T.gC ?_ hdb)
  refine PySem.W.callWith_K (h₀ := X.base) I.ok.mod.kin T.kC (thn (ha.run pos pins s σ H _ I h) fun us s1 ⟨vs, H1, I1, r1, v, ev, hv, q1⟩ => ?_) he hpl
  subst ev
  refine ⟨I1.kIn, ?_⟩
  cases r1 with
  | @cons _ u _ us' rv rn =>
    cases rn
    show wpAny (model X.prog X.w) X.A (call (.ref C) [u]) _ _ _
    have hu : (∃ (i : Int) (t : Tok), u = .int i t ∧ i.natAbs.log2 < 1920) ∨ u = .none := by
      rcases hv with ⟨i, rfl, hi⟩ | rfl
      · obtain ⟨t, rfl⟩ := rv
        exact .inl ⟨i, t, rfl, hi⟩
      · exact .inr rv
    have hlim := I1.nolimit
    have hG := I1.mod.glob.keeps I1.bk
    obtain ⟨mb, hB, hBb⟩ := I1.mod.blt
    obtain ⟨hp, g, dr, tk, os⟩ := s1
    refine wpAny_call (SX.sx_made T I1.kIn hlim hG ⟨mb, hB.keeps I1.bk, hBb⟩ (by have := hr.dp; omega) hu fun h' tk' e d M => ?_)
    show L2N.MkP X pins σ Q (.ref e) ⟨h', g, dr, tk', os⟩
    obtain ⟨oe, fv, hoe, hc, hd, hdat, h1, h2⟩ := M.obj
    obtain ⟨Gh, gg, ge'⟩ := restrict h' fun b => decide (b ≠ e)
    have gk : ∀ b, b ≠ e → Gh.get? b = h'.get? b := fun b hb => gg b (decide_eq_true hb)
    have ge : Gh.get? e = none := ge' e (by simp)
    have J : Inv X pins σ (upd H1 d (.xd [(f, v)])) ⟨Gh, g, dr, tk', os⟩ := I1.laid (t' := tk') (fun b o z => (gk b (Nat.ne_of_lt (Nat.lt_of_lt_of_le (Heap.lt_size z) M.new))).trans (M.keep b o z)) M.dbig ⟨_, M.ns.at (fun o z => (gk d M.dne).trans z), fun y => relO_sx rv y⟩
    refine ⟨e, oe, fv, ⟨Gh, g, dr, tk', os⟩, _, .ref C, some d, rfl, J, fun b o z => ?_, ge, hoe, ⟨hc, hd, fun vs z => (by rw [hdat] at z; cases z; exact h2)⟩, hdat, h1, ?_, rfl, I1.bare, raises_own T.exC T.tyC, q1 d (I1.hok.fresh M.dbig)⟩
    · by_cases hb : b = e
      · rw [hb] at z
        have z' : Gh.get? e = some o := z
        rw [ge] at z'
        cases z'
      · exact (gk b hb).symm.trans z
    · rw [upd_ne (Ne.symm M.dne)]
      exact I1.hok.fresh M.new
/-- raise C(e) -/
def tRaiseSx (C : Addr) (f : Str) (W : WX) (ta : TA) : TS := fun _ σ H => tMkSx C f ta σ H fun cls d H' => W cls d σ H'
theorem ps_raiseSx {a : Expr} {ta : TA} {W : WX} {p pos pos2 : Pos} {k : Nat} (hc : X.calm = true) (T : SX.SxTxt X.prog X.K X.mg C fI cn f pre qual) (hr : Room k X.A) (tk : L2N.Takes X W) (ha : PA X [a] ta) (hg : Gl X cn) (hdb : (cn == ("__debug__" : Str)) = false := by decide)
    (he : starEach (a :: []) X.env = (false, eval a X.env) :: starEach [] X.env := by rfl) (hpl : (backTo pos (starEach [] X.env)).any (·.1) = false := by rfl) :
    PS X (.Raise (some (.Call (.Name cn p) [a] [] pos)) none pos2) (tRaiseSx C f W ta) := L2N.ps_raise hc tk (pmk_sx T hr ha hg hdb he hpl)
/-- a def that may raise, its exception's context being None -/
theorem okN {P : Program} {w : World} {K : PySem.W.Frag} {mg : Str → Option Value} {base : Heap} {x qual : Str} {st : Stmt} {f : Addr} {fd : FuncData} {N ps : List Str} {k : Nat} {sp : Sp} (F : Fun K x qual st f fd) (S : FnScope N ps (defScope st)) (len : ∀ vs H Q E, sp vs H Q E → vs.length = ps.length)
    (body : ∀ (cdv : Value) (A : Around) (outer : List Env) (s : Shared) (H : Hp) (vs : List V) (Q : VK) (E : XK), Room k (A.deeper (envOfC qual (defScope st) s.heap.objs.size f cdv)) → sp vs H Q E →
      ∃ t, PSs (cxOf (L2N.CX P w) P w K mg base N qual (defScope st) f cdv A outer s H E) (defBody st) t ∧ t { nx := fun _ H' => Q .non H', rt := Q } (start N vs) H) : FnOk P w K mg base (L2N.CX P w) (k + 1) f fd ps sp := by
  obtain ⟨oc, od, kV, doc, pm, an, cdv, ct, osl, rfl, lk, hcd⟩ := F.ex
  exact fn_of lk hcd S len fun A outer s H vs Q E => body cdv A outer s H vs Q E
/-- a def called while an exception is handled -/
theorem okH {P : Program} {w : World} {K : PySem.W.Frag} {mg : Str → Option Value} {base : Heap} {x qual : Str} {st : Stmt} {f : Addr} {fd : FuncData} {N ps : List Str} {k : Nat} {sp : Sp} (F : Fun K x qual st f fd) (S : FnScope N ps (defScope st)) (len : ∀ vs H Q E, sp vs H Q E → vs.length = ps.length)
    (body : ∀ (cdv : Value) (A : Around) (outer : List Env) (s : Shared) (H : Hp) (vs : List V) (Q : VK) (E : XK) (p : Addr × Obj), L2H.Hot1 A p → L2H.RoomH k (A.deeper (envOfC qual (defScope st) s.heap.objs.size f cdv)) → sp vs H Q E →
      ∃ t, PSs (L2H.cxH CX0 P w K mg base N qual (defScope st) f cdv A outer s H E p) (defBody st) t ∧ t { nx := fun _ H' => Q .non H', rt := Q } (start N vs) H) : L2H.FnH P w K mg base CX0 (k + 1) f fd ps sp := by
  obtain ⟨oc, od, kV, doc, pm, an, cdv, ct, osl, rfl, lk, hcd⟩ := F.ex
  exact L2H.fn_ofH lk hcd S len fun A outer s H vs Q E p => body cdv A outer s H vs Q E p
/-- x.f, x the exception that the suite holds -/
def tSxF (C : Addr) (f : Str) (a : Addr) (cls : Value) (d : Option Addr) (te : TE) : TE := fun σ H Q => te σ H fun x H1 => x = .ref a ∧ cls = .ref C ∧ ∃ (dd : Addr) (v : V), d = some dd ∧ H1 dd = some (.xd [(f, v)]) ∧ Q v H1
theorem pe_sxF {prog : Program} {a : Addr} {oe : Obj} {cls : Value} {d : Option Addr} {pn : List (Addr × Obj)} {e : Expr} {te : TE} {pos : Pos} (T : SX.SxTxt prog X.K X.mg C fI cn f pre qual) (hz : Zc cls d oe) (hf : ∃ vs, oe.data = .fields vs) (he : PE (X.suite a ((a, oe) :: pn)) e te)
    (hb : attributeBase e f X.env (eval e X.env) = eval e X.env := by rfl) : PE (X.suite a ((a, oe) :: pn)) (.Attribute e f pos) (tSxF C f a cls d te) := by
  refine ⟨fun pins s σ H Q I h => ?_⟩
  refine attr_of hb (thn (he.run pins s σ H _ I h) fun u s1 ⟨x, H1, I1, rx, ex, ec, dd, v, ed, ea, q⟩ => ?_)
  subst ex
  obtain rfl : u = Value.ref a := rx
  subst ec
  subst ed
  obtain ⟨ha, _⟩ := I1.pin (a, oe) (List.mem_append_left _ List.mem_cons_self)
  obtain ⟨vs, hd⟩ := hf
  have hx : ObjOk X.prog X.w H1 s1.heap dd (.xd [(f, v)]) := I1.hok dd _ ea
  obtain ⟨mA, hns, hr⟩ := hx
  obtain ⟨od, ho, hl⟩ := lookIn_ns hns
  have l : List.lookup f [(f, v)] = some v := by rw [List.lookup, beq_self_eq_true]
  obtain ⟨u, hu, ru⟩ := RelO.some_of (v := v) (o := mA f) (by rw [← l]; exact hr f)
  have J : PySem.W.InstAt s1.heap a oe C (some od) := ⟨ha, hz.1, by unfold PySem.W.notCls; rw [hd] <;> rfl, by rw [hz.2]; exact ho⟩
  exact HandSPX.exc_get I1.kIn J T.ga T.gg T.exC (PySem.W.findObj_own T.hdC T.noN rfl (by rw [hl, hu])) (handed_of ru) ⟨v, H1, I1.tok _, ru, q⟩
end
end L2

namespace K7
open PySem PySem.Spec PyProof.Rows L2
/-! ### bytes_behind, told -/
def asIt : Any → Itm
  | .num n => .b n.toNat
  | .tup [m, b] => .c m.toNat b.toNat
  | _ => .b 0
theorem step_bad {size : Int} : ∀ {x : Any}, itemB x = false → stepA size x = none
  | .num n, h => if_neg (of_decide_eq_false h)
  | .lst _, _ => rfl
  | .tup [], _ => rfl
  | .tup [_], _ => rfl
  | .tup (_ :: _ :: _ :: _), _ => rfl
  | .tup [m, b], h => by
    have h' : (decide (3 ≤ m ∧ m ≤ 18) && decide (1 ≤ b ∧ b ≤ 1024)) = false := h
    refine if_neg fun z => ?_
    rw [decide_eq_true (show 3 ≤ m ∧ m ≤ 18 by omega), decide_eq_true (show 1 ≤ b ∧ b ≤ 1024 by omega)] at h'
    cases h'
theorem log_small {n : Nat} (h : n ≤ 100000) : ((n : Int)).natAbs.log2 < 1920 := by
  rw [Int.natAbs_natCast]
  by_cases hn : n = 0
  · subst hn; decide
  · exact (Nat.log2_lt hn).mpr (Nat.lt_of_le_of_lt h (by decide +kernel))
theorem bi_byB {ks : List Nat} (h : ∀ k ∈ ks, k < 256) : (bi (byB ks)).map V.int = bys ks := by
  unfold bys byB
  congr 1
  show (List.map Nat.toUInt8 ks).toArray.toList.map (fun c => (c.toNat : Int)) = ks.map fun (k : Nat) => (k : Int)
  rw [List.map_map]
  refine List.map_congr_left fun k m => ?_
  show ((k.toUInt8.toNat : Nat) : Int) = k
  have := h k m
  have e : k.toUInt8.toNat = k := by
    rw [Nat.toUInt8_eq, UInt8.toNat_ofNat']
    exact Nat.mod_eq_of_lt this
  rw [e]
theorem byB_of (ks : List Nat) : byteArr (ks.map fun (k : Nat) => (k : Int)) = byB ks := by
  unfold byteArr byB
  rw [List.map_map]
  rfl
theorem byB_size (ks : List Nat) : (byB ks).size = ks.length := by
  unfold byB
  simp
abbrev NBh : List Str := ["items", "ahead", "whole", "at", "item"]
section
variable {P : Program} {w : World} {K : PySem.W.Frag} {mg : Str → Option Value} {base : Heap} {CI fE : Addr}
abbrev BadIt (P : Program) (K : PySem.W.Frag) (mg : Str → Option Value) (CI fE : Addr) : Prop := SX.SxTxt P K mg CI fE "BadItems" "at" "no row of items, seen at " "BadItems.__init__"
def spBehind (C : Addr) : Sp := fun vs H Q E => ∃ (pr : Addr) (us : List V) (any : List Any) (lead : List Nat), vs = [.ref pr, .byt (byB lead)] ∧ H pr = some (.lst us) ∧ Paired (AnyAt H) any us ∧ (∀ k ∈ lead, k < 256) ∧ lead.length ≤ 5000 ∧ any.length ≤ 1000 ∧
  (∀ n : Nat, firstBad (lead.length : Int) 0 any = some n → ∀ H' d, Same H H' → H' d = some (.xd [("at", .int (n : Int))]) → E (.ref C) (some d) H') ∧
  (firstBad (lead.length : Int) 0 any = none → ∀ H' due, Same H H' → tells lead (any.map asIt) = some (lead ++ due) → (∀ k ∈ due, k < 256) → due.length ≤ 18 * any.length → Q (.byt (byB due)) H')
end
end K7

namespace K7
open PySem PySem.Spec PyProof.Rows L2
/-! ### told, bits_of -/
theorem passF {P : Program} {w : World} {X : Cx} : Passes (L2N.CX P w) X (fun _ _ _ => False) := fun _ _ _ _ _ _ _ c => by
  obtain ⟨_, _, _, _, _, _, _, _, _, _, _, _, z⟩ := c
  exact z.elim
abbrev NBt : List Str := ["items", "prices", "at", "item", "letters", "backs", "costs"]
/-- all costs' sum, none where one is none -/
def sumO : List (Option Int) → Option Int
  | [] => some 0
  | none :: _ => none
  | some x :: r => (sumO r).map (x + ·)
section
variable {P : Program} {w : World} {K : PySem.W.Frag} {mg : Str → Option Value} {base : Heap} {CI fE C fPI fL fB : Addr}
/-! ### bits_of -/
def toAny : Itm → Any
  | .b k => .num (k : Int)
  | .c m r => .tup [(m : Int), (r : Int)]
theorem toAny_at {H : Hp} {it : Itm} {v : V} (h : ItmAt H it v) : AnyAt H (toAny it) v := by
  cases it with
  | b k => exact h
  | c m r => exact h
theorem toAny_ok {it : Itm} (h : ItmOk it) : itemB (toAny it) = true := by
  cases it with
  | b k =>
    have h' : k < 256 := h
    exact decide_eq_true (by omega)
  | c m r =>
    obtain ⟨h1, h2, h3, h4⟩ := h
    show (decide (3 ≤ (m : Int) ∧ (m : Int) ≤ 18) && decide (1 ≤ (r : Int) ∧ (r : Int) ≤ 1024)) = true
    rw [decide_eq_true (show 3 ≤ (m : Int) ∧ (m : Int) ≤ 18 by omega), decide_eq_true (show 1 ≤ (r : Int) ∧ (r : Int) ≤ 1024 by omega)]
    rfl
def bitsO (L B : List Int) (its : List Itm) : Option Int := sumO (its.map (costO L B))
theorem sumO_none : ∀ {cs : List (Option Int)}, none ∈ cs → sumO cs = none
  | none :: _, _ => rfl
  | some x :: r, h => by
    have h' : none ∈ r := by simpa using h
    show (sumO r).map (x + ·) = none
    rw [sumO_none h']
    rfl
theorem sumO_some : ∀ (ns : List Int), sumO (ns.map some) = some ns.sum
  | [] => rfl
  | x :: r => by
    show (sumO (r.map some)).map (x + ·) = some (x :: r).sum
    rw [sumO_some r]
    rfl
theorem all_some : ∀ {cs : List (Option Int)}, none ∉ cs → ∃ ns : List Int, cs = ns.map some
  | [], _ => ⟨[], rfl⟩
  | none :: _, h => absurd (List.mem_cons_self ..) h
  | some x :: r, h => by
    obtain ⟨ns, e⟩ := all_some (cs := r) (fun z => h (List.mem_cons_of_mem _ z))
    exact ⟨x :: ns, by rw [e]; rfl⟩
theorem inV_non (cs : List (Option Int)) : inV .non (cs.map optV) = decide (none ∈ cs) := by
  induction cs with
  | nil => rfl
  | cons c r ih =>
    have e : inV .non ((c :: r).map optV) = (eqV (optV c) .non || inV .non (r.map optV)) := rfl
    rw [e, ih]
    cases c with
    | none => simp [eqV, optV]
    | some x => simp [eqV, optV]
theorem flat_opt (cs : List (Option Int)) : (cs.map optV).all flatV = true := by
  rw [List.all_map]
  refine List.all_eq_true.mpr fun c _ => ?_
  cases c with
  | none => rfl
  | some x => rfl
def spBits (C : Addr) : Sp := fun vs H Q _ => ∃ (pr pp : Addr) (us : List V) (its : List Itm) (L B : List Int), vs = [.ref pr, .ref pp] ∧ H pr = some (.lst us) ∧ RowAt H its us ∧ (∀ it ∈ its, ItmOk it) ∧ its.length ≤ 1000 ∧ PcAt C H pp L B ∧ PrL 273 L ∧ PrL 11 B ∧
  ∀ H', Same H H' → Q (optV (bitsO L B its)) H'
end
end K7

namespace K7
open PySem PySem.Spec PyProof.Rows L2 SBX
open K2 (wAt coinsL)
/-! ### rows as words: pure -/
def wdL (ls : List Int) (k : Nat) : List Nat := (wdS ls k).cps.toList
theorem tx_wd (ls : List Int) (k : Nat) : wdS ls k = tx (wdL ls k) := by
  unfold wdL tx
  rw [Array.toArray_toList]
theorem wdL_len {ls : List Int} (h : WdOk ls) {k : Nat} (hk : k < ls.length) (h0 : 0 < ls.getD k 0) : ((wdL ls k).length : Int) = ls.getD k 0 := by
  have := wd_len h hk h0
  rw [tx_wd, tx_len] at this
  exact this
def itT (L B : List Int) : Itm → List Nat
  | .b k => wdL L k
  | .c m r => wdL L (254 + m) ++ wdL B (Nat.log2 r) ++ bitsL (r - 2 ^ Nat.log2 r) (Nat.log2 r)
def rowT (L B : List Int) (its : List Itm) : List Nat := (its.map (itT L B)).flatten ++ wdL L 256
theorem getD_nn' {X : List Int} (hX : ∀ x ∈ X, 0 ≤ x) (k : Nat) : 0 ≤ X.getD k 0 := by
  rw [List.getD_eq_getElem?_getD]
  cases q : X[k]? with
  | none => exact Int.le_refl 0
  | some x => exact hX x (List.mem_of_getElem? q)
structure WP (L B : List Int) : Prop where
  l : WdOk L
  b : WdOk B
  l273 : L.length = 273
  b11 : B.length = 11
theorem log_lt {r : Nat} (h1 : 1 ≤ r) (h : r ≤ 1024) : Nat.log2 r < 11 := (Nat.log2_lt (by omega)).mpr (by omega)
theorem cost_pos {L B : List Int} (W : WP L B) {m r : Nat} {c : Int} (h : costO L B (.c m r) = some c) : 0 < L.getD (254 + m) 0 ∧ 0 < B.getD (Nat.log2 r) 0 ∧ c = L.getD (254 + m) 0 + B.getD (Nat.log2 r) 0 + (Nat.log2 r : Nat) := by
  have h : (if L.getD (254 + m) 0 = 0 ∨ B.getD (Nat.log2 r) 0 = 0 then none else some (L.getD (254 + m) 0 + B.getD (Nat.log2 r) 0 + (Nat.log2 r : Nat))) = some c := h
  have h1 := getD_nn' (fun x hx => (W.l.in_ x hx).1) (254 + m)
  have h2 := getD_nn' (fun x hx => (W.b.in_ x hx).1) (Nat.log2 r)
  by_cases q : L.getD (254 + m) 0 = 0 ∨ B.getD (Nat.log2 r) 0 = 0
  · rw [if_pos q] at h
    cases h
  · rw [if_neg q] at h
    have e := Option.some.inj h
    omega
theorem cost_byte {L B : List Int} {k : Nat} {c : Int} (h : costO L B (.b k) = some c) : 0 < L.getD k 0 ∧ c = L.getD k 0 := by
  have h : (if 0 < L.getD k 0 then some (L.getD k 0) else none) = some c := h
  by_cases q : 0 < L.getD k 0
  · rw [if_pos q] at h
    exact ⟨q, (Option.some.inj h).symm⟩
  · rw [if_neg q] at h
    cases h
theorem itT_len {L B : List Int} (W : WP L B) {it : Itm} (ok : ItmOk it) {c : Int} (h : costO L B it = some c) : ((itT L B it).length : Int) = c := by
  have h3 := W.l273
  have h4 := W.b11
  cases it with
  | b k =>
    have hk : k < 256 := ok
    obtain ⟨h1, rfl⟩ := cost_byte h
    exact wdL_len W.l (by omega) h1
  | c m r =>
    obtain ⟨o1, o2, o3, o4⟩ := ok
    have hl := log_lt o3 o4
    obtain ⟨h1, h2, rfl⟩ := cost_pos W h
    show (((wdL L (254 + m) ++ wdL B (Nat.log2 r) ++ bitsL (r - 2 ^ Nat.log2 r) (Nat.log2 r)).length : Nat) : Int) = _
    rw [List.length_append, List.length_append, bits_len]
    have e1 := wdL_len W.l (k := 254 + m) (by omega) h1
    have e2 := wdL_len W.b (k := Nat.log2 r) (by omega) h2
    omega
theorem sumO_some' {cs : List (Option Int)} {c : Int} (h : sumO cs = some c) : ∀ x ∈ cs, x ≠ none := fun x hx e => by
  rw [sumO_none (e ▸ hx)] at h
  cases h
theorem rowT_len {L B : List Int} (W : WP L B) : ∀ {its : List Itm} {c : Int}, (∀ it ∈ its, ItmOk it) → bitsO L B its = some c → ((((its.map (itT L B)).flatten).length : Nat) : Int) = c
  | [], c, _, h => by
    have h : some (0 : Int) = some c := h
    exact Option.some.inj h
  | it :: r, c, ok, h => by
    have h' : sumO (costO L B it :: r.map (costO L B)) = some c := h
    have hn := sumO_some' h' _ (List.mem_cons_self ..)
    cases e : costO L B it with
    | none => exact absurd e hn
    | some a =>
      rw [e] at h'
      have h2 : (sumO (r.map (costO L B))).map (a + ·) = some c := h'
      obtain ⟨b, hb, rfl⟩ := Option.map_eq_some_iff.mp h2
      have ih := rowT_len W (its := r) (fun x hx => ok x (List.mem_cons_of_mem _ hx)) hb
      have i1 := itT_len W (ok it (List.mem_cons_self ..)) e
      rw [List.map_cons, List.flatten_cons, List.length_append]
      omega
/-! ### item_written -/
theorem WdAt.get {H : Hp} {d : Addr} {ls : List Int} (h : WdAt H d ls) {k : Nat} (hk : k < ls.length) (h0 : 0 < ls.getD k 0) : DGet H d (.int (k : Int)) (some (.str (tx (wdL ls k)))) := by
  obtain ⟨kvs, h1, _, h2⟩ := h
  have g := DGet.k (k := .inl (k : Int)) h1
  rw [h2 k hk h0, tx_wd] at g
  exact g
section
variable {P : Program} {w : World} {K : PySem.W.Frag} {mg : Str → Option Value} {base : Heap}
def spItemW : Sp := fun vs H Q _ => ∃ (v : V) (it : Itm) (d1 d2 : Addr) (L B : List Int) (c : Int), vs = [v, .ref d1, .ref d2] ∧ ItmAt H it v ∧ ItmOk it ∧ WdAt H d1 L ∧ WdAt H d2 B ∧ WP L B ∧ costO L B it = some c ∧ Q (.str (tx (itT L B it))) H
end
end K7

namespace K7
open PySem PySem.Spec PyProof.Rows L2 SBX
open K2 (wAt coinsL)
/-! ### row_written, _law_row_bits -/
theorem WdAt.same {H H' : Hp} {d : Addr} {ls : List Int} (h : WdAt H d ls) (s : Same H H') : WdAt H' d ls := by
  obtain ⟨kvs, h1, h2⟩ := h
  exact ⟨kvs, s _ _ h1, h2⟩
theorem itT_le {L B : List Int} (W : WP L B) {it : Itm} (ok : ItmOk it) {c : Int} (h : costO L B it = some c) : (itT L B it).length ≤ 34 := by
  have h1 := itT_len W ok h
  have h3 := W.l273
  have h4 := W.b11
  cases it with
  | b k =>
    have hk : k < 256 := ok
    obtain ⟨h2, rfl⟩ := cost_byte h
    have b1 := (W.l.in_ _ (getD_memI (ls := L) (i := k) (by omega))).2
    omega
  | c m r =>
    obtain ⟨o1, o2, o3, o4⟩ := ok
    have hlog := log_lt o3 o4
    obtain ⟨_, _, rfl⟩ := cost_pos W h
    have b1 := (W.l.in_ _ (getD_memI (ls := L) (i := 254 + m) (by omega))).2
    have b2 := (W.b.in_ _ (getD_memI (ls := B) (i := Nat.log2 r) (by omega))).2
    omega
theorem row_le {L B : List Int} (W : WP L B) : ∀ {its : List Itm}, (∀ it ∈ its, ItmOk it ∧ costO L B it ≠ none) → ((its.map (itT L B)).map List.length).sum ≤ 34 * its.length
  | [], _ => Nat.le_refl _
  | it :: r, h => by
    obtain ⟨h1, h2⟩ := h it (List.mem_cons_self ..)
    cases e : costO L B it with
    | none => exact absurd e h2
    | some c =>
      have i1 := itT_le W h1 e
      have ih := row_le W (its := r) fun x hx => h x (List.mem_cons_of_mem _ hx)
      rw [List.map_cons, List.map_cons, List.sum_cons, List.length_cons]
      omega
theorem paired_at {α β : Type} {F : α → β → Prop} : ∀ {l : List α} {m : List β}, Paired F l m → ∀ {i : Nat} {y : β}, m[i]? = some y → ∃ x, l[i]? = some x ∧ F x y
  | _, _, .nil, i, y, h => by simp at h
  | _, _, .cons p r, 0, y, h => by
    have h : some _ = some y := h
    obtain rfl := Option.some.inj h
    exact ⟨_, rfl, p⟩
  | _, _, .cons p r, i + 1, y, h => paired_at r (i := i) h
abbrev NRW : List Str := ["row", "lengths", "letters", "backs", "letter_words", "back_words", "item"]
abbrev NLR : List Str := ["_law_row", "_law_letters", "_law_backs", "_law_mine", "_law_theirs", "_law_found", "_law_item", "_law_sort"]
theorem scLRowB : FnScope NLR ["_law_row", "_law_letters", "_law_backs"] (defScope sLRowB) := ⟨rfl, rfl, rfl, by decide +kernel, rfl, by decide +kernel, by decide +kernel⟩
section
variable {P : Program} {w : World} {K : PySem.W.Frag} {mg : Str → Option Value} {base : Heap}
def spRowW (K : PySem.W.Frag) : Sp := fun vs H Q _ => ∃ (pr t pL pB : Addr) (us : List V) (its : List Itm) (L B : List Int), vs = [.ref pr, .ref t] ∧ H pr = some (.lst us) ∧ RowAt H its us ∧ H t = some (.tup [.ref pL, .ref pB]) ∧ H pL = some (.lst (L.map V.int)) ∧ H pB = some (.lst (B.map V.int)) ∧
  WP L B ∧ (∀ it ∈ its, ItmOk it ∧ costO L B it ≠ none) ∧ its.length ≤ 10000 ∧ 0 < L.getD 256 0 ∧ ∀ H', Same H H' → Q (.str (tx (rowT L B its))) H'
def spLRowB : Sp := fun vs H Q _ => ∃ (pr pL pB : Addr) (us : List V) (its : List Itm) (L B : List Int), vs = [.ref pr, .ref pL, .ref pB] ∧ H pr = some (.lst us) ∧ RowAt H its us ∧ H pL = some (.lst (L.map V.int)) ∧ H pB = some (.lst (B.map V.int)) ∧
  WP L B ∧ (∀ it ∈ its, ItmOk it ∧ costO L B it ≠ none) ∧ its.length ≤ 10000 ∧ 0 < L.getD 256 0 ∧ ∀ H', Same H H' → Q (.str (tx (rowT L B its))) H'
theorem ok_lrowB {f fW fB fL : Addr} {fd fdW fdB fdL : FuncData} {j k1 k2 k3 : Nat} (F : Fun K "_law_row_bits" "_law_row_bits" sLRowB f fd)
    (GW : FnOk P w K mg base CX0 k1 fW fdW ["_law_lengths"] spLWords) (bW : Binds K fdW ["_law_lengths"] []) (kW : PySem.W.keepIn K (.ref fW) = true) (gW : mg "_law_words" = some (.ref fW)) (l1 : k1 ≤ j)
    (GB : FnOk P w K mg base CX0 k2 fB fdB ["_law_back_here"] spBack) (bB : Binds K fdB ["_law_back_here"] []) (kB : PySem.W.keepIn K (.ref fB) = true) (gB : mg "_law_back" = some (.ref fB)) (l2 : k2 ≤ j)
    (GL : FnOk P w K mg base CX0 k3 fL fdL ["_law_number", "_law_breadth"] spLBits) (bL : Binds K fdL ["_law_number", "_law_breadth"] []) (kL : PySem.W.keepIn K (.ref fL) = true) (gL : mg "_law_bits" = some (.ref fL)) (l3 : k3 ≤ j)
    (m1 : mg "isinstance" = none) (m2 : mg "int" = none) : FnOk P w K mg base CX0 (j + 1) f fd ["_law_row", "_law_letters", "_law_backs"] spLRowB := by
  refine F.ok scLRowB (fun vs H Q E h => ?_) (fun cdv A outer s H vs Q E hr h => ?_)
  · obtain ⟨pr, pL, pB, us, its, L, B, rfl, _⟩ := h
    rfl
  · obtain ⟨pr, pL, pB, us, its, L, B, rfl, hpr, hrow, hL, hB, W, hok, hn, hE, q⟩ := h
    have hz := PySem.sizeLine_eq
    have h3 := W.l273
    have h4 := W.b11
    refine ⟨_, pss_cons (ps_par3 (i := 3) (j := 4) (l := 5) rfl scLRowB.nd rfl rfl rfl (by decide) (by decide) (by decide) rfl rfl rfl (pa_cons (pe_call GW (hr.mono l1) (by rfl) gW kW bW .nil pass0 (pa_cons (pv 1) pa_nil))
        (pa_cons (pe_call GW (hr.mono l1) (by rfl) gW kW bW .nil pass0 (pa_cons (pv 2) pa_nil)) (pa_cons pe_str pa_nil))) (by rfl))
      (pss_cons (ps_for PassesOwn.never rfl (pi_list (pv 0)) (pg_name (i := 6) scLRowB.nd rfl (.inl rfl))
        (pss_one (ps_if (pt_val (pe_callB call_isi (by rfl) m1 (by decide +kernel) (pa_cons (pv 6) (pa_cons (pe_bltn (v := .ty "int") (by rfl) m2 (by decide +kernel) rfl) pa_nil))))
          (pss_one (ps_set (i := 5) scLRowB.nd rfl (.inl rfl) (pe_op op_add_str (pv 5) (pe_dget (hu_of hr) (pv 3) (pv 6) (fun _ _ => rfl)))))
          (pss_cons (ps_set (i := 7) scLRowB.nd rfl (.inl rfl) (pe_call GB (hr.mono l2) (by rfl) gB kB bB .nil pass0 (pa_cons (pe_ix ix_tup (pv 6) pe_int (fun _ _ => rfl)) pa_nil)))
          (pss_cons (ps_set (i := 5) scLRowB.nd rfl (.inl rfl) (pe_op op_add_str (pe_op op_add_str (pv 5) (pe_dget (hu_of hr) (pv 3) (pe_op op_add pe_int (pe_ix ix_tup (pv 6) pe_int (fun _ _ => rfl))) (fun _ _ => rfl))) (pe_dget (hu_of hr) (pv 4) (pv 7) (fun _ _ => rfl))))
          (pss_one (ps_set (i := 5) scLRowB.nd rfl (.inl rfl) (pe_op op_add_str (pv 5) (pe_call GL (hr.mono l3) (by rfl) gL kL bL .nil pass0 (pa_cons (pe_op op_sub (pe_ix ix_tup (pv 6) pe_int (fun _ _ => rfl)) (pe_op op_shl pe_int (pv 7))) (pa_cons (pv 7) pa_nil)))))))))))
      (pss_one (ps_ret (pe_op op_add_str (pv 5) (pe_dget (hu_of hr) (pv 3) pe_int (fun _ _ => rfl)))))), ?_⟩
    refine ⟨_, rfl, pL, L, rfl, hL, W.l, fun H1 d1 s1 n1 w1 => ?_⟩
    refine ⟨_, rfl, pB, B, rfl, s1 _ _ hB, W.b, fun H2 d2 s2 n2 w2 => ?_⟩
    have s12 := s1.trans s2
    have w1' := w1.same s2
    have hul := hrow.length
    refine ⟨_, _, _, rfl, ?_⟩
    refine ⟨_, rfl, pr, rfl, ⟨_, .inl (.inl (s12 _ _ hpr))⟩, ?_⟩
    refine for_list (K := K) (a := pr) (xs := us) (fun i σ H' => ∃ y6 y7 : Option V, σ = [some (.ref pr), some (.ref pL), some (.ref pB), some (.ref d1), some (.ref d2), some (.str (tx (((its.take i).map (itT L B)).flatten))), y6, y7] ∧ Same H2 H') ⟨none, none, rfl, Same.refl _⟩ (fun i σ H' _ z => ?_) (fun i x σ H' hx z => ?_) (fun σ H' z => ?_)
    · obtain ⟨_, _, _, sm⟩ := z
      exact .inl (.inl (sm _ _ (s12 _ _ hpr)))
    · obtain ⟨y6, y7, rfl, sm⟩ := z
      obtain ⟨it, hit, hat0⟩ := paired_at hrow hx
      obtain ⟨o1, o2⟩ := hok it (List.mem_of_getElem? hit)
      obtain ⟨c, hc⟩ := Option.ne_none_iff_exists'.mp o2
      have hil := (List.getElem?_eq_some_iff.mp hit).1
      have hat := (hat0.same s12).same sm
      have hi34 := itT_le W o1 hc
      have hpre : ((((its.take i).map (itT L B)).flatten)).length ≤ 340000 := by
        rw [List.length_flatten]
        have := row_le W (its := its.take i) fun x hx => hok x (List.mem_of_mem_take hx)
        rw [List.length_take] at this
        omega
      have hnx : ((its.take (i + 1)).map (itT L B)).flatten = ((its.take i).map (itT L B)).flatten ++ itT L B it := by
        rw [List.take_add_one, hit, List.map_append, List.flatten_append]
        simp
      rw [hnx]
      dsimp only [gName]
      have wa := w1'.same sm
      have wb := w2.same sm
      generalize ((its.take i).map (itT L B)).flatten = pre at *
      cases it with
      | b k =>
        obtain rfl : x = .int (k : Int) := hat
        have k0 : k < 256 := o1
        obtain ⟨h1, _⟩ := cost_byte hc
        refine ⟨_, rfl, _, _, _, _, _, rfl, .ty "int", .base (.int _), kit_ty (a := "int") (r := true) (by decide +kernel), _, rfl, iteT ?_⟩
        refine ⟨_, rfl, _, rfl, _, rfl, d1, .str (tx (wdL L k)), rfl, wa.get (by omega) h1, _, _, rfl, rfl, by rw [tx_len, tx_len]; have : (wdL L k).length ≤ 34 := hi34; omega, ?_⟩
        rw [tx_app]
        exact ⟨_, _, rfl, sm⟩
      | c m r =>
        obtain ⟨t, rfl, ht⟩ := hat
        obtain ⟨g1, g2, g3, g4⟩ := o1
        have hlog := log_lt g3 g4
        obtain ⟨h1, h2, _⟩ := cost_pos W hc
        have e1 := wdL_len W.l (k := 254 + m) (by omega) h1
        have e2 := wdL_len W.b (k := Nat.log2 r) (by omega) h2
        have b1 := (W.l.in_ _ (getD_memI (ls := L) (i := 254 + m) (by omega))).2
        have b2 := (W.b.in_ _ (getD_memI (ls := B) (i := Nat.log2 r) (by omega))).2
        refine ⟨_, rfl, _, _, _, _, _, rfl, .ty "int", .base (.tup ht), kit_ty (a := "tuple") (r := false) (by decide +kernel), _, rfl, iteF ?_⟩
        refine ⟨_, rfl, t, _, 1, .int (r : Int), rfl, rfl, .inl (.inl ht), rfl, r, rfl, g3, by omega, ?_⟩
        dsimp only [gName]
        refine ⟨_, rfl, _, rfl, _, rfl, t, _, 0, .int (m : Int), rfl, rfl, .inl (.inl ht), rfl, _, _, rfl, rfl, d1, .str (tx (wdL L (254 + m))), rfl, wa.get (k := 254 + m) (by omega) h1, _, _, rfl, rfl, by rw [tx_len, tx_len]; omega, ?_⟩
        refine ⟨_, rfl, _, rfl, d2, .str (tx (wdL B (Nat.log2 r))), rfl, wb.get (by omega) h2, _, _, rfl, rfl, ?_, ?_⟩
        · rw [show tx pre ++ tx (wdL L (254 + m)) = tx (pre ++ wdL L (254 + m)) from tx_app _ _, tx_len, tx_len, List.length_append]
          omega
        · rw [show tx pre ++ tx (wdL L (254 + m)) = tx (pre ++ wdL L (254 + m)) from tx_app _ _, show tx (pre ++ wdL L (254 + m)) ++ tx (wdL B (Nat.log2 r)) = tx (pre ++ wdL L (254 + m) ++ wdL B (Nat.log2 r)) from tx_app _ _]
          dsimp only [gName]
          have hsubl : r - 2 ^ Nat.log2 r ≤ r := Nat.sub_le _ _
          have hself : 2 ^ Nat.log2 r ≤ r := Nat.log2_self_le (by omega)
          have esub : (r : Int) - 1 * 2 ^ ((Nat.log2 r : Nat) : Int).toNat = ((r - 2 ^ Nat.log2 r : Nat) : Int) := by
            rw [Int.toNat_natCast, Int.one_mul, Int.natCast_sub hself, Int.natCast_pow]
            rfl
          refine ⟨_, rfl, _, rfl, t, _, 1, .int (r : Int), rfl, rfl, .inl (.inl ht), rfl, _, rfl, _, _, rfl, rfl, ⟨by omega, by omega, by decide⟩, _, _, rfl, rfl, _, rfl, r - 2 ^ Nat.log2 r, Nat.log2 r, ?_, by omega, by omega, fun H4 s4 => ?_⟩
          · show [V.int ((r : Int) - 1 * 2 ^ ((Nat.log2 r : Nat) : Int).toNat), V.int ((Nat.log2 r : Nat) : Int)] = _
            rw [esub]
          · refine ⟨_, _, rfl, rfl, by rw [tx_len, bitS_len, List.length_append, List.length_append]; omega, ?_⟩
            dsimp only [gName]
            show ∃ y6 y7 : Option V, [some (V.ref pr), some (.ref pL), some (.ref pB), some (.ref d1), some (.ref d2), some (.str (tx (pre ++ wdL L (254 + m) ++ wdL B (Nat.log2 r)) ++ tx (bitsL (r - 2 ^ Nat.log2 r) (Nat.log2 r)))), some (.ref t), some (.int ((Nat.log2 r : Nat) : Int))] = _ ∧ _
            have eT : pre ++ wdL L (254 + m) ++ wdL B (Nat.log2 r) ++ bitsL (r - 2 ^ Nat.log2 r) (Nat.log2 r) = pre ++ itT L B (.c m r) := by
              show _ = pre ++ (wdL L (254 + m) ++ wdL B (Nat.log2 r) ++ bitsL (r - 2 ^ Nat.log2 r) (Nat.log2 r))
              simp only [List.append_assoc]
            rw [tx_app, eT]
            exact ⟨_, _, rfl, sm.trans s4⟩
    · obtain ⟨y6, y7, rfl, sm⟩ := z
      rw [← hul, List.take_length]
      have hw := wdL_len W.l (k := 256) (by omega) hE
      have b1 := (W.l.in_ _ (getD_memI (ls := L) (i := 256) (by omega))).2
      have hs := row_le W hok
      refine ⟨_, rfl, _, rfl, d1, .str (tx (wdL L 256)), rfl, (w1'.same sm).get (k := 256) (by omega) hE, _, _, rfl, rfl, by rw [tx_len, tx_len, List.length_flatten]; omega, ?_⟩
      rw [tx_app]
      exact q H' (s12.trans sm)
end
end K7

namespace K7
open PySem PySem.Spec PyProof.Rows L2 SBX
open K2 (wAt coinsL cnts ansL)
/-! ### own lengths: pure -/
def ltI : Itm → Nat
  | .b k => k
  | .c m _ => 254 + m
def bkI : List Itm → List Nat
  | [] => []
  | .b _ :: r => bkI r
  | .c _ b :: r => Nat.log2 b :: bkI r
def ltsI (its : List Itm) : List Nat := 256 :: its.map ltI
def ownL (its : List Itm) : List Int := ansL (cnts 273 (ltsI its)) 12
def ownB (its : List Itm) : List Int := if bkI its = [] then cnts 11 [] else ansL (cnts 11 (bkI its)) 6
theorem bkI_app : ∀ (a b : List Itm), bkI (a ++ b) = bkI a ++ bkI b
  | [], b => rfl
  | .b k :: r, b => bkI_app r b
  | .c m x :: r, b => congrArg (Nat.log2 x :: ·) (bkI_app r b)
theorem bkI_len : ∀ its : List Itm, (bkI its).length ≤ its.length
  | [] => Nat.le_refl _
  | .b k :: r => by
    have := bkI_len r
    show (bkI r).length ≤ r.length + 1
    omega
  | .c m x :: r => by
    have := bkI_len r
    show (bkI r).length + 1 ≤ r.length + 1
    omega
theorem bkI_lt : ∀ {its : List Itm}, (∀ it ∈ its, ItmOk it) → ∀ x ∈ bkI its, x < 11
  | [], _, x, m => by cases m
  | .b k :: r, h, x, m => bkI_lt (its := r) (fun y hy => h y (List.mem_cons_of_mem _ hy)) x m
  | .c a b :: r, h, x, m => by
    rcases List.mem_cons.mp m with rfl | m
    · obtain ⟨_, _, h3, h4⟩ := h (.c a b) (List.mem_cons_self ..)
      exact log_lt h3 h4
    · exact bkI_lt (its := r) (fun y hy => h y (List.mem_cons_of_mem _ hy)) x m
theorem bkI_mem : ∀ {its : List Itm} {m b : Nat}, Itm.c m b ∈ its → Nat.log2 b ∈ bkI its
  | .b k :: r, m, b, h => by
    rcases List.mem_cons.mp h with z | h
    · cases z
    · exact bkI_mem (its := r) h
  | .c x y :: r, m, b, h => by
    rcases List.mem_cons.mp h with z | h
    · cases z
      exact List.mem_cons_self ..
    · exact List.mem_cons_of_mem _ (bkI_mem (its := r) h)
theorem lts_lt {its : List Itm} (h : ∀ it ∈ its, ItmOk it) : ∀ x ∈ ltsI its, x < 273 := fun x hx => by
  rcases List.mem_cons.mp hx with rfl | hx
  · decide
  · obtain ⟨it, hi, rfl⟩ := List.mem_map.mp hx
    cases it with
    | b k => have : k < 256 := h _ hi; show k < 273; omega
    | c m r => obtain ⟨_, h2, _⟩ := h _ hi; show 254 + m < 273; omega
theorem wAt_cnts {n : Nat} {T : List Nat} {l : Nat} (h : l < n) : wAt (cnts n T) l = ((T.count l : Nat) : Int) := by
  unfold K2.wAt
  rw [List.getD_eq_getElem?_getD, K2.cnts_get h]
  rfl
theorem ask_cnts {n b : Nat} {T : List Nat} (h2 : 2 ≤ n ∧ n ≤ 300) (hT : ∀ x ∈ T, x < n) (hne : T ≠ []) (hl : T.length ≤ 100000) (hb1 : 1 ≤ b) (hb2 : b ≤ 12) (hr : n ≤ 2 ^ b) : K2.AskOk (cnts n T) b := by
  have hlen : (cnts n T).length = n := K2.cnts_len
  refine ⟨fun w hw => ?_, by omega, ?_, ?_, hb1, hb2⟩
  · obtain ⟨i, hi⟩ := List.getElem?_of_mem hw
    have hin := (List.getElem?_eq_some_iff.mp hi).1
    rw [hlen] at hin
    rw [K2.cnts_get hin] at hi
    obtain rfl := Option.some.inj hi
    have := List.count_le_length (a := i) (l := T)
    omega
  · obtain ⟨x, hx⟩ := List.exists_mem_of_ne_nil _ hne
    have hm : x ∈ K2.letN (cnts n T) := K2.letN_mem.mpr ⟨by rw [hlen]; exact hT x hx, by
      rw [wAt_cnts (hT x hx)]
      have := List.count_pos_iff.mpr hx
      omega⟩
    unfold K2.letN at hm
    have := List.length_pos_of_mem hm
    rw [List.length_map] at this
    omega
  · have := K2.coins_len (cnts n T)
    omega
theorem good_PB {ls : List Int} (h12 : ∀ x ∈ ls, x ≤ 12) (h : K2.goodB ls = true) : goodP ls = true := by
  unfold goodP
  have hu : K2.usedL ls = usedL ls := rfl
  unfold K2.goodB at h
  rw [hu] at h
  rw [Bool.or_eq_true, Bool.or_eq_true] at h
  have hpos : ∀ x ∈ usedL ls, 0 < x := fun x hx => of_decide_eq_true (List.mem_filter.mp hx).2
  rcases h with h | h | h
  · rw [of_decide_eq_true h]
    rfl
  · rw [of_decide_eq_true h]
    rfl
  · have e := of_decide_eq_true h
    have h12' : ∀ x ∈ usedL ls, x ≤ 12 := fun x hx => h12 x (List.mem_filter.mp hx).1
    have hq : ∀ n : Nat, n ≤ 12 → (4096 : Int) / 2 ^ n = 1 * 2 ^ (12 - n) := by decide
    have e2 : ((usedL ls).map fun x : Int => (1 : Int) * 2 ^ (12 - x).toNat) = (usedL ls).map fun x : Int => (4096 : Int) / 2 ^ x.toNat := List.map_congr_left fun x hx => by
      have a1 := hpos x hx
      have a2 := h12' x hx
      rw [hq x.toNat (by omega), show (12 - x).toNat = 12 - x.toNat by omega]
    by_cases q : (usedL ls).length < 2
    · exfalso
      generalize usedL ls = us at *
      match us, q with
      | [], _ => revert e; decide
      | [x], _ =>
        have a1 := hpos x (List.mem_singleton_self x)
        have a2 := h12' x (List.mem_singleton_self x)
        rw [List.map_cons, List.map_nil, List.sum_cons, List.sum_nil, hq x.toNat (by omega)] at e
        have hz : ∀ n : Nat, 1 ≤ n → n ≤ 12 → (1 : Int) * 2 ^ (12 - n) + 0 ≠ 4096 := by
          intro n h1 h2
          have : ∀ n : Nat, n ≤ 12 → 1 ≤ n → (1 : Int) * 2 ^ (12 - n) + 0 ≠ 4096 := by decide
          exact this n h2 h1
        exact hz x.toNat (by omega) (by omega) e
    · rw [if_neg q, e2]
      exact decide_eq_true e
theorem ans_ok {ws : List Int} {n : Nat} (a : K2.AskOk ws n) : WdOk (ansL ws n) ∧ (ansL ws n).length = ws.length ∧ ∀ k, k < ws.length → 0 < wAt ws k → 0 < (ansL ws n).getD k 0 := by
  have F := K2.facts a
  have hn := a.n12
  have hnn : ∀ x ∈ ansL ws n, 0 ≤ x := by
    intro x hx
    unfold K2.ansL at hx
    split at hx
    · obtain ⟨w, _, rfl⟩ := List.mem_map.mp hx
      split <;> decide
    · obtain ⟨i, _, rfl⟩ := List.mem_map.mp hx
      omega
  have h12 : ∀ x ∈ ansL ws n, x ≤ 12 := fun x hx => by
    have := F.most x hx
    omega
  refine ⟨⟨by rw [F.len]; exact a.len.2, fun x hx => ⟨hnn x hx, h12 x hx⟩, good_PB h12 F.good⟩, F.len, fun k hk h0 => ?_⟩
  have e := congrArg (fun l : List Bool => l[k]?) F.pos
  have e : ((ansL ws n).map fun x => decide (0 < x))[k]? = (ws.map fun x => decide (0 < x))[k]? := e
  rw [List.getElem?_map, List.getElem?_map, K2.wAt_get hk] at e
  have hk2 : k < (ansL ws n).length := by rw [F.len]; exact hk
  rw [List.getElem?_eq_getElem hk2] at e
  have e2 : decide (0 < (ansL ws n)[k]) = decide (0 < wAt ws k) := Option.some.inj e
  rw [List.getD_eq_getElem?_getD, List.getElem?_eq_getElem hk2]
  have : decide (0 < wAt ws k) = true := decide_eq_true h0
  rw [this] at e2
  exact of_decide_eq_true e2
structure RwOk (its : List Itm) : Prop where
  ok : ∀ it ∈ its, ItmOk it
  len : its.length ≤ 10000
theorem askL {its : List Itm} (R : RwOk its) : K2.AskOk (cnts 273 (ltsI its)) 12 := ask_cnts (by decide) (lts_lt R.ok) (by unfold ltsI; simp) (by have := R.len; unfold ltsI; simp; omega) (by decide) (by decide) (by decide)
theorem askB {its : List Itm} (R : RwOk its) (h : bkI its ≠ []) : K2.AskOk (cnts 11 (bkI its)) 6 := ask_cnts (by decide) (bkI_lt R.ok) h (by have := R.len; have := bkI_len its; omega) (by decide) (by decide) (by decide)
theorem ownWP {its : List Itm} (R : RwOk its) : WP (ownL its) (ownB its) := by
  obtain ⟨a1, a2, _⟩ := ans_ok (askL R)
  have b : WdOk (ownB its) ∧ (ownB its).length = 11 := by
    unfold ownB
    by_cases h : bkI its = []
    · rw [if_pos h]
      exact ⟨⟨by decide +kernel, by decide +kernel, by decide +kernel⟩, by decide +kernel⟩
    · rw [if_neg h]
      obtain ⟨b1, b2, _⟩ := ans_ok (askB R h)
      exact ⟨b1, b2.trans K2.cnts_len⟩
  exact ⟨a1, b.1, a2.trans K2.cnts_len, b.2⟩
theorem own_pos {its : List Itm} (R : RwOk its) : 0 < (ownL its).getD 256 0 ∧ ∀ it ∈ its, costO (ownL its) (ownB its) it ≠ none := by
  obtain ⟨_, _, a3⟩ := ans_ok (askL R)
  have hL : ∀ x ∈ ltsI its, 0 < (ownL its).getD x 0 := fun x hx => by
    have hlt := lts_lt R.ok x hx
    refine a3 x (by rw [K2.cnts_len]; exact hlt) ?_
    rw [wAt_cnts hlt]
    have := List.count_pos_iff.mpr hx
    omega
  refine ⟨hL 256 (List.mem_cons_self ..), fun it hi => ?_⟩
  have h1 := hL (ltI it) (List.mem_cons_of_mem _ (List.mem_map.mpr ⟨it, hi, rfl⟩))
  cases it with
  | b k =>
    have h1 : 0 < (ownL its).getD k 0 := h1
    show (if 0 < (ownL its).getD k 0 then _ else none) ≠ none
    rw [if_pos h1]
    exact fun z => by cases z
  | c m r =>
    have h1 : 0 < (ownL its).getD (254 + m) 0 := h1
    have hb := bkI_mem hi
    have hne : bkI its ≠ [] := fun z => by rw [z] at hb; cases hb
    obtain ⟨_, _, b3⟩ := ans_ok (askB R hne)
    have hlt := bkI_lt R.ok _ hb
    have h2 : 0 < (ownB its).getD (Nat.log2 r) 0 := by
      unfold ownB
      rw [if_neg hne]
      refine b3 _ (by rw [K2.cnts_len]; exact hlt) ?_
      rw [wAt_cnts hlt]
      have := List.count_pos_iff.mpr hb
      omega
    show (if (ownL its).getD (254 + m) 0 = 0 ∨ (ownB its).getD (Nat.log2 r) 0 = 0 then none else _) ≠ none
    rw [if_neg (by omega)]
    exact fun z => by cases z
end K7

/-! ### int(t, 2), t signs 0 and 1 -/
namespace SBX
open PySem PySem.Spec PyProof.Rows L2 PySem.NumText PySem.Calls L2.Hx
def IsBit (c : Nat) : Prop := c = 48 ∨ c = 49
theorem IsBit.hex {c : Nat} (h : IsBit c) : IsHex c := .inl (by unfold IsBit at h; omega)
def binNum (l : List Nat) : Nat := l.foldl (fun a c => a * 2 + (c - 48)) 0
theorem hv_bit {c : Nat} (h : IsBit c) : hv c = c - 48 ∧ c - 48 < 2 := by
  rcases h with rfl | rfl <;> decide
theorem step_bit {d : Array Nat} {b : Bool} {c : Nat} (h : IsBit c) : PySem.NumText.step 2 (d, b) c = some (d.push (c - 48), true) := by
  have ne : ¬ (c == 95) = true := by
    rw [beq_iff_eq]
    unfold IsBit at h
    omega
  unfold PySem.NumText.step
  rw [if_neg ne, digit_hex h.hex, (hv_bit h).1]
  exact if_pos (hv_bit h).2
theorem fold_bit : ∀ (l : List Nat) (d : Array Nat), (∀ c ∈ l, IsBit c) → l.foldlM (PySem.NumText.step 2) (d, true) = some (l.foldl (fun a c => a.push (c - 48)) d, true) := fun l => by
  induction l with
  | nil => exact fun _ _ => rfl
  | cons c r ih =>
    intro d h
    rw [List.foldlM_cons, step_bit (h c List.mem_cons_self), List.foldl_cons]
    exact ih _ fun x hx => h x (List.mem_cons_of_mem _ hx)
theorem push_bit : ∀ (l : List Nat) (d : Array Nat), (l.foldl (fun a c => a.push (c - 48)) d).foldl (fun a x => a * 2 + x) 0 = l.foldl (fun a c => a * 2 + (c - 48)) (d.foldl (fun a x => a * 2 + x) 0) := fun l => by
  induction l with
  | nil => exact fun _ => rfl
  | cons c r ih =>
    intro d
    rw [List.foldl_cons, List.foldl_cons, ih]
    congr 1
    simp
theorem based_bit {l : List Nat} (h : ∀ c ∈ l, IsBit c) : based 2 l = (2, false, l) := by
  match l, h with
  | [], _ => rfl
  | [a], h => rcases h a List.mem_cons_self with rfl | rfl <;> rfl
  | a :: b :: r, h =>
    rcases h a List.mem_cons_self with rfl | rfl <;> rcases h b (List.mem_cons_of_mem _ List.mem_cons_self) with rfl | rfl <;> rfl
theorem read_bit {l : List Nat} (h : ∀ c ∈ l, IsBit c) (ne : l ≠ []) : (int_private% "readNumeral") 0 2 l = (int_private% "Numeral.value") ((binNum l : Nat) : Int) := by
  have hx : ∀ c ∈ l, IsHex c := fun c m => (h c m).hex
  have hd : digits? 2 l = some (l.foldl (fun a c => a.push (c - 48)) #[]) := by
    obtain ⟨c, r, rfl⟩ := List.exists_cons_of_ne_nil ne
    unfold digits?
    rw [List.foldlM_cons, step_bit (h c List.mem_cons_self)]
    show (r.foldlM (PySem.NumText.step 2) ((#[] : Array Nat).push (c - 48), true)).bind _ = _
    rw [fold_bit r _ fun x m => h x (List.mem_cons_of_mem _ m)]
    rfl
  have hb : based 2 l = (2, false, l) := based_bit h
  rw [readNumeral_eq 0 2 l, dropB hx, signH hx]
  show judge 0 false (based 2 l).1 (based 2 l).2.1 (digits? (based 2 l).1 (((based 2 l).2.2.reverse.dropWhile blank).reverse)) = _
  rw [hb]
  show judge 0 false 2 false (digits? 2 ((l.reverse.dropWhile blank).reverse)) = _
  rw [dropB (fun c m => hx c (List.mem_reverse.mp m)), List.reverse_reverse, hd]
  show (int_private% "Numeral.value") (((l.foldl (fun a c => a.push (c - 48)) (#[] : Array Nat)).foldl (fun a x => a * 2 + x) 0 : Nat) : Int) = _
  rw [push_bit]
  rfl
set_option maxHeartbeats 4000000 in
theorem gives_bit {x : PySem.Str} {u t : Tok} (hl : x.length ≤ 640) (h : ∀ c ∈ x.cps.toList, IsBit c) (ne : x.cps.toList ≠ []) :
    Gives (Builtin.«int.__new__» ⟨[.type "int", .str x u, .int 2 t], []⟩) (.int ((binNum x.cps.toList : Nat) : Int)) :=
  .of_wp fun M A E s Q hQ => by
    obtain ⟨hp, g, d, tk, os⟩ := s
    have f1 := F.conv_sub_int
    have f2 := F.madeHere_int
    have f3 : typeOf (.str x u) = pure (.type "str") := rfl
    have hx : ∀ c ∈ x.cps.toList, IsHex c := fun c m => (h c m).hex
    have e1 := (seen_hex hx).1
    have e2 := (seen_hex hx).2
    have hk : Hid ((numSeenOf x).length ≤ 640 ∧ (int_private% "readNumeral") 0 2 (numSeenOf x) = (int_private% "Numeral.value") ((binNum x.cps.toList : Nat) : Int) ∧ ((numSeenOf x).length == (numTextOf x).length) = true) := ⟨by rw [e2, Array.length_toList]; exact hl, by rw [e2]; exact read_bit h ne, by rw [e1, e2]; exact beq_self_eq_true _⟩
    clear e1 e2 hl ne h hx
    repeat (any_goals (first
      | assumption
      | ((with_reducible show wpAny _ _ ((int_private% "intFromText") _ _ _) _ _ _); refine wp_textB hk.out.1 hk.out.2.1 hk.out.2.2 ?_)
      | wp_step))
    all_goals first | exact ⟨_, rfl, hQ⟩ | skip
theorem call_bit {prog : Program} {w : World} {A : Around} {E : Value → Shared → Prop} {s : Shared} {Q : Value → Shared → Prop} {x : PySem.Str} {u t : Tok} (hl : x.length ≤ 640) (h : ∀ c ∈ x.cps.toList, IsBit c) (ne : x.cps.toList ≠ [])
    (hQ : Q (.int ((binNum x.cps.toList : Nat) : Int) s.toks) { s with toks := s.toks + 1 }) : wpAny (model prog w) A (call (.type "int") [.str x u, .int 2 t]) Q E s :=
  callType_new F.called_int F.newNe_int (typeCall_int_2 _ _) (newCall_int_2 _ _) (fun o => F.initArgs_range_2 o _ _) F.entry_int_new (gives_bit hl h ne).meets (show (Made.int ((binNum x.cps.toList : Nat) : Int)).post _ s from ⟨rfl, hQ⟩)
/-- int(t, 2) -/
def rIntBit : List V → Hp → VK → Prop := fun xs H Q => ∃ l : List Nat, xs = [.str (tx l), .int 2] ∧ l ≠ [] ∧ l.length ≤ 640 ∧ (∀ c ∈ l, IsBit c) ∧ Q (.int ((binNum l : Nat) : Int)) H
theorem call_int_bit {X : Cx} : CallR X (.type "int") rIntBit := by
  intro pins s σ H xs us Q I r h
  obtain ⟨l, rfl, ne, hl, hx, q⟩ := h
  obtain ⟨u, v, rfl, r1, r2⟩ := vals2 r
  obtain ⟨t1, rfl⟩ := r1
  obtain ⟨t2, rfl⟩ := r2
  exact call_bit (x := tx l) (by rw [tx_len]; exact hl) hx ne ⟨.int ((binNum l : Nat) : Int), H, I.tok _, ⟨_, rfl⟩, q⟩
theorem bits_are (n : Nat) : ∀ w, ∀ c ∈ bitsL n w, IsBit c := fun w => by
  induction w generalizing n with
  | zero => exact fun c m => (by cases m)
  | succ w ih =>
    intro c m
    rw [bitsL] at m
    rcases List.mem_append.mp m with m | m
    · exact ih _ c m
    · rw [List.mem_singleton.mp m]
      unfold IsBit
      omega
theorem bin_app (a : List Nat) (c : Nat) : binNum (a ++ [c]) = binNum a * 2 + (c - 48) := by
  unfold binNum
  rw [List.foldl_append]
  rfl
theorem bin_bits : ∀ (w n : Nat), binNum (bitsL n w) = n % 2 ^ w
  | 0, n => by rw [Nat.pow_zero, Nat.mod_one]; rfl
  | w + 1, n => by
    rw [bitsL, bin_app, bin_bits w (n / 2), Nat.pow_succ]
    have e1 : n % (2 ^ w * 2) / 2 = n / 2 % 2 ^ w := by rw [Nat.mul_comm, Nat.mod_mul_right_div_self]
    have e2 : n % (2 ^ w * 2) % 2 = n % 2 := Nat.mod_mul_left_mod n _ 2
    omega
theorem bin_of {w n : Nat} (h : n < 2 ^ w) : binNum (bitsL n w) = n := by rw [bin_bits, Nat.mod_eq_of_lt h]
end SBX

namespace K7
open PySem PySem.Spec PyProof.Rows L2 SBX
open K2 (wAt coinsL)
/-! ### a stream read step by step: pure -/
structure RS where
  nx : Nat
  last : Bool
  left : Nat
  lens : List Int
  tL : List Int
  tB : List Int
  whole : List Nat
  pos : Nat
inductive Stp where
  | blk (last : Bool) (sort : Nat)
  | cnt (n : Nat)
  | byt (k : Nat)
  | pend
  | run (l m : Nat)
  | itm (it : Itm)
  | iend
  | pad
def lastN (b : Bool) : Nat := if b then 1 else 0
/-- the bits of a step -/
def sbS (s : RS) : Stp → List Nat
  | .blk b n => bitsL (lastN b) 1 ++ bitsL n 2
  | .cnt n => bitsL n 11
  | .byt k => bitsL k 8
  | .pend => []
  | .run l m => bitsL l 4 ++ bitsL (m - 1) 5
  | .itm it => itT s.tL s.tB it
  | .iend => wdL s.tL 256
  | .pad => [48]
def aftS (s : RS) : Nat := if s.last then 5 else 0
def runX (s : RS) (l m : Nat) : List Int := s.lens ++ List.replicate m (l : Int)
def putI (e : List Nat) : Itm → List Nat
  | .b k => e ++ [k]
  | .c m b => copyN e b m
def fitI (e : List Nat) : Itm → Prop
  | .b _ => True
  | .c _ b => b ≤ e.length
def okS (s : RS) : Stp → Prop
  | .blk _ n => s.nx = 0 ∧ n ≤ 2
  | .cnt n => s.nx = 1 ∧ n ≤ 2000
  | .byt k => s.nx = 2 ∧ 0 < s.left ∧ k < 256 ∧ s.whole.length < 9000
  | .pend => s.nx = 2 ∧ s.left = 0
  | .run l m => s.nx = 3 ∧ l ≤ 12 ∧ 1 ≤ m ∧ m ≤ 32 ∧ s.lens.length + m ≤ 284 ∧ (s.lens.length + m = 284 → WP ((runX s l m).take 273) ((runX s l m).drop 273) ∧ 0 < (runX s l m).getD 256 0)
  | .itm it => s.nx = 4 ∧ WP s.tL s.tB ∧ ItmOk it ∧ costO s.tL s.tB it ≠ none ∧ lenI it ≤ s.left ∧ fitI s.whole it ∧ s.whole.length + lenI it ≤ 9000
  | .iend => s.nx = 4 ∧ WP s.tL s.tB ∧ 0 < s.tL.getD 256 0
  | .pad => s.nx = 5 ∧ s.pos % 8 ≠ 0
def goS (s : RS) : Stp → RS
  | .blk b n => if n = 0 then { s with nx := 1, last := b, left := 2000 } else if n = 1 then { s with nx := 4, last := b, left := 2000, tL := toldL, tB := toldB } else { s with nx := 3, last := b, left := 2000, lens := [] }
  | .cnt n => { s with nx := 2, left := n }
  | .byt k => { s with left := s.left - 1, whole := s.whole ++ [k] }
  | .pend => { s with nx := aftS s }
  | .run l m => if s.lens.length + m = 284 then { s with nx := 4, lens := runX s l m, tL := (runX s l m).take 273, tB := (runX s l m).drop 273 } else { s with lens := runX s l m }
  | .itm it => { s with left := s.left - lenI it, whole := putI s.whole it }
  | .iend => { s with nx := aftS s }
  | .pad => s
/-- the state behind a step -/
def stS (s : RS) (t : Stp) : RS := { goS s t with pos := s.pos + (sbS s t).length }
inductive Runs : RS → List Stp → List Nat → RS → Prop
  | nil (s : RS) : Runs s [] [] s
  | cons {s z : RS} {t : Stp} {r : List Stp} {D : List Nat} (h : okS s t) (q : Runs (stS s t) r D z) : Runs s (t :: r) (sbS s t ++ D) z
theorem Runs.app {a b c : RS} {r1 r2 : List Stp} {D1 D2 : List Nat} (h : Runs a r1 D1 b) (g : Runs b r2 D2 c) : Runs a (r1 ++ r2) (D1 ++ D2) c := by
  induction h with
  | nil => exact g
  | cons h _ ih =>
    rw [List.append_assoc]
    exact .cons h (ih g)
theorem Runs.one {s : RS} {t : Stp} (h : okS s t) : Runs s [t] (sbS s t) (stS s t) := by
  have := Runs.cons h (.nil (stS s t))
  rwa [List.append_nil] at this
theorem Runs.pos {a z : RS} {r : List Stp} {D : List Nat} (h : Runs a r D z) : z.pos = a.pos + D.length := by
  induction h with
  | nil => rfl
  | @cons s z t r D h _ ih =>
    rw [ih, List.length_append]
    show s.pos + (sbS s t).length + _ = _
    omega
/-- what is heard begins with all of a piece, or is its beginning -/
theorem heard_or {R X c D : List Nat} (h : R ++ X = c ++ D) : (c.length ≤ R.length ∧ ∃ r, R = c ++ r ∧ r ++ X = D) ∨ (R.length < c.length ∧ ∃ e, c = R ++ e ∧ e ≠ []) := by
  by_cases q : c.length ≤ R.length
  · refine .inl ⟨q, R.drop c.length, ?_, ?_⟩
    · have e := congrArg (List.take c.length) h
      rw [List.take_append_of_le_length q, List.take_left] at e
      rw [← e]
      conv => lhs; rw [← List.take_append_drop c.length R]
      rw [e]
    · have e := congrArg (List.drop c.length) h
      rw [List.drop_append_of_le_length q, List.drop_left] at e
      exact e
  · have q : R.length < c.length := by omega
    refine .inr ⟨q, c.drop R.length, ?_, fun z => ?_⟩
    · have e := congrArg (List.take R.length) h
      rw [List.take_left, List.take_append_of_le_length (Nat.le_of_lt q)] at e
      conv => lhs; rw [← List.take_append_drop R.length c]
      rw [← e]
    · have := congrArg List.length z
      rw [List.length_drop] at this
      simp at this
      omega
end K7

namespace K7
open PySem PySem.Spec PyProof.Rows L2 SBX
open K2 (wAt coinsL)
/-! ### no word begins another: pure -/
theorem bits_take (n : Nat) (a : Nat) : ∀ b, (bitsL n (a + b)).take a = bitsL (n / 2 ^ b) a := fun b => by
  induction b generalizing n with
  | zero => rw [Nat.pow_zero, Nat.div_one, Nat.add_zero, List.take_of_length_le (Nat.le_of_eq (bits_len n a))]
  | succ b ih =>
    rw [← Nat.add_assoc, bitsL, List.take_append_of_le_length (by rw [bits_len]; omega), ih, Nat.div_div_eq_div_mul, Nat.pow_succ, Nat.mul_comm 2]
theorem bits_inj {w a b : Nat} (ha : a < 2 ^ w) (hb : b < 2 ^ w) (h : bitsL a w = bitsL b w) : a = b := by
  rw [← bin_of ha, ← bin_of hb, h]
theorem cds_low : ∀ (T : List (Int × Int)) (n a : Nat), (T.Pairwise fun x y => x.1 ≤ y.1) → (∀ x ∈ T, (a : Int) ≤ x.1) → ∀ t ∈ cds T n a, a ≤ t.2.2 ∧ n * 2 ^ (t.2.2 - a) ≤ t.2.1
  | [], _, _, _, _, t, m => by cases m
  | x :: r, n, a, hp, ha, t, m => by
    obtain ⟨p1, p2⟩ := List.pairwise_cons.mp hp
    have a1 := ha x (List.mem_cons_self ..)
    rw [cds] at m
    rcases List.mem_cons.mp m with rfl | m
    · exact ⟨by show a ≤ x.1.toNat; omega, Nat.le_refl _⟩
    · have ih := cds_low r _ _ p2 (fun y hy => by have := p1 y hy; omega) t m
      obtain ⟨i1, i2⟩ := ih
      refine ⟨by omega, Nat.le_trans ?_ i2⟩
      rw [show t.2.2 - a = (x.1.toNat - a) + (t.2.2 - x.1.toNat) by omega, Nat.pow_add, ← Nat.mul_assoc]
      exact Nat.mul_le_mul_right _ (Nat.le_succ _)
theorem cds_sep : ∀ (T : List (Int × Int)) (n a : Nat), (T.Pairwise fun x y => x.1 ≤ y.1) → (∀ x ∈ T, (a : Int) ≤ x.1) → (cds T n a).Pairwise fun t u => t.2.2 ≤ u.2.2 ∧ (t.2.1 + 1) * 2 ^ (u.2.2 - t.2.2) ≤ u.2.1
  | [], _, _, _, _ => List.Pairwise.nil
  | x :: r, n, a, hp, ha => by
    obtain ⟨p1, p2⟩ := List.pairwise_cons.mp hp
    have a1 := ha x (List.mem_cons_self ..)
    have q : ∀ y ∈ r, ((x.1.toNat : Nat) : Int) ≤ y.1 := fun y hy => by have := p1 y hy; omega
    rw [cds]
    exact List.pairwise_cons.mpr ⟨fun t m => cds_low r _ _ p2 q t m, cds_sep r _ _ p2 q⟩
theorem two_sep {n1 l1 n2 l2 : Nat} (h1 : l1 ≤ l2) (h2 : (n1 + 1) * 2 ^ (l2 - l1) ≤ n2) (b1 : n1 < 2 ^ l1) (b2 : n2 < 2 ^ l2) : (∀ e, bitsL n2 l2 ≠ bitsL n1 l1 ++ e) ∧ ∀ e, bitsL n1 l1 ≠ bitsL n2 l2 ++ e := by
  have key : ∀ e, bitsL n2 l2 ≠ bitsL n1 l1 ++ e := fun e z => by
    have z2 := congrArg (List.take l1) z
    rw [List.take_append_of_le_length (Nat.le_of_eq (bits_len n1 l1).symm), List.take_of_length_le (Nat.le_of_eq (bits_len n1 l1))] at z2
    rw [show l2 = l1 + (l2 - l1) by omega, bits_take] at z2
    have hp := Nat.pow_pos (n := l2 - l1) (show 0 < 2 by decide)
    have e1 : 2 ^ l2 = 2 ^ l1 * 2 ^ (l2 - l1) := by rw [← Nat.pow_add]; congr 1; omega
    have lt : n2 / 2 ^ (l2 - l1) < 2 ^ l1 := (Nat.div_lt_iff_lt_mul hp).mpr (by rw [← e1]; exact b2)
    have := bits_inj lt b1 z2
    have : n1 + 1 ≤ n2 / 2 ^ (l2 - l1) := (Nat.le_div_iff_mul_le hp).mpr h2
    omega
  refine ⟨key, fun e z => ?_⟩
  have z2 := congrArg List.length z
  rw [List.length_append, bits_len, bits_len] at z2
  have e0 : e = [] := List.length_eq_zero_iff.mp (by omega)
  rw [e0, List.append_nil] at z
  exact key [] (by rw [List.append_nil]; exact z.symm)
theorem wd_bits {ls : List Int} {t : Nat × Nat × Nat} (h : t ∈ cdL ls) : wdL ls t.1 = bitsL t.2.1 t.2.2 := by
  unfold wdL
  rw [wd_at h]
  rfl
theorem wd_sep {ls : List Int} (h : WdOk ls) {k k' : Nat} (hk : k < ls.length) (h0 : 0 < wAt ls k) (hk' : k' < ls.length) (h0' : 0 < wAt ls k') {e : List Nat} (q : wdL ls k' = wdL ls k ++ e) : k = k' ∧ e = [] := by
  obtain ⟨t, ht, rfl, _⟩ := cd_of h hk h0
  obtain ⟨u, hu, rfl, _⟩ := cd_of h hk' h0'
  obtain ⟨a1, _, _⟩ := cd_lt h t ht
  obtain ⟨b1, _, _⟩ := cd_lt h u hu
  by_cases eq : t.1 = u.1
  · refine ⟨eq, ?_⟩
    rw [← eq] at q
    have := congrArg List.length q
    rw [List.length_append] at this
    exact List.length_eq_zero_iff.mp (by omega)
  · exfalso
    rw [wd_bits ht, wd_bits hu] at q
    have sp : (cdL ls).Pairwise fun t u => t.2.2 ≤ u.2.2 ∧ (t.2.1 + 1) * 2 ^ (u.2.2 - t.2.2) ≤ u.2.1 := cds_sep _ 0 0 (coin_srt h) fun x hx => by have := coin_fst h x hx; omega
    obtain ⟨i, hi⟩ := List.getElem?_of_mem ht
    obtain ⟨j, hj⟩ := List.getElem?_of_mem hu
    have li := (List.getElem?_eq_some_iff.mp hi).1
    have lj := (List.getElem?_eq_some_iff.mp hj).1
    have vi := (List.getElem?_eq_some_iff.mp hi).2
    have vj := (List.getElem?_eq_some_iff.mp hj).2
    have sp2 := List.pairwise_iff_getElem.mp sp
    rcases Nat.lt_trichotomy i j with l | l | l
    · have := sp2 i j li lj l
      rw [vi, vj] at this
      exact (two_sep this.1 this.2 a1 b1).1 e q
    · subst l
      rw [hi] at hj
      exact eq (by rw [Option.some.inj hj])
    · have := sp2 j i lj li l
      rw [vi, vj] at this
      exact (two_sep this.1 this.2 b1 a1).2 e q
theorem wd_ne {ls : List Int} (h : WdOk ls) {k : Nat} (hk : k < ls.length) (h0 : 0 < wAt ls k) : 1 ≤ (wdL ls k).length ∧ (wdL ls k).length ≤ 12 ∧ ∀ c ∈ wdL ls k, IsBit c := by
  obtain ⟨t, ht, rfl, _⟩ := cd_of h hk h0
  obtain ⟨_, a2, a3⟩ := cd_lt h t ht
  rw [wd_bits ht, bits_len]
  exact ⟨a2, a3, bits_are _ _⟩
/-- what a tree's two dicts must say -/
structure TreeOk (ls : List Int) (ka kb : List (Key × V)) : Prop where
  hit : ∀ k, k < ls.length → 0 < wAt ls k → valV ka (.inr (tx (wdL ls k))) = some (.int (k : Int))
  not_ : ∀ k, k < ls.length → 0 < wAt ls k → ∀ p e, wdL ls k = p ++ e → e ≠ [] → valV ka (.inr (tx p)) = none
  on : ∀ k, k < ls.length → 0 < wAt ls k → ∀ p e, wdL ls k = p ++ e → e ≠ [] → p ≠ [] → (valV kb (.inr (tx p))).isSome = true
end K7

/-! ### a dict comprehension with two for, no if: own rule -/
namespace L2D
open PySem PySem.Spec PyProof.Rows L2
abbrev no : Value → Shared → Prop := fun _ _ => False
abbrev two (kx vx t0 i0 t1 i1 : Expr) (sc : Scope) (pos : Pos) : Expr := .DictComp kx vx [⟨t0, i0, [], 0⟩, ⟨t1, i1, [], 0⟩] sc pos
section
variable {prog : Program} {w : World} {A : Around} {kx vx t0 i0 t1 i1 : Expr} {sc : Scope} {pos : Pos} {it acc : Value} {D : Addr} {env : Env} {R : Result → Shared → Prop} {s : Shared}
theorem turnO : compTurn (two kx vx t0 i0 t1 i1 sc pos) 0 it acc env = (do standAt i0.pos; match ← pyNext it with
    | none => pure (.done .next)
    | some v => do letOwnedTupleGo t0 it v; assign t0 env v; let x ← eval i1 env; standAt i1.pos; let x ← foldedSetIterable i1 env x; let _ ← runOwn (.compStart (two kx vx t0 i0 t1 i1 sc pos) 1 (← holding [x] (pyIter x)) acc env) env; again (.compLoop (two kx vx t0 i0 t1 i1 sc pos) 0 it acc env)) := by rfl
theorem turnI : compTurn (two kx vx t0 i0 t1 i1 sc pos) 1 it (.ref D) env = (do standAt i1.pos; match ← pyNext it with
    | none => pure (.done .next)
    | some v => do letOwnedTupleGo t1 it v; assign t1 env v; (do let a ← eval kx env; let b ← holding [a] (eval vx env); standAt { kx.pos with endLine := vx.pos.endLine, endCol := vx.pos.endCol }; holding [a, b] (dictSet D a b)); again (.compLoop (two kx vx t0 i0 t1 i1 sc pos) 1 it (.ref D) env)) := by rfl
theorem loopO (hs : ∀ x, foldedSetIterable i1 env x = pure x) (I : Nat → Shared → Prop)
    (turn : ∀ n s, I n s → wpAny (model prog w) A (pyNext it) (fun r a => match r with
      | none => R (.ok .next) a
      | some v => wpAny (model prog w) A (letOwnedTupleGo t0 it v) (fun _ b => wpAny (model prog w) A (assign t0 env v) (fun _ c => wpAny (model prog w) A (eval i1 env) (fun x d => wpAny (model prog w) A (pyIter x) (fun y e =>
          codeAny (model prog w) A (.compStart (two kx vx t0 i0 t1 i1 sc pos) 1 y acc env) (fun q f => match q with
            | .ok _ => ∃ m, m < n ∧ I m f
            | .error _ => False) e) no d) no c) no b) no a) no s)
    (n : Nat) (h : I n s) : codeAny (model prog w) A (.compLoop (two kx vx t0 i0 t1 i1 sc pos) 0 it acc env) R s := by
  refine codeAny_loop rfl I (fun n s hI => ?_) n h
  show wpAny _ A ((compTurn (two kx vx t0 i0 t1 i1 sc pos) 0 it acc env).onRaise (fun x => do noteFrame x env; theTreesLotGoes x)) _ _ s
  refine wpAny_noted ?_
  rw [turnO]
  refine wpAny_bind (wpAny_standAt (wpAny_bind (thnF (turn n s hI) fun r a ha => ?_)))
  cases r with
  | none => exact wpAny_pure ha
  | some v =>
    refine wpAny_bind (thnF ha fun _ b hb => wpAny_bind (thnF hb fun _ c hc => wpAny_bind (thnF hc fun x d hd => wpAny_bind (wpAny_standAt (wpAny_bind (wpAny_of_eq (hs x) (wpAny_bind (wpAny_holding (thnF hd fun y e he => ?_)))))))))
    refine wpAny_bind (wpAny_runOwn ?_)
    rw [Around.mark_none]
    refine codeAny_mono he fun q f hq => ?_
    cases q with
    | error _ => exact hq.elim
    | ok _ =>
      first
        | exact wpAny_pure ⟨rfl, hq⟩
        | exact wpAny_bind (wpAny_pure (wpAny_pure ⟨rfl, hq⟩))
theorem loopI (I : Nat → Shared → Prop)
    (turn : ∀ n s, I n s → wpAny (model prog w) A (pyNext it) (fun r a => match r with
      | none => R (.ok .next) a
      | some v => wpAny (model prog w) A (letOwnedTupleGo t1 it v) (fun _ b => wpAny (model prog w) A (assign t1 env v) (fun _ c => wpAny (model prog w) A (eval kx env) (fun x d => wpAny (model prog w) A (eval vx env) (fun y e =>
          wpAny (model prog w) A (dictSet D x y) (fun _ f => ∃ m, m < n ∧ I m f) no e) no d) no c) no b) no a) no s)
    (n : Nat) (h : I n s) : codeAny (model prog w) A (.compLoop (two kx vx t0 i0 t1 i1 sc pos) 1 it (.ref D) env) R s := by
  refine codeAny_loop rfl I (fun n s hI => ?_) n h
  show wpAny _ A ((compTurn (two kx vx t0 i0 t1 i1 sc pos) 1 it (.ref D) env).onRaise (fun x => do noteFrame x env; theTreesLotGoes x)) _ _ s
  refine wpAny_noted ?_
  rw [turnI]
  refine wpAny_bind (wpAny_standAt (wpAny_bind (thnF (turn n s hI) fun r a ha => ?_)))
  cases r with
  | none => exact wpAny_pure ha
  | some v =>
    refine wpAny_bind (thnF ha fun _ b hb => wpAny_bind (thnF hb fun _ c hc => wpAny_bind (wpAny_bind (thnF hc fun x d hd => wpAny_bind (wpAny_holding (thnF hd fun y e he => wpAny_bind (wpAny_standAt (wpAny_holding (thnF he fun _ f hf => ?_)))))))))
    exact wpAny_pure ⟨rfl, hf⟩
theorem startI (h0 : codeAny (model prog w) A (.compLoop (two kx vx t0 i0 t1 i1 sc pos) 1 it acc env) R s)
    (h : wpAny (model prog w) A (pyIter it) (fun j a => codeAny (model prog w) A (.compLoop (two kx vx t0 i0 t1 i1 sc pos) 1 j acc env) R a) no s) :
    codeAny (model prog w) A (.compStart (two kx vx t0 i0 t1 i1 sc pos) 1 it acc env) R s := by
  refine codeAny_of_tree ?_
  show wpAny _ A ((compStart (two kx vx t0 i0 t1 i1 sc pos) 1 it acc env).onRaise (fun x => do noteFrame x env; standAt theWindowsPlace)) _ _ s
  refine wpAny_notedAt ?_
  unfold compStart
  show wpAny _ A (ask >>= _) _ _ s
  refine wpAny_bind (wpAny_askSetting (wpAny_ite ?_))
  split
  · first
      | exact wpAny_bind (wpAny_pure (wpAny_pure ⟨rfl, h0⟩))
      | exact wpAny_pure ⟨rfl, h0⟩
  · refine wpAny_bind (wpAny_rule ?_)
    show wpAny _ _ (standAt i1.pos >>= _) _ _ s
    exact wpAny_bind (wpAny_standAt (wpAny_bind (thnF h fun j a ha => wpAny_pure ⟨rfl, ha⟩)))
end
section
variable {X : Cx}
/-- D the new dict; vs the block's names, vs1 those of the second target -/
def tDc2 (wi : TI) (g : TG) (wi1 : TI) (g1 : TG) (tk tv : TE) (vs vs1 : List Nat) : TE := fun σ H Q => wi σ H fun J H1 => ∀ D, H1 D = none → ∃ W : Nat → Nat → Hp → Prop, (∃ m, W 0 m (upd H1 D (.dK []))) ∧ ∀ i m H, W i m H →
  (J.stop i H ∧ Q (.ref D) H) ∨ (J.go i H ∧ ∃ N : Hp → Prop, (∀ H', N H' → ∃ m', m' < m ∧ W (i + 1) m' H') ∧ ∀ x H', J.yld i H x H' → g x (wipe σ vs) H' fun σ2 H2 => wipe σ2 vs = wipe σ vs ∧ wi1 σ2 H2 fun J1 H3 =>
    ∃ W1 : Nat → Nat → Hp → Prop, (∃ m, W1 0 m H3) ∧ ∀ j k H, W1 j k H → (J1.stop j H ∧ N H) ∨ (J1.go j H ∧ ∃ N1 : Hp → Prop, (∀ H', N1 H' → ∃ k', k' < k ∧ W1 (j + 1) k' H') ∧ ∀ x H', J1.yld j H x H' →
      g1 x (wipe σ2 vs1) H' fun σ3 H4 => wipe σ3 vs1 = wipe σ2 vs1 ∧ tk σ3 H4 fun y H5 => tv σ3 H5 fun z H6 => ∃ kvs k, y = kV k ∧ H6 D = some (.dK kvs) ∧ kvs.length < sizeLine ∧ N1 (upd H6 D (.dK (putK kvs k z)))))
/-- the second loop, in the block's context Y -/
theorem inner_ok {Y : Cx} {kx vx t0 i0 t1 i1 : Expr} {sc : Scope} {pos : Pos} {D it : Addr} {fp : List Addr} {tn : Nat → Heap → Prop} {J : It} {g : TG} {tk tv : TE} {vs : List Nat} {pins : List (Addr × Obj)} {σ : L2.St} {H : Hp} {s : Shared} {N : Hp → Prop} {W : Nat → Nat → Hp → Prop} {m : Nat}
    (cY : Y.calm = true) (xY : Y.xe = no) (T : Turn Y.prog Y.w Y.K t1 J fp it tn) (pg : PG Y t1 g) (pk : PE Y kx tk) (pv : PE Y vx tv) (I : Inv Y pins σ H s) (st : tn 0 s.heap) (fr : ∀ b ∈ fp, FpOk Y pins H b) (w0 : W 0 m H)
    (go : ∀ j k H, W j k H → (J.stop j H ∧ N H) ∨ (J.go j H ∧ ∃ N1 : Hp → Prop, (∀ H', N1 H' → ∃ k', k' < k ∧ W (j + 1) k' H') ∧ ∀ x H', J.yld j H x H' →
      g x (wipe σ vs) H' fun σ3 H4 => wipe σ3 vs = wipe σ vs ∧ tk σ3 H4 fun y H5 => tv σ3 H5 fun z H6 => ∃ kvs k, y = kV k ∧ H6 D = some (.dK kvs) ∧ kvs.length < sizeLine ∧ N1 (upd H6 D (.dK (putK kvs k z)))))
    {R : Result → Shared → Prop} (fin : ∀ H' s', Inv Y pins (wipe σ vs) H' s' → N H' → R (.ok .next) s') :
    codeAny (model Y.prog Y.w) Y.A (.compLoop (two kx vx t0 i0 t1 i1 sc pos) 1 (.ref it) (.ref D) Y.env) R s := by
  have fpo : ∀ {H'}, (∀ b ∈ fp, H' b = none) → ∀ b ∈ fp, FpOk Y pins H' b := fun hn b hb => ⟨hn b hb, (fr b hb).2⟩
  refine loopI (fun k s' => ∃ j H', (Inv Y pins (wipe σ vs) H' s' ∧ tn j s'.heap) ∧ (∀ b ∈ fp, H' b = none) ∧ W j k H') ?_ m ⟨0, H, ⟨I.weak (wipe_length _ _) fun _ _ e => (wipe_some e).1, st⟩, fun b hb => (fr b hb).1, w0⟩
  rintro k a ⟨j, Ha, ⟨Ia, sa⟩, na, wa⟩
  rcases go j k Ha wa with ⟨stop, nx⟩ | ⟨goes, N1, less, turn⟩
  · refine thnF (T.done Y rfl rfl rfl cY j pins a _ Ha no Ia (fpo na) sa stop) fun r b hb => ?_
    obtain ⟨rfl, Ib⟩ := hb
    exact fin Ha b Ib nx
  · refine thnF (T.item Y rfl rfl rfl cY j pins a _ Ha no Ia (fpo na) sa goes) fun r b hb => ?_
    obtain ⟨u, rfl, hb⟩ := hb
    refine thnF hb fun _ c hc => ?_
    obtain ⟨x, Hc, Ic, rx, yx, sc', nc⟩ := hc
    have G := pg.run _ c _ Hc x u _ (Ic.pinned (fpo nc) (T.obj _ _ sc')) rx (turn x Hc yx)
    rw [xY] at G
    refine thnF G fun _ d hd => ?_
    obtain ⟨σ3, Hd, Id, ew, hd⟩ := hd
    have G := pk.run _ d σ3 Hd _ Id hd
    rw [xY] at G
    refine thnF G fun y e he => ?_
    obtain ⟨vy, He, Ie, ry, he⟩ := he
    have G := pv.run _ e σ3 He _ Ie he
    rw [xY] at G
    refine thnF G fun z f hf => ?_
    obtain ⟨vz, Hf, If, rz, kvs, key, rfl, hD, hz, nx⟩ := hf
    refine d_dictSet If hD hz ry rz fun q Iq => ?_
    obtain ⟨k', lt, w'⟩ := less _ nx
    have stays : ∀ b ∈ fp, ∀ o, c.heap.get? b = some o → q.heap.get? b = some o ∧ (upd Hf D (.dK (putK kvs key vz))) b = none := fun b hb o e => by
      have z := Iq.pin (b, o) (List.mem_append_right _ (List.mem_append_right _ (mem_pinsAt hb e)))
      exact ⟨z.1, z.2.1⟩
    refine ⟨k', lt, j + 1, _, ⟨Iq.unpinned.weak (by rw [← ew, wipe_length]) (fun i v e => by rw [← ew] at e; exact (wipe_some e).1), T.keep _ _ _ sc' fun b hb o e => (stays b hb o e).1⟩, fun b hb => ?_, w'⟩
    obtain ⟨o, e, _⟩ := T.obj _ _ sc' b hb
    exact (stays b hb o e).2
abbrev IsBlk (X : Cx) (Fo : Cx → Prop) (sc : Scope) : Prop := ∀ (s : Shared) (H : Hp) (C : Addr) (cl : List (Str × Addr)) (fp : List Addr), Fo (X.blk s H sc (compEnvC sc cl C X.env) fp)
theorem pe_dc2 {kx vx t0 i0 t1 i1 : Expr} {sc : Scope} {pos : Pos} {own : List (Str × Nat)} {vs1 : List Nat} {wi wi1 : TI} {g g1 : TG} {tk tv : TE} (hc : X.calm = true) (hN : X.N.Nodup) (hi : PI X t0 i0 wi) (ok : BlkOk X.N X.env.scope sc own) (hv : ∀ i ∈ vs1, i ∈ own.map (·.2))
    (hg : IsBlk X (fun Y => PG Y t0 g) sc) (hi1 : IsBlk X (fun Y => PI Y t1 i1 wi1) sc) (hg1 : IsBlk X (fun Y => PG Y t1 g1) sc) (hk : IsBlk X (fun Y => PE Y kx tk) sc) (hx : IsBlk X (fun Y => PE Y vx tv) sc)
    (hs : ∀ x, foldedSetIterable i0 X.env x = pure x := by intro _; rfl) (hs1 : ∀ env x, foldedSetIterable i1 env x = pure x := by intro _ _; rfl) :
    PE X (two kx vx t0 i0 t1 i1 sc pos) (tDc2 wi g wi1 g1 tk tv (own.map (·.2)) vs1) := by
  refine ⟨fun pins s σ H Q I h => ?_⟩
  rw [arm_eval_DictComp]
  have free : ∀ y ∈ sc.names, y.2 = .free → ∃ c, X.env.cells.lookup y.1 = some c := fun y hy e => (ok.free y hy e).elim (fun k => I.ok.has _ (.inl k)) fun k => I.ok.has _ (.inr k)
  refine wpAny_comprehension_free rfl hs (closure_ok free) ok.kind (fun y hy e => by rw [ok.uniq y hy, e]) (thn (hi.run pins s σ H _ I h) fun _ s1 h1 => thn h1 fun _ s2 h2 => ?_)
  obtain ⟨it, fp, tn, J, Ha, rfl, Ia, T, sta, fra, q⟩ := h2
  refine wpAny_newObj_type (newEnv_comp ?_)
  obtain ⟨D, eD⟩ : ∃ D, D = s2.heap.objs.size := ⟨_, rfl⟩
  have noD : Ha D = none := Ia.hok.fresh (Nat.le_of_eq eD.symm)
  obtain ⟨W, ⟨m, w0⟩, turn⟩ := q D noD
  obtain ⟨Hb, eHb⟩ : ∃ Hb, Hb = upd Ha D (.dK []) := ⟨_, rfl⟩
  obtain ⟨s3, e3⟩ : ∃ s3 : Shared, s3 = { s2 with heap := s2.heap.push { cls := .type "dict", data := .dict #[] } } := ⟨_, rfl⟩
  have h3 : s3.heap = s2.heap.push { cls := .type "dict", data := .dict #[] } := by rw [e3]
  have Ib : Inv X pins σ Hb s3 := by
    rw [e3, eHb]
    refine Ia.laid (t' := s2.toks) (fun _ _ z => Heap.get?_push_of_some _ z) (Nat.le_of_eq eD.symm) ?_
    rw [eD]
    exact dk_empty s2.heap Ia.big
  have frb : ∀ b ∈ fp, FpOk X pins Hb b ∧ b < s3.heap.objs.size := fun b hb => by
    obtain ⟨_, z, _⟩ := T.obj _ _ sta b hb
    have lt := Heap.lt_size z
    refine ⟨⟨?_, (fra b hb).2⟩, by rw [h3, Heap.size_push]; exact Nat.lt_succ_of_lt lt⟩
    rw [eHb, upd_ne (by rw [eD]; exact Nat.ne_of_lt lt)]
    exact (fra b hb).1
  have stb : tn 0 s3.heap := T.keep _ _ _ sta fun b _ o z => by rw [h3]; exact Heap.get?_push_of_some _ z
  have Ic := block_start Ib ok hN frb
  rw [← eHb] at w0
  rw [← eD, ← e3]
  generalize ecl : cellsFrom (s3.heap.objs.size + 1) sc.names (cloFrom X.env.cells sc.names []) = cl at Ic
  have pg := hg s3 Hb s3.heap.objs.size cl fp
  have pi1 := hi1 s3 Hb s3.heap.objs.size cl fp
  have pg1 := hg1 s3 Hb s3.heap.objs.size cl fp
  have pk := hk s3 Hb s3.heap.objs.size cl fp
  have px := hx s3 Hb s3.heap.objs.size cl fp
  obtain ⟨s4, e4⟩ : ∃ s4 : Shared, s4 = { s3 with heap := pushCells (s3.heap.push { cls := .type "dict", data := .dict #[] }) sc.names } := ⟨_, rfl⟩
  have st4 : tn 0 s4.heap := T.keep _ _ _ stb fun b _ o z => by rw [e4]; exact pushCells_keeps _ _ _ _ (Heap.get?_push_of_some _ z)
  rw [← e4] at Ic
  show codeAny _ _ (.compStart (two kx vx t0 i0 t1 i1 sc pos) 0 (.ref it) (.ref D) (compEnvC sc cl s3.heap.objs.size X.env)) (compPost (model X.prog X.w) X.A X.xe none (EP X pins σ Q) (.ref D) s3.heap.objs.size) { s3 with heap := pushCells (s3.heap.push { cls := .type "dict", data := .dict #[] }) sc.names }
  rw [← e4]
  have loc : (compEnvC sc cl s3.heap.objs.size X.env).locals = s3.heap.objs.size := rfl
  generalize compEnvC sc cl s3.heap.objs.size X.env = ce at *
  have same : ∀ {H' s'}, Inv (X.blk s3 Hb sc ce fp) [] (wipe σ (own.map (·.2))) H' s' → (∀ b ∈ fp, H' b = none) → ∀ b ∈ fp, FpOk (X.blk s3 Hb sc ce fp) [] H' b := fun I' n b hb =>
    ⟨n b hb, (I'.ok.exf b hb).1, I'.ok.exfs b hb, .inl hb, fun y c e => (I'.ok.exf b hb).2 y c e, fun p hp => by cases (show p ∈ ([] : List (Addr × Obj)) from hp)⟩
  have all : codeAny (model X.prog X.w) X.A (.compLoop (two kx vx t0 i0 t1 i1 sc pos) 0 (.ref it) (.ref D) ce) (compPost (model X.prog X.w) X.A X.xe none (EP X pins σ Q) (.ref D) s3.heap.objs.size) s4 := by
    refine loopO (hs1 ce) (fun n s' => ∃ i H', (Inv (X.blk s3 Hb sc ce fp) [] (wipe σ (own.map (·.2))) H' s' ∧ tn i s'.heap) ∧ (∀ b ∈ fp, H' b = none) ∧ W i n H') ?_ m ⟨0, Hb, ⟨Ic, st4⟩, fun b hb => (frb b hb).1.1, w0⟩
    rintro n a ⟨i, H5, ⟨I5, s5⟩, n5, w5⟩
    rcases turn i n H5 w5 with ⟨stop, done⟩ | ⟨goes, N, less, step⟩
    · refine thnF (T.done (X.blk s3 Hb sc ce fp) rfl rfl rfl hc i [] a _ H5 no I5 (same I5 n5) s5 stop) fun r b hb => ?_
      obtain ⟨rfl, I6⟩ := hb
      have I7 : Inv X pins σ H5 b := Ib.call' (ch := fp) I6.os I6.base I6.hok I6.bare fun c hc' => ⟨(frb c hc').1.2.2.2.1, (frb c hc').1.2.1, (frb c hc').1.2.2.2.2.1, (frb c hc').1.2.2.2.2.2⟩
      have nL : H5 s3.heap.objs.size = none := by
        rw [← loc]
        exact I6.free
      obtain ⟨mm, hm, _⟩ := I6.loc
      have hm : b.heap.Ns ce.locals mm := hm
      rw [loc] at hm
      obtain ⟨f0, f1, _, f3, f4, f5⟩ := Ib.fpOk (Nat.le_refl _) nL
      exact ⟨mm, hm, fun h' sb => ⟨.ref D, H5, I7.turned (t' := b.toks) (fun c o hb e => (sb.2 c hb).trans e) f0 f1 f3 f4 f5, rfl, done⟩⟩
    · refine thnF (T.item (X.blk s3 Hb sc ce fp) rfl rfl rfl hc i [] a _ H5 no I5 (same I5 n5) s5 goes) fun r b hb => ?_
      obtain ⟨u, rfl, hb⟩ := hb
      refine thnF hb fun _ c hc' => ?_
      obtain ⟨x, H7, I7, rx, yx, s7, n7⟩ := hc'
      refine thnF (pg.run _ c _ H7 x u _ (I7.pinned (same I7 n7) (T.obj _ _ s7)) rx (step x H7 yx)) fun _ d hd => ?_
      obtain ⟨σ8, H8, I8, ew, q8⟩ := hd
      refine thnF (pi1.run _ d σ8 H8 _ I8 q8) fun xv e he => thnF he fun jv f hf => ?_
      obtain ⟨it1, fp1, tn1, J1, H9, rfl, I9, T1, st9, fr9, W1, ⟨m1, w1⟩, turn1⟩ := hf
      have inner := fun (R : Result → Shared → Prop) fin => inner_ok (Y := X.blk s3 Hb sc ce fp) (kx := kx) (vx := vx) (t0 := t0) (i0 := i0) (i1 := i1) (sc := sc) (pos := pos) (R := R) hc rfl T1 pg1 pk px I9 st9 fr9 w1 turn1 fin
      refine startI (inner _ ?_) (T1.self X.A 0 _ _ _ st9 (inner _ ?_))
      all_goals
        intro H' s' I' nx
        obtain ⟨k', lt, w'⟩ := less _ nx
        have keep : ∀ b ∈ fp, ∀ o, c.heap.get? b = some o → s'.heap.get? b = some o ∧ H' b = none := fun b hb o e => by
          have z := I'.pin (b, o) (List.mem_append_right _ (List.mem_append_right _ (mem_pinsAt hb e)))
          exact ⟨z.1, z.2.1⟩
        refine ⟨k', lt, i + 1, H', ⟨(I'.unpinned (pins := [])).weak (by have z := congrArg List.length ew; rw [wipe_length, wipe_length] at z; rw [wipe_length, wipe_length, z]) fun j v e => ?_, T.keep _ _ _ s7 fun b hb o e => (keep b hb o e).1⟩, fun b hb => ?_, w'⟩
        · rw [← ew] at e
          obtain ⟨e1, e2⟩ := wipe_some e
          rw [wipe_out fun z => e2 (hv j z)]
          exact e1
        · obtain ⟨o, e, _⟩ := T.obj _ _ s7 b hb
          exact (keep b hb o e).2
  exact codeAny_compStart_dict all (T.self X.A 0 _ _ _ st4 all)
/-- the outer walk with what holds at each turn -/
theorem out_it {J : It} {n : Nat} {G : Hp → Prop} {Y : Nat → Hp → V → Hp → Prop} (w : Walk J n G Y) {g g1 : TG} {wi1 : TI} {tk tv : TE} {vs vs1 : List Nat} {σ : L2.St} {H1 : Hp} {D : Addr} {Qd : Hp → Prop} (Pv : Nat → Hp → Prop) (h0 : Pv 0 (upd H1 D (.dK []))) (hG : ∀ i H, i ≤ n → Pv i H → G H)
    (hs : ∀ i x H H', i < n → Pv i H → Y i H x H' → g x (wipe σ vs) H' fun σ2 H2 => wipe σ2 vs = wipe σ vs ∧ wi1 σ2 H2 fun J1 H3 =>
      ∃ W1 : Nat → Nat → Hp → Prop, (∃ m, W1 0 m H3) ∧ ∀ j k H, W1 j k H → (J1.stop j H ∧ Pv (i + 1) H) ∨ (J1.go j H ∧ ∃ N1 : Hp → Prop, (∀ H', N1 H' → ∃ k', k' < k ∧ W1 (j + 1) k' H') ∧ ∀ x H', J1.yld j H x H' →
        g1 x (wipe σ2 vs1) H' fun σ3 H4 => wipe σ3 vs1 = wipe σ2 vs1 ∧ tk σ3 H4 fun y H5 => tv σ3 H5 fun z H6 => ∃ kvs k, y = kV k ∧ H6 D = some (.dK kvs) ∧ kvs.length < sizeLine ∧ N1 (upd H6 D (.dK (putK kvs k z))))) (hd : ∀ H, Pv n H → Qd H) :
    ∃ W : Nat → Nat → Hp → Prop, (∃ m, W 0 m (upd H1 D (.dK []))) ∧ ∀ i m H, W i m H →
      (J.stop i H ∧ Qd H) ∨ (J.go i H ∧ ∃ N : Hp → Prop, (∀ H', N H' → ∃ m', m' < m ∧ W (i + 1) m' H') ∧ ∀ x H', J.yld i H x H' → g x (wipe σ vs) H' fun σ2 H2 => wipe σ2 vs = wipe σ vs ∧ wi1 σ2 H2 fun J1 H3 =>
        ∃ W1 : Nat → Nat → Hp → Prop, (∃ m, W1 0 m H3) ∧ ∀ j k H, W1 j k H → (J1.stop j H ∧ N H) ∨ (J1.go j H ∧ ∃ N1 : Hp → Prop, (∀ H', N1 H' → ∃ k', k' < k ∧ W1 (j + 1) k' H') ∧ ∀ x H', J1.yld j H x H' →
          g1 x (wipe σ2 vs1) H' fun σ3 H4 => wipe σ3 vs1 = wipe σ2 vs1 ∧ tk σ3 H4 fun y H5 => tv σ3 H5 fun z H6 => ∃ kvs k, y = kV k ∧ H6 D = some (.dK kvs) ∧ kvs.length < sizeLine ∧ N1 (upd H6 D (.dK (putK kvs k z))))) := by
  refine ⟨fun i m H => m = n - i ∧ i ≤ n ∧ Pv i H, ⟨n, by simp, Nat.zero_le _, h0⟩, ?_⟩
  rintro i m H ⟨rfl, hi, p⟩
  have q := hG i H hi p
  by_cases lt : i < n
  · exact .inr ⟨w.goes i H lt q, Pv (i + 1), fun H' p' => ⟨n - (i + 1), by omega, rfl, lt, p'⟩, fun x H' y => hs i x H H' lt p (w.yields i H x H' lt q y)⟩
  · obtain rfl : i = n := by omega
    exact .inl ⟨w.stops H q, hd H p⟩
/-- the inner walk -/
theorem in_it {J : It} {n : Nat} {G : Hp → Prop} {Y : Nat → Hp → V → Hp → Prop} (w : Walk J n G Y) {g : TG} {tk tv : TE} {vs : List Nat} {σ : L2.St} {H1 : Hp} {D : Addr} {Qd : Hp → Prop} (Pv : Nat → Hp → Prop) (h0 : Pv 0 H1) (hG : ∀ i H, i ≤ n → Pv i H → G H)
    (hs : ∀ i x H H', i < n → Pv i H → Y i H x H' → g x (wipe σ vs) H' fun σ3 H4 => wipe σ3 vs = wipe σ vs ∧ tk σ3 H4 fun y H5 => tv σ3 H5 fun z H6 => ∃ kvs k, y = kV k ∧ H6 D = some (.dK kvs) ∧ kvs.length < sizeLine ∧ Pv (i + 1) (upd H6 D (.dK (putK kvs k z)))) (hd : ∀ H, Pv n H → Qd H) :
    ∃ W : Nat → Nat → Hp → Prop, (∃ m, W 0 m H1) ∧ ∀ i m H, W i m H → (J.stop i H ∧ Qd H) ∨ (J.go i H ∧ ∃ N : Hp → Prop, (∀ H', N H' → ∃ m', m' < m ∧ W (i + 1) m' H') ∧ ∀ x H', J.yld i H x H' →
      g x (wipe σ vs) H' fun σ3 H4 => wipe σ3 vs = wipe σ vs ∧ tk σ3 H4 fun y H5 => tv σ3 H5 fun z H6 => ∃ kvs k, y = kV k ∧ H6 D = some (.dK kvs) ∧ kvs.length < sizeLine ∧ N (upd H6 D (.dK (putK kvs k z)))) := by
  refine ⟨fun i m H => m = n - i ∧ i ≤ n ∧ Pv i H, ⟨n, by simp, Nat.zero_le _, h0⟩, ?_⟩
  rintro i m H ⟨rfl, hi, p⟩
  have q := hG i H hi p
  by_cases lt : i < n
  · exact .inr ⟨w.goes i H lt q, Pv (i + 1), fun H' p' => ⟨n - (i + 1), by omega, rfl, lt, p'⟩, fun x H' y => hs i x H H' lt p (w.yields i H x H' lt q y)⟩
  · obtain rfl : i = n := by omega
    exact .inl ⟨w.stops H q, hd H p⟩
end
end L2D

namespace K7
open PySem PySem.Spec PyProof.Rows L2 SBX
open K2 (wAt coinsL)
/-! ### objects of the reader: their fields -/
def trF (a : Addr) (b : Addr) : List (Str × V) := [(("by_word" : Str), V.ref a), (("begun" : Str), V.ref b)]
theorem trF_a (a : Addr) (b : Addr) : (trF a b).lookup ("by_word" : Str) = some (V.ref a) := lkH
theorem trF_b (a : Addr) (b : Addr) : (trF a b).lookup ("begun" : Str) = some (V.ref b) := (lkP (by decide +kernel)).trans (lkH)
theorem trF_no {x : Str} (a : Addr) (b : Addr) (h0 : (x == ("by_word" : Str)) = false) (h1 : (x == ("begun" : Str)) = false) : (trF a b).lookup x = none := (lkP h0).trans ((lkP h1).trans (rfl))
theorem trF_sa (a : Addr) (b : Addr) (z : Addr) : putF "by_word" (V.ref z) (trF a b) = trF z b := by
  unfold trF
  rfl
theorem trF_sb (a : Addr) (b : Addr) (z : Addr) : putF "begun" (V.ref z) (trF a b) = trF a z := by
  unfold trF
  rfl
theorem trF_put (a : Addr) (b : Addr) : (putF "begun" (V.ref b) (putF "by_word" (V.ref a) [])) = trF a b := by
  unfold trF
  rfl
theorem trF_len (a : Addr) (b : Addr) : (trF a b).length = 2 := rfl
def hdF (o : Nat) (t : List Nat) (p : Nat) : List (Str × V) := [(("_left_out" : Str), V.int (o : Int)), (("_text" : Str), V.str (tx t)), (("_at" : Str), V.int (p : Int))]
theorem hdF_o (o : Nat) (t : List Nat) (p : Nat) : (hdF o t p).lookup ("_left_out" : Str) = some (V.int (o : Int)) := lkH
theorem hdF_t (o : Nat) (t : List Nat) (p : Nat) : (hdF o t p).lookup ("_text" : Str) = some (V.str (tx t)) := (lkP (by decide +kernel)).trans (lkH)
theorem hdF_p (o : Nat) (t : List Nat) (p : Nat) : (hdF o t p).lookup ("_at" : Str) = some (V.int (p : Int)) := (lkP (by decide +kernel)).trans ((lkP (by decide +kernel)).trans (lkH))
theorem hdF_no {x : Str} (o : Nat) (t : List Nat) (p : Nat) (h0 : (x == ("_left_out" : Str)) = false) (h1 : (x == ("_text" : Str)) = false) (h2 : (x == ("_at" : Str)) = false) : (hdF o t p).lookup x = none := (lkP h0).trans ((lkP h1).trans ((lkP h2).trans (rfl)))
theorem hdF_so (o : Nat) (t : List Nat) (p : Nat) (z : Nat) : putF "_left_out" (V.int (z : Int)) (hdF o t p) = hdF z t p := by
  unfold hdF
  rfl
theorem hdF_st (o : Nat) (t : List Nat) (p : Nat) (z : List Nat) : putF "_text" (V.str (tx z)) (hdF o t p) = hdF o z p := by
  unfold hdF
  rfl
theorem hdF_sp (o : Nat) (t : List Nat) (p : Nat) (z : Nat) : putF "_at" (V.int (z : Int)) (hdF o t p) = hdF o t z := by
  unfold hdF
  rfl
theorem hdF_put (o : Nat) (t : List Nat) (p : Nat) : (putF "_at" (V.int (p : Int)) (putF "_text" (V.str (tx t)) (putF "_left_out" (V.int (o : Int)) []))) = hdF o t p := by
  unfold hdF
  rfl
theorem hdF_len (o : Nat) (t : List Nat) (p : Nat) : (hdF o t p).length = 3 := rfl
def rgF (hd : Addr) (ld : Nat) (w : Addr) (nx : Nat) (la : Bool) (lf : Nat) (ln : Addr) (vL : V) (vB : V) (vT : V) (ov : Bool) (sp : V) : List (Str × V) := [(("_heard" : Str), V.ref hd), (("_ahead" : Str), V.int (ld : Int)), (("_whole" : Str), V.ref w), (("_next" : Str), V.int (nx : Int)), (("_is_last" : Str), V.bl la), (("_left" : Str), V.int (lf : Int)), (("_lengths" : Str), V.ref ln), (("_letters" : Str), vL), (("_backs" : Str), vB), (("_told" : Str), vT), (("_over" : Str), V.bl ov), (("_slip" : Str), sp)]
theorem rgF_hd (hd : Addr) (ld : Nat) (w : Addr) (nx : Nat) (la : Bool) (lf : Nat) (ln : Addr) (vL : V) (vB : V) (vT : V) (ov : Bool) (sp : V) : (rgF hd ld w nx la lf ln vL vB vT ov sp).lookup ("_heard" : Str) = some (V.ref hd) := lkH
theorem rgF_ld (hd : Addr) (ld : Nat) (w : Addr) (nx : Nat) (la : Bool) (lf : Nat) (ln : Addr) (vL : V) (vB : V) (vT : V) (ov : Bool) (sp : V) : (rgF hd ld w nx la lf ln vL vB vT ov sp).lookup ("_ahead" : Str) = some (V.int (ld : Int)) := (lkP (by decide +kernel)).trans (lkH)
theorem rgF_w (hd : Addr) (ld : Nat) (w : Addr) (nx : Nat) (la : Bool) (lf : Nat) (ln : Addr) (vL : V) (vB : V) (vT : V) (ov : Bool) (sp : V) : (rgF hd ld w nx la lf ln vL vB vT ov sp).lookup ("_whole" : Str) = some (V.ref w) := (lkP (by decide +kernel)).trans ((lkP (by decide +kernel)).trans (lkH))
theorem rgF_nx (hd : Addr) (ld : Nat) (w : Addr) (nx : Nat) (la : Bool) (lf : Nat) (ln : Addr) (vL : V) (vB : V) (vT : V) (ov : Bool) (sp : V) : (rgF hd ld w nx la lf ln vL vB vT ov sp).lookup ("_next" : Str) = some (V.int (nx : Int)) := (lkP (by decide +kernel)).trans ((lkP (by decide +kernel)).trans ((lkP (by decide +kernel)).trans (lkH)))
theorem rgF_la (hd : Addr) (ld : Nat) (w : Addr) (nx : Nat) (la : Bool) (lf : Nat) (ln : Addr) (vL : V) (vB : V) (vT : V) (ov : Bool) (sp : V) : (rgF hd ld w nx la lf ln vL vB vT ov sp).lookup ("_is_last" : Str) = some (V.bl la) := (lkP (by decide +kernel)).trans ((lkP (by decide +kernel)).trans ((lkP (by decide +kernel)).trans ((lkP (by decide +kernel)).trans (lkH))))
theorem rgF_lf (hd : Addr) (ld : Nat) (w : Addr) (nx : Nat) (la : Bool) (lf : Nat) (ln : Addr) (vL : V) (vB : V) (vT : V) (ov : Bool) (sp : V) : (rgF hd ld w nx la lf ln vL vB vT ov sp).lookup ("_left" : Str) = some (V.int (lf : Int)) := (lkP (by decide +kernel)).trans ((lkP (by decide +kernel)).trans ((lkP (by decide +kernel)).trans ((lkP (by decide +kernel)).trans ((lkP (by decide +kernel)).trans (lkH)))))
theorem rgF_ln (hd : Addr) (ld : Nat) (w : Addr) (nx : Nat) (la : Bool) (lf : Nat) (ln : Addr) (vL : V) (vB : V) (vT : V) (ov : Bool) (sp : V) : (rgF hd ld w nx la lf ln vL vB vT ov sp).lookup ("_lengths" : Str) = some (V.ref ln) := (lkP (by decide +kernel)).trans ((lkP (by decide +kernel)).trans ((lkP (by decide +kernel)).trans ((lkP (by decide +kernel)).trans ((lkP (by decide +kernel)).trans ((lkP (by decide +kernel)).trans (lkH))))))
theorem rgF_vL (hd : Addr) (ld : Nat) (w : Addr) (nx : Nat) (la : Bool) (lf : Nat) (ln : Addr) (vL : V) (vB : V) (vT : V) (ov : Bool) (sp : V) : (rgF hd ld w nx la lf ln vL vB vT ov sp).lookup ("_letters" : Str) = some (vL) := (lkP (by decide +kernel)).trans ((lkP (by decide +kernel)).trans ((lkP (by decide +kernel)).trans ((lkP (by decide +kernel)).trans ((lkP (by decide +kernel)).trans ((lkP (by decide +kernel)).trans ((lkP (by decide +kernel)).trans (lkH)))))))
theorem rgF_vB (hd : Addr) (ld : Nat) (w : Addr) (nx : Nat) (la : Bool) (lf : Nat) (ln : Addr) (vL : V) (vB : V) (vT : V) (ov : Bool) (sp : V) : (rgF hd ld w nx la lf ln vL vB vT ov sp).lookup ("_backs" : Str) = some (vB) := (lkP (by decide +kernel)).trans ((lkP (by decide +kernel)).trans ((lkP (by decide +kernel)).trans ((lkP (by decide +kernel)).trans ((lkP (by decide +kernel)).trans ((lkP (by decide +kernel)).trans ((lkP (by decide +kernel)).trans ((lkP (by decide +kernel)).trans (lkH))))))))
theorem rgF_vT (hd : Addr) (ld : Nat) (w : Addr) (nx : Nat) (la : Bool) (lf : Nat) (ln : Addr) (vL : V) (vB : V) (vT : V) (ov : Bool) (sp : V) : (rgF hd ld w nx la lf ln vL vB vT ov sp).lookup ("_told" : Str) = some (vT) := (lkP (by decide +kernel)).trans ((lkP (by decide +kernel)).trans ((lkP (by decide +kernel)).trans ((lkP (by decide +kernel)).trans ((lkP (by decide +kernel)).trans ((lkP (by decide +kernel)).trans ((lkP (by decide +kernel)).trans ((lkP (by decide +kernel)).trans ((lkP (by decide +kernel)).trans (lkH)))))))))
theorem rgF_ov (hd : Addr) (ld : Nat) (w : Addr) (nx : Nat) (la : Bool) (lf : Nat) (ln : Addr) (vL : V) (vB : V) (vT : V) (ov : Bool) (sp : V) : (rgF hd ld w nx la lf ln vL vB vT ov sp).lookup ("_over" : Str) = some (V.bl ov) := (lkP (by decide +kernel)).trans ((lkP (by decide +kernel)).trans ((lkP (by decide +kernel)).trans ((lkP (by decide +kernel)).trans ((lkP (by decide +kernel)).trans ((lkP (by decide +kernel)).trans ((lkP (by decide +kernel)).trans ((lkP (by decide +kernel)).trans ((lkP (by decide +kernel)).trans ((lkP (by decide +kernel)).trans (lkH))))))))))
theorem rgF_sp (hd : Addr) (ld : Nat) (w : Addr) (nx : Nat) (la : Bool) (lf : Nat) (ln : Addr) (vL : V) (vB : V) (vT : V) (ov : Bool) (sp : V) : (rgF hd ld w nx la lf ln vL vB vT ov sp).lookup ("_slip" : Str) = some (sp) := (lkP (by decide +kernel)).trans ((lkP (by decide +kernel)).trans ((lkP (by decide +kernel)).trans ((lkP (by decide +kernel)).trans ((lkP (by decide +kernel)).trans ((lkP (by decide +kernel)).trans ((lkP (by decide +kernel)).trans ((lkP (by decide +kernel)).trans ((lkP (by decide +kernel)).trans ((lkP (by decide +kernel)).trans ((lkP (by decide +kernel)).trans (lkH)))))))))))
theorem rgF_no {x : Str} (hd : Addr) (ld : Nat) (w : Addr) (nx : Nat) (la : Bool) (lf : Nat) (ln : Addr) (vL : V) (vB : V) (vT : V) (ov : Bool) (sp : V) (h0 : (x == ("_heard" : Str)) = false) (h1 : (x == ("_ahead" : Str)) = false) (h2 : (x == ("_whole" : Str)) = false) (h3 : (x == ("_next" : Str)) = false) (h4 : (x == ("_is_last" : Str)) = false) (h5 : (x == ("_left" : Str)) = false) (h6 : (x == ("_lengths" : Str)) = false) (h7 : (x == ("_letters" : Str)) = false) (h8 : (x == ("_backs" : Str)) = false) (h9 : (x == ("_told" : Str)) = false) (h10 : (x == ("_over" : Str)) = false) (h11 : (x == ("_slip" : Str)) = false) : (rgF hd ld w nx la lf ln vL vB vT ov sp).lookup x = none := (lkP h0).trans ((lkP h1).trans ((lkP h2).trans ((lkP h3).trans ((lkP h4).trans ((lkP h5).trans ((lkP h6).trans ((lkP h7).trans ((lkP h8).trans ((lkP h9).trans ((lkP h10).trans ((lkP h11).trans (rfl))))))))))))
theorem rgF_shd (hd : Addr) (ld : Nat) (w : Addr) (nx : Nat) (la : Bool) (lf : Nat) (ln : Addr) (vL : V) (vB : V) (vT : V) (ov : Bool) (sp : V) (z : Addr) : putF "_heard" (V.ref z) (rgF hd ld w nx la lf ln vL vB vT ov sp) = rgF z ld w nx la lf ln vL vB vT ov sp := by
  unfold rgF
  rfl
theorem rgF_sld (hd : Addr) (ld : Nat) (w : Addr) (nx : Nat) (la : Bool) (lf : Nat) (ln : Addr) (vL : V) (vB : V) (vT : V) (ov : Bool) (sp : V) (z : Nat) : putF "_ahead" (V.int (z : Int)) (rgF hd ld w nx la lf ln vL vB vT ov sp) = rgF hd z w nx la lf ln vL vB vT ov sp := by
  unfold rgF
  rfl
theorem rgF_sw (hd : Addr) (ld : Nat) (w : Addr) (nx : Nat) (la : Bool) (lf : Nat) (ln : Addr) (vL : V) (vB : V) (vT : V) (ov : Bool) (sp : V) (z : Addr) : putF "_whole" (V.ref z) (rgF hd ld w nx la lf ln vL vB vT ov sp) = rgF hd ld z nx la lf ln vL vB vT ov sp := by
  unfold rgF
  rfl
theorem rgF_snx (hd : Addr) (ld : Nat) (w : Addr) (nx : Nat) (la : Bool) (lf : Nat) (ln : Addr) (vL : V) (vB : V) (vT : V) (ov : Bool) (sp : V) (z : Nat) : putF "_next" (V.int (z : Int)) (rgF hd ld w nx la lf ln vL vB vT ov sp) = rgF hd ld w z la lf ln vL vB vT ov sp := by
  unfold rgF
  rfl
theorem rgF_sla (hd : Addr) (ld : Nat) (w : Addr) (nx : Nat) (la : Bool) (lf : Nat) (ln : Addr) (vL : V) (vB : V) (vT : V) (ov : Bool) (sp : V) (z : Bool) : putF "_is_last" (V.bl z) (rgF hd ld w nx la lf ln vL vB vT ov sp) = rgF hd ld w nx z lf ln vL vB vT ov sp := by
  unfold rgF
  rfl
theorem rgF_slf (hd : Addr) (ld : Nat) (w : Addr) (nx : Nat) (la : Bool) (lf : Nat) (ln : Addr) (vL : V) (vB : V) (vT : V) (ov : Bool) (sp : V) (z : Nat) : putF "_left" (V.int (z : Int)) (rgF hd ld w nx la lf ln vL vB vT ov sp) = rgF hd ld w nx la z ln vL vB vT ov sp := by
  unfold rgF
  rfl
theorem rgF_sln (hd : Addr) (ld : Nat) (w : Addr) (nx : Nat) (la : Bool) (lf : Nat) (ln : Addr) (vL : V) (vB : V) (vT : V) (ov : Bool) (sp : V) (z : Addr) : putF "_lengths" (V.ref z) (rgF hd ld w nx la lf ln vL vB vT ov sp) = rgF hd ld w nx la lf z vL vB vT ov sp := by
  unfold rgF
  rfl
theorem rgF_svL (hd : Addr) (ld : Nat) (w : Addr) (nx : Nat) (la : Bool) (lf : Nat) (ln : Addr) (vL : V) (vB : V) (vT : V) (ov : Bool) (sp : V) (z : V) : putF "_letters" (z) (rgF hd ld w nx la lf ln vL vB vT ov sp) = rgF hd ld w nx la lf ln z vB vT ov sp := by
  unfold rgF
  rfl
theorem rgF_svB (hd : Addr) (ld : Nat) (w : Addr) (nx : Nat) (la : Bool) (lf : Nat) (ln : Addr) (vL : V) (vB : V) (vT : V) (ov : Bool) (sp : V) (z : V) : putF "_backs" (z) (rgF hd ld w nx la lf ln vL vB vT ov sp) = rgF hd ld w nx la lf ln vL z vT ov sp := by
  unfold rgF
  rfl
theorem rgF_svT (hd : Addr) (ld : Nat) (w : Addr) (nx : Nat) (la : Bool) (lf : Nat) (ln : Addr) (vL : V) (vB : V) (vT : V) (ov : Bool) (sp : V) (z : V) : putF "_told" (z) (rgF hd ld w nx la lf ln vL vB vT ov sp) = rgF hd ld w nx la lf ln vL vB z ov sp := by
  unfold rgF
  rfl
theorem rgF_sov (hd : Addr) (ld : Nat) (w : Addr) (nx : Nat) (la : Bool) (lf : Nat) (ln : Addr) (vL : V) (vB : V) (vT : V) (ov : Bool) (sp : V) (z : Bool) : putF "_over" (V.bl z) (rgF hd ld w nx la lf ln vL vB vT ov sp) = rgF hd ld w nx la lf ln vL vB vT z sp := by
  unfold rgF
  rfl
theorem rgF_ssp (hd : Addr) (ld : Nat) (w : Addr) (nx : Nat) (la : Bool) (lf : Nat) (ln : Addr) (vL : V) (vB : V) (vT : V) (ov : Bool) (sp : V) (z : V) : putF "_slip" (z) (rgF hd ld w nx la lf ln vL vB vT ov sp) = rgF hd ld w nx la lf ln vL vB vT ov z := by
  unfold rgF
  rfl
theorem rgF_put (hd : Addr) (ld : Nat) (w : Addr) (nx : Nat) (la : Bool) (lf : Nat) (ln : Addr) (vL : V) (vB : V) (vT : V) (ov : Bool) (sp : V) : (putF "_slip" (sp) (putF "_over" (V.bl ov) (putF "_told" (vT) (putF "_backs" (vB) (putF "_letters" (vL) (putF "_lengths" (V.ref ln) (putF "_left" (V.int (lf : Int)) (putF "_is_last" (V.bl la) (putF "_next" (V.int (nx : Int)) (putF "_whole" (V.ref w) (putF "_ahead" (V.int (ld : Int)) (putF "_heard" (V.ref hd) [])))))))))))) = rgF hd ld w nx la lf ln vL vB vT ov sp := by
  unfold rgF
  rfl
theorem rgF_len (hd : Addr) (ld : Nat) (w : Addr) (nx : Nat) (la : Bool) (lf : Nat) (ln : Addr) (vL : V) (vB : V) (vT : V) (ov : Bool) (sp : V) : (rgF hd ld w nx la lf ln vL vB vT ov sp).length = 12 := rfl
def rdF (r : Addr) : List (Str × V) := [(("_reading" : Str), V.ref r)]
theorem rdF_r (r : Addr) : (rdF r).lookup ("_reading" : Str) = some (V.ref r) := lkH
theorem rdF_no {x : Str} (r : Addr) (h0 : (x == ("_reading" : Str)) = false) : (rdF r).lookup x = none := (lkP h0).trans (rfl)
theorem rdF_sr (r : Addr) (z : Addr) : putF "_reading" (V.ref z) (rdF r) = rdF z := by
  unfold rdF
  rfl
theorem rdF_put (r : Addr) : (putF "_reading" (V.ref r) []) = rdF r := by
  unfold rdF
  rfl
theorem rdF_len (r : Addr) : (rdF r).length = 1 := rfl
/-- one object at work: all else stays -/
structure Ob (x C dx : Addr) (H H' : Hp) (fs : List (Str × V)) : Prop where
  at_ : H' x = some (.ins C dx fs)
  keep : ∀ b o, b ≠ x → H b = some o → H' b = some o
theorem Ob.put {x C dx : Addr} {H H' : Hp} {fs : List (Str × V)} (h : Ob x C dx H H' fs) (fs' : List (Str × V)) : Ob x C dx H (upd H' x (.ins C dx fs')) fs' := ⟨upd_same, fun b o n e => by rw [upd_ne n]; exact h.keep b o n e⟩
theorem Ob.same {x C dx : Addr} {H H1 H2 : Hp} {fs : List (Str × V)} (h : Ob x C dx H H1 fs) (s : Same H1 H2) : Ob x C dx H H2 fs := ⟨s _ _ h.at_, fun b o n e => s _ _ (h.keep b o n e)⟩
theorem Ob.start {x C dx : Addr} {H : Hp} {fs : List (Str × V)} (h : H x = some (.ins C dx fs)) : Ob x C dx H H fs := ⟨h, fun _ _ _ e => e⟩
theorem Ob.new {x C dx : Addr} {H H' : Hp} {fs : List (Str × V)} (h : Ob x C dx H H' fs) {d : Addr} (n : H' d = none) : d ≠ x ∧ H d = none := by
  have hne : d ≠ x := fun z => by rw [z, h.at_] at n; cases n
  refine ⟨hne, ?_⟩
  cases e : H d with
  | none => rfl
  | some o => rw [h.keep d o hne e] at n; cases n
def TrAt (C : Addr) (H : Hp) (x : Addr) (ls : List Int) : Prop := ∃ dx a b ka kb, H x = some (.ins C dx (trF a b)) ∧ H a = some (.dK ka) ∧ H b = some (.dK kb) ∧ TreeOk ls ka kb
theorem TrAt.keep {C x : Addr} {H H' : Hp} {ls : List Int} (h : TrAt C H x ls) (k : ∀ b o, ((∃ dx p q, o = .ins C dx (trF p q)) ∨ ∃ kvs, o = .dK kvs) → H b = some o → H' b = some o) : TrAt C H' x ls := by
  obtain ⟨dx, a, b, ka, kb, h1, h2, h3, h4⟩ := h
  exact ⟨dx, a, b, ka, kb, k _ _ (.inl ⟨_, _, _, rfl⟩) h1, k _ _ (.inr ⟨_, rfl⟩) h2, k _ _ (.inr ⟨_, rfl⟩) h3, h4⟩
structure TrTxt (K : PySem.W.Frag) (mg : Str → Option Value) (C fI : Addr) : Prop where
  cl : Cls K C
  gC : mg "Tree" = some (.ref C)
  made : Mk K C fI
  nW : NoAttr K C "by_word"
  nB : NoAttr K C "begun"
end K7

namespace K7
open PySem PySem.Spec PyProof.Rows L2 SBX
/-! ### slices of texts; keys of a dict -/
theorem cut_ab (t : List Nat) (a b : Nat) (h : a ≤ b) : cutS (tx t) (some (a : Int)) (some (b : Int)) = tx ((t.drop a).take (b - a)) := by
  unfold cutS
  rw [HT.sIx_nat, HT.sIx_nat, tx_len]
  show (⟨((t.toArray.toList.drop _).take _).toArray⟩ : Str) = _
  rw [List.toList_toArray]
  congr 2
  by_cases q : a ≤ t.length
  · rw [Nat.min_eq_left q]
    by_cases q2 : b ≤ t.length
    · rw [Nat.min_eq_left q2]
    · rw [Nat.min_eq_right (by omega), List.take_of_length_le (by rw [List.length_drop]; omega), List.take_of_length_le (by rw [List.length_drop]; omega)]
  · rw [Nat.min_eq_right (show t.length ≤ a by omega), Nat.min_eq_right (show t.length ≤ b by omega), List.drop_of_length_le (Nat.le_refl _), List.drop_of_length_le (show t.length ≤ a by omega), List.take_nil, List.take_nil]
theorem cut_a (t : List Nat) (a : Nat) : cutS (tx t) (some (a : Int)) none = tx (t.drop a) := by
  unfold cutS
  rw [HT.sIx_nat, HT.sIx_none, tx_len]
  show (⟨((t.toArray.toList.drop _).take _).toArray⟩ : Str) = _
  rw [List.toList_toArray]
  congr 1
  by_cases q : a ≤ t.length
  · rw [Nat.min_eq_left q, List.take_of_length_le (by rw [List.length_drop]; omega)]
  · rw [Nat.min_eq_right (by omega), Nat.sub_self, List.take_zero, List.drop_of_length_le (by omega)]
theorem cut_b (t : List Nat) (b : Nat) : cutS (tx t) none (some (b : Int)) = tx (t.take b) := by
  unfold cutS
  rw [HT.sIx_nat, HT.sIx_none, tx_len]
  show (⟨((t.toArray.toList.drop _).take _).toArray⟩ : Str) = _
  rw [List.toList_toArray]
  congr 1
  rw [List.drop_zero, Nat.sub_zero]
  by_cases q : b ≤ t.length
  · rw [Nat.min_eq_left q]
  · rw [Nat.min_eq_right (by omega), List.take_of_length_le (Nat.le_refl _), List.take_of_length_le (by omega)]
theorem tx_inj {a b : List Nat} (h : tx a = tx b) : a = b := by
  have := congrArg (fun s : Str => s.cps.toList) h
  have : a.toArray.toList = b.toArray.toList := this
  rwa [List.toList_toArray, List.toList_toArray] at this
theorem key_put {kvs : List (Key × V)} {k : Key} {z : V} : ∀ e ∈ putK kvs k z, e.1 = k ∨ ∃ e' ∈ kvs, e'.1 = e.1 := fun e he => by
  unfold putK at he
  split at he
  · obtain ⟨e', h1, rfl⟩ := List.mem_map.mp he
    by_cases q : e'.1 = k
    · rw [if_pos q]
      exact .inl q
    · rw [if_neg q]
      exact .inr ⟨e', h1, rfl⟩
  · rcases List.mem_append.mp he with he | he
    · exact .inr ⟨e, he, rfl⟩
    · rw [List.mem_singleton.mp he]
      exact .inl rfl
theorem key_at {kvs : List (Key × V)} {k : Key} {v : V} (h : valV kvs k = some v) : ∃ e ∈ kvs, e.1 = k := by
  unfold valV at h
  cases q : kvs.find? fun kv => decide (kv.1 = k) with
  | none => rw [q] at h; cases h
  | some e => exact ⟨e, List.mem_of_find?_eq_some q, of_decide_eq_true (List.find?_some (p := fun kv : Key × V => decide (kv.1 = k)) q)⟩
theorem key_no {kvs : List (Key × V)} {k : Key} (h : ∀ e ∈ kvs, e.1 ≠ k) : valV kvs k = none := by
  cases q : valV kvs k with
  | none => rfl
  | some v =>
    obtain ⟨e, he, z⟩ := key_at q
    exact absurd z (h e he)
theorem map_val (f : Nat → V) : ∀ {ys : List Nat} {y : Nat}, y ∈ ys → valV (ys.map fun (y : Nat) => ((Sum.inl (y : Int) : Key), f y)) (.inl (y : Int)) = some (f y)
  | u :: r, y, h => by
    by_cases q : u = y
    · rw [q, List.map_cons]
      exact valV_pos rfl
    · rw [List.map_cons, valV_neg (fun z => q (by have := Sum.inl.inj z; omega))]
      exact map_val f ((List.mem_cons.mp h).resolve_left fun z => q z.symm)
end K7

namespace K7
open PySem PySem.Spec PyProof.Rows L2 SBX
open K2 (wAt coinsL)
/-! ### Tree.__init__ -/
abbrev NTr : List Str := ["self", "lengths", "found", "letter", "word", "many"]
theorem scTrI : FnScope NTr ["self", "lengths"] (defScope sTrInit) := ⟨rfl, rfl, rfl, by decide +kernel, rfl, by decide +kernel, by decide +kernel⟩
abbrev rLen (K : PySem.W.Frag) : List V → Hp → VK → Prop := fun xs H Q => ∃ x n, xs = [x] ∧ LenV K x H n ∧ Q (V.int (n : Nat)) H
section
variable {P : Program} {w : World} {K : PySem.W.Frag} {mg : Str → Option Value} {base : Heap} {CT fTI : Addr}
def spTrI (C : Addr) : Sp := fun vs H Q _ => ∃ (x dx p : Addr) (ls : List Int), vs = [.ref x, .ref p] ∧ H x = some (.ins C dx []) ∧ H p = some (.lst (ls.map V.int)) ∧ 2 ≤ ls.length ∧ WdOk ls ∧
  ∀ H', (∀ b o, b ≠ x → H b = some o → H' b = some o) → TrAt C H' x ls → Q .non H'
theorem ok_trI (T : TrTxt K mg CT fTI) {fW : Addr} {fd fdW : FuncData} {j k1 : Nat} (F : Fun K "__init__" "Tree.__init__" sTrInit fTI fd)
    (GW : FnOk P w K mg base CX0 k1 fW fdW ["lengths"] spWords) (bW : Binds K fdW ["lengths"] []) (kW : PySem.W.keepIn K (.ref fW) = true) (gW : mg "words" = some (.ref fW)) (l1 : k1 ≤ j)
    (m1 : mg "range" = none) (m2 : mg "len" = none) : FnOk P w K mg base CX0 (j + 1) fTI fd ["self", "lengths"] (spTrI CT) := by
  refine F.ok scTrI (fun vs H Q E h => ?_) (fun cdv A outer s H vs Q E hr h => ?_)
  · obtain ⟨x, dx, p, ls, rfl, _⟩ := h
    rfl
  · obtain ⟨x, dx, p, ls, rfl, hx, hp, h2, hW, q⟩ := h
    have hz := PySem.sizeLine_eq
    refine ⟨_, pss_cons (ps_set (i := 2) scTrI.nd rfl (.inr rfl) (pe_call GW (hr.mono l1) (by rfl) gW kW bW .nil pass0 (pa_cons (pv 1) pa_nil)))
      (pss_cons (ps_fld (pv 0) (pe_lock (pe_dc (own := [("letter", 3)]) (g := gName 3) (tt := tYes) rfl scTrI.nd (pi_keys (pv 2)) (blkOk_by (N := NTr) (sc := defScope sTrInit) (by decide +kernel))
          (fun _ _ _ _ _ => pg_name (i := 3) scTrI.nd rfl (.inl rfl)) (fun _ _ _ _ _ => pts_nil) (fun _ _ _ _ _ => pe_dget (hu_of hr) (pv 2) (pv 3) (fun _ _ => rfl)) (fun _ _ _ _ _ => pv 3))) rfl)
      (pss_one (ps_fld (pv 0) (pe_lock (L2D.pe_dc2 (own := [("word", 4), ("many", 5)]) (vs1 := [5]) (g := gName 4) (g1 := gName 5) rfl scTrI.nd (pi_keys (pe_fld (pv 0) rfl)) (blkOk_by (N := NTr) (sc := defScope sTrInit) (by decide +kernel)) (by decide)
          (fun _ _ _ _ _ => pg_name (i := 4) scTrI.nd rfl (.inl rfl)) (fun _ _ _ _ _ => pi_range2 (by rfl) m1 (pa_cons pe_int (pa_cons (pe_callB (r := rLen K) call_len (by rfl) m2 PySem.boot_len (pa_cons (pv 4) pa_nil)) pa_nil)))
          (fun _ _ _ _ _ => pg_name (i := 5) scTrI.nd rfl (.inl rfl)) (fun _ _ _ _ _ => pe_slice sl_str (pv 4) po_none (po_some (pv 5))) (fun _ _ _ _ _ => pe_bl))) rfl))), ?_⟩
    refine ⟨_, rfl, p, ls, rfl, hp, h2, hW, fun H1 d s1 nd hd => ?_⟩
    dsimp only [gName]
    obtain ⟨ys, hd, hyl, hyn, hym⟩ := hd
    have hd0 := hd
    obtain ⟨k0, ek0⟩ : ∃ k0, k0 = ys.map fun (y : Nat) => ((Sum.inl (y : Int) : Key), V.str (wdS ls y)) := ⟨_, rfl⟩
    rw [← ek0] at hd
    have lk0 : k0.length = ys.length := by rw [ek0, List.length_map]
    have wdv : ∀ y ∈ ys, y < ls.length ∧ 0 < wAt ls y := fun y hy => (hym y).mp hy
    refine ⟨d, _, hd, trivial, fun od => ⟨_, rfl, d, od, rfl, .inl ⟨_, upd_same, fun D nD => ?_⟩⟩⟩
    have hfz : (upd H1 d (.frz od (.dK k0))) d = some (.frz od (.dK k0)) := upd_same
    have back2 : ∀ b, b ≠ d → (upd H1 d (.frz od (.dK k0))) b = H1 b := fun b n => upd_ne n
    generalize eH2 : upd H1 d (.frz od (.dK k0)) = H2 at *
    refine dc_it (walk_keys (d := d) (o := od) (kvs := k0)) (fun i H' => Same H2 H' ∧ ∃ kvs, H' D = some (.dK kvs) ∧ kvs.length ≤ i ∧ (∀ y ∈ ys.take i, valV kvs (.inr (tx (wdL ls y))) = some (.int (y : Int))) ∧ ∀ e ∈ kvs, ∃ y ∈ ys, e.1 = .inr (tx (wdL ls y)))
      ⟨same_upd nD, [], upd_same, Nat.le_refl _, fun y hy => (by simp at hy), fun e he => (by cases he)⟩ (fun i H' _ h => h.1 _ _ hfz) (fun i x0 H3 H4 hi h y => ?_) (fun H6 h => ?_)
    · obtain ⟨sm, kvs, hD, hl, hv, hk⟩ := h
      obtain ⟨rfl, k, v, e1, rfl⟩ := y
      rw [ek0, List.getElem?_map] at e1
      cases e2 : ys[i]? with
      | none => rw [e2] at e1; cases e1
      | some y =>
      rw [e2] at e1
      obtain ⟨rfl, rfl⟩ := Prod.mk.inj (Option.some.inj e1)
      have hy : y ∈ ys := List.mem_of_getElem? e2
      rw [tx_wd] at *
      refine ⟨rfl, yes ⟨_, rfl, _, rfl, d, .str (tx (wdL ls y)), rfl, ?_, _, rfl, kvs, .inr (tx (wdL ls y)), rfl, hD, ?_, same_put sm nD, _, upd_same, ?_, ?_, ?_⟩⟩
      · refine .inl ⟨k0, .inl (y : Int), .inr ⟨od, sm _ _ hfz⟩, rfl, ?_⟩
        have := map_val (fun y => V.str (wdS ls y)) hy
        rw [ek0, this, tx_wd]
      · omega
      · have := length_putK kvs (.inr (tx (wdL ls y))) (kV (.inl (y : Int)))
        omega
      · intro u hu
        rw [valV_put]
        rw [List.take_add_one, e2] at hu
        by_cases z : (Sum.inr (tx (wdL ls u)) : Key) = .inr (tx (wdL ls y))
        · rw [if_pos z]
          have z2 : wdL ls u = wdL ls y := tx_inj (Sum.inr.inj z)
          have hu2 : u ∈ ys := by
            rcases List.mem_append.mp hu with hu | hu
            · exact List.mem_of_mem_take hu
            · rw [List.mem_singleton.mp hu]
              exact hy
          obtain ⟨a1, a2⟩ := wdv u hu2
          obtain ⟨b1, b2⟩ := wdv y hy
          rw [(wd_sep hW b1 b2 a1 a2 (e := []) (by rw [List.append_nil]; exact z2)).1]
          rfl
        · rw [if_neg z]
          rcases List.mem_append.mp hu with hu | hu
          · exact hv u hu
          · rw [List.mem_singleton.mp hu] at z
            exact absurd rfl z
      · intro e he
        rcases key_put e he with z | ⟨e', h1, h2'⟩
        · exact ⟨y, hy, z⟩
        · rw [← h2']
          exact hk e' h1
    · obtain ⟨sm, kvs, hD, hl, hv, hk⟩ := h
      rw [lk0, List.take_length] at hv
      rw [lk0] at hl
      have nDd : D ≠ d := fun z => by rw [z, hfz] at nD; cases nD
      have sm7 : Same H1 (upd H6 d (.dK k0)) := fun b o e => by
        by_cases z : b = d
        · rw [z, hd] at e
          rw [z, upd_same, ← e]
        · rw [upd_ne z]
          exact sm _ _ (by rw [back2 b z]; exact e)
      have hD7 : (upd H6 d (.dK k0)) D = some (.dK kvs) := by rw [upd_ne nDd]; exact hD
      have nD1 : H1 D = none := by rw [← back2 D nDd]; exact nD
      refine ⟨sm _ _ hfz, ?_⟩
      generalize upd H6 d (.dK k0) = H7 at *
      have O7 : Ob x CT dx H H7 [] := ⟨(s1.trans sm7) _ _ hx, fun b o _ e => (s1.trans sm7) _ _ e⟩
      refine ⟨_, rfl, x, CT, dx, _, rfl, O7.at_, T.cl, T.nW, (by show 0 < 1000; decide), ?_⟩
      have nDx : D ≠ x := fun z => by rw [z, s1 _ _ hx] at nD1; cases nD1
      have O8 := O7.put (putF "by_word" (.ref D) [])
      have hD8 : (upd H7 x (.ins CT dx (putF "by_word" (.ref D) []))) D = some (.dK kvs) := by rw [upd_ne nDx]; exact hD7
      generalize upd H7 x (.ins CT dx (putF "by_word" (.ref D) [])) = H8 at *
      refine ⟨D, _, hD8, trivial, fun oe => ?_⟩
      have bk9 : ∀ b, b ≠ D → (upd H8 D (.frz oe (.dK kvs))) b = H8 b := fun b n => upd_ne n
      have hf9 : (upd H8 D (.frz oe (.dK kvs))) D = some (.frz oe (.dK kvs)) := upd_same
      generalize upd H8 D (.frz oe (.dK kvs)) = H9 at *
      have hx9 : H9 x = some (.ins CT dx (putF "by_word" (.ref D) [])) := by rw [bk9 x (Ne.symm nDx)]; exact O8.at_
      refine ⟨_, rfl, x, CT, dx, _, _, rfl, hx9, T.cl, T.nW, lkH, D, oe, rfl, .inl ⟨_, hf9, fun B nB => ?_⟩⟩
      refine L2D.out_it (walk_keys (d := D) (o := oe) (kvs := kvs)) (fun i H' => Same H9 H' ∧ ∃ kb, H' B = some (.dK kb) ∧ kb.length ≤ 12 * i ∧ ∀ e ∈ kvs.take i, ∀ u, e.1 = .inr (tx u) → ∀ p r, u = p ++ r → r ≠ [] → p ≠ [] → (valV kb (.inr (tx p))).isSome = true)
        ⟨same_upd nB, [], upd_same, Nat.le_refl _, fun e he => (by simp at he)⟩ (fun i H' _ h => h.1 _ _ hf9) (fun i x0 H3 H4 hi h y => ?_) (fun H' h => ?_)
      · obtain ⟨sm, kb, hB, hbl, hbv⟩ := h
        obtain ⟨rfl, k, v, e1, rfl⟩ := y
        obtain ⟨y, hy, hk1⟩ := hk _ (List.mem_of_getElem? e1)
        obtain rfl : k = .inr (tx (wdL ls y)) := hk1
        obtain ⟨w1, w2, _⟩ := wd_ne hW (wdv y hy).1 (wdv y hy).2
        refine ⟨rfl, _, rfl, _, _, rfl, ⟨(by rw [tx_len]; omega), rfl⟩, _, _, rfl, (by rw [tx_len]; omega), ?_⟩
        rw [tx_len, show (((wdL ls y).length : Int) - 1).toNat = (wdL ls y).length - 1 by omega]
        refine L2D.in_it walk_range (fun j H' => Same H9 H' ∧ ∃ kc, H' B = some (.dK kc) ∧ kc.length ≤ 12 * i + j ∧ (∀ e ∈ kvs.take i, ∀ u, e.1 = .inr (tx u) → ∀ p r, u = p ++ r → r ≠ [] → p ≠ [] → (valV kc (.inr (tx p))).isSome = true) ∧ ∀ p r, wdL ls y = p ++ r → r ≠ [] → p ≠ [] → p.length ≤ j → (valV kc (.inr (tx p))).isSome = true)
          ⟨sm, kb, hB, by omega, hbv, fun p r _ _ n z => absurd (List.length_eq_zero_iff.mp (by omega)) n⟩ (fun _ _ _ _ => trivial) (fun j x1 H5 H6 hj h y' => ?_) (fun H' h => ?_)
        · obtain ⟨sm, kc, hB, hcl, hcv, hcw⟩ := h
          obtain ⟨rfl, rfl⟩ := y'
          have ecut : cutS (tx (wdL ls y)) none (some (1 + (j : Int))) = tx ((wdL ls y).take (1 + j)) := by
            rw [show (1 + (j : Int)) = ((1 + j : Nat) : Int) by omega]
            exact cut_b _ _
          refine ⟨rfl, _, rfl, _, rfl, _, rfl, tx (wdL ls y), rfl, (by rw [tx_len]; omega), kc, .inr (tx ((wdL ls y).take (1 + j))), by rw [ecut]; rfl, hB, by omega, same_put sm nB, _, upd_same, ?_, ?_, ?_⟩
          · have := length_putK kc (.inr (tx ((wdL ls y).take (1 + j)))) (.bl true)
            omega
          · intro e he u hu p r h1 h2 h3
            rw [valV_put]
            split
            · rfl
            · exact hcv e he u hu p r h1 h2 h3
          · intro p r h1 h2 h3 h4
            rw [valV_put]
            split
            · rfl
            · rename_i z
              refine hcw p r h1 h2 h3 ?_
              by_cases q2 : p.length = 1 + j
              · exfalso
                refine z ?_
                rw [h1, ← q2, List.take_left]
              · omega
        · obtain ⟨sm, kc, hB, hcl, hcv, hcw⟩ := h
          refine ⟨sm, kc, hB, by omega, fun e he u hu p r h1 h2 h3 => ?_⟩
          rw [List.take_add_one, e1] at he
          rcases List.mem_append.mp he with he | he
          · exact hcv e he u hu p r h1 h2 h3
          · rw [List.mem_singleton.mp he] at hu
            have hu : (Sum.inr (tx (wdL ls y)) : Key) = .inr (tx u) := hu
            have e3 := tx_inj (Sum.inr.inj hu)
            rw [← e3] at h1
            refine hcw p r h1 h2 h3 ?_
            have := congrArg List.length h1
            rw [List.length_append] at this
            have := List.length_pos_iff.mpr h2
            omega
      · obtain ⟨sm, kb, hB, hbl, hbv⟩ := h
        rw [List.take_length] at hbv
        refine ⟨sm _ _ hf9, ?_⟩
        have nBD : B ≠ D := fun z => by rw [z, hf9] at nB; cases nB
        have sm8 : Same H8 (upd H' D (.dK kvs)) := fun b o e => by
          by_cases z : b = D
          · rw [z, hD8] at e
            rw [z, upd_same, ← e]
          · rw [upd_ne z]
            exact sm _ _ (by rw [bk9 b z]; exact e)
        have hB8 : (upd H' D (.dK kvs)) B = some (.dK kb) := by rw [upd_ne nBD]; exact hB
        have nB8 : H8 B = none := by rw [← bk9 B nBD]; exact nB
        generalize upd H' D (.dK kvs) = Ha at *
        have Oa := O8.same sm8
        have nBx : B ≠ x := (O8.new nB8).1
        refine ⟨_, rfl, x, CT, dx, _, rfl, Oa.at_, T.cl, T.nB, (by show 1 < 1000; decide), ?_⟩
        rw [trF_put]
        refine q _ (Oa.put _).keep ⟨dx, D, B, kvs, kb, upd_same, (by rw [upd_ne nDx]; exact sm8 _ _ hD8), (by rw [upd_ne nBx]; exact hB8), ⟨fun k k1 k2 => hv k ((hym k).mpr ⟨k1, k2⟩), fun k k1 k2 p r e n => ?_, fun k k1 k2 p r e n n2 => ?_⟩⟩
        · refine key_no fun e' he z => ?_
          obtain ⟨y, hy, h1⟩ := hk e' he
          rw [h1] at z
          have z2 := tx_inj (Sum.inr.inj z)
          obtain ⟨a1, a2⟩ := wdv y hy
          have e4 : wdL ls k = wdL ls y ++ r := by rw [e, z2]
          exact n (wd_sep hW a1 a2 k1 k2 e4).2
        · obtain ⟨e', h1, h2⟩ := key_at (hv k ((hym k).mpr ⟨k1, k2⟩))
          exact hbv e' h1 _ h2 p r e n n2
end
end K7

namespace K7
open PySem PySem.Spec PyProof.Rows L2 SBX
open K2 (wAt coinsL)
/-! ### Heard -/
theorem walk_bytV {b : Array UInt8} : Walk (Itb b) b.size (fun _ => True) (fun i H v H' => H' = H ∧ ∃ c, b[i]? = some c ∧ v = .int ((c.toNat : Nat) : Int)) := ⟨fun _ _ hi _ => hi, fun _ _ => Nat.le_refl _, fun _ _ _ _ _ _ y => y⟩
def b8 (ks : List Nat) : List Nat := (ks.map fun k => bitsL k 8).flatten
theorem b8_len (ks : List Nat) : (b8 ks).length = 8 * ks.length := by
  unfold b8
  induction ks with
  | nil => rfl
  | cons k r ih => rw [List.map_cons, List.flatten_cons, List.length_append, ih, bits_len, List.length_cons]; omega
theorem b8_app (a b : List Nat) : b8 (a ++ b) = b8 a ++ b8 b := by
  unfold b8
  rw [List.map_append, List.flatten_append]
theorem b8_sum (ks : List Nat) : (((ks.map fun k => bitsL k 8).map tx).map Str.length).sum = 8 * ks.length := by
  induction ks with
  | nil => rfl
  | cons k r ih => rw [List.map_cons, List.map_cons, List.map_cons, List.sum_cons, ih, tx_len, bits_len, List.length_cons]; omega
theorem byB_at {ks : List Nat} (h : ∀ k ∈ ks, k < 256) {i : Nat} {c : UInt8} (e : (byB ks)[i]? = some c) : ∃ k, ks[i]? = some k ∧ c.toNat = k ∧ k < 256 := by
  unfold byB at e
  rw [List.getElem?_toArray, List.getElem?_map] at e
  cases q : ks[i]? with
  | none => rw [q] at e; cases e
  | some k =>
    rw [q] at e
    have hk := h k (List.mem_of_getElem? q)
    refine ⟨k, rfl, ?_, hk⟩
    rw [← Option.some.inj e]
    exact UInt8.toNat_ofNat_of_lt' hk
structure HdTxt (K : PySem.W.Frag) (mg : Str → Option Value) (C fI fH fB fR fG fN fL : Addr) : Prop where
  cl : Cls K C
  gC : mg "Heard" = some (.ref C)
  made : Mk K C fI
  nO : NoAttr K C "_left_out"
  nT : NoAttr K C "_text"
  nA : NoAttr K C "_at"
  mH : Meth K C "hear_bytes" fH
  mB : Meth K C "many_bits" fB
  mR : Meth K C "many_read" fR
  mG : Meth K C "go_back" fG
  mN : Meth K C "number" fN
  mL : Meth K C "letter" fL
/-- Wanting as a class -/
structure WaTxt (K : PySem.W.Frag) (mg : Str → Option Value) (C : Addr) : Prop where
  gC : mg "Wanting" = some (.ref C)
  x : PySem.W.excIn K C [.type "Exception", .type "BaseException", .type "object"] "Exception.__new__" = true
  k : PySem.W.keepIn K (.ref C) = true
  b : PySem.W.subIn K (.ref C) (.type "BaseException") = some true
  t : PySem.W.typeIn K (.ref C) = some (.type "type")
theorem scHdI : FnScope ["self"] ["self"] (defScope sHdInit) := ⟨rfl, rfl, rfl, by decide +kernel, rfl, by decide +kernel, by decide +kernel⟩
abbrev NHdH : List Str := ["self", "piece", "byte"]
theorem scHdH : FnScope NHdH ["self", "piece"] (defScope sHdHear) := ⟨rfl, rfl, rfl, by decide +kernel, rfl, by decide +kernel, by decide +kernel⟩
theorem scHdB : FnScope ["self"] ["self"] (defScope sHdBits) := ⟨rfl, rfl, rfl, by decide +kernel, rfl, by decide +kernel, by decide +kernel⟩
theorem scHdR : FnScope ["self"] ["self"] (defScope sHdRead) := ⟨rfl, rfl, rfl, by decide +kernel, rfl, by decide +kernel, by decide +kernel⟩
theorem scHdG : FnScope ["self", "many"] ["self", "many"] (defScope sHdBack) := ⟨rfl, rfl, rfl, by decide +kernel, rfl, by decide +kernel, by decide +kernel⟩
abbrev NHdN : List Str := ["self", "many", "text"]
theorem scHdN : FnScope NHdN ["self", "many"] (defScope sHdNum) := ⟨rfl, rfl, rfl, by decide +kernel, rfl, by decide +kernel, by decide +kernel⟩
abbrev NHdL : List Str := ["self", "tree", "end", "word"]
theorem scHdL : FnScope NHdL ["self", "tree"] (defScope sHdLet) := ⟨rfl, rfl, rfl, by decide +kernel, rfl, by decide +kernel, by decide +kernel⟩
section
variable {P : Program} {w : World} {K : PySem.W.Frag} {mg : Str → Option Value} {base : Heap} {CH CT CW fI fH fB fR fG fN fL : Addr}
def spHdI (C : Addr) : Sp := fun vs H Q _ => ∃ (x dx : Addr), vs = [.ref x] ∧ H x = some (.ins C dx []) ∧ ∀ H', Ob x C dx H H' (hdF 0 [] 0) → Q .non H'
theorem ok_hdI (T : HdTxt K mg CH fI fH fB fR fG fN fL) {fd : FuncData} {j : Nat} (F : Fun K "__init__" "Heard.__init__" sHdInit fI fd) : FnOk P w K mg base CX0 (j + 1) fI fd ["self"] (spHdI CH) := by
  refine F.ok scHdI (fun vs H Q E h => ?_) (fun cdv A outer s H vs Q E hr h => ?_)
  · obtain ⟨x, dx, rfl, _⟩ := h
    rfl
  · obtain ⟨x, dx, rfl, hx, q⟩ := h
    refine ⟨_, pss_cons (ps_fld (pv 0) pe_int rfl) (pss_cons (ps_fld (pv 0) pe_str rfl) (pss_one (ps_fld (pv 0) pe_int rfl))), ?_⟩
    have O0 : Ob x CH dx H H [] := .start hx
    refine ⟨_, rfl, x, CH, dx, _, rfl, O0.at_, T.cl, T.nO, (by show 0 < 1000; decide), ?_⟩
    have O1 := O0.put (putF "_left_out" (.int 0) [])
    generalize upd H x (.ins CH dx (putF "_left_out" (.int 0) [])) = H1 at *
    refine ⟨_, rfl, x, CH, dx, _, rfl, O1.at_, T.cl, T.nT, (by show 1 < 1000; decide), ?_⟩
    have O2 := O1.put (putF "_text" (.str "") (putF "_left_out" (.int 0) []))
    generalize upd H1 x (.ins CH dx (putF "_text" (.str "") (putF "_left_out" (.int 0) []))) = H2 at *
    refine ⟨_, rfl, x, CH, dx, _, rfl, O2.at_, T.cl, T.nA, (by show 2 < 1000; decide), ?_⟩
    exact q _ (O2.put (hdF 0 [] 0))
def spHdH (C : Addr) : Sp := fun vs H Q _ => ∃ (a dx : Addr) (o p : Nat) (t ks : List Nat), vs = [.ref a, .byt (byB ks)] ∧ H a = some (.ins C dx (hdF o t p)) ∧ (∀ k ∈ ks, k < 256) ∧ ks.length ≤ 10000 ∧ t.length ≤ 1000000 ∧
  ∀ H', Ob a C dx H H' (hdF (o + p) (t.drop p ++ b8 ks) 0) → Q .non H'
theorem ok_hdH (T : HdTxt K mg CH fI fH fB fR fG fN fL) {fd : FuncData} {j : Nat} (F : Fun K "hear_bytes" "Heard.hear_bytes" sHdHear fH fd) : FnOk P w K mg base CX0 (j + 1) fH fd ["self", "piece"] (spHdH CH) := by
  refine F.ok scHdH (fun vs H Q E h => ?_) (fun cdv A outer s H vs Q E hr h => ?_)
  · obtain ⟨x, dx, o, p, t, ks, rfl, _⟩ := h
    rfl
  · obtain ⟨x, dx, o, p, t, ks, rfl, hx, hk, hkl, htl, q⟩ := h
    have hz := PySem.sizeLine_eq
    refine ⟨_, pss_cons (ps_fldaug (pv 0) (pe_fld (pv 0) rfl) in_add)
      (pss_cons (ps_fld (pv 0) (pe_op op_add_str (pe_slice sl_str (pe_fld (pv 0) rfl) (po_some (pe_fld (pv 0) rfl)) po_none)
        (pe_join pe_str (pe_lc (own := [("byte", 2)]) (g := gName 2) (tt := tYes) rfl scHdH.nd (pi_byt (pv 1)) (blkOk_by (N := NHdH) (sc := defScope sHdHear) (by decide +kernel))
            (fun _ _ _ _ _ => pg_name (i := 2) scHdH.nd rfl (.inl rfl)) (fun _ _ _ _ _ => pts_nil) (fun _ _ _ _ _ => pe_joined1 (pe_fmtB bs8 (pv 2)))))) rfl)
      (pss_one (ps_fld (pv 0) pe_int rfl))), ?_⟩
    refine ⟨_, rfl, x, CH, dx, _, _, rfl, hx, T.cl, T.nO, hdF_o _ _ _, ?_⟩
    refine ⟨_, rfl, x, CH, dx, _, _, rfl, hx, T.cl, T.nA, hdF_p _ _ _, _, _, rfl, rfl, dx, _, hx, (by show 3 < 1000; decide), ?_⟩
    have O1 := (Ob.start hx).put (hdF (o + p) t p)
    have e1 : putF "_left_out" (.int ((o : Int) + (p : Int))) (hdF o t p) = hdF (o + p) t p := by
      rw [show (o : Int) + (p : Int) = ((o + p : Nat) : Int) by omega]
      exact hdF_so _ _ _ _
    rw [e1]
    generalize upd H x (.ins CH dx (hdF (o + p) t p)) = H1 at *
    refine ⟨_, rfl, x, CH, dx, _, _, rfl, O1.at_, T.cl, T.nT, hdF_t _ _ _, ?_⟩
    refine ⟨_, rfl, x, CH, dx, _, _, rfl, O1.at_, T.cl, T.nA, hdF_p _ _ _, _, rfl, tx t, rfl, (by rw [tx_len]; omega), ?_⟩
    rw [cut_a]
    refine ⟨⟨_, rfl⟩, _, rfl, _, rfl, fun R nR => ?_⟩
    refine lc_it (walk_bytV (b := byB ks)) (fun i H' => Same H1 H' ∧ H' R = some (.lst ((((ks.take i).map fun k => bitsL k 8).map tx).map V.str))) ⟨same_upd nR, upd_same⟩ (fun _ _ _ _ => True.intro) (fun i v H2 H3 hi h y => ?_) (fun H2 h => ?_)
    · obtain ⟨rfl, c, hc, rfl⟩ := y
      obtain ⟨k, hk1, hk2, hk3⟩ := byB_at hk hc
      rw [byB_size] at hi
      rw [hk2]
      refine ⟨rfl, yes ⟨_, rfl, k, rfl, by omega, _, h.2, ?_, same_put h.1 nR, ?_⟩⟩
      · rw [List.length_map, List.length_map, List.length_map, List.length_take]
        omega
      · rw [upd_same, binT_bits (by decide) (show k < 2 ^ 8 from hk3), List.take_add_one, hk1, List.map_append, List.map_append, List.map_append]
        rfl
    · obtain ⟨s2, hR⟩ := h
      rw [byB_size, List.take_length] at hR
      have e8 := b8_sum ks
      refine ⟨_, R, (ks.map fun k => bitsL k 8).map tx, rfl, rfl, .inl (.inl (.inl hR)), ?_, ?_⟩
      · rw [e8]
        show 8 * ks.length + _ * 0 ≤ _
        omega
      rw [tx_join]
      have hb8 := b8_len ks
      refine ⟨_, _, rfl, rfl, by rw [tx_len, tx_len, List.length_drop]; show _ + (b8 ks).length ≤ _; omega, ?_⟩
      have O2 := O1.same s2
      refine ⟨_, rfl, x, CH, dx, _, rfl, O2.at_, T.cl, T.nT, (by show 3 < 1000; decide), ?_⟩
      have e9 : putF "_text" (.str (tx (t.drop p) ++ tx (List.map (fun k => bitsL k 8) ks).flatten)) (hdF (o + p) t p) = hdF (o + p) (t.drop p ++ b8 ks) p := by
        rw [tx_app]
        exact hdF_st _ _ _ _
      rw [e9]
      have O3 := O2.put (hdF (o + p) (t.drop p ++ b8 ks) p)
      generalize upd H2 x (.ins CH dx (hdF (o + p) (t.drop p ++ b8 ks) p)) = H3 at *
      refine ⟨_, rfl, x, CH, dx, _, rfl, O3.at_, T.cl, T.nA, (by show 3 < 1000; decide), ?_⟩
      exact q _ (O3.put (hdF (o + p) (t.drop p ++ b8 ks) 0))
def spHdB (C : Addr) : Sp := fun vs H Q _ => ∃ (a dx : Addr) (o p : Nat) (t : List Nat), vs = [.ref a] ∧ H a = some (.ins C dx (hdF o t p)) ∧ t.length ≤ 2000000 ∧ Q (.int ((o + t.length : Nat) : Int)) H
theorem ok_hdB (T : HdTxt K mg CH fI fH fB fR fG fN fL) {fd : FuncData} {j : Nat} (F : Fun K "many_bits" "Heard.many_bits" sHdBits fB fd) (m2 : mg "len" = none) : FnOk P w K mg base CX0 (j + 1) fB fd ["self"] (spHdB CH) := by
  refine F.ok scHdB (fun vs H Q E h => ?_) (fun cdv A outer s H vs Q E hr h => ?_)
  · obtain ⟨x, dx, o, p, t, rfl, _⟩ := h
    rfl
  · obtain ⟨x, dx, o, p, t, rfl, hx, ht, q⟩ := h
    have hz := PySem.sizeLine_eq
    refine ⟨_, pss_one (ps_ret (pe_op op_add (pe_fld (pv 0) rfl) (pe_callB call_len (by rfl) m2 PySem.boot_len (pa_cons (pe_fld (pv 0) rfl) pa_nil)))), ?_⟩
    refine ⟨_, rfl, x, CH, dx, _, _, rfl, hx, T.cl, T.nO, hdF_o _ _ _, _, rfl, x, CH, dx, _, _, rfl, hx, T.cl, T.nT, hdF_t _ _ _, _, _, rfl, ⟨(by rw [tx_len]; omega), rfl⟩, _, _, rfl, rfl, ?_⟩
    dsimp only
    rw [tx_len, show (o : Int) + (t.length : Int) = ((o + t.length : Nat) : Int) by omega]
    exact q
def spHdR (C : Addr) : Sp := fun vs H Q _ => ∃ (a dx : Addr) (o p : Nat) (t : List Nat), vs = [.ref a] ∧ H a = some (.ins C dx (hdF o t p)) ∧ Q (.int ((o + p : Nat) : Int)) H
theorem ok_hdR (T : HdTxt K mg CH fI fH fB fR fG fN fL) {fd : FuncData} {j : Nat} (F : Fun K "many_read" "Heard.many_read" sHdRead fR fd) : FnOk P w K mg base CX0 (j + 1) fR fd ["self"] (spHdR CH) := by
  refine F.ok scHdR (fun vs H Q E h => ?_) (fun cdv A outer s H vs Q E hr h => ?_)
  · obtain ⟨x, dx, o, p, t, rfl, _⟩ := h
    rfl
  · obtain ⟨x, dx, o, p, t, rfl, hx, q⟩ := h
    refine ⟨_, pss_one (ps_ret (pe_op op_add (pe_fld (pv 0) rfl) (pe_fld (pv 0) rfl))), ?_⟩
    refine ⟨_, rfl, x, CH, dx, _, _, rfl, hx, T.cl, T.nO, hdF_o _ _ _, _, rfl, x, CH, dx, _, _, rfl, hx, T.cl, T.nA, hdF_p _ _ _, _, _, rfl, rfl, ?_⟩
    dsimp only
    rw [show (o : Int) + (p : Int) = ((o + p : Nat) : Int) by omega]
    exact q
def spHdG (C : Addr) : Sp := fun vs H Q _ => ∃ (a dx : Addr) (o p n : Nat) (t : List Nat), vs = [.ref a, .int ((o + n : Nat) : Int)] ∧ H a = some (.ins C dx (hdF o t p)) ∧ Q .non (upd H a (.ins C dx (hdF o t n)))
theorem ok_hdG (T : HdTxt K mg CH fI fH fB fR fG fN fL) {fd : FuncData} {j : Nat} (F : Fun K "go_back" "Heard.go_back" sHdBack fG fd) : FnOk P w K mg base CX0 (j + 1) fG fd ["self", "many"] (spHdG CH) := by
  refine F.ok scHdG (fun vs H Q E h => ?_) (fun cdv A outer s H vs Q E hr h => ?_)
  · obtain ⟨x, dx, o, p, n, t, rfl, _⟩ := h
    rfl
  · obtain ⟨x, dx, o, p, n, t, rfl, hx, q⟩ := h
    refine ⟨_, pss_one (ps_fld (pv 0) (pe_op op_sub (pv 1) (pe_fld (pv 0) rfl)) rfl), ?_⟩
    refine ⟨_, rfl, _, rfl, x, CH, dx, _, _, rfl, hx, T.cl, T.nO, hdF_o _ _ _, _, _, rfl, rfl, _, rfl, x, CH, dx, _, rfl, hx, T.cl, T.nA, (by show 3 < 1000; decide), ?_⟩
    dsimp only
    rw [show ((o + n : Nat) : Int) - (o : Int) = (n : Int) by omega, hdF_sp]
    exact q
/-- a number of so many bits, or too few are heard -/
def spHdN (CH CW : Addr) : Sp := fun vs H Q E => ∃ (a dx : Addr) (o p m : Nat) (t : List Nat), vs = [.ref a, .int (m : Int)] ∧ H a = some (.ins CH dx (hdF o t p)) ∧ m ≤ 20 ∧ t.length ≤ 2000000 ∧ p ≤ t.length ∧ (∀ c ∈ t, IsBit c) ∧
  (p + m ≤ t.length → Q (.int ((binNum ((t.drop p).take m) : Nat) : Int)) (upd H a (.ins CH dx (hdF o t (p + m))))) ∧ (t.length < p + m → E (.ref CW) none H)
theorem ok_hdN (T : HdTxt K mg CH fI fH fB fR fG fN fL) (TW : WaTxt K mg CW) {fd : FuncData} {j : Nat} (F : Fun K "number" "Heard.number" sHdNum fN fd) (m2 : mg "len" = none) (m3 : mg "int" = none) :
    FnOk P w K mg base (L2N.CX P w) (j + 1) fN fd ["self", "many"] (spHdN CH CW) := by
  refine okN F scHdN (fun vs H Q E h => ?_) (fun cdv A outer s H vs Q E hr h => ?_)
  · obtain ⟨x, dx, o, p, m, t, rfl, _⟩ := h
    rfl
  · obtain ⟨x, dx, o, p, m, t, rfl, hx, hm, ht, hp, hb, q1, q2⟩ := h
    have hz := PySem.sizeLine_eq
    refine ⟨_, pss_cons (ps_set (i := 2) scHdN.nd rfl (.inl rfl) (pe_slice sl_str (pe_fld (pv 0) rfl) (po_some (pe_fld (pv 0) rfl)) (po_some (pe_op op_add (pe_fld (pv 0) rfl) (pv 1)))))
      (pss_cons (ps_if (pt_cmpR op_lt (pe_callB call_len (by rfl) m2 PySem.boot_len (pa_cons (pv 2) pa_nil)) (pv 1) (nomark _)) (pss_one (L2N.ps_raise rfl (L2N.takes_of rfl rfl rfl rfl) (L2N.pmk_own PySem.F.excBase_Exception TW.x TW.gC TW.k (raises_own TW.b TW.t) rfl))) pss_nil)
      (pss_cons (ps_fldaug (pv 0) (pv 1) in_add)
      (pss_one (ps_ret (pe_ifExp (pt_cmpR op_gt (pv 1) pe_int (nomark _)) (pe_callTy call_int_bit (by rfl) m3 (by decide +kernel) (pa_cons (pv 2) (pa_cons pe_int pa_nil))) pe_int))))), ?_⟩
    refine ⟨_, rfl, x, CH, dx, _, _, rfl, hx, T.cl, T.nT, hdF_t _ _ _, _, rfl, x, CH, dx, _, _, rfl, hx, T.cl, T.nA, hdF_p _ _ _, _, rfl, _, rfl, x, CH, dx, _, _, rfl, hx, T.cl, T.nA, hdF_p _ _ _, _, rfl, _, _, rfl, rfl, _, rfl, tx t, rfl, (by rw [tx_len]; omega), ?_⟩
    dsimp only [gName]
    rw [show (p : Int) + (m : Int) = ((p + m : Nat) : Int) by omega, cut_ab t p (p + m) (by omega), Nat.add_sub_cancel_left]
    have hl : ((t.drop p).take m).length = min m (t.length - p) := by rw [List.length_take, List.length_drop]
    have hl2 : ((t.drop p).take m).length ≤ t.length := by rw [hl]; exact Nat.le_trans (Nat.min_le_right _ _) (Nat.sub_le _ _)
    refine ⟨_, rfl, _, _, rfl, ⟨(by rw [tx_len, hz]; exact Nat.le_trans hl2 (by omega)), rfl⟩, _, rfl, _, _, rfl, rfl, _, rfl, ?_⟩
    rw [tx_len]
    by_cases hf : p + m ≤ t.length
    · have e : ((t.drop p).take m).length = m := by rw [hl, Nat.min_eq_left (by omega)]
      rw [e]
      rw [show decide ((m : Int) < (m : Int)) = false from decide_eq_false (Int.lt_irrefl _)]
      refine iteF ?_
      refine ⟨_, rfl, x, CH, dx, _, _, rfl, hx, T.cl, T.nA, hdF_p _ _ _, _, rfl, _, _, rfl, rfl, dx, _, hx, (by show 3 < 1000; decide), ?_⟩
      rw [show (p : Int) + (m : Int) = ((p + m : Nat) : Int) by omega, hdF_sp]
      have q := q1 hf
      refine ⟨_, rfl, _, _, rfl, rfl, _, rfl, ite2 (fun z => ?_) (fun z => ?_)⟩
      · have hm0 : 0 < m := by
          have := of_decide_eq_true z
          omega
        refine ⟨_, rfl, (t.drop p).take m, rfl, fun z2 => ?_, by omega, fun c hc => hb c (List.mem_of_mem_drop (List.mem_of_mem_take hc)), q⟩
        rw [z2] at e
        simp at e
        omega
      · have hm0 : m = 0 := by
          have : ¬ (0 : Int) < m := fun y => z (decide_eq_true y)
          omega
        rw [hm0, List.take_zero, ← hm0] at q
        exact q
    · have e : ((t.drop p).take m).length < m := by
        rw [hl]
        exact Nat.lt_of_le_of_lt (Nat.min_le_right _ _) (by omega)
      refine iteC (decide_eq_true (by omega)) ?_
      exact q2 (by omega)
/-- the letter whose word comes next, or too few bits are heard -/
def spHdL (CH CT CW : Addr) : Sp := fun vs H Q E => ∃ (a dx tr : Addr) (o p k : Nat) (t : List Nat) (ls : List Int), vs = [.ref a, .ref tr] ∧ H a = some (.ins CH dx (hdF o t p)) ∧ TrAt CT H tr ls ∧ WdOk ls ∧ k < ls.length ∧ 0 < wAt ls k ∧ t.length ≤ 2000000 ∧ p ≤ t.length ∧
  ((∃ r, t.drop p = wdL ls k ++ r ∧ Q (.int (k : Int)) (upd H a (.ins CH dx (hdF o t (p + (wdL ls k).length))))) ∨ (∃ e, wdL ls k = t.drop p ++ e ∧ e ≠ [] ∧ E (.ref CW) none H))
theorem ok_hdL (T : HdTxt K mg CH fI fH fB fR fG fN fL) (TW : WaTxt K mg CW) {fTI : Addr} (TT : TrTxt K mg CT fTI) {fd : FuncData} {j : Nat} (F : Fun K "letter" "Heard.letter" sHdLet fL fd) (m1 : mg "range" = none) (m2 : mg "len" = none) :
    FnOk P w K mg base (L2N.CX P w) (j + 1) fL fd ["self", "tree"] (spHdL CH CT CW) := by
  refine okN F scHdL (fun vs H Q E h => ?_) (fun cdv A outer s H vs Q E hr h => ?_)
  · obtain ⟨x, dx, tr, o, p, k, t, ls, rfl, _⟩ := h
    rfl
  · obtain ⟨x, dx, tr, o, p, k, t, ls, rfl, hx, ⟨tdx, d1, d2, ka, kb, g1, g2, g3, TO⟩, hW, hk, h0, ht, hp, fin⟩ := h
    have hz := PySem.sizeLine_eq
    refine ⟨_, pss_cons (ps_for (passes_of rfl) rfl (pi_range2 (by rfl) m1 (pa_cons (pe_op op_add (pe_fld (pv 0) rfl) pe_int) (pa_cons (pe_op op_add (pe_callB call_len (by rfl) m2 PySem.boot_len (pa_cons (pe_fld (pv 0) rfl) pa_nil)) pe_int) pa_nil))) (pg_name (i := 2) scHdL.nd rfl (.inl rfl))
        (pss_cons (ps_set (i := 3) scHdL.nd rfl (.inl rfl) (pe_slice sl_str (pe_fld (pv 0) rfl) (po_some (pe_fld (pv 0) rfl)) (po_some (pv 2))))
        (pss_cons (ps_if (pt_cmp (pc_din (hu_of hr) (pv 3) (pe_fld (pv 1) rfl))) (pss_cons (ps_fld (pv 0) (pv 2) rfl) (pss_one (ps_ret (pe_dget (hu_of hr) (pe_fld (pv 1) rfl) (pv 3) (fun _ _ => rfl))))) pss_nil)
        (pss_one (ps_if (pt_cmp (pc_dnotin (hu_of hr) (pv 3) (pe_fld (pv 1) rfl))) (pss_one ps_never) pss_nil)))))
      (pss_one (L2N.ps_raise rfl (L2N.takes_of rfl rfl rfl rfl) (L2N.pmk_own PySem.F.excBase_Exception TW.x TW.gC TW.k (raises_own TW.b TW.t) rfl))), ?_⟩
    refine ⟨_, rfl, x, CH, dx, _, _, rfl, hx, T.cl, T.nA, hdF_p _ _ _, _, _, rfl, rfl, _, rfl, x, CH, dx, _, _, rfl, hx, T.cl, T.nT, hdF_t _ _ _, _, _, rfl, ⟨(by rw [tx_len, hz]; omega), rfl⟩, _, _, rfl, rfl, _, _, rfl, (by rw [tx_len]; omega), ?_⟩
    rw [tx_len, show ((t.length : Int) + 1 - ((p : Int) + 1)).toNat = t.length - p by omega]
    obtain ⟨w1, w2, _⟩ := wd_ne hW hk h0
    have hdl : (t.drop p).length = t.length - p := List.length_drop
    refine for_range (lo := (p : Int) + 1) (n := t.length - p) (fun i σ H' => H' = H ∧ i < (wdL ls k).length ∧ ∃ y2 y3, σ = [some (.ref x), some (.ref tr), y2, y3]) ⟨rfl, w1, _, _, rfl⟩ (fun i σ H' hi h => ?_) (fun σ H' h => ?_)
    · obtain ⟨rfl, hiw, y2, y3, rfl⟩ := h
      dsimp only [gName]
      refine ⟨_, rfl, x, CH, dx, _, _, rfl, hx, T.cl, T.nT, hdF_t _ _ _, _, rfl, x, CH, dx, _, _, rfl, hx, T.cl, T.nA, hdF_p _ _ _, _, rfl, _, rfl, _, rfl, tx t, rfl, (by rw [tx_len]; omega), ?_⟩
      rw [show (p : Int) + 1 + (i : Int) = ((p + 1 + i : Nat) : Int) by omega, cut_ab t p (p + 1 + i) (by omega), show p + 1 + i - p = i + 1 by omega]
      have hpre : (t.drop p).take (i + 1) = (wdL ls k).take (i + 1) := by
        rcases fin with ⟨r, e, _⟩ | ⟨e', e, _⟩
        · rw [e, List.take_append_of_le_length (by omega)]
        · rw [e, List.take_append_of_le_length (by omega)]
      rw [hpre]
      refine ⟨_, rfl, _, rfl, tr, CT, tdx, _, _, rfl, g1, TT.cl, TT.nW, trF_a _ _, d1, _, rfl, .k (k := .inr (tx ((wdL ls k).take (i + 1)))) g2, _, rfl, ?_⟩
      by_cases hw : i + 1 = (wdL ls k).length
      · rw [hw, List.take_length, TO.hit k hk h0]
        refine iteT ?_
        rcases fin with ⟨r, e, q⟩ | ⟨e', e, n, q⟩
        · refine ⟨_, rfl, _, rfl, x, CH, dx, _, rfl, hx, T.cl, T.nA, (by show 3 < 1000; decide), ?_⟩
          rw [show p + 1 + i = p + (wdL ls k).length by omega, hdF_sp]
          have nx1 : tr ≠ x := fun z => by
            rw [z, hx] at g1
            have := congrArg List.length (HO.ins.inj (Option.some.inj g1)).2.2
            cases this
          have nx2 : d1 ≠ x := ne_of g2 hx fun z => nomatch z
          refine ⟨_, rfl, tr, CT, tdx, _, _, rfl, (by rw [upd_ne nx1]; exact g1), TT.cl, TT.nW, trF_a _ _, _, rfl, d1, .int (k : Int), rfl, ?_, q⟩
          have g := DGet.k (H := upd H' x (.ins CH dx (hdF o t (p + (wdL ls k).length)))) (k := .inr (tx (wdL ls k))) (show _ = some (HO.dK ka) by rw [upd_ne nx2]; exact g2)
          rw [TO.hit k hk h0] at g
          exact g
        · exfalso
          have := congrArg List.length e
          rw [List.length_append, hdl] at this
          have := List.length_pos_iff.mpr n
          omega
      · have e1 : wdL ls k = (wdL ls k).take (i + 1) ++ (wdL ls k).drop (i + 1) := (List.take_append_drop _ _).symm
        have n1 : (wdL ls k).drop (i + 1) ≠ [] := fun z => by
          have := congrArg List.length z
          rw [List.length_drop] at this
          simp at this
          omega
        have n2 : (wdL ls k).take (i + 1) ≠ [] := fun z => by
          have := congrArg List.length z
          rw [List.length_take, Nat.min_eq_left (by omega)] at this
          cases this
        rw [TO.not_ k hk h0 _ _ e1 n1]
        refine iteF ?_
        have hon := TO.on k hk h0 _ _ e1 n1 n2
        refine ⟨_, rfl, _, rfl, tr, CT, tdx, _, _, rfl, g1, TT.cl, TT.nB, trF_b _ _, d2, _, rfl, .k (k := .inr (tx ((wdL ls k).take (i + 1)))) g3, _, rfl, ?_⟩
        rw [hon]
        refine iteF ?_
        exact ⟨rfl, by omega, _, _, rfl⟩
    · obtain ⟨rfl, hiw, y2, y3, rfl⟩ := h
      rcases fin with ⟨r, e, q⟩ | ⟨e', e, n, q⟩
      · exfalso
        have := congrArg List.length e
        rw [List.length_append, hdl] at this
        omega
      · exact q
end
end K7

namespace K7
open PySem PySem.Spec PyProof.Rows L2 SBX
open K2 (wAt coinsL)
/-! ### Reading as an object -/
structure RgTxt (K : PySem.W.Frag) (mg : Str → Option Value) (C fI fHear fTold fMany fOver fBits fGo fNext fBlk fCnt fPln fRun fTake fTrees fItem fRoom fEnd fRest : Addr) : Prop where
  cl : Cls K C
  gC : mg "Reading" = some (.ref C)
  made : Mk K C fI
  nH : NoAttr K C "_heard"
  nA : NoAttr K C "_ahead"
  nW : NoAttr K C "_whole"
  nN : NoAttr K C "_next"
  nI : NoAttr K C "_is_last"
  nF : NoAttr K C "_left"
  nG : NoAttr K C "_lengths"
  nL : NoAttr K C "_letters"
  nB : NoAttr K C "_backs"
  nT : NoAttr K C "_told"
  nO : NoAttr K C "_over"
  nS : NoAttr K C "_slip"
  mHear : Meth K C "hear_piece" fHear
  mTold : Meth K C "told_bytes" fTold
  mMany : Meth K C "many_bytes" fMany
  mOver : Meth K C "was_over" fOver
  mBits : Meth K C "many_bits" fBits
  mGo : Meth K C "go_on" fGo
  mNext : Meth K C "read_next" fNext
  mBlk : Meth K C "read_block" fBlk
  mCnt : Meth K C "read_count" fCnt
  mPln : Meth K C "read_plain" fPln
  mRun : Meth K C "read_run" fRun
  mTake : Meth K C "take_lengths" fTake
  mTrees : Meth K C "told_trees" fTrees
  mItem : Meth K C "read_item" fItem
  mRoom : Meth K C "take_room" fRoom
  mEnd : Meth K C "end_block" fEnd
  mRest : Meth K C "read_rest" fRest
/-- all but three things stay -/
def Oth (r hd w : Addr) (H H' : Hp) : Prop := ∀ b u, b ≠ r → b ≠ hd → b ≠ w → H b = some u → H' b = some u
theorem Oth.refl {r hd w : Addr} (H : Hp) : Oth r hd w H H := fun _ _ _ _ _ e => e
theorem Oth.trans {r hd w : Addr} {H H1 H2 : Hp} (a : Oth r hd w H H1) (b : Oth r hd w H1 H2) : Oth r hd w H H2 := fun c u n1 n2 n3 e => b c u n1 n2 n3 (a c u n1 n2 n3 e)
theorem Oth.same {r hd w : Addr} {H H1 : Hp} (s : Same H H1) : Oth r hd w H H1 := fun c u _ _ _ e => s c u e
theorem Oth.r {r hd w : Addr} (H : Hp) (o : HO) : Oth r hd w H (upd H r o) := fun c u n _ _ e => by rw [upd_ne n]; exact e
theorem Oth.h {r hd w : Addr} (H : Hp) (o : HO) : Oth r hd w H (upd H hd o) := fun c u _ n _ e => by rw [upd_ne n]; exact e
theorem Oth.w {r hd w : Addr} (H : Hp) (o : HO) : Oth r hd w H (upd H w o) := fun c u _ _ n e => by rw [upd_ne n]; exact e
def ToldOk (CT : Addr) (H : Hp) (v : V) : Prop := v = .non ∨ ∃ t t1 t2, v = .ref t ∧ H t = some (.tup [.ref t1, .ref t2]) ∧ TrAt CT H t1 toldL ∧ TrAt CT H t2 toldB
def TrsOk (CT : Addr) (H : Hp) (vL vB : V) (s : RS) : Prop := s.nx = 4 → ∃ tl tb, vL = .ref tl ∧ vB = .ref tb ∧ TrAt CT H tl s.tL ∧ TrAt CT H tb s.tB
/-- a reading with its parts -/
structure RgP (CH CT CR : Addr) (H : Hp) (r hd w dx dh ln : Addr) (vL vB vT : V) (ld : Nat) (s : RS) (o : Nat) (t : List Nat) (p : Nat) (ov : Bool) : Prop where
  r_ : H r = some (.ins CR dx (rgF hd ld w s.nx s.last s.left ln vL vB vT ov .non))
  h_ : H hd = some (.ins CH dh (hdF o t p))
  w_ : H w = some (.lst (bys s.whole))
  l_ : H ln = some (.lst (s.lens.map V.int))
  nlw : ln ≠ w
  told : ToldOk CT H vT
  trs : TrsOk CT H vL vB s
def RgAt (CH CT CR : Addr) (H : Hp) (r hd w : Addr) (ld : Nat) (s : RS) (o : Nat) (t : List Nat) (p : Nat) (ov : Bool) : Prop := ∃ dx dh ln vL vB vT, RgP CH CT CR H r hd w dx dh ln vL vB vT ld s o t p ov
/-- three objects that stand apart -/
structure Three (CH CR : Addr) (H : Hp) (r hd w : Addr) : Prop where
  rh : r ≠ hd
  rw_ : r ≠ w
  hw : hd ≠ w
  tr : ∀ b, (∃ C dx p q, H b = some (.ins C dx (trF p q))) → b ≠ r ∧ b ≠ hd ∧ b ≠ w
  dk : ∀ b, (∃ kvs, H b = some (.dK kvs)) → b ≠ r ∧ b ≠ hd ∧ b ≠ w
  tp : ∀ b, (∃ xs, H b = some (.tup xs)) → b ≠ r ∧ b ≠ hd ∧ b ≠ w
  ls : ∀ b, (∃ xs, H b = some (.lst xs)) → b ≠ r ∧ b ≠ hd
theorem three_of {CH CR : Addr} {H : Hp} {r hd w dx dh : Addr} {f1 f2 : List (Str × V)} {xs : List V} (h1 : H r = some (.ins CR dx f1)) (l1 : f1.length = 12) (h2 : H hd = some (.ins CH dh f2)) (l2 : f2.length = 3) (h3 : H w = some (.lst xs)) : Three CH CR H r hd w := by
  have key : ∀ {b C dx' : Addr} {fs : List (Str × V)}, H b = some (.ins C dx' fs) → fs.length ≠ 12 → b ≠ r := fun {b C dx' fs} e n z => by
    rw [z, h1] at e
    have := (HO.ins.inj (Option.some.inj e)).2.2
    rw [this] at l1
    exact n l1
  have key2 : ∀ {b C dx' : Addr} {fs : List (Str × V)}, H b = some (.ins C dx' fs) → fs.length ≠ 3 → b ≠ hd := fun {b C dx' fs} e n z => by
    rw [z, h2] at e
    have := (HO.ins.inj (Option.some.inj e)).2.2
    rw [this] at l2
    exact n l2
  refine ⟨fun z => key h2 (by omega) z.symm, ne_of h1 h3 (fun z => nomatch z), ne_of h2 h3 (fun z => nomatch z), ?_, ?_, ?_, ?_⟩
  · rintro b ⟨C, d, p, q, e⟩
    exact ⟨key e (by rw [trF_len]; decide), key2 e (by rw [trF_len]; decide), ne_of e h3 (fun z => nomatch z)⟩
  · rintro b ⟨kvs, e⟩
    exact ⟨ne_of e h1 (fun z => nomatch z), ne_of e h2 (fun z => nomatch z), ne_of e h3 (fun z => nomatch z)⟩
  · rintro b ⟨kvs, e⟩
    exact ⟨ne_of e h1 (fun z => nomatch z), ne_of e h2 (fun z => nomatch z), ne_of e h3 (fun z => nomatch z)⟩
  · rintro b ⟨kvs, e⟩
    exact ⟨ne_of e h1 (fun z => nomatch z), ne_of e h2 (fun z => nomatch z)⟩
theorem RgP.three {CH CT CR : Addr} {H : Hp} {r hd w dx dh ln : Addr} {vL vB vT : V} {ld : Nat} {s : RS} {o : Nat} {t : List Nat} {p : Nat} {ov : Bool} (h : RgP CH CT CR H r hd w dx dh ln vL vB vT ld s o t p ov) : Three CH CR H r hd w := three_of h.r_ rfl h.h_ rfl h.w_
theorem TrAt.oth {CT CH CR : Addr} {H H' : Hp} {r hd w x : Addr} {ls : List Int} (T : Three CH CR H r hd w) (k : Oth r hd w H H') (h : TrAt CT H x ls) : TrAt CT H' x ls := by
  obtain ⟨dx, a, b, ka, kb, h1, h2, h3, h4⟩ := h
  obtain ⟨a1, a2, a3⟩ := T.tr x ⟨_, _, _, _, h1⟩
  obtain ⟨b1, b2, b3⟩ := T.dk a ⟨_, h2⟩
  obtain ⟨c1, c2, c3⟩ := T.dk b ⟨_, h3⟩
  exact ⟨dx, a, b, ka, kb, k _ _ a1 a2 a3 h1, k _ _ b1 b2 b3 h2, k _ _ c1 c2 c3 h3, h4⟩
theorem ToldOk.oth {CT CH CR : Addr} {H H' : Hp} {r hd w : Addr} {v : V} (T : Three CH CR H r hd w) (k : Oth r hd w H H') (h : ToldOk CT H v) : ToldOk CT H' v := by
  rcases h with h | ⟨t, t1, t2, e, ht, h1, h2⟩
  · exact .inl h
  · obtain ⟨a1, a2, a3⟩ := T.tp t ⟨_, ht⟩
    exact .inr ⟨t, t1, t2, e, k _ _ a1 a2 a3 ht, h1.oth T k, h2.oth T k⟩
theorem TrsOk.oth {CT CH CR : Addr} {H H' : Hp} {r hd w : Addr} {vL vB : V} {s : RS} (T : Three CH CR H r hd w) (k : Oth r hd w H H') (h : TrsOk CT H vL vB s) : TrsOk CT H' vL vB s := fun z => by
  obtain ⟨tl, tb, e1, e2, h1, h2⟩ := h z
  exact ⟨tl, tb, e1, e2, h1.oth T k, h2.oth T k⟩
theorem Three.lst {CH CR : Addr} {H H' : Hp} {r hd w b : Addr} {xs : List V} (T : Three CH CR H r hd w) (k : Oth r hd w H H') (n : b ≠ w) (h : H b = some (.lst xs)) : H' b = some (.lst xs) := by
  obtain ⟨a1, a2⟩ := T.ls b ⟨_, h⟩
  exact k _ _ a1 a2 n h
/-- the reading's own fields are set -/
theorem RgP.setR {CH CT CR : Addr} {H : Hp} {r hd w dx dh ln : Addr} {vL vB vT : V} {ld : Nat} {s : RS} {o : Nat} {t : List Nat} {p : Nat} {ov : Bool} (h : RgP CH CT CR H r hd w dx dh ln vL vB vT ld s o t p ov)
    (s' : RS) (ln' : Addr) (vL' vB' vT' : V) (ov' : Bool) (hw : s'.whole = s.whole) (hl : H ln' = some (.lst (s'.lens.map V.int))) (nl : ln' ≠ w) (ht : ToldOk CT H vT') (htr : TrsOk CT H vL' vB' s') :
    RgP CH CT CR (upd H r (.ins CR dx (rgF hd ld w s'.nx s'.last s'.left ln' vL' vB' vT' ov' .non))) r hd w dx dh ln' vL' vB' vT' ld s' o t p ov' := by
  have T := h.three
  have k : Oth r hd w H (upd H r (.ins CR dx (rgF hd ld w s'.nx s'.last s'.left ln' vL' vB' vT' ov' .non))) := .r H _
  refine ⟨upd_same, by rw [upd_ne T.rh.symm]; exact h.h_, by rw [upd_ne T.rw_.symm, hw]; exact h.w_, T.lst k nl hl, nl, ht.oth T k, htr.oth T k⟩
theorem RgP.same {CH CT CR : Addr} {H H' : Hp} {r hd w dx dh ln : Addr} {vL vB vT : V} {ld : Nat} {s : RS} {o : Nat} {t : List Nat} {p : Nat} {ov : Bool} (h : RgP CH CT CR H r hd w dx dh ln vL vB vT ld s o t p ov) (sm : Same H H') : RgP CH CT CR H' r hd w dx dh ln vL vB vT ld s o t p ov :=
  ⟨sm _ _ h.r_, sm _ _ h.h_, sm _ _ h.w_, sm _ _ h.l_, h.nlw, h.told.oth h.three (.same sm), h.trs.oth h.three (.same sm)⟩
/-- what was heard is read on -/
theorem RgP.setH {CH CT CR : Addr} {H : Hp} {r hd w dx dh ln : Addr} {vL vB vT : V} {ld : Nat} {s : RS} {o : Nat} {t : List Nat} {p : Nat} {ov : Bool} (h : RgP CH CT CR H r hd w dx dh ln vL vB vT ld s o t p ov) (o' : Nat) (t' : List Nat) (p' : Nat) :
    RgP CH CT CR (upd H hd (.ins CH dh (hdF o' t' p'))) r hd w dx dh ln vL vB vT ld s o' t' p' ov := by
  have T := h.three
  have k : Oth r hd w H (upd H hd (.ins CH dh (hdF o' t' p'))) := .h H _
  exact ⟨by rw [upd_ne T.rh]; exact h.r_, upd_same, by rw [upd_ne T.hw.symm]; exact h.w_, T.lst k h.nlw h.l_, h.nlw, h.told.oth T k, h.trs.oth T k⟩
/-- the bytes grow -/
theorem RgP.setW {CH CT CR : Addr} {H H' : Hp} {r hd w dx dh ln : Addr} {vL vB vT : V} {ld : Nat} {s : RS} {o : Nat} {t : List Nat} {p : Nat} {ov : Bool} (h : RgP CH CT CR H r hd w dx dh ln vL vB vT ld s o t p ov) (wh : List Nat) (k0 : ∀ b u, b ≠ w → H b = some u → H' b = some u) (hw : H' w = some (.lst (bys wh))) :
    RgP CH CT CR H' r hd w dx dh ln vL vB vT ld { s with whole := wh } o t p ov := by
  have T := h.three
  have k : Oth r hd w H H' := fun b u _ _ n e => k0 b u n e
  exact ⟨k0 _ _ T.rw_ h.r_, k0 _ _ T.hw h.h_, hw, k0 _ _ h.nlw h.l_, h.nlw, h.told.oth T k, h.trs.oth T k⟩
/-- the same state but for the place -/
theorem RgP.pos {CH CT CR : Addr} {H : Hp} {r hd w dx dh ln : Addr} {vL vB vT : V} {ld : Nat} {s : RS} {o : Nat} {t : List Nat} {p : Nat} {ov : Bool} (h : RgP CH CT CR H r hd w dx dh ln vL vB vT ld s o t p ov) (n : Nat) : RgP CH CT CR H r hd w dx dh ln vL vB vT ld { s with pos := n } o t p ov :=
  ⟨h.r_, h.h_, h.w_, h.l_, h.nlw, h.told, h.trs⟩
structure TxOk (s : RS) (o : Nat) (t : List Nat) (p : Nat) : Prop where
  le : p ≤ t.length
  len : t.length ≤ 1000000
  bits : ∀ c ∈ t, IsBit c
  pos : s.pos = o + p
/-- one step of a reading, where n comes next -/
def StepSp (CH CT CR CW : Addr) (n : Nat) : Sp := fun vs H Q E => ∃ (r hd w : Addr) (ld : Nat) (s : RS) (o p : Nat) (t : List Nat) (ov : Bool) (g : Stp) (X D : List Nat), vs = [.ref r] ∧ RgAt CH CT CR H r hd w ld s o t p ov ∧ s.nx = n ∧ okS s g ∧ TxOk s o t p ∧ t.drop p ++ X = sbS s g ++ D ∧
  ((sbS s g).length ≤ t.length - p → ∀ H', Oth r hd w H H' → RgAt CH CT CR H' r hd w ld (stS s g) o t (p + (sbS s g).length) ov → Q .non H') ∧
  (t.length - p < (sbS s g).length → ∀ H' p', Oth r hd w H H' → p' ≤ t.length → RgAt CH CT CR H' r hd w ld s o t p' ov → E (.ref CW) none H')
end K7

namespace K7
open PySem PySem.Spec PyProof.Rows L2 SBX
open K2 (wAt coinsL)
/-! ### Reading: numbers read, end_block, take_room, read_count, read_plain, read_block -/
theorem rd_or {t X c D : List Nat} {p : Nat} (le : p ≤ t.length) (h : t.drop p ++ X = c ++ D) : (p + c.length ≤ t.length ∧ (t.drop p).take c.length = c ∧ t.drop (p + c.length) ++ X = D) ∨ (t.length - p < c.length ∧ ∃ e, c = t.drop p ++ e ∧ e ≠ []) := by
  rcases heard_or h with ⟨l, r, e1, e2⟩ | ⟨l, e, e1, e2⟩
  · rw [List.length_drop] at l
    refine .inl ⟨by omega, by rw [e1, List.take_left], ?_⟩
    rw [← List.drop_drop, e1, List.drop_left]
    exact e2
  · rw [List.length_drop] at l
    exact .inr ⟨l, e, e1, e2⟩
theorem num_fit {CH CW a dx : Addr} {o p m n : Nat} {t X D : List Nat} {H : Hp} {Q : VK} {E : XK} (ha : H a = some (.ins CH dx (hdF o t p))) (le : p ≤ t.length) (tl : t.length ≤ 1000000) (tb : ∀ c ∈ t, IsBit c) (h : t.drop p ++ X = bitsL n m ++ D) (hn : n < 2 ^ m) (hm : m ≤ 20)
    (q1 : p + m ≤ t.length → t.drop (p + m) ++ X = D → Q (.int (n : Int)) (upd H a (.ins CH dx (hdF o t (p + m))))) (q2 : t.length - p < m → E (.ref CW) none H) : spHdN CH CW [.ref a, .int (m : Int)] H Q E := by
  refine ⟨a, dx, o, p, m, t, rfl, ha, hm, by omega, le, tb, fun hf => ?_, fun hf => q2 (by omega)⟩
  have hl := bits_len n m
  rcases rd_or le h with ⟨_, e1, e2⟩ | ⟨l, _⟩
  · rw [hl] at e1 e2
    rw [e1, bin_of hn]
    exact q1 hf e2
  · rw [hl] at l
    omega
theorem let_fit {CH CT CW a dx tr : Addr} {o p k : Nat} {t X D : List Nat} {ls : List Int} {H : Hp} {Q : VK} {E : XK} (ha : H a = some (.ins CH dx (hdF o t p))) (ht : TrAt CT H tr ls) (hW : WdOk ls) (hk : k < ls.length) (h0 : 0 < wAt ls k) (le : p ≤ t.length) (tl : t.length ≤ 1000000) (h : t.drop p ++ X = wdL ls k ++ D)
    (q1 : p + (wdL ls k).length ≤ t.length → t.drop (p + (wdL ls k).length) ++ X = D → Q (.int (k : Int)) (upd H a (.ins CH dx (hdF o t (p + (wdL ls k).length))))) (q2 : t.length - p < (wdL ls k).length → E (.ref CW) none H) : spHdL CH CT CW [.ref a, .ref tr] H Q E := by
  refine ⟨a, dx, tr, o, p, k, t, ls, rfl, ha, ht, hW, hk, h0, by omega, le, ?_⟩
  rcases rd_or le h with ⟨hf, e1, e2⟩ | ⟨l, e, e1, e2⟩
  · refine .inl ⟨(t.drop p).drop (wdL ls k).length, ?_, q1 hf e2⟩
    conv => rhs; rw [← e1]
    rw [e1, ← e1, List.length_take, List.length_drop, Nat.min_eq_left (by omega)]
    exact (List.take_append_drop _ _).symm
  · exact .inr ⟨e, e1, e2, q2 l⟩
theorem let_fitE {CH CT CW a dx tr : Addr} {o p k : Nat} {t X D w1 : List Nat} {ls : List Int} {H : Hp} {Q : VK} {E : XK} (e1 : wdL ls k = w1) (ha : H a = some (.ins CH dx (hdF o t p))) (ht : TrAt CT H tr ls) (hW : WdOk ls) (hk : k < ls.length) (h0 : 0 < wAt ls k) (le : p ≤ t.length) (tl : t.length ≤ 1000000) (h : t.drop p ++ X = w1 ++ D)
    (q1 : p + w1.length ≤ t.length → t.drop (p + w1.length) ++ X = D → Q (.int (k : Int)) (upd H a (.ins CH dx (hdF o t (p + w1.length))))) (q2 : t.length - p < w1.length → E (.ref CW) none H) : spHdL CH CT CW [.ref a, .ref tr] H Q E := by
  subst e1
  exact let_fit ha ht hW hk h0 le tl h q1 q2
abbrev NRg1 : List Str := ["self"]
theorem scRgE : FnScope ["self"] ["self"] (defScope sRgEnd) := ⟨rfl, rfl, rfl, by decide +kernel, rfl, by decide +kernel, by decide +kernel⟩
theorem scRgM : FnScope ["self", "many"] ["self", "many"] (defScope sRgRoom) := ⟨rfl, rfl, rfl, by decide +kernel, rfl, by decide +kernel, by decide +kernel⟩
theorem scRgC : FnScope ["self", "count"] ["self"] (defScope sRgCount) := ⟨rfl, rfl, rfl, by decide +kernel, rfl, by decide +kernel, by decide +kernel⟩
theorem scRgP : FnScope ["self"] ["self"] (defScope sRgPlain) := ⟨rfl, rfl, rfl, by decide +kernel, rfl, by decide +kernel, by decide +kernel⟩
theorem scRgB : FnScope ["self", "is_last", "sort"] ["self"] (defScope sRgBlock) := ⟨rfl, rfl, rfl, by decide +kernel, rfl, by decide +kernel, by decide +kernel⟩
theorem hdF_no' {x : Str} {o p : Nat} {t : List Nat} (h0 : (x == ("_left_out" : Str)) = false := by decide +kernel) (h1 : (x == ("_text" : Str)) = false := by decide +kernel) (h2 : (x == ("_at" : Str)) = false := by decide +kernel) : (hdF o t p).lookup x = none := hdF_no _ _ _ h0 h1 h2
theorem rgF_no' {x : Str} {hd : Addr} {ld : Nat} {w : Addr} {nx : Nat} {la : Bool} {lf : Nat} {ln : Addr} {vL vB vT : V} {ov : Bool} {sp : V} (h0 : (x == ("_heard" : Str)) = false := by decide +kernel) (h1 : (x == ("_ahead" : Str)) = false := by decide +kernel) (h2 : (x == ("_whole" : Str)) = false := by decide +kernel) (h3 : (x == ("_next" : Str)) = false := by decide +kernel) (h4 : (x == ("_is_last" : Str)) = false := by decide +kernel) (h5 : (x == ("_left" : Str)) = false := by decide +kernel) (h6 : (x == ("_lengths" : Str)) = false := by decide +kernel) (h7 : (x == ("_letters" : Str)) = false := by decide +kernel) (h8 : (x == ("_backs" : Str)) = false := by decide +kernel) (h9 : (x == ("_told" : Str)) = false := by decide +kernel) (h10 : (x == ("_over" : Str)) = false := by decide +kernel) (h11 : (x == ("_slip" : Str)) = false := by decide +kernel) : (rgF hd ld w nx la lf ln vL vB vT ov sp).lookup x = none := rgF_no _ _ _ _ _ _ _ _ _ _ _ _ h0 h1 h2 h3 h4 h5 h6 h7 h8 h9 h10 h11
section
variable {P : Program} {w : World} {K : PySem.W.Frag} {mg : Str → Option Value} {base : Heap} {CH CT CW CR fI fH fB fR fG fN fL : Addr}
variable {rI rHear rTold rMany rOver rBits rGo rNext rBlk rCnt rPln rRun rTake rTrees rItem rRoom rEnd rRest : Addr}
def spRgE (CH CT CR : Addr) : Sp := fun vs H Q _ => ∃ (r hd w : Addr) (ld : Nat) (s : RS) (o p : Nat) (t : List Nat) (ov : Bool), vs = [.ref r] ∧ RgAt CH CT CR H r hd w ld s o t p ov ∧
  ∀ H', Oth r hd w H H' → RgAt CH CT CR H' r hd w ld { s with nx := aftS s } o t p ov → Q .non H'
theorem ok_rgE (T : RgTxt K mg CR rI rHear rTold rMany rOver rBits rGo rNext rBlk rCnt rPln rRun rTake rTrees rItem rRoom rEnd rRest) {fd : FuncData} {j : Nat} {t1 t2 : Tok} (F : Fun K "end_block" "Reading.end_block" sRgEnd rEnd fd) (c1 : mg "NEXT_REST" = some (.int 5 t1)) (c2 : mg "NEXT_BLOCK" = some (.int 0 t2)) :
    FnOk P w K mg base CX0 (j + 1) rEnd fd ["self"] (spRgE CH CT CR) := by
  refine F.ok scRgE (fun vs H Q E h => ?_) (fun cdv A outer s H vs Q E hr h => ?_)
  · obtain ⟨r, hd, w, ld, s, o, p, t, ov, rfl, _⟩ := h
    rfl
  · obtain ⟨r, hd, w, ld, st, o, p, t, ov, rfl, ⟨dx, dh, ln, vL, vB, vT, R⟩, q⟩ := h
    refine ⟨_, pss_one (ps_fld (pv 0) (pe_ifExp (pt_val (pe_fld (pv 0) rfl)) (pe_glob (v := .int 5) rfl c1 ⟨_, rfl⟩) (pe_glob (v := .int 0) rfl c2 ⟨_, rfl⟩)) rfl), ?_⟩
    refine ⟨_, rfl, r, CR, dx, _, _, rfl, R.r_, T.cl, T.nI, rgF_la _ _ _ _ _ _ _ _ _ _ _ _, _, rfl, ?_⟩
    have fin : ∀ n : Nat, n ≠ 4 → n = aftS st → Q .non (upd H r (.ins CR dx (rgF hd ld w n st.last st.left ln vL vB vT ov .non))) := fun n n4 e => by
      subst e
      exact q _ (.r _ _) ⟨dx, dh, ln, vL, vB, vT, R.setR { st with nx := aftS st } ln vL vB vT ov rfl R.l_ R.nlw R.told fun z => absurd z n4⟩
    have e5 : ∀ n : Nat, putF "_next" (.int (n : Int)) (rgF hd ld w st.nx st.last st.left ln vL vB vT ov .non) = rgF hd ld w n st.last st.left ln vL vB vT ov .non := fun n => rgF_snx _ _ _ _ _ _ _ _ _ _ _ _ n
    unfold aftS at fin
    have hr0 := R.r_
    cases hl : st.last with
    | true =>
      rw [hl] at fin e5 hr0
      refine iteT ⟨_, rfl, r, CR, dx, _, rfl, hr0, T.cl, T.nN, (by show 12 < 1000; decide), ?_⟩
      have := fin 5 (by decide) rfl
      rw [← e5 5] at this
      exact this
    | false =>
      rw [hl] at fin e5 hr0
      refine iteF ⟨_, rfl, r, CR, dx, _, rfl, hr0, T.cl, T.nN, (by show 12 < 1000; decide), ?_⟩
      have := fin 0 (by decide) rfl
      rw [← e5 0] at this
      exact this
def spRgM (CH CT CR : Addr) : Sp := fun vs H Q _ => ∃ (r hd w : Addr) (ld : Nat) (s : RS) (o p m : Nat) (t : List Nat) (ov : Bool), vs = [.ref r, .int (m : Int)] ∧ RgAt CH CT CR H r hd w ld s o t p ov ∧ m ≤ s.left ∧
  ∀ H', Oth r hd w H H' → RgAt CH CT CR H' r hd w ld { s with left := s.left - m } o t p ov → Q .non H'
theorem ok_rgM (T : RgTxt K mg CR rI rHear rTold rMany rOver rBits rGo rNext rBlk rCnt rPln rRun rTake rTrees rItem rRoom rEnd rRest) {fd : FuncData} {j : Nat} (F : Fun K "take_room" "Reading.take_room" sRgRoom rRoom fd) :
    FnOk P w K mg base CX0 (j + 1) rRoom fd ["self", "many"] (spRgM CH CT CR) := by
  refine F.ok scRgM (fun vs H Q E h => ?_) (fun cdv A outer s H vs Q E hr h => ?_)
  · obtain ⟨r, hd, w, ld, s, o, p, m, t, ov, rfl, _⟩ := h
    rfl
  · obtain ⟨r, hd, w, ld, st, o, p, m, t, ov, rfl, ⟨dx, dh, ln, vL, vB, vT, R⟩, hm, q⟩ := h
    refine ⟨_, pss_cons (ps_if (pt_cmpR op_gt (pv 1) (pe_fld (pv 0) rfl) (nomark _)) (pss_one ps_never) pss_nil)
      (pss_one (ps_fldaug (pv 0) (pv 1) in_sub)), ?_⟩
    refine ⟨_, rfl, _, rfl, r, CR, dx, _, _, rfl, R.r_, T.cl, T.nF, rgF_lf _ _ _ _ _ _ _ _ _ _ _ _, _, _, rfl, rfl, _, rfl, ?_⟩
    rw [show decide ((st.left : Int) < (m : Int)) = false from decide_eq_false (by omega)]
    refine iteF ?_
    refine ⟨_, rfl, r, CR, dx, _, _, rfl, R.r_, T.cl, T.nF, rgF_lf _ _ _ _ _ _ _ _ _ _ _ _, _, rfl, _, _, rfl, rfl, dx, _, R.r_, (by show 12 < 1000; decide), ?_⟩
    rw [show (st.left : Int) - (m : Int) = ((st.left - m : Nat) : Int) by omega, rgF_slf]
    exact q _ (.r _ _) ⟨dx, dh, ln, vL, vB, vT, R.setR { st with left := st.left - m } ln vL vB vT ov rfl R.l_ R.nlw R.told R.trs⟩
abbrev PX {X : Cx} {W : WX} {E : XK} (tk : L2N.Takes X W) (h : ∀ c d σ H, E c d H → W c d σ H) : Passes (L2N.CX X.prog X.w) X E := L2N.passes_call tk h
theorem ok_rgC (T : RgTxt K mg CR rI rHear rTold rMany rOver rBits rGo rNext rBlk rCnt rPln rRun rTake rTrees rItem rRoom rEnd rRest) (TH : HdTxt K mg CH fI fH fB fR fG fN fL) {fd fdN : FuncData} {j k1 : Nat} {t1 t2 t3 : Tok} (F : Fun K "read_count" "Reading.read_count" sRgCount rCnt fd)
    (GN : FnOk P w K mg base (L2N.CX P w) k1 fN fdN ["self", "many"] (spHdN CH CW)) (bN : Binds K fdN ["self", "many"] []) (l1 : k1 ≤ j) (c1 : mg "PLAIN_BITS" = some (.int 11 t1)) (c2 : mg "MOST_BYTES" = some (.int 2000 t2)) (c3 : mg "NEXT_PLAIN" = some (.int 2 t3)) :
    FnOk P w K mg base (L2N.CX P w) (j + 1) rCnt fd ["self"] (StepSp CH CT CR CW 1) := by
  refine okN F scRgC (fun vs H Q E h => ?_) (fun cdv A outer s H vs Q E hr h => ?_)
  · obtain ⟨r, hd, w, ld, s, o, p, t, ov, g, X, D, rfl, _⟩ := h
    rfl
  · obtain ⟨r, hd, w, ld, st, o, p, t, ov, g, X, D, rfl, ⟨dx, dh, ln, vL, vB, vT, R⟩, hn, hok, tx', hX, q1, q2⟩ := h
    refine ⟨_, pss_cons (ps_set (i := 1) scRgC.nd rfl (.inl rfl) (pe_meth (pe_fld (pv 0) rfl) TH.cl TH.mN GN (hr.mono l1) bN .nil (L2N.passes_call (L2N.takes_of rfl rfl rfl rfl) (fun _ _ _ _ h => h)) (pa_cons (pe_glob (v := .int 11) rfl c1 ⟨_, rfl⟩) pa_nil)))
      (pss_cons (ps_if (pt_cmpR op_gt (pv 1) (pe_glob (v := .int 2000) rfl c2 ⟨_, rfl⟩) (nomark _)) (pss_one ps_never) pss_nil)
      (pss_cons (ps_fld (pv 0) (pv 1) rfl) (pss_one (ps_fld (pv 0) (pe_glob (v := .int 2) rfl c3 ⟨_, rfl⟩) rfl)))), ?_⟩
    cases g with
    | cnt n =>
      obtain ⟨_, hn2⟩ := hok
      refine ⟨_, rfl, r, CR, dx, _, _, rfl, R.r_, T.cl, T.nH, rgF_hd _ _ _ _ _ _ _ _ _ _ _ _, hd, dh, _, rfl, R.h_, hdF_no', ?_⟩
      dsimp only [tCons, tC, tNil, List.append_nil]
      refine num_fit (m := 11) (n := n) R.h_ tx'.le tx'.len tx'.bits hX (by omega) (by decide) (fun hf hX1 => ?_) (fun hf => ?_)
      · dsimp only [gName]
        have R1 := R.setH o t (p + 11)
        have k1 : Oth r hd w H _ := .h H (.ins CH dh (hdF o t (p + 11)))
        generalize upd H hd (.ins CH dh (hdF o t (p + 11))) = H1 at *
        refine ⟨_, rfl, _, _, rfl, rfl, _, rfl, ?_⟩
        rw [show decide ((2000 : Int) < (n : Int)) = false from decide_eq_false (by omega)]
        refine iteF ⟨_, rfl, _, rfl, r, CR, dx, _, rfl, R1.r_, T.cl, T.nF, (by show 12 < 1000; decide), ?_⟩
        rw [rgF_slf]
        have R2 := R1.setR { st with left := n } ln vL vB vT ov rfl R1.l_ R1.nlw R1.told R1.trs
        have k2 := k1.trans (.r H1 (.ins CR dx (rgF hd ld w st.nx st.last n ln vL vB vT ov .non)))
        generalize upd H1 r (.ins CR dx (rgF hd ld w st.nx st.last n ln vL vB vT ov .non)) = H2 at *
        refine ⟨_, rfl, r, CR, dx, _, rfl, R2.r_, T.cl, T.nN, (by show 12 < 1000; decide), ?_⟩
        have R3 := (R2.setR { st with left := n, nx := 2 } ln vL vB vT ov rfl R2.l_ R2.nlw R2.told (fun z => nomatch z)).pos (st.pos + (sbS st (.cnt n)).length)
        have k3 := k2.trans (.r H2 (.ins CR dx (rgF hd ld w 2 st.last n ln vL vB vT ov .non)))
        exact q1 (by show (bitsL n 11).length ≤ _; rw [bits_len]; omega) _ k3 ⟨dx, dh, ln, vL, vB, vT, R3⟩
      · exact q2 (by show _ < (bitsL n 11).length; rw [bits_len]; exact hf) H p (.refl H) tx'.le ⟨dx, dh, ln, vL, vB, vT, R⟩
    | _ => exact absurd (hok.1.symm.trans hn) (by decide)
end
end K7

namespace L2
open PySem PySem.Spec PyProof.Rows
/-- o.f as a target -/
def gFldT (K : PySem.W.Frag) (to : TE) (f : Str) : TG := fun y σ H Q => to σ H fun x H1 => ∃ a C dx fs, x = .ref a ∧ H1 a = some (.ins C dx fs) ∧ Cls K C ∧ NoAttr K C f ∧ fs.length < 1000 ∧ Q σ (upd H1 a (.ins C dx (putF f y fs)))
theorem pg_fldT {X : Cx} {o : Expr} {f : Str} {pos : Pos} {to : TE} (ho : PE X o to) : PG X (.Attribute o f pos) (gFldT X.K to f) := by
  refine ⟨fun pins s σ H v u Q I r h => ?_⟩
  rw [arm_assign_Attribute]
  refine wpAny_bind (wpAny_holding (thn (ho.run pins s σ H _ I h) fun ov s1 hh => ?_))
  obtain ⟨x, H1, I1, rx, a, C, dx, fs, rfl, ha, hc, hn, hl, q⟩ := hh
  obtain rfl : ov = Value.ref a := rx
  exact wpAny_bind (wpAny_standAt (wpAny_bind (wpAny_holding (setattr_ok I1 ha hc hn hl r fun s2 I2 => wpAny_release ⟨σ, _, I2, q⟩))))
end L2
namespace K7
open PySem PySem.Spec PyProof.Rows L2 SBX
open K2 (wAt coinsL)
/-! ### Reading: told_trees, read_plain, read_block -/
theorem made_same {H H' : Hp} {x dx C : Addr} (nx : H x = none) (nd : H dx = none) (k : ∀ b o, b ≠ x → (upd (upd H dx (.own x)) x (.ins C dx [])) b = some o → H' b = some o) : Same H H' := fun b o e =>
  k b o (ne_of_none e nx) (by rw [upd_ne (ne_of_none e nx), upd_ne (ne_of_none e nd)]; exact e)
theorem TrAt.same {C x : Addr} {H H' : Hp} {ls : List Int} (h : TrAt C H x ls) (s : Same H H') : TrAt C H' x ls := h.keep fun b o _ e => s b o e
theorem toldWP : WP toldL toldB := ⟨⟨by decide +kernel, by decide +kernel, by decide +kernel⟩, ⟨by decide +kernel, by decide +kernel, by decide +kernel⟩, by decide +kernel, by decide +kernel⟩
theorem scRgTr : FnScope ["self", "prices"] ["self"] (defScope sRgTrees) := ⟨rfl, rfl, rfl, by decide +kernel, rfl, by decide +kernel, by decide +kernel⟩
section
variable {P : Program} {w : World} {K : PySem.W.Frag} {mg : Str → Option Value} {base : Heap} {C CH CT CW CR fI fH fB fR fG fN fL fTI pI pL pB : Addr}
variable {rI rHear rTold rMany rOver rBits rGo rNext rBlk rCnt rPln rRun rTake rTrees rItem rRoom rEnd rRest : Addr}
def spRgTr (CH CT CR : Addr) : Sp := fun vs H Q _ => ∃ (r hd w : Addr) (ld : Nat) (s : RS) (o p : Nat) (t : List Nat) (ov : Bool), vs = [.ref r] ∧ RgAt CH CT CR H r hd w ld s o t p ov ∧
  ∀ H' tt t1 t2, Oth r hd w H H' → RgAt CH CT CR H' r hd w ld s o t p ov → H' tt = some (.tup [.ref t1, .ref t2]) → TrAt CT H' t1 toldL → TrAt CT H' t2 toldB → Q (.ref tt) H'
theorem ok_rgTr (T : RgTxt K mg CR rI rHear rTold rMany rOver rBits rGo rNext rBlk rCnt rPln rRun rTake rTrees rItem rRoom rEnd rRest) (TT : TrTxt K mg CT fTI) (TP : PrTxt K mg C pI pL pB) {fT : Addr} {fd fdT fdTI fdL fdB : FuncData} {j k1 k2 k3 k4 : Nat} (F : Fun K "told_trees" "Reading.told_trees" sRgTrees rTrees fd)
    (GT : FnOk P w K mg base CX0 k1 fT fdT [] (spToldP C)) (bT : Binds K fdT [] []) (kT : PySem.W.keepIn K (.ref fT) = true) (gT : mg "told_prices" = some (.ref fT)) (l1 : k1 ≤ j)
    (GI : FnOk P w K mg base CX0 k2 fTI fdTI ["self", "lengths"] (spTrI CT)) (bI : Binds K fdTI ["self", "lengths"] []) (l2 : k2 + 1 ≤ j)
    (GL : FnOk P w K mg base CX0 k3 pL fdL ["self"] (spPLet C)) (bL : Binds K fdL ["self"] []) (l3 : k3 ≤ j)
    (GB : FnOk P w K mg base CX0 k4 pB fdB ["self"] (spPBk C)) (bB : Binds K fdB ["self"] []) (l4 : k4 ≤ j) :
    FnOk P w K mg base CX0 (j + 1) rTrees fd ["self"] (spRgTr CH CT CR) := by
  refine F.ok scRgTr (fun vs H Q E h => ?_) (fun cdv A outer s H vs Q E hr h => ?_)
  · obtain ⟨r, hd, w, ld, s, o, p, t, ov, rfl, _⟩ := h
    rfl
  · obtain ⟨r, hd, w, ld, st, o, p, t, ov, rfl, ⟨dx, dh, ln, vL, vB, vT, R⟩, q⟩ := h
    refine ⟨_, pss_cons (ps_if (pt_cmpR op_isN (pe_fld (pv 0) rfl) pe_non (nomark _))
        (pss_cons (ps_set (i := 1) scRgTr.nd rfl (.inl rfl) (pe_call0 GT (hr.mono l1) (by rfl) gT kT bT .nil pass0))
        (pss_one (ps_fld (pv 0) (pe_tup (pa_cons (pe_make TT.made GI (hr.mono l2) (by rfl) TT.gC bI .nil pass0 (pa_cons (pe_meth0 (pv 1) TP.cl TP.mL GL (hr.mono l3) bL .nil pass0) pa_nil))
          (pa_cons (pe_make TT.made GI (hr.mono l2) (by rfl) TT.gC bI .nil pass0 (pa_cons (pe_meth0 (pv 1) TP.cl TP.mB GB (hr.mono l4) bB .nil pass0) pa_nil)) pa_nil))) rfl))) pss_nil)
      (pss_one (ps_ret (pe_fld (pv 0) rfl))), ?_⟩
    refine ⟨_, rfl, r, CR, dx, _, _, rfl, R.r_, T.cl, T.nT, rgF_vT _ _ _ _ _ _ _ _ _ _ _ _, ?_⟩
    have htold := R.told
    rcases htold with rfl | ⟨tt, t1, t2, rfl, ht, h1, h2⟩
    · refine ⟨rfl, _, rfl, iteT ?_⟩
      refine ⟨rfl, fun H1 a s1 na hP => ?_⟩
      dsimp only [gName]
      obtain ⟨pdx, pa, pb, g1, g2, g3⟩ := hP
      have R1 := R.same s1
      refine ⟨_, rfl, a, pdx, _, rfl, g1, prF_m _ _, a, toldL, toldB, rfl, ⟨pdx, pa, pb, g1, g2, g3⟩, fun H2 p1 s2 np1 hp1 => ?_⟩
      have R2 := R1.same s2
      intro x dxx nx ndx nex
      have sm3 : Same H2 (upd (upd H2 dxx (.own x)) x (.ins CT dxx [])) := fun b o e => by
        rw [upd_ne (ne_of_none e nx), upd_ne (ne_of_none e ndx)]
        exact e
      refine ⟨x, dxx, p1, toldL, rfl, upd_same, sm3 _ _ hp1, by decide, toldWP.l, fun H3 k3 hx3 => ⟨rfl, ?_⟩⟩
      have s3 := made_same nx ndx k3
      have R3 := R2.same s3
      have s13 := s2.trans s3
      refine ⟨_, rfl, a, pdx, _, rfl, s13 _ _ g1, prF_n _ _, a, toldL, toldB, rfl, ⟨pdx, pa, pb, s13 _ _ g1, s13 _ _ g2, s13 _ _ g3⟩, fun H4 p2 s4 np2 hp2 => ?_⟩
      have R4 := R3.same s4
      intro y dyy ny ndy ney
      have sm5 : Same H4 (upd (upd H4 dyy (.own y)) y (.ins CT dyy [])) := fun b o e => by
        rw [upd_ne (ne_of_none e ny), upd_ne (ne_of_none e ndy)]
        exact e
      refine ⟨y, dyy, p2, toldB, rfl, upd_same, sm5 _ _ hp2, by decide, toldWP.b, fun H5 k5 hy5 => ⟨rfl, ?_⟩⟩
      have s5 := made_same ny ndy k5
      have R5 := R4.same s5
      have hx5 := hx3.same (s4.trans s5)
      refine ⟨(by show 2 ≤ sizeLine; decide), fun tt nt => ?_⟩
      have s6 : Same H5 (upd H5 tt (.tup [.ref x, .ref y])) := same_upd nt
      have R6 := R5.same s6
      have ht6 : (upd H5 tt (.tup [.ref x, .ref y])) tt = some (.tup [.ref x, .ref y]) := upd_same
      have hx6 := hx5.same s6
      have hy6 := hy5.same s6
      have sm : Same H (upd H5 tt (.tup [.ref x, .ref y])) := (((s1.trans s13).trans s4).trans s5).trans s6
      generalize upd H5 tt (.tup [.ref x, .ref y]) = H6 at *
      refine ⟨_, rfl, r, CR, dx, _, rfl, R6.r_, T.cl, T.nT, (by show 12 < 1000; decide), ?_⟩
      rw [rgF_svT]
      have TH6 := R6.three
      have R7 := R6.setR st ln vL vB (.ref tt) ov rfl R6.l_ R6.nlw (.inr ⟨tt, x, y, rfl, ht6, hx6, hy6⟩) R6.trs
      have k7 : Oth r hd w H6 _ := .r H6 (.ins CR dx (rgF hd ld w st.nx st.last st.left ln vL vB (.ref tt) ov .non))
      obtain ⟨a1, a2, a3⟩ := TH6.tp tt ⟨_, ht6⟩
      refine ⟨_, rfl, r, CR, dx, _, _, rfl, R7.r_, T.cl, T.nT, rgF_vT _ _ _ _ _ _ _ _ _ _ _ _, ?_⟩
      exact q _ tt x y ((Oth.same sm).trans k7) ⟨dx, dh, ln, vL, vB, _, R7⟩ (k7 _ _ a1 a2 a3 ht6) (hx6.oth TH6 k7) (hy6.oth TH6 k7)
    · refine ⟨rfl, _, rfl, iteF ?_⟩
      refine ⟨_, rfl, r, CR, dx, _, _, rfl, R.r_, T.cl, T.nT, rgF_vT _ _ _ _ _ _ _ _ _ _ _ _, ?_⟩
      exact q H tt t1 t2 (.refl H) ⟨dx, dh, ln, vL, vB, _, R⟩ ht h1 h2
theorem ok_rgP (T : RgTxt K mg CR rI rHear rTold rMany rOver rBits rGo rNext rBlk rCnt rPln rRun rTake rTrees rItem rRoom rEnd rRest) (TH : HdTxt K mg CH fI fH fB fR fG fN fL) {fd fdN fdE : FuncData} {j k1 k2 : Nat} (F : Fun K "read_plain" "Reading.read_plain" sRgPlain rPln fd)
    (GN : FnOk P w K mg base (L2N.CX P w) k1 fN fdN ["self", "many"] (spHdN CH CW)) (bN : Binds K fdN ["self", "many"] []) (l1 : k1 ≤ j) (GE : FnOk P w K mg base CX0 k2 rEnd fdE ["self"] (spRgE CH CT CR)) (bE : Binds K fdE ["self"] []) (l2 : k2 ≤ j) :
    FnOk P w K mg base (L2N.CX P w) (j + 1) rPln fd ["self"] (StepSp CH CT CR CW 2) := by
  refine okN F scRgP (fun vs H Q E h => ?_) (fun cdv A outer s H vs Q E hr h => ?_)
  · obtain ⟨r, hd, w, ld, s, o, p, t, ov, g, X, D, rfl, _⟩ := h
    rfl
  · obtain ⟨r, hd, w, ld, st, o, p, t, ov, g, X, D, rfl, ⟨dx, dh, ln, vL, vB, vT, R⟩, hn, hok, tx', hX, q1, q2⟩ := h
    have hz := PySem.sizeLine_eq
    refine ⟨_, pss_one (ps_if (pt_cmpR op_eq (pe_fld (pv 0) rfl) pe_int (nomark _)) (pss_one (ps_expr (pe_meth0 (pv 0) T.cl T.mEnd GE (hr.mono l2) bE .nil pass0)))
      (pss_cons (ps_expr (pe_bm PySem.F.plainAttrs_list PySem.F.slot_list_append PySem.F.type_list_append mt_append (pe_fld (pv 0) rfl) (pa_cons (pe_meth (pe_fld (pv 0) rfl) TH.cl TH.mN GN (hr.mono l1) bN .nil (L2N.passes_call (L2N.takes_of rfl rfl rfl rfl) (fun _ _ _ _ h => h)) (pa_cons pe_int pa_nil)) pa_nil)))
      (pss_one (ps_fldaug (pv 0) pe_int in_sub)))), ?_⟩
    refine ⟨_, rfl, r, CR, dx, _, _, rfl, R.r_, T.cl, T.nF, rgF_lf _ _ _ _ _ _ _ _ _ _ _ _, rfl, _, rfl, ?_⟩
    cases g with
    | pend =>
      have hl : st.left = 0 := hok.2
      refine iteC (decide_eq_true (by rw [hl]; rfl)) ?_
      refine ⟨_, rfl, r, dx, _, rfl, R.r_, rgF_no', r, hd, w, ld, st, o, p, t, ov, rfl, ⟨dx, dh, ln, vL, vB, vT, R⟩, fun H' k h' => ?_⟩
      obtain ⟨dx', dh', ln', vL', vB', vT', R'⟩ := h'
      exact q1 (Nat.zero_le _) H' k ⟨dx', dh', ln', vL', vB', vT', R'.pos _⟩
    | byt n =>
      obtain ⟨_, hl, hn2, hwl⟩ := hok
      rw [show decide ((V.int (st.left : Int)) = V.int 0) = false from decide_eq_false (fun z => by have := V.int.inj z; omega)]
      refine iteF ?_
      refine ⟨_, rfl, r, CR, dx, _, _, rfl, R.r_, T.cl, T.nW, rgF_w _ _ _ _ _ _ _ _ _ _ _ _, .inl ⟨rfl, _, .inl (.inl R.w_)⟩, ?_⟩
      refine ⟨_, rfl, r, CR, dx, _, _, rfl, R.r_, T.cl, T.nH, rgF_hd _ _ _ _ _ _ _ _ _ _ _ _, hd, dh, _, rfl, R.h_, hdF_no', ?_⟩
      dsimp only [tCons, tC, tNil, List.append_nil]
      refine num_fit (m := 8) (n := n) R.h_ tx'.le tx'.len tx'.bits hX (by omega) (by decide) (fun hf hX1 => ?_) (fun hf => ?_)
      · have R1 := R.setH o t (p + 8)
        have k1 : Oth r hd w H _ := .h H (.ins CH dh (hdF o t (p + 8)))
        generalize upd H hd (.ins CH dh (hdF o t (p + 8))) = H1 at *
        refine ⟨w, _, _, rfl, rfl, R1.w_, (by rw [bys_len]; omega), ?_⟩
        rw [bys_one n, bys_app]
        have R2 := R1.setW (st.whole ++ [n]) (H' := upd H1 w (.lst (bys (st.whole ++ [n])))) (fun b u nb e => by rw [upd_ne nb]; exact e) upd_same
        have k2 := k1.trans (.w H1 (.lst (bys (st.whole ++ [n]))))
        generalize upd H1 w (.lst (bys (st.whole ++ [n]))) = H2 at *
        refine ⟨_, rfl, r, CR, dx, _, _, rfl, R2.r_, T.cl, T.nF, rgF_lf _ _ _ _ _ _ _ _ _ _ _ _, _, _, rfl, rfl, dx, _, R2.r_, (by show 12 < 1000; decide), ?_⟩
        have e1 : ((({ st with whole := st.whole ++ [n] } : RS).left : Nat) : Int) - 1 = ((st.left - 1 : Nat) : Int) := by
          show (st.left : Int) - 1 = _
          omega
        rw [e1, rgF_slf]
        have R3 := (R2.setR { st with left := st.left - 1, whole := st.whole ++ [n] } ln vL vB vT ov rfl R2.l_ R2.nlw R2.told (fun z => absurd (hn.symm.trans z) (by decide))).pos (st.pos + (sbS st (.byt n)).length)
        have k3 := k2.trans (.r H2 (.ins CR dx (rgF hd ld w st.nx st.last (st.left - 1) ln vL vB vT ov .non)))
        have e8 : (sbS st (.byt n)).length = 8 := bits_len n 8
        have := q1 (by rw [e8]; omega) _ k3
        rw [e8] at this
        exact this ⟨dx, dh, ln, vL, vB, vT, R3⟩
      · exact q2 (by show _ < (bitsL n 8).length; rw [bits_len]; exact hf) H p (.refl H) tx'.le ⟨dx, dh, ln, vL, vB, vT, R⟩
    | _ => exact absurd (hok.1.symm.trans hn) (by decide)
end
end K7

namespace K7
open PySem PySem.Spec PyProof.Rows L2 SBX
open K2 (wAt coinsL)
/-! ### Reading: read_block -/
theorem last_dec (b : Bool) : decide (V.int ((lastN b : Nat) : Int) = V.int 1) = b := by cases b <;> decide
theorem last_lt (b : Bool) : lastN b < 2 := by cases b <;> decide
section
variable {P : Program} {w : World} {K : PySem.W.Frag} {mg : Str → Option Value} {base : Heap} {C CH CT CW CR fI fH fB fR fG fN fL fTI pI pL pB : Addr}
variable {rI rHear rTold rMany rOver rBits rGo rNext rBlk rCnt rPln rRun rTake rTrees rItem rRoom rEnd rRest : Addr}
theorem ok_rgB (T : RgTxt K mg CR rI rHear rTold rMany rOver rBits rGo rNext rBlk rCnt rPln rRun rTake rTrees rItem rRoom rEnd rRest) (TH : HdTxt K mg CH fI fH fB fR fG fN fL) {fd fdN fdT : FuncData} {j k1 k2 : Nat} {t1 t2 t3 t4 t5 t6 t7 t8 t9 : Tok} (F : Fun K "read_block" "Reading.read_block" sRgBlock rBlk fd)
    (GN : FnOk P w K mg base (L2N.CX P w) k1 fN fdN ["self", "many"] (spHdN CH CW)) (bN : Binds K fdN ["self", "many"] []) (l1 : k1 ≤ j) (GT : FnOk P w K mg base CX0 k2 rTrees fdT ["self"] (spRgTr CH CT CR)) (bT : Binds K fdT ["self"] []) (l2 : k2 ≤ j)
    (c1 : mg "LAST_BITS" = some (.int 1 t1)) (c2 : mg "SORT_BITS" = some (.int 2 t2)) (c3 : mg "OWN_WORDS" = some (.int 2 t3)) (c4 : mg "MOST_BYTES" = some (.int 2000 t4)) (c5 : mg "PLAIN" = some (.int 0 t5)) (c6 : mg "NEXT_COUNT" = some (.int 1 t6)) (c7 : mg "TOLD_WORDS" = some (.int 1 t7)) (c8 : mg "NEXT_ITEM" = some (.int 4 t8)) (c9 : mg "NEXT_RUN" = some (.int 3 t9)) :
    FnOk P w K mg base (L2N.CX P w) (j + 1) rBlk fd ["self"] (StepSp CH CT CR CW 0) := by
  refine okN F scRgB (fun vs H Q E h => ?_) (fun cdv A outer s H vs Q E hr h => ?_)
  · obtain ⟨r, hd, w, ld, s, o, p, t, ov, g, X, D, rfl, _⟩ := h
    rfl
  · obtain ⟨r, hd, w, ld, st, o, p, t, ov, g, X, D, rfl, ⟨dx, dh, ln, vL, vB, vT, R⟩, hn, hok, tx', hX, q1, q2⟩ := h
    refine ⟨_, pss_cons (ps_set (i := 1) scRgB.nd rfl (.inl rfl) (pe_cmpR op_eq (pe_meth (pe_fld (pv 0) rfl) TH.cl TH.mN GN (hr.mono l1) bN .nil (L2N.passes_call (L2N.takes_of rfl rfl rfl rfl) (fun _ _ _ _ h => h)) (pa_cons (pe_glob (v := .int 1) rfl c1 ⟨_, rfl⟩) pa_nil)) pe_int (nomark _)))
      (pss_cons (ps_set (i := 2) scRgB.nd rfl (.inl rfl) (pe_meth (pe_fld (pv 0) rfl) TH.cl TH.mN GN (hr.mono l1) bN .nil (L2N.passes_call (L2N.takes_of rfl rfl rfl rfl) (fun _ _ _ _ h => h)) (pa_cons (pe_glob (v := .int 2) rfl c2 ⟨_, rfl⟩) pa_nil)))
      (pss_cons (ps_if (pt_cmpR op_gt (pv 2) (pe_glob (v := .int 2) rfl c3 ⟨_, rfl⟩) (nomark _)) (pss_one ps_never) pss_nil)
      (pss_cons (ps_fld (pv 0) (pv 1) rfl)
      (pss_cons (ps_fld (pv 0) (pe_glob (v := .int 2000) rfl c4 ⟨_, rfl⟩) rfl)
      (pss_one (ps_if (pt_cmpR op_eq (pv 2) (pe_glob (v := .int 0) rfl c5 ⟨_, rfl⟩) (nomark _)) (pss_one (ps_fld (pv 0) (pe_glob (v := .int 1) rfl c6 ⟨_, rfl⟩) rfl))
        (pss_one (ps_if (pt_cmpR op_eq (pv 2) (pe_glob (v := .int 1) rfl c7 ⟨_, rfl⟩) (nomark _))
          (pss_cons (ps_asg (pe_meth0 (pv 0) T.cl T.mTrees GT (hr.mono l2) bT .nil pass0) (pg_tup rfl (pgs_cons (pg_fldT (pv 0)) (pgs_cons (pg_fldT (pv 0)) pgs_nil)))) (pss_one (ps_fld (pv 0) (pe_glob (v := .int 4) rfl c8 ⟨_, rfl⟩) rfl)))
          (pss_cons (ps_fld (pv 0) (pe_lst pa_nil) rfl) (pss_one (ps_fld (pv 0) (pe_glob (v := .int 3) rfl c9 ⟨_, rfl⟩) rfl))))))))))), ?_⟩
    cases g with
    | blk b n =>
      obtain ⟨_, hn2⟩ := hok
      have hX0 : t.drop p ++ X = bitsL (lastN b) 1 ++ (bitsL n 2 ++ D) := by
        rw [← List.append_assoc]
        exact hX
      have e3 : (sbS st (.blk b n)).length = 3 := by
        show (bitsL (lastN b) 1 ++ bitsL n 2).length = 3
        rw [List.length_append, bits_len, bits_len]
      refine ⟨_, rfl, r, CR, dx, _, _, rfl, R.r_, T.cl, T.nH, rgF_hd _ _ _ _ _ _ _ _ _ _ _ _, hd, dh, _, rfl, R.h_, hdF_no', ?_⟩
      dsimp only [tCons, tC, tNil, List.append_nil]
      refine num_fit (m := 1) (n := lastN b) R.h_ tx'.le tx'.len tx'.bits hX0 (last_lt b) (by decide) (fun hf hX1 => ?_) (fun hf => ?_)
      · have R1 := R.setH o t (p + 1)
        have k1 : Oth r hd w H _ := .h H (.ins CH dh (hdF o t (p + 1)))
        generalize upd H hd (.ins CH dh (hdF o t (p + 1))) = H1 at *
        refine ⟨rfl, ?_⟩
        rw [last_dec b]
        dsimp only [gName]
        refine ⟨_, rfl, r, CR, dx, _, _, rfl, R1.r_, T.cl, T.nH, rgF_hd _ _ _ _ _ _ _ _ _ _ _ _, hd, dh, _, rfl, R1.h_, hdF_no', ?_⟩
        dsimp only [tCons, tC, tNil, List.append_nil]
        refine num_fit (m := 2) (n := n) R1.h_ hf tx'.len tx'.bits hX1 (by omega) (by decide) (fun hf2 hX2 => ?_) (fun hf2 => ?_)
        · have R2 := R1.setH o t (p + 1 + 2)
          have k2 := k1.trans (.h H1 (.ins CH dh (hdF o t (p + 1 + 2))))
          generalize upd H1 hd (.ins CH dh (hdF o t (p + 1 + 2))) = H2 at *
          refine ⟨_, rfl, _, _, rfl, rfl, _, rfl, ?_⟩
          rw [show decide ((2 : Int) < (n : Int)) = false from decide_eq_false (by omega)]
          refine iteF ⟨_, rfl, _, rfl, r, CR, dx, _, rfl, R2.r_, T.cl, T.nI, (by show 12 < 1000; decide), ?_⟩
          rw [rgF_sla]
          have R3 := R2.setR { st with last := b } ln vL vB vT ov rfl R2.l_ R2.nlw R2.told R2.trs
          have k3 := k2.trans (.r H2 (.ins CR dx (rgF hd ld w st.nx b st.left ln vL vB vT ov .non)))
          generalize upd H2 r (.ins CR dx (rgF hd ld w st.nx b st.left ln vL vB vT ov .non)) = H3 at *
          refine ⟨_, rfl, r, CR, dx, _, rfl, R3.r_, T.cl, T.nF, (by show 12 < 1000; decide), ?_⟩
          have e4 : putF "_left" (.int 2000) (rgF hd ld w st.nx b st.left ln vL vB vT ov .non) = rgF hd ld w st.nx b 2000 ln vL vB vT ov .non := rgF_slf _ _ _ _ _ _ _ _ _ _ _ _ 2000
          dsimp only
          rw [e4]
          have R4 := R3.setR { st with last := b, left := 2000 } ln vL vB vT ov rfl R3.l_ R3.nlw R3.told R3.trs
          have k4 := k3.trans (.r H3 (.ins CR dx (rgF hd ld w st.nx b 2000 ln vL vB vT ov .non)))
          generalize upd H3 r (.ins CR dx (rgF hd ld w st.nx b 2000 ln vL vB vT ov .non)) = H4 at *
          have q1' : ∀ H', Oth r hd w H H' → RgAt CH CT CR H' r hd w ld (stS st (.blk b n)) o t (p + 1 + 2) ov → Q .non H' := by
            have := q1 (by rw [e3]; omega)
            rw [e3] at this
            exact this
          rcases (show n = 0 ∨ n = 1 ∨ n = 2 by omega) with rfl | rfl | rfl
          · refine ⟨_, rfl, rfl, _, rfl, iteC (decide_eq_true rfl) ?_⟩
            refine ⟨_, rfl, r, CR, dx, _, rfl, R4.r_, T.cl, T.nN, (by show 12 < 1000; decide), ?_⟩
            have R5 := (R4.setR { st with last := b, left := 2000, nx := 1 } ln vL vB vT ov rfl R4.l_ R4.nlw R4.told (fun z => nomatch z)).pos (st.pos + (sbS st (.blk b 0)).length)
            exact q1' _ (k4.trans (.r H4 (.ins CR dx (rgF hd ld w 1 b 2000 ln vL vB vT ov .non)))) ⟨dx, dh, ln, vL, vB, vT, R5⟩
          · refine ⟨_, rfl, rfl, _, rfl, ?_⟩
            rw [show decide (V.int ((1 : Nat) : Int) = V.int 0) = false from by decide]
            refine iteF ⟨_, rfl, rfl, _, rfl, iteC (decide_eq_true rfl) ?_⟩
            refine ⟨_, rfl, r, dx, _, rfl, R4.r_, rgF_no', r, hd, w, ld, _, o, _, t, ov, rfl, ⟨dx, dh, ln, vL, vB, vT, R4⟩, fun H5 tt u1 u2 k5 h5 ht h1 h2 => ?_⟩
            obtain ⟨dx', dh', ln', vL', vB', vT', R5⟩ := h5
            refine ⟨tt, _, rfl, .inl (.inl ht), rfl, _, _, rfl, _, rfl, r, CR, dx', _, rfl, R5.r_, T.cl, T.nL, (by show 12 < 1000; decide), ?_⟩
            rw [rgF_svL]
            have k6 := (k4.trans k5).trans (.r H5 (.ins CR dx' (rgF hd ld w st.nx b 2000 ln' (.ref u1) vB' vT' ov .non)))
            have R6 := R5.setR { st with last := b, left := 2000 } ln' (.ref u1) vB' vT' ov rfl R5.l_ R5.nlw R5.told (fun z => absurd (hn.symm.trans z) (by decide))
            have h16 := h1.oth R5.three (.r H5 (.ins CR dx' (rgF hd ld w st.nx b 2000 ln' (.ref u1) vB' vT' ov .non)))
            have h26 := h2.oth R5.three (.r H5 (.ins CR dx' (rgF hd ld w st.nx b 2000 ln' (.ref u1) vB' vT' ov .non)))
            generalize upd H5 r (.ins CR dx' (rgF hd ld w st.nx b 2000 ln' (.ref u1) vB' vT' ov .non)) = H6 at *
            refine ⟨_, _, rfl, _, rfl, r, CR, dx', _, rfl, R6.r_, T.cl, T.nB, (by show 12 < 1000; decide), rfl, ?_⟩
            rw [rgF_svB]
            have k7 := k6.trans (.r H6 (.ins CR dx' (rgF hd ld w st.nx b 2000 ln' (.ref u1) (.ref u2) vT' ov .non)))
            have R7 := R6.setR { st with last := b, left := 2000 } ln' (.ref u1) (.ref u2) vT' ov rfl R6.l_ R6.nlw R6.told (fun z => absurd (hn.symm.trans z) (by decide))
            have h17 := h16.oth R6.three (.r H6 (.ins CR dx' (rgF hd ld w st.nx b 2000 ln' (.ref u1) (.ref u2) vT' ov .non)))
            have h27 := h26.oth R6.three (.r H6 (.ins CR dx' (rgF hd ld w st.nx b 2000 ln' (.ref u1) (.ref u2) vT' ov .non)))
            generalize upd H6 r (.ins CR dx' (rgF hd ld w st.nx b 2000 ln' (.ref u1) (.ref u2) vT' ov .non)) = H7 at *
            refine ⟨_, rfl, r, CR, dx', _, rfl, R7.r_, T.cl, T.nN, (by show 12 < 1000; decide), ?_⟩
            have R8 := (R7.setR { st with last := b, left := 2000, nx := 4, tL := toldL, tB := toldB } ln' (.ref u1) (.ref u2) vT' ov rfl R7.l_ R7.nlw R7.told (fun _ => ⟨u1, u2, rfl, rfl, h17, h27⟩)).pos (st.pos + (sbS st (.blk b 1)).length)
            exact q1' _ (k7.trans (.r H7 (.ins CR dx' (rgF hd ld w 4 b 2000 ln' (.ref u1) (.ref u2) vT' ov .non)))) ⟨dx', dh', ln', _, _, vT', R8⟩
          · refine ⟨_, rfl, rfl, _, rfl, ?_⟩
            rw [show decide (V.int ((2 : Nat) : Int) = V.int 0) = false from by decide]
            refine iteF ⟨_, rfl, rfl, _, rfl, ?_⟩
            rw [show decide (V.int ((2 : Nat) : Int) = V.int 1) = false from by decide]
            refine iteF ⟨Nat.zero_le _, fun z nz => ?_⟩
            have s5 : Same H4 (upd H4 z (.lst [])) := same_upd nz
            have R5 := R4.same s5
            have hz5 : (upd H4 z (.lst [])) z = some (.lst []) := upd_same
            have nzw : z ≠ w := Ne.symm (ne_of_none R4.w_ nz)
            generalize upd H4 z (.lst []) = H5 at *
            refine ⟨_, rfl, r, CR, dx, _, rfl, R5.r_, T.cl, T.nG, (by show 12 < 1000; decide), ?_⟩
            rw [rgF_sln]
            have k6 := (k4.trans (.same s5)).trans (.r H5 (.ins CR dx (rgF hd ld w st.nx b 2000 z vL vB vT ov .non)))
            have R6 := R5.setR { st with last := b, left := 2000, lens := [] } z vL vB vT ov rfl hz5 nzw R5.told R5.trs
            generalize upd H5 r (.ins CR dx (rgF hd ld w st.nx b 2000 z vL vB vT ov .non)) = H6 at *
            refine ⟨_, rfl, r, CR, dx, _, rfl, R6.r_, T.cl, T.nN, (by show 12 < 1000; decide), ?_⟩
            have R7 := (R6.setR { st with last := b, left := 2000, lens := [], nx := 3 } z vL vB vT ov rfl R6.l_ R6.nlw R6.told (fun z => nomatch z)).pos (st.pos + (sbS st (.blk b 2)).length)
            exact q1' _ (k6.trans (.r H6 (.ins CR dx (rgF hd ld w 3 b 2000 z vL vB vT ov .non)))) ⟨dx, dh, z, vL, vB, vT, R7⟩
        · exact q2 (by rw [e3]; omega) H1 (p + 1) k1 hf ⟨dx, dh, ln, vL, vB, vT, R1⟩
      · exact q2 (by rw [e3]; omega) H p (.refl H) tx'.le ⟨dx, dh, ln, vL, vB, vT, R⟩
    | _ => exact absurd (hok.1.symm.trans hn) (by decide)
end
end K7

namespace K7
open PySem PySem.Spec PyProof.Rows L2 SBX
open K2 (wAt coinsL cnts ansL)
/-! ### _law_own -/
theorem bumpV {n l : Nat} {T : List Nat} (h : l < n) : ((cnts n T).map V.int).set l (.int (((T.count l : Nat) : Int) + 1)) = (cnts n (T ++ [l])).map V.int := by
  rw [← K2.cnts_bump h, List.map_set]
theorem atV {n l : Nat} {T : List Nat} (h : l < n) : atI ((cnts n T).map V.int) (l : Int) = some (.int ((T.count l : Nat) : Int)) := by
  refine atI_nat ?_
  rw [List.getElem?_map, K2.cnts_get h]
  rfl
theorem ixV {n l : Nat} {T : List Nat} (h : l < n) : ixN ((cnts n T).map V.int).length (l : Int) = some l := by
  rw [List.length_map, K2.cnts_len]
  unfold ixN
  rw [if_pos (by omega), if_pos (by omega), Int.toNat_natCast]
theorem zeroV (n : Nat) : (List.replicate ((n : Int)).toNat [V.int 0]).flatten = (cnts n []).map V.int := by
  rw [K2.cnts_nil, Int.toNat_natCast, List.flatten_replicate_singleton, List.map_replicate]
theorem cnts_zero {its : List Itm} (h : ∀ it ∈ its, ItmOk it) : cnts 11 (bkI its) = cnts 11 [] ↔ bkI its = [] := by
  constructor
  · intro e
    rcases List.eq_nil_or_concat (bkI its) with z | ⟨r, x, z⟩
    · exact z
    · rw [List.concat_eq_append] at z
      have hx : x ∈ bkI its := by rw [z]; simp
      have hlt := bkI_lt h x hx
      have e2 := congrArg (fun l : List Int => l[x]?) e
      have e2 : (cnts 11 (bkI its))[x]? = (cnts 11 [])[x]? := e2
      rw [K2.cnts_get hlt, K2.cnts_get hlt] at e2
      have e3 := Option.some.inj e2
      have := List.count_pos_iff.mpr hx
      simp at e3
      omega
  · intro e
    rw [e]
abbrev NLO : List Str := ["_law_row", "_law_letters", "_law_backs", "_law_item", "_law_letter"]
theorem scLOwn : FnScope NLO ["_law_row"] (defScope sLOwn) := ⟨rfl, rfl, rfl, by decide +kernel, rfl, by decide +kernel, by decide +kernel⟩
section
variable {P : Program} {w : World} {K : PySem.W.Frag} {mg : Str → Option Value} {base : Heap}
def spLOwn : Sp := fun vs H Q _ => ∃ (pr : Addr) (us : List V) (its : List Itm), vs = [.ref pr] ∧ H pr = some (.lst us) ∧ RowAt H its us ∧ RwOk its ∧
  ∀ H' t pL pB, Same H H' → H t = none → H' t = some (.tup [.ref pL, .ref pB]) → H' pL = some (.lst ((ownL its).map V.int)) → H' pB = some (.lst ((ownB its).map V.int)) → Q (.ref t) H'
theorem ok_lown {f fB fL : Addr} {fd fdB fdL : FuncData} {j k1 k2 : Nat} (F : Fun K "_law_own" "_law_own" sLOwn f fd)
    (GB : FnOk P w K mg base CX0 k1 fB fdB ["_law_back_here"] spBack) (bB : Binds K fdB ["_law_back_here"] []) (kB : PySem.W.keepIn K (.ref fB) = true) (gB : mg "_law_back" = some (.ref fB)) (l1 : k1 ≤ j)
    (GL : FnOk P w K mg base CX0 k2 fL fdL ["_law_weights", "_law_bound"] K2.spLL) (bL : Binds K fdL ["_law_weights", "_law_bound"] []) (kL : PySem.W.keepIn K (.ref fL) = true) (gL : mg "_law_least_lengths" = some (.ref fL)) (l2 : k2 ≤ j)
    (m1 : mg "isinstance" = none) (m2 : mg "int" = none) : FnOk P w K mg base CX0 (j + 1) f fd ["_law_row"] spLOwn := by
  refine F.ok scLOwn (fun vs H Q E h => ?_) (fun cdv A outer s H vs Q E hr h => ?_)
  · obtain ⟨pr, us, its, rfl, _⟩ := h
    rfl
  · obtain ⟨pr, us, its, rfl, hpr, hrow, R, q⟩ := h
    have hz := PySem.sizeLine_eq
    refine ⟨_, pss_cons (ps_par (i := 1) (j := 2) rfl scLOwn.nd rfl rfl (by decide) rfl rfl (pa_cons (pe_op op_rep (pe_lst (pa_cons pe_int pa_nil)) pe_int) (pa_cons (pe_op op_rep (pe_lst (pa_cons pe_int pa_nil)) pe_int) pa_nil)) (by rfl))
      (pss_cons (ps_asg pe_int (pg_sub (pv 1) pe_int set_list))
      (pss_cons (ps_for PassesOwn.never rfl (pi_list (pv 0)) (pg_name (i := 3) scLOwn.nd rfl (.inl rfl))
        (pss_cons (ps_set (i := 4) scLOwn.nd rfl (.inl rfl) (pe_ifExp (pt_val (pe_callB call_isi (by rfl) m1 (by decide +kernel) (pa_cons (pv 3) (pa_cons (pe_bltn (v := .ty "int") (by rfl) m2 (by decide +kernel) rfl) pa_nil)))) (pv 3) (pe_op op_add pe_int (pe_ix ix_tup (pv 3) pe_int (fun _ _ => rfl)))))
        (pss_cons (ps_asg (pe_op op_add (pe_ix ix_list (pv 1) (pv 4) (fun _ _ => rfl)) pe_int) (pg_sub (pv 1) (pv 4) set_list))
        (pss_one (ps_if (pt_not (pt_val (pe_callB call_isi (by rfl) m1 (by decide +kernel) (pa_cons (pv 3) (pa_cons (pe_bltn (v := .ty "int") (by rfl) m2 (by decide +kernel) rfl) pa_nil)))))
          (pss_one (ps_asg (pe_op op_add (pe_ix ix_list (pv 2) (pe_call GB (hr.mono l1) (by rfl) gB kB bB .nil pass0 (pa_cons (pe_ix ix_tup (pv 3) pe_int (fun _ _ => rfl)) pa_nil)) (fun _ _ => rfl)) pe_int)
            (pg_sub (pv 2) (pe_call GB (hr.mono l1) (by rfl) gB kB bB .nil pass0 (pa_cons (pe_ix ix_tup (pv 3) pe_int (fun _ _ => rfl)) pa_nil)) set_list))) pss_nil)))))
      (pss_one (ps_ret (pe_tup (pa_cons (pe_call GL (hr.mono l2) (by rfl) gL kL bL .nil pass0 (pa_cons (pv 1) (pa_cons pe_int pa_nil)))
        (pa_cons (pe_ifExp (pt_cmpR (op_neD hr.units) (pv 2) (pe_op op_rep (pe_lst (pa_cons pe_int pa_nil)) pe_int) (nomark _)) (pe_call GL (hr.mono l2) (by rfl) gL kL bL .nil pass0 (pa_cons (pv 2) (pa_cons pe_int pa_nil))) (pv 2)) pa_nil))))))), ?_⟩
    refine ⟨(by show 1 ≤ sizeLine; omega), fun z1 nz1 => ?_⟩
    have s1 := same_upd (o := .lst [.int 0]) nz1
    have hz1 : (upd H z1 (.lst [.int 0])) z1 = some (.lst [.int 0]) := upd_same
    generalize upd H z1 (.lst [.int 0]) = H1 at *
    refine ⟨z1, _, _, rfl, rfl, hz1, by omega, by omega, (by show 1 * _ ≤ _; omega), fun pL nL => ?_⟩
    have eL : (List.replicate ((273 : Int)).toNat [V.int 0]).flatten = (cnts 273 []).map V.int := zeroV 273
    rw [eL]
    have s2 := same_upd (o := .lst ((cnts 273 []).map V.int)) nL
    have hL2 : (upd H1 pL (.lst ((cnts 273 []).map V.int))) pL = some (.lst ((cnts 273 []).map V.int)) := upd_same
    have nL0 := none_back s1 nL
    have s12 := s1.trans s2
    generalize upd H1 pL (.lst ((cnts 273 []).map V.int)) = H2 at *
    refine ⟨(by show 1 ≤ sizeLine; omega), fun z2 nz2 => ?_⟩
    have s3 := same_upd (o := .lst [.int 0]) nz2
    have hz2 : (upd H2 z2 (.lst [.int 0])) z2 = some (.lst [.int 0]) := upd_same
    generalize upd H2 z2 (.lst [.int 0]) = H3 at *
    refine ⟨z2, _, _, rfl, rfl, hz2, by omega, by omega, (by show 1 * _ ≤ _; omega), fun pB nB => ?_⟩
    have eB : (List.replicate ((11 : Int)).toNat [V.int 0]).flatten = (cnts 11 []).map V.int := zeroV 11
    rw [eB]
    have s4 := same_upd (o := .lst ((cnts 11 []).map V.int)) nB
    have hB4 : (upd H3 pB (.lst ((cnts 11 []).map V.int))) pB = some (.lst ((cnts 11 []).map V.int)) := upd_same
    have hL3 := s3 _ _ hL2
    have hLB : pL ≠ pB := fun z => by rw [z, nB] at hL3; cases hL3
    have nB0 := none_back (s12.trans s3) nB
    have hL4 := s4 _ _ hL3
    have s14 := (s12.trans s3).trans s4
    generalize upd H3 pB (.lst ((cnts 11 []).map V.int)) = H4 at *
    refine ⟨_, _, rfl, ?_⟩
    refine ⟨_, rfl, pL, _, 256, 256, rfl, rfl, hL4, ixV (by decide), ?_⟩
    have e5 : ((cnts 273 []).map V.int).set 256 (.int 1) = (cnts 273 [256]).map V.int := bumpV (n := 273) (l := 256) (T := []) (by decide)
    rw [e5]
    have s5 : Same H (upd H4 pL (.lst ((cnts 273 [256]).map V.int))) := same_put s14 nL0
    have hL5 : (upd H4 pL (.lst ((cnts 273 [256]).map V.int))) pL = some (.lst ((cnts 273 [256]).map V.int)) := upd_same
    have hB5 : (upd H4 pL (.lst ((cnts 273 [256]).map V.int))) pB = some (.lst ((cnts 11 []).map V.int)) := by rw [upd_ne hLB.symm]; exact hB4
    generalize upd H4 pL (.lst ((cnts 273 [256]).map V.int)) = H5 at *
    have hul := hrow.length
    refine ⟨_, rfl, pr, rfl, ⟨_, .inl (.inl (s5 _ _ hpr))⟩, ?_⟩
    refine for_list (K := K) (a := pr) (xs := us) (fun i σ H' => ∃ y3 y4 : Option V, σ = [some (.ref pr), some (.ref pL), some (.ref pB), y3, y4] ∧ Same H H' ∧ H' pL = some (.lst ((cnts 273 (ltsI (its.take i))).map V.int)) ∧ H' pB = some (.lst ((cnts 11 (bkI (its.take i))).map V.int))) ⟨none, none, rfl, s5, hL5, hB5⟩ (fun i σ H' _ z => ?_) (fun i x σ H' hx z => ?_) (fun σ H' z => ?_)
    · obtain ⟨_, _, _, sm, _⟩ := z
      exact .inl (.inl (sm _ _ hpr))
    · obtain ⟨y3, y4, rfl, sm, hL, hB⟩ := z
      obtain ⟨it, hit, hat0⟩ := paired_at hrow hx
      have o1 := R.ok it (List.mem_of_getElem? hit)
      have hat := hat0.same sm
      have eT : its.take (i + 1) = its.take i ++ [it] := by rw [List.take_add_one, hit]; rfl
      have eL2 : ltsI (its.take (i + 1)) = ltsI (its.take i) ++ [ltI it] := by
        rw [eT]
        unfold ltsI
        rw [List.map_append]
        rfl
      rw [eL2, eT, bkI_app]
      dsimp only [gName]
      have hlt : ltI it < 273 := lts_lt R.ok _ (List.mem_cons_of_mem _ (List.mem_map.mpr ⟨it, List.mem_of_getElem? hit, rfl⟩))
      have hbx := bkI_lt R.ok
      have hat1 := atV (T := ltsI (its.take i)) hlt
      have hix1 := ixV (T := ltsI (its.take i)) hlt
      have hbp := bumpV (T := ltsI (its.take i)) hlt
      generalize ltsI (its.take i) = TL at *
      have hsp : Same H (upd H' pL (.lst ((cnts 273 (TL ++ [ltI it])).map V.int))) := same_put sm nL0
      have hLx : (upd H' pL (.lst ((cnts 273 (TL ++ [ltI it])).map V.int))) pL = some (.lst ((cnts 273 (TL ++ [ltI it])).map V.int)) := upd_same
      have hBx : (upd H' pL (.lst ((cnts 273 (TL ++ [ltI it])).map V.int))) pB = some (.lst ((cnts 11 (bkI (its.take i))).map V.int)) := by rw [upd_ne hLB.symm]; exact hB
      have hatx := hat0.same hsp
      cases it with
      | b k =>
        obtain rfl : x = .int (k : Int) := hat
        refine ⟨_, rfl, _, _, _, _, _, rfl, .ty "int", .base (.int _), kit_ty (a := "int") (r := true) (by decide +kernel), _, rfl, iteT ?_⟩
        refine ⟨_, rfl, ?_⟩
        dsimp only [gName]
        refine ⟨_, rfl, _, rfl, pL, _, _, _, rfl, rfl, .inl (.inl hL), hat1, _, _, rfl, rfl, _, rfl, _, rfl, pL, _, _, _, rfl, rfl, hL, hix1, ?_⟩
        rw [hbp]
        generalize upd H' pL (.lst ((cnts 273 (TL ++ [ltI (.b k)])).map V.int)) = H7 at *
        refine ⟨_, rfl, _, _, _, _, _, rfl, .ty "int", .base (.int _), kit_ty (a := "int") (r := true) (by decide +kernel), _, rfl, iteF ?_⟩
        refine ⟨_, _, rfl, hsp, hLx, ?_⟩
        rw [show bkI [Itm.b k] = [] from rfl, List.append_nil]
        exact hBx
      | c m r =>
        obtain ⟨t, rfl, ht⟩ := hat
        obtain ⟨g1, g2, g3, g4⟩ := o1
        have hlog := log_lt g3 g4
        obtain ⟨t', et', htx⟩ := hatx
        obtain rfl : t = t' := V.ref.inj et'
        refine ⟨_, rfl, _, _, _, _, _, rfl, .ty "int", .base (.tup ht), kit_ty (a := "tuple") (r := false) (by decide +kernel), _, rfl, iteF ?_⟩
        refine ⟨_, rfl, t, _, 0, .int (m : Int), rfl, rfl, .inl (.inl ht), rfl, _, _, rfl, rfl, ?_⟩
        dsimp only [gName]
        refine ⟨_, rfl, _, rfl, pL, _, _, _, rfl, rfl, .inl (.inl hL), hat1, _, _, rfl, rfl, _, rfl, _, rfl, pL, _, _, _, rfl, rfl, hL, hix1, ?_⟩
        rw [hbp]
        generalize upd H' pL (.lst ((cnts 273 (TL ++ [ltI (.c m r)])).map V.int)) = H7 at *
        refine ⟨_, rfl, _, _, _, _, _, rfl, .ty "int", .base (.tup htx), kit_ty (a := "tuple") (r := false) (by decide +kernel), _, rfl, iteT ?_⟩
        have hat2 := atV (T := bkI (its.take i)) hlog
        have hix2 := ixV (T := bkI (its.take i)) hlog
        have hbp2 := bumpV (T := bkI (its.take i)) hlog
        refine ⟨_, rfl, _, rfl, t, _, 1, .int (r : Int), rfl, rfl, .inl (.inl htx), rfl, r, rfl, g3, by omega, pB, _, _, _, rfl, rfl, .inl (.inl hBx), hat2, _, _, rfl, rfl, ?_⟩
        refine ⟨_, rfl, _, rfl, t, _, 1, .int (r : Int), rfl, rfl, .inl (.inl htx), rfl, r, rfl, g3, by omega, pB, _, _, _, rfl, rfl, hBx, hix2, ?_⟩
        rw [hbp2]
        refine ⟨_, _, rfl, same_put hsp nB0, ?_, upd_same⟩
        rw [upd_ne hLB]
        exact hLx
    · obtain ⟨y3, y4, rfl, sm, hL, hB⟩ := z
      rw [← hul, List.take_length] at hL hB
      refine ⟨_, rfl, pL, _, 12, rfl, hL, askL R, fun H6 qL s6 hqL => ?_⟩
      have hB6 := s6 _ _ hB
      have sm6 := sm.trans s6
      refine ⟨_, rfl, (by show 1 ≤ sizeLine; omega), fun z3 nz3 => ?_⟩
      have s7 := same_upd (o := .lst [.int 0]) nz3
      have hz3 : (upd H6 z3 (.lst [.int 0])) z3 = some (.lst [.int 0]) := upd_same
      generalize upd H6 z3 (.lst [.int 0]) = H7 at *
      refine ⟨z3, _, _, rfl, rfl, hz3, by omega, by omega, (by show 1 * _ ≤ _; omega), fun D nD => ?_⟩
      have eB : (List.replicate ((11 : Int)).toNat [V.int 0]).flatten = (cnts 11 []).map V.int := zeroV 11
      rw [eB]
      have s8 := s7.trans (same_upd (o := .lst ((cnts 11 []).map V.int)) nD)
      have hD8 : (upd H7 D (.lst ((cnts 11 []).map V.int))) D = some (.lst ((cnts 11 []).map V.int)) := upd_same
      generalize upd H7 D (.lst ((cnts 11 []).map V.int)) = H8 at *
      have hB8 := s8 _ _ hB6
      have hq8 := s8 _ _ hqL
      have sm8 := sm6.trans s8
      refine ⟨_, _, .lst (.inl (.inl hB8)) (dp_ints _), .lst (.inl (.inl hD8)) (dp_ints _), shaped_intsQ _, shaped_intsQ _, _, rfl, ?_⟩
      rw [eqv_ints]
      refine ite2 (fun e => ?_) (fun e => ?_)
      · have hne : bkI its ≠ [] := fun z => by rw [(cnts_zero R.ok).mpr z] at e; simp at e
        refine ⟨_, rfl, pB, _, 6, rfl, hB8, askB R hne, fun H9 qB s9 hqB => ?_⟩
        refine ⟨by show 2 ≤ sizeLine; omega, fun t nt => ?_⟩
        have st := same_upd (o := .tup [.ref qL, .ref qB]) nt
        have sm9 := sm8.trans s9
        refine q _ t qL qB (sm9.trans st) (none_back sm9 nt) upd_same (st _ _ (s9 _ _ hq8)) ?_
        unfold ownB
        rw [if_neg hne]
        exact st _ _ hqB
      · have hne : bkI its = [] := by
          by_cases z : bkI its = []
          · exact z
          · refine absurd ?_ e
            rw [decide_eq_false (fun z2 => z ((cnts_zero R.ok).mp z2))]
            rfl
        refine ⟨_, rfl, by show 2 ≤ sizeLine; omega, fun t nt => ?_⟩
        have st := same_upd (o := .tup [.ref qL, .ref pB]) nt
        refine q _ t qL pB (sm8.trans st) (none_back sm8 nt) upd_same (st _ _ hq8) ?_
        unfold ownB
        rw [if_pos hne, ← hne]
        exact st _ _ hB8
end
end K7

namespace K7
open PySem PySem.Spec PyProof.Rows L2 SBX
open K2 (wAt coinsL)
/-! ### Reading: take_lengths, read_run -/
theorem ints_cut_to (L : List Int) (n : Nat) : cutV (L.map V.int) none (some (n : Int)) = (L.take n).map V.int := by
  unfold cutV
  rw [HT.sIx_nat, HT.sIx_none, List.drop_zero, Nat.sub_zero, List.length_map, ← List.map_take]
  by_cases q : n ≤ L.length
  · rw [Nat.min_eq_left q]
  · rw [Nat.min_eq_right (by omega), List.take_of_length_le (Nat.le_refl _), List.take_of_length_le (by omega)]
theorem ints_cut_from (L : List Int) (n : Nat) : cutV (L.map V.int) (some (n : Int)) none = (L.drop n).map V.int := by
  unfold cutV
  rw [HT.sIx_nat, HT.sIx_none, List.length_map, ← List.map_drop]
  by_cases q : n ≤ L.length
  · rw [Nat.min_eq_left q, List.take_of_length_le (by rw [List.length_map, List.length_drop]; omega)]
  · rw [Nat.min_eq_right (by omega), Nat.sub_self, List.take_zero, List.drop_of_length_le (by omega)]
    rfl
theorem scRgK : FnScope ["self", "letters", "backs"] ["self", "letters", "backs"] (defScope sRgTake) := ⟨rfl, rfl, rfl, by decide +kernel, rfl, by decide +kernel, by decide +kernel⟩
abbrev NRgR : List Str := ["self", "length", "many", "lengths"]
theorem scRgR : FnScope NRgR ["self"] (defScope sRgRun) := ⟨rfl, rfl, rfl, by decide +kernel, rfl, by decide +kernel, by decide +kernel⟩
section
variable {P : Program} {w : World} {K : PySem.W.Frag} {mg : Str → Option Value} {base : Heap} {C CH CT CW CR fI fH fB fR fG fN fL fTI pI pL pB : Addr}
variable {rI rHear rTold rMany rOver rBits rGo rNext rBlk rCnt rPln rRun rTake rTrees rItem rRoom rEnd rRest : Addr}
def spRgK (CH CT CR : Addr) : Sp := fun vs H Q _ => ∃ (r hd w pl pb : Addr) (ld : Nat) (s : RS) (o p : Nat) (t : List Nat) (ov : Bool) (L B : List Int), vs = [.ref r, .ref pl, .ref pb] ∧ RgAt CH CT CR H r hd w ld s o t p ov ∧ s.nx = 3 ∧ H pl = some (.lst (L.map V.int)) ∧ H pb = some (.lst (B.map V.int)) ∧ pl ≠ w ∧ pb ≠ w ∧ WP L B ∧ 0 < L.getD 256 0 ∧
  ∀ H', Oth r hd w H H' → RgAt CH CT CR H' r hd w ld { s with nx := 4, tL := L, tB := B } o t p ov → Q .non H'
theorem ok_rgK (T : RgTxt K mg CR rI rHear rTold rMany rOver rBits rGo rNext rBlk rCnt rPln rRun rTake rTrees rItem rRoom rEnd rRest) (TT : TrTxt K mg CT fTI) {fA : Addr} {fd fdA fdTI : FuncData} {j k1 k2 : Nat} {t1 t2 : Tok} (F : Fun K "take_lengths" "Reading.take_lengths" sRgTake rTake fd)
    (GA : FnOk P w K mg base CX0 k1 fA fdA ["lengths"] spAreGood) (bA : Binds K fdA ["lengths"] []) (kA : PySem.W.keepIn K (.ref fA) = true) (gA : mg "are_good" = some (.ref fA)) (l1 : k1 ≤ j)
    (GI : FnOk P w K mg base CX0 k2 fTI fdTI ["self", "lengths"] (spTrI CT)) (bI : Binds K fdTI ["self", "lengths"] []) (l2 : k2 + 1 ≤ j) (c1 : mg "END" = some (.int 256 t1)) (c2 : mg "NEXT_ITEM" = some (.int 4 t2)) :
    FnOk P w K mg base CX0 (j + 1) rTake fd ["self", "letters", "backs"] (spRgK CH CT CR) := by
  refine F.ok scRgK (fun vs H Q E h => ?_) (fun cdv A outer s H vs Q E hr h => ?_)
  · obtain ⟨r, hd, w, pl, pb, ld, s, o, p, t, ov, L, B, rfl, _⟩ := h
    rfl
  · obtain ⟨r, hd, w, pl, pb, ld, st, o, p, t, ov, L, B, rfl, ⟨dx, dh, ln, vL, vB, vT, R⟩, hn, hpl, hpb, n1, n2, W, hend, q⟩ := h
    have h273 := W.l273
    have h11 := W.b11
    refine ⟨_, pss_cons (ps_if (PW.pt (pw_or (pt_not (pt_val (pe_call GA (hr.mono l1) (by rfl) gA kA bA .nil pass0 (pa_cons (pv 1) pa_nil)))) (pw_or (pt_not (pt_val (pe_call GA (hr.mono l1) (by rfl) gA kA bA .nil pass0 (pa_cons (pv 2) pa_nil))))
          (pw_or1 (pt_cmpR op_eq (pe_ix ix_list (pv 1) (pe_glob (v := .int 256) rfl c1 ⟨_, rfl⟩) (fun _ _ => rfl)) pe_int (nomark _)))))) (pss_one ps_never) pss_nil)
      (pss_cons (ps_fld (pv 0) (pe_make TT.made GI (hr.mono l2) (by rfl) TT.gC bI .nil pass0 (pa_cons (pv 1) pa_nil)) rfl)
      (pss_cons (ps_fld (pv 0) (pe_make TT.made GI (hr.mono l2) (by rfl) TT.gC bI .nil pass0 (pa_cons (pv 2) pa_nil)) rfl)
      (pss_one (ps_fld (pv 0) (pe_glob (v := .int 4) rfl c2 ⟨_, rfl⟩) rfl)))), ?_⟩
    refine ⟨_, rfl, pl, L, rfl, hpl, by omega, fun x hx => (W.l.in_ x hx).2, fun H1 s1 => ?_⟩
    rw [W.l.good]
    refine ⟨_, rfl, iteF ?_⟩
    refine ⟨_, rfl, pb, B, rfl, s1 _ _ hpb, by omega, fun x hx => (W.b.in_ x hx).2, fun H2 s2 => ?_⟩
    rw [W.b.good]
    refine ⟨_, rfl, iteF ?_⟩
    have s12 := s1.trans s2
    have R2 := R.same s12
    have hpl2 := s12 _ _ hpl
    have hpb2 := s12 _ _ hpb
    refine ⟨_, rfl, pl, _, 256, _, rfl, rfl, .inl (.inl hpl2), at_getD (k := 256) (by omega), rfl, _, rfl, ?_⟩
    rw [show decide (V.int (L.getD 256 0) = V.int 0) = false from decide_eq_false (fun z => by have := V.int.inj z; omega)]
    refine iteF ?_
    refine ⟨_, rfl, ?_⟩
    intro x dxx nx ndx nex
    have sm3 : Same H2 (upd (upd H2 dxx (.own x)) x (.ins CT dxx [])) := fun b o e => by
      rw [upd_ne (ne_of_none e nx), upd_ne (ne_of_none e ndx)]
      exact e
    refine ⟨x, dxx, pl, L, rfl, upd_same, sm3 _ _ hpl2, by omega, W.l, fun H3 k3 hx3 => ⟨rfl, ?_⟩⟩
    have s3 := made_same nx ndx k3
    have R3 := R2.same s3
    refine ⟨_, rfl, r, CR, dx, _, rfl, R3.r_, T.cl, T.nL, (by show 12 < 1000; decide), ?_⟩
    rw [rgF_svL]
    have k4 : Oth r hd w H _ := (Oth.same (s12.trans s3)).trans (.r H3 (.ins CR dx (rgF hd ld w st.nx st.last st.left ln (.ref x) vB vT ov .non)))
    have R4 := R3.setR st ln (.ref x) vB vT ov rfl R3.l_ R3.nlw R3.told (fun z => absurd (hn.symm.trans z) (by decide))
    have hx4 := hx3.oth R3.three (.r H3 (.ins CR dx (rgF hd ld w st.nx st.last st.left ln (.ref x) vB vT ov .non)))
    have hpb4 := R3.three.lst (.r H3 (.ins CR dx (rgF hd ld w st.nx st.last st.left ln (.ref x) vB vT ov .non))) n2 (s3 _ _ hpb2)
    generalize upd H3 r (.ins CR dx (rgF hd ld w st.nx st.last st.left ln (.ref x) vB vT ov .non)) = H4 at *
    refine ⟨_, rfl, ?_⟩
    intro y dyy ny ndy ney
    have sm5 : Same H4 (upd (upd H4 dyy (.own y)) y (.ins CT dyy [])) := fun b o e => by
      rw [upd_ne (ne_of_none e ny), upd_ne (ne_of_none e ndy)]
      exact e
    refine ⟨y, dyy, pb, B, rfl, upd_same, sm5 _ _ hpb4, by omega, W.b, fun H5 k5 hy5 => ⟨rfl, ?_⟩⟩
    have s5 := made_same ny ndy k5
    have R5 := R4.same s5
    have hx5 := hx4.same s5
    refine ⟨_, rfl, r, CR, dx, _, rfl, R5.r_, T.cl, T.nB, (by show 12 < 1000; decide), ?_⟩
    rw [rgF_svB]
    have k6 := (k4.trans (.same s5)).trans (.r H5 (.ins CR dx (rgF hd ld w st.nx st.last st.left ln (.ref x) (.ref y) vT ov .non)))
    have R6 := R5.setR st ln (.ref x) (.ref y) vT ov rfl R5.l_ R5.nlw R5.told (fun z => absurd (hn.symm.trans z) (by decide))
    have hx6 := hx5.oth R5.three (.r H5 (.ins CR dx (rgF hd ld w st.nx st.last st.left ln (.ref x) (.ref y) vT ov .non)))
    have hy6 := hy5.oth R5.three (.r H5 (.ins CR dx (rgF hd ld w st.nx st.last st.left ln (.ref x) (.ref y) vT ov .non)))
    generalize upd H5 r (.ins CR dx (rgF hd ld w st.nx st.last st.left ln (.ref x) (.ref y) vT ov .non)) = H6 at *
    refine ⟨_, rfl, r, CR, dx, _, rfl, R6.r_, T.cl, T.nN, (by show 12 < 1000; decide), ?_⟩
    have R7 := R6.setR { st with nx := 4, tL := L, tB := B } ln (.ref x) (.ref y) vT ov rfl R6.l_ R6.nlw R6.told (fun _ => ⟨x, y, rfl, rfl, hx6, hy6⟩)
    exact q _ (k6.trans (.r H6 (.ins CR dx (rgF hd ld w 4 st.last st.left ln (.ref x) (.ref y) vT ov .non)))) ⟨dx, dh, ln, _, _, vT, R7⟩
theorem ok_rgR (T : RgTxt K mg CR rI rHear rTold rMany rOver rBits rGo rNext rBlk rCnt rPln rRun rTake rTrees rItem rRoom rEnd rRest) (TH : HdTxt K mg CH fI fH fB fR fG fN fL) {fd fdN fdK : FuncData} {j k1 k2 : Nat} {t1 t2 t3 t4 t5 : Tok} (F : Fun K "read_run" "Reading.read_run" sRgRun rRun fd)
    (GN : FnOk P w K mg base (L2N.CX P w) k1 fN fdN ["self", "many"] (spHdN CH CW)) (bN : Binds K fdN ["self", "many"] []) (l1 : k1 ≤ j) (GK : FnOk P w K mg base CX0 k2 rTake fdK ["self", "letters", "backs"] (spRgK CH CT CR)) (bK : Binds K fdK ["self", "letters", "backs"] []) (l2 : k2 ≤ j)
    (c1 : mg "LENGTH_BITS" = some (.int 4 t1)) (c2 : mg "LONGEST" = some (.int 12 t2)) (c3 : mg "RUN_BITS" = some (.int 5 t3)) (c4 : mg "LETTERS" = some (.int 273 t4)) (c5 : mg "BACKS" = some (.int 11 t5)) (m2 : mg "len" = none) :
    FnOk P w K mg base (L2N.CX P w) (j + 1) rRun fd ["self"] (StepSp CH CT CR CW 3) := by
  refine okN F scRgR (fun vs H Q E h => ?_) (fun cdv A outer s H vs Q E hr h => ?_)
  · obtain ⟨r, hd, w, ld, s, o, p, t, ov, g, X, D, rfl, _⟩ := h
    rfl
  · obtain ⟨r, hd, w, ld, st, o, p, t, ov, g, X, D, rfl, ⟨dx, dh, ln, vL, vB, vT, R⟩, hn, hok, tx', hX, q1, q2⟩ := h
    refine ⟨_, pss_cons (ps_set (i := 1) scRgR.nd rfl (.inl rfl) (pe_meth (pe_fld (pv 0) rfl) TH.cl TH.mN GN (hr.mono l1) bN .nil (L2N.passes_call (L2N.takes_of rfl rfl rfl rfl) (fun _ _ _ _ h => h)) (pa_cons (pe_glob (v := .int 4) rfl c1 ⟨_, rfl⟩) pa_nil)))
      (pss_cons (ps_if (pt_cmpR op_gt (pv 1) (pe_glob (v := .int 12) rfl c2 ⟨_, rfl⟩) (nomark _)) (pss_one ps_never) pss_nil)
      (pss_cons (ps_set (i := 2) scRgR.nd rfl (.inl rfl) (pe_op op_add (pe_meth (pe_fld (pv 0) rfl) TH.cl TH.mN GN (hr.mono l1) bN .nil (L2N.passes_call (L2N.takes_of rfl rfl rfl rfl) (fun _ _ _ _ h => h)) (pa_cons (pe_glob (v := .int 5) rfl c3 ⟨_, rfl⟩) pa_nil)) pe_int))
      (pss_cons (ps_set (i := 3) scRgR.nd rfl (.inl rfl) (pe_op op_cat (pe_fld (pv 0) rfl) (pe_op op_rep (pe_lst (pa_cons (pv 1) pa_nil)) (pv 2))))
      (pss_cons (ps_if (pt_cmpR op_gt (pe_callB call_len_seq (by rfl) m2 PySem.boot_len (pa_cons (pv 3) pa_nil)) (pe_op op_add (pe_glob (v := .int 273) rfl c4 ⟨_, rfl⟩) (pe_glob (v := .int 11) rfl c5 ⟨_, rfl⟩)) (nomark _)) (pss_one ps_never) pss_nil)
      (pss_cons (ps_fld (pv 0) (pv 3) rfl)
      (pss_one (ps_if (pt_cmpR op_eq (pe_callB call_len_seq (by rfl) m2 PySem.boot_len (pa_cons (pv 3) pa_nil)) (pe_op op_add (pe_glob (v := .int 273) rfl c4 ⟨_, rfl⟩) (pe_glob (v := .int 11) rfl c5 ⟨_, rfl⟩)) (nomark _))
        (pss_one (ps_expr (pe_meth (pv 0) T.cl T.mTake GK (hr.mono l2) bK .nil pass0 (pa_cons (pe_slice sl_list (pv 3) po_none (po_some (pe_glob (v := .int 273) rfl c4 ⟨_, rfl⟩))) (pa_cons (pe_slice sl_list (pv 3) (po_some (pe_glob (v := .int 273) rfl c4 ⟨_, rfl⟩)) po_none) pa_nil)))) ) pss_nil))))))), ?_⟩
    cases g with
    | run l m =>
      obtain ⟨_, hl12, hm1, hm32, hlen, hfull⟩ := hok
      have hX0 : t.drop p ++ X = bitsL l 4 ++ (bitsL (m - 1) 5 ++ D) := by
        rw [← List.append_assoc]
        exact hX
      have e9 : (sbS st (.run l m)).length = 9 := by
        show (bitsL l 4 ++ bitsL (m - 1) 5).length = 9
        rw [List.length_append, bits_len, bits_len]
      refine ⟨_, rfl, r, CR, dx, _, _, rfl, R.r_, T.cl, T.nH, rgF_hd _ _ _ _ _ _ _ _ _ _ _ _, hd, dh, _, rfl, R.h_, hdF_no', ?_⟩
      dsimp only [tCons, tC, tNil, List.append_nil]
      refine num_fit (m := 4) (n := l) R.h_ tx'.le tx'.len tx'.bits hX0 (by omega) (by decide) (fun hf hX1 => ?_) (fun hf => ?_)
      · have R1 := R.setH o t (p + 4)
        have k1 : Oth r hd w H _ := .h H (.ins CH dh (hdF o t (p + 4)))
        generalize upd H hd (.ins CH dh (hdF o t (p + 4))) = H1 at *
        dsimp only [gName]
        refine ⟨_, rfl, _, _, rfl, rfl, _, rfl, ?_⟩
        rw [show decide ((12 : Int) < (l : Int)) = false from decide_eq_false (by omega)]
        refine iteF ?_
        refine ⟨_, rfl, r, CR, dx, _, _, rfl, R1.r_, T.cl, T.nH, rgF_hd _ _ _ _ _ _ _ _ _ _ _ _, hd, dh, _, rfl, R1.h_, hdF_no', ?_⟩
        dsimp only [tCons, tC, tNil, List.append_nil]
        refine num_fit (m := 5) (n := m - 1) R1.h_ hf tx'.len tx'.bits hX1 (by omega) (by decide) (fun hf2 hX2 => ?_) (fun hf2 => ?_)
        · have R2 := R1.setH o t (p + 4 + 5)
          have k2 := k1.trans (.h H1 (.ins CH dh (hdF o t (p + 4 + 5))))
          generalize upd H1 hd (.ins CH dh (hdF o t (p + 4 + 5))) = H2 at *
          refine ⟨_, _, rfl, rfl, ?_⟩
          dsimp only [gName]
          rw [show ((m - 1 : Nat) : Int) + 1 = (m : Int) by omega]
          refine ⟨_, rfl, r, CR, dx, _, _, rfl, R2.r_, T.cl, T.nG, rgF_ln _ _ _ _ _ _ _ _ _ _ _ _, ?_⟩
          refine ⟨_, rfl, (by show 1 ≤ sizeLine; rw [PySem.sizeLine_eq]; omega), fun z nz => ?_⟩
          have s3 : Same H2 (upd H2 z (.lst [.int (l : Int)])) := same_upd nz
          have hz3 : (upd H2 z (.lst [.int (l : Int)])) z = some (.lst [.int (l : Int)]) := upd_same
          have R3 := R2.same s3
          generalize upd H2 z (.lst [.int (l : Int)]) = H3 at *
          refine ⟨_, rfl, z, _, _, rfl, rfl, hz3, by omega, by omega, (by show 1 * _ ≤ _; rw [PySem.sizeLine_eq]; omega), fun y ny => ?_⟩
          have erep : (List.replicate ((m : Int)).toNat [V.int (l : Int)]).flatten = (List.replicate m (l : Int)).map V.int := by
            rw [Int.toNat_natCast, List.flatten_replicate_singleton, List.map_replicate]
          rw [erep]
          have s4 : Same H3 (upd H3 y (.lst ((List.replicate m (l : Int)).map V.int))) := same_upd ny
          have hy4 : (upd H3 y (.lst ((List.replicate m (l : Int)).map V.int))) y = some (.lst ((List.replicate m (l : Int)).map V.int)) := upd_same
          have R4 := R3.same s4
          generalize upd H3 y (.lst ((List.replicate m (l : Int)).map V.int)) = H4 at *
          refine ⟨ln, y, _, _, rfl, rfl, R4.l_, hy4, (by rw [List.length_map, List.length_map, List.length_replicate, PySem.sizeLine_eq]; omega), fun u nu => ?_⟩
          have ecat : st.lens.map V.int ++ (List.replicate m (l : Int)).map V.int = (runX st l m).map V.int := (List.map_append ..).symm
          rw [ecat]
          have lrun : (runX st l m).length = st.lens.length + m := by
            unfold runX
            rw [List.length_append, List.length_replicate]
          have s5 : Same H4 (upd H4 u (.lst ((runX st l m).map V.int))) := same_upd nu
          have hu5 : (upd H4 u (.lst ((runX st l m).map V.int))) u = some (.lst ((runX st l m).map V.int)) := upd_same
          have R5 := R4.same s5
          have nuw : u ≠ w := Ne.symm (ne_of_none R4.w_ nu)
          generalize upd H4 u (.lst ((runX st l m).map V.int)) = H5 at *
          have k5 : Oth r hd w H H5 := k2.trans (.same ((s3.trans s4).trans s5))
          dsimp only [gName]
          refine ⟨_, rfl, u, _, rfl, .inl (.inl (.inl hu5)), _, _, rfl, rfl, _, _, rfl, rfl, _, rfl, ?_⟩
          rw [List.length_map, lrun, show decide ((273 : Int) + 11 < ((st.lens.length + m : Nat) : Int)) = false from decide_eq_false (by omega)]
          refine iteF ⟨_, rfl, _, rfl, r, CR, dx, _, rfl, R5.r_, T.cl, T.nG, (by show 12 < 1000; decide), ?_⟩
          rw [rgF_sln]
          have k6 := k5.trans (.r H5 (.ins CR dx (rgF hd ld w st.nx st.last st.left u vL vB vT ov .non)))
          have R6 := R5.setR { st with lens := runX st l m } u vL vB vT ov rfl hu5 nuw R5.told R5.trs
          have hu6 := R5.three.lst (.r H5 (.ins CR dx (rgF hd ld w st.nx st.last st.left u vL vB vT ov .non))) nuw hu5
          generalize upd H5 r (.ins CR dx (rgF hd ld w st.nx st.last st.left u vL vB vT ov .non)) = H6 at *
          have q1' : ∀ H', Oth r hd w H H' → RgAt CH CT CR H' r hd w ld (stS st (.run l m)) o t (p + 4 + 5) ov → Q .non H' := by
            have := q1 (by rw [e9]; omega)
            rw [e9] at this
            exact this
          refine ⟨_, rfl, u, _, rfl, .inl (.inl (.inl hu6)), _, _, rfl, rfl, rfl, _, rfl, ?_⟩
          rw [List.length_map, lrun]
          by_cases hfu : st.lens.length + m = 284
          · rw [show decide (V.int ((st.lens.length + m : Nat) : Int) = V.int (273 + 11)) = true from decide_eq_true (by rw [hfu]; rfl)]
            refine iteT ?_
            obtain ⟨hW, h0⟩ := hfull hfu
            refine ⟨_, rfl, r, dx, _, rfl, R6.r_, rgF_no', _, rfl, _, rfl, u, _, rfl, .inl (.inl hu6), fun pl npl => ?_⟩
            have ec1 : cutV ((runX st l m).map V.int) none (some 273) = ((runX st l m).take 273).map V.int := ints_cut_to (runX st l m) 273
            rw [ec1]
            have s7 : Same H6 (upd H6 pl (.lst (((runX st l m).take 273).map V.int))) := same_upd npl
            have hpl7 : (upd H6 pl (.lst (((runX st l m).take 273).map V.int))) pl = some (.lst (((runX st l m).take 273).map V.int)) := upd_same
            have R7 := R6.same s7
            have nplw : pl ≠ w := Ne.symm (ne_of_none R6.w_ npl)
            have hu7 := s7 _ _ hu6
            generalize upd H6 pl (.lst (((runX st l m).take 273).map V.int)) = H7 at *
            refine ⟨_, rfl, _, rfl, u, _, rfl, .inl (.inl hu7), fun pb npb => ?_⟩
            have ec2 : cutV ((runX st l m).map V.int) (some 273) none = ((runX st l m).drop 273).map V.int := ints_cut_from (runX st l m) 273
            rw [ec2]
            have s8 : Same H7 (upd H7 pb (.lst (((runX st l m).drop 273).map V.int))) := same_upd npb
            have hpb8 : (upd H7 pb (.lst (((runX st l m).drop 273).map V.int))) pb = some (.lst (((runX st l m).drop 273).map V.int)) := upd_same
            have R8 := R7.same s8
            have npbw : pb ≠ w := Ne.symm (ne_of_none R7.w_ npb)
            have hpl8 := s8 _ _ hpl7
            generalize upd H7 pb (.lst (((runX st l m).drop 273).map V.int)) = H8 at *
            refine ⟨r, hd, w, pl, pb, ld, _, o, _, t, ov, (runX st l m).take 273, (runX st l m).drop 273, rfl, ⟨dx, dh, u, vL, vB, vT, R8⟩, hn, hpl8, hpb8, nplw, npbw, hW, ?_, fun H9 k9 h9 => ?_⟩
            · rw [List.getD_eq_getElem?_getD, List.getElem?_take_of_lt (by decide), ← List.getD_eq_getElem?_getD]
              exact h0
            · obtain ⟨dx', dh', ln', vL', vB', vT', R9⟩ := h9
              have est : stS st (.run l m) = { st with nx := 4, lens := runX st l m, tL := (runX st l m).take 273, tB := (runX st l m).drop 273, pos := st.pos + (sbS st (.run l m)).length } := by
                show ({ goS st (.run l m) with pos := _ } : RS) = _
                rw [show goS st (.run l m) = { st with nx := 4, lens := runX st l m, tL := (runX st l m).take 273, tB := (runX st l m).drop 273 } from if_pos hfu]
              refine q1' H9 ((k6.trans (.same (s7.trans s8))).trans k9) ?_
              rw [est]
              exact ⟨dx', dh', ln', vL', vB', vT', R9.pos _⟩
          · rw [show decide (V.int ((st.lens.length + m : Nat) : Int) = V.int (273 + 11)) = false from decide_eq_false (fun z => hfu (by have := V.int.inj z; omega))]
            refine iteF ?_
            have est : stS st (.run l m) = { st with lens := runX st l m, pos := st.pos + (sbS st (.run l m)).length } := by
              show ({ goS st (.run l m) with pos := _ } : RS) = _
              rw [show goS st (.run l m) = { st with lens := runX st l m } from if_neg hfu]
            refine q1' H6 k6 ?_
            rw [est]
            exact ⟨dx, dh, u, vL, vB, vT, R6.pos _⟩
        · exact q2 (by rw [e9]; omega) H1 (p + 4) k1 hf ⟨dx, dh, ln, vL, vB, vT, R1⟩
      · exact q2 (by rw [e9]; omega) H p (.refl H) tx'.le ⟨dx, dh, ln, vL, vB, vT, R⟩
    | _ => exact absurd (hok.1.symm.trans hn) (by decide)
end
end K7

namespace K7
open PySem PySem.Spec PyProof.Rows L2 SBX
open K2 (wAt coinsL)
/-! ### Reading: read_item -/
abbrev NRgI : List Str := ["self", "letter", "many", "back_letter", "back"]
theorem scRgI : FnScope NRgI ["self"] (defScope sRgItem) := ⟨rfl, rfl, rfl, by decide +kernel, rfl, by decide +kernel, by decide +kernel⟩
section
variable {P : Program} {w : World} {K : PySem.W.Frag} {mg : Str → Option Value} {base : Heap} {C CH CT CW CR fI fH fB fR fG fN fL fTI pI pL pB : Addr}
variable {rI rHear rTold rMany rOver rBits rGo rNext rBlk rCnt rPln rRun rTake rTrees rItem rRoom rEnd rRest : Addr}
theorem ok_rgI (T : RgTxt K mg CR rI rHear rTold rMany rOver rBits rGo rNext rBlk rCnt rPln rRun rTake rTrees rItem rRoom rEnd rRest) (TH : HdTxt K mg CH fI fH fB fR fG fN fL) {fC : Addr} {fd fdN fdL fdE fdM fdC : FuncData} {j k1 k2 k3 k4 k5 : Nat} {t1 t2 t3 : Tok} (F : Fun K "read_item" "Reading.read_item" sRgItem rItem fd)
    (GN : FnOk P w K mg base (L2N.CX P w) k1 fN fdN ["self", "many"] (spHdN CH CW)) (bN : Binds K fdN ["self", "many"] []) (l1 : k1 ≤ j) (GL : FnOk P w K mg base (L2N.CX P w) k2 fL fdL ["self", "tree"] (spHdL CH CT CW)) (bL : Binds K fdL ["self", "tree"] []) (l2 : k2 ≤ j)
    (GE : FnOk P w K mg base CX0 k3 rEnd fdE ["self"] (spRgE CH CT CR)) (bE : Binds K fdE ["self"] []) (l3 : k3 ≤ j) (GM : FnOk P w K mg base CX0 k4 rRoom fdM ["self", "many"] (spRgM CH CT CR)) (bM : Binds K fdM ["self", "many"] []) (l4 : k4 ≤ j)
    (GC : FnOk P w K mg base CX0 k5 fC fdC ["whole", "item"] spCopyB) (bC : Binds K fdC ["whole", "item"] []) (kC : PySem.W.keepIn K (.ref fC) = true) (gC : mg "copy_behind" = some (.ref fC)) (l5 : k5 ≤ j)
    (c1 : mg "END" = some (.int 256 t1)) (c2 : mg "AHEAD_OF_COPIES" = some (.int 254 t2)) (c3 : mg "FARTHEST" = some (.int 1024 t3)) (m2 : mg "len" = none) :
    FnOk P w K mg base (L2N.CX P w) (j + 1) rItem fd ["self"] (StepSp CH CT CR CW 4) := by
  refine okN F scRgI (fun vs H Q E h => ?_) (fun cdv A outer s H vs Q E hr h => ?_)
  · obtain ⟨r, hd, w, ld, s, o, p, t, ov, g, X, D, rfl, _⟩ := h
    rfl
  · obtain ⟨r, hd, w, ld, st, o, p, t, ov, g, X, D, rfl, ⟨dx, dh, ln, vL, vB, vT, R⟩, hn, hok, tx', hX, q1, q2⟩ := h
    have hz := PySem.sizeLine_eq
    refine ⟨_, pss_cons (ps_set (i := 1) scRgI.nd rfl (.inl rfl) (pe_meth (pe_fld (pv 0) rfl) TH.cl TH.mL GL (hr.mono l2) bL .nil (L2N.passes_call (L2N.takes_of rfl rfl rfl rfl) (fun _ _ _ _ h => h)) (pa_cons (pe_fld (pv 0) rfl) pa_nil)))
      (pss_one (ps_if (pt_cmpR op_eq (pv 1) (pe_glob (v := .int 256) rfl c1 ⟨_, rfl⟩) (nomark _)) (pss_one (ps_expr (pe_meth0 (pv 0) T.cl T.mEnd GE (hr.mono l3) bE .nil pass0)))
        (pss_one (ps_if (pt_cmpR op_lt (pv 1) (pe_glob (v := .int 256) rfl c1 ⟨_, rfl⟩) (nomark _))
          (pss_cons (ps_expr (pe_meth (pv 0) T.cl T.mRoom GM (hr.mono l4) bM .nil pass0 (pa_cons pe_int pa_nil))) (pss_one (ps_expr (pe_bm PySem.F.plainAttrs_list PySem.F.slot_list_append PySem.F.type_list_append mt_append (pe_fld (pv 0) rfl) (pa_cons (pv 1) pa_nil)))))
          (pss_cons (ps_set (i := 2) scRgI.nd rfl (.inl rfl) (pe_op op_sub (pv 1) (pe_glob (v := .int 254) rfl c2 ⟨_, rfl⟩)))
          (pss_cons (ps_set (i := 3) scRgI.nd rfl (.inl rfl) (pe_meth (pe_fld (pv 0) rfl) TH.cl TH.mL GL (hr.mono l2) bL .nil (L2N.passes_call (L2N.takes_of rfl rfl rfl rfl) (fun _ _ _ _ h => h)) (pa_cons (pe_fld (pv 0) rfl) pa_nil)))
          (pss_cons (ps_set (i := 4) scRgI.nd rfl (.inl rfl) (pe_op op_add (pe_op op_shl pe_int (pv 3)) (pe_meth (pe_fld (pv 0) rfl) TH.cl TH.mN GN (hr.mono l1) bN .nil (L2N.passes_call (L2N.takes_of rfl rfl rfl rfl) (fun _ _ _ _ h => h)) (pa_cons (pv 3) pa_nil))))
          (pss_cons (ps_if (PW.pt (pw_or (pt_cmpR op_gt (pv 4) (pe_glob (v := .int 1024) rfl c3 ⟨_, rfl⟩) (nomark _)) (pw_or1 (pt_cmpR op_gt (pv 4) (pe_callB call_len_seq (by rfl) m2 PySem.boot_len (pa_cons (pe_fld (pv 0) rfl) pa_nil)) (nomark _))))) (pss_one ps_never) pss_nil)
          (pss_cons (ps_expr (pe_meth (pv 0) T.cl T.mRoom GM (hr.mono l4) bM .nil pass0 (pa_cons (pv 2) pa_nil)))
          (pss_one (ps_expr (pe_call GC (hr.mono l5) (by rfl) gC kC bC .nil pass0 (pa_cons (pe_fld (pv 0) rfl) (pa_cons (pe_tup (pa_cons (pv 2) (pa_cons (pv 4) pa_nil))) pa_nil)))))))))))))), ?_⟩
    have none4 : ∀ {vL vB}, TrsOk CT H vL vB st → ∃ tl tb, vL = .ref tl ∧ vB = .ref tb ∧ TrAt CT H tl st.tL ∧ TrAt CT H tb st.tB := fun h => h hn
    obtain ⟨tl, tb, rfl, rfl, htl, htb⟩ := none4 R.trs
    refine ⟨_, rfl, r, CR, dx, _, _, rfl, R.r_, T.cl, T.nH, rgF_hd _ _ _ _ _ _ _ _ _ _ _ _, hd, dh, _, rfl, R.h_, hdF_no', ?_⟩
    refine ⟨_, rfl, r, CR, dx, _, _, rfl, R.r_, T.cl, T.nL, rgF_vL _ _ _ _ _ _ _ _ _ _ _ _, ?_⟩
    dsimp only [tNil, List.append_nil]
    cases g with
    | iend =>
      obtain ⟨_, W, h0⟩ := hok
      have h273 := W.l273
      refine let_fit (k := 256) R.h_ htl W.l (by omega) h0 tx'.le tx'.len hX (fun hf hX1 => ?_) (fun hf => q2 hf H p (.refl H) tx'.le ⟨dx, dh, ln, _, _, vT, R⟩)
      have R1 := R.setH o t (p + (wdL st.tL 256).length)
      have k1 : Oth r hd w H _ := .h H (.ins CH dh (hdF o t (p + (wdL st.tL 256).length)))
      generalize upd H hd (.ins CH dh (hdF o t (p + (wdL st.tL 256).length))) = H1 at *
      refine ⟨_, rfl, rfl, _, rfl, iteC (decide_eq_true rfl) ?_⟩
      refine ⟨_, rfl, r, dx, _, rfl, R1.r_, rgF_no', r, hd, w, ld, st, o, _, t, ov, rfl, ⟨dx, dh, ln, _, _, vT, R1⟩, fun H' k h' => ?_⟩
      obtain ⟨dx', dh', ln', vL', vB', vT', R'⟩ := h'
      exact q1 (by show (wdL st.tL 256).length ≤ _; omega) H' (k1.trans k) ⟨dx', dh', ln', vL', vB', vT', R'.pos _⟩
    | itm it =>
      obtain ⟨_, W, hio, hc, hlf, hfit, hwl⟩ := hok
      have h273 := W.l273
      have h11 := W.b11
      cases it with
      | b k =>
        have hk : k < 256 := hio
        have h0 : 0 < st.tL.getD k 0 := by
          by_cases z : 0 < st.tL.getD k 0
          · exact z
          · exact absurd (if_neg z) hc
        have hlf : 1 ≤ st.left := hlf
        have hwl : st.whole.length + 1 ≤ 9000 := hwl
        refine let_fit (k := k) R.h_ htl W.l (by omega) h0 tx'.le tx'.len hX (fun hf hX1 => ?_) (fun hf => q2 hf H p (.refl H) tx'.le ⟨dx, dh, ln, _, _, vT, R⟩)
        have R1 := R.setH o t (p + (wdL st.tL k).length)
        have k1 : Oth r hd w H _ := .h H (.ins CH dh (hdF o t (p + (wdL st.tL k).length)))
        generalize upd H hd (.ins CH dh (hdF o t (p + (wdL st.tL k).length))) = H1 at *
        refine ⟨_, rfl, rfl, _, rfl, ?_⟩
        rw [show decide (V.int (k : Int) = V.int 256) = false from decide_eq_false (fun z => by have := V.int.inj z; omega)]
        refine iteF ⟨_, rfl, _, _, rfl, rfl, _, rfl, ?_⟩
        rw [show decide ((k : Int) < 256) = true from decide_eq_true (by omega)]
        refine iteT ?_
        refine ⟨_, rfl, r, dx, _, rfl, R1.r_, rgF_no', r, hd, w, ld, st, o, _, 1, t, ov, rfl, ⟨dx, dh, ln, _, _, vT, R1⟩, hlf, fun H2 k2 h2 => ?_⟩
        obtain ⟨dx', dh', ln', vL', vB', vT', R2⟩ := h2
        refine ⟨_, rfl, r, CR, dx', _, _, rfl, R2.r_, T.cl, T.nW, rgF_w _ _ _ _ _ _ _ _ _ _ _ _, .inl ⟨rfl, _, .inl (.inl R2.w_)⟩, _, rfl, w, _, _, rfl, rfl, R2.w_, (by show (bys st.whole).length < _; rw [bys_len]; omega), ?_⟩
        have ew : bys ({ st with left := st.left - 1 } : RS).whole ++ [V.int (k : Int)] = bys (st.whole ++ [k]) := bys_app st.whole [k]
        rw [ew]
        have R3 := R2.setW (st.whole ++ [k]) (H' := upd H2 w (.lst (bys (st.whole ++ [k])))) (fun b u nb e => by rw [upd_ne nb]; exact e) upd_same
        exact q1 (by show (wdL st.tL k).length ≤ _; omega) _ ((k1.trans k2).trans (.w H2 (.lst (bys (st.whole ++ [k]))))) ⟨dx', dh', ln', vL', vB', vT', R3.pos _⟩
      | c m b =>
        obtain ⟨hm3, hm18, hb1, hb2⟩ : 3 ≤ m ∧ m ≤ 18 ∧ 1 ≤ b ∧ b ≤ 1024 := hio
        obtain ⟨c, hc'⟩ := Option.ne_none_iff_exists'.mp hc
        obtain ⟨h0, h1, _⟩ := cost_pos W hc'
        have hlog := log_lt hb1 hb2
        have hlf : m ≤ st.left := hlf
        have hfit : b ≤ st.whole.length := hfit
        have hwl : st.whole.length + m ≤ 9000 := hwl
        have hb0 : b ≠ 0 := by omega
        have hlo : 2 ^ Nat.log2 b ≤ b := Nat.log2_self_le hb0
        have hhi : b < 2 ^ (Nat.log2 b + 1) := Nat.lt_log2_self
        rw [Nat.pow_succ] at hhi
        have hX0 : t.drop p ++ X = wdL st.tL (254 + m) ++ (wdL st.tB (Nat.log2 b) ++ (bitsL (b - 2 ^ Nat.log2 b) (Nat.log2 b) ++ D)) := by
          rw [← List.append_assoc, ← List.append_assoc]
          exact hX
        have esb : (sbS st (.itm (.c m b))).length = (wdL st.tL (254 + m)).length + (wdL st.tB (Nat.log2 b)).length + Nat.log2 b := by
          show (wdL st.tL (254 + m) ++ wdL st.tB (Nat.log2 b) ++ bitsL (b - 2 ^ Nat.log2 b) (Nat.log2 b)).length = _
          rw [List.length_append, List.length_append, bits_len]
        rw [esb] at q1 q2
        generalize e1 : wdL st.tL (254 + m) = w1 at *
        generalize e2 : wdL st.tB (Nat.log2 b) = w2 at *
        generalize e3 : Nat.log2 b = lb at *
        refine let_fitE (k := 254 + m) e1 R.h_ htl W.l (by omega) h0 tx'.le tx'.len hX0 (fun hf hX1 => ?_) (fun hf => q2 (by omega) H p (.refl H) tx'.le ⟨dx, dh, ln, _, _, vT, R⟩)
        have R1 := R.setH o t (p + w1.length)
        have k1 : Oth r hd w H _ := .h H (.ins CH dh (hdF o t (p + w1.length)))
        have htb1 := htb.oth R.three (.h H (.ins CH dh (hdF o t (p + w1.length))))
        generalize upd H hd (.ins CH dh (hdF o t (p + w1.length))) = H1 at *
        refine ⟨_, rfl, rfl, _, rfl, ?_⟩
        rw [show decide (V.int ((254 + m : Nat) : Int) = V.int 256) = false from decide_eq_false (fun z => by have := V.int.inj z; omega)]
        refine iteF ⟨_, rfl, _, _, rfl, rfl, _, rfl, ?_⟩
        rw [show decide (((254 + m : Nat) : Int) < 256) = false from decide_eq_false (by omega)]
        refine iteF ?_
        refine ⟨_, rfl, _, _, rfl, rfl, ?_⟩
        dsimp only [gName]
        rw [show ((254 + m : Nat) : Int) - 254 = (m : Int) by omega]
        refine ⟨_, rfl, r, CR, dx, _, _, rfl, R1.r_, T.cl, T.nH, rgF_hd _ _ _ _ _ _ _ _ _ _ _ _, hd, dh, _, rfl, R1.h_, hdF_no', ?_⟩
        refine ⟨_, rfl, r, CR, dx, _, _, rfl, R1.r_, T.cl, T.nB, rgF_vB _ _ _ _ _ _ _ _ _ _ _ _, ?_⟩
        dsimp only [tNil, List.append_nil]
        refine let_fitE (k := lb) e2 R1.h_ htb1 W.b (by omega) h1 hf tx'.len hX1 (fun hf2 hX2 => ?_) (fun hf2 => q2 (by omega) H1 _ k1 hf ⟨dx, dh, ln, _, _, vT, R1⟩)
        have R2 := R1.setH o t (p + w1.length + w2.length)
        have k2 := k1.trans (.h H1 (.ins CH dh (hdF o t (p + w1.length + w2.length))))
        generalize upd H1 hd (.ins CH dh (hdF o t (p + w1.length + w2.length))) = H2 at *
        dsimp only [gName]
        have hp10 : 2 ^ lb ≤ 2 ^ 10 := Nat.pow_le_pow_right (by decide) (by omega)
        refine ⟨_, rfl, _, _, rfl, rfl, ⟨by omega, by omega, by decide⟩, ?_⟩
        have eshl : (1 : Int) * 2 ^ ((lb : Int)).toNat = ((2 ^ lb : Nat) : Int) := by
          rw [Int.toNat_natCast, Int.one_mul, Int.natCast_pow]
          rfl
        dsimp only
        rw [eshl]
        refine ⟨_, rfl, r, CR, dx, _, _, rfl, R2.r_, T.cl, T.nH, rgF_hd _ _ _ _ _ _ _ _ _ _ _ _, hd, dh, _, rfl, R2.h_, hdF_no', _, rfl, ?_⟩
        dsimp only [tNil, List.append_nil]
        refine num_fit (m := lb) (n := b - 2 ^ lb) R2.h_ hf2 tx'.len tx'.bits hX2 (by omega) (by omega) (fun hf3 hX3 => ?_) (fun hf3 => q2 (by omega) H2 _ k2 hf2 ⟨dx, dh, ln, _, _, vT, R2⟩)
        have R3 := R2.setH o t (p + w1.length + w2.length + lb)
        have k3 := k2.trans (.h H2 (.ins CH dh (hdF o t (p + w1.length + w2.length + lb))))
        generalize upd H2 hd (.ins CH dh (hdF o t (p + w1.length + w2.length + lb))) = H3 at *
        refine ⟨_, _, rfl, rfl, ?_⟩
        dsimp only [gName]
        rw [show ((2 ^ lb : Nat) : Int) + ((b - 2 ^ lb : Nat) : Int) = (b : Int) by omega]
        refine ⟨_, rfl, _, _, rfl, rfl, _, rfl, ?_⟩
        rw [show decide ((1024 : Int) < (b : Int)) = false from decide_eq_false (by omega)]
        refine iteF ?_
        refine ⟨_, rfl, _, rfl, r, CR, dx, _, _, rfl, R3.r_, T.cl, T.nW, rgF_w _ _ _ _ _ _ _ _ _ _ _ _, w, _, rfl, .inl (.inl (.inl R3.w_)), _, _, rfl, rfl, _, rfl, ?_⟩
        rw [bys_len, show decide ((st.whole.length : Int) < (b : Int)) = false from decide_eq_false (by omega)]
        refine iteF ?_
        refine ⟨_, rfl, r, dx, _, rfl, R3.r_, rgF_no', _, rfl, r, hd, w, ld, st, o, _, m, t, ov, rfl, ⟨dx, dh, ln, _, _, vT, R3⟩, hlf, fun H4 k4 h4 => ?_⟩
        obtain ⟨dx', dh', ln', vL', vB', vT', R4⟩ := h4
        refine ⟨_, rfl, r, CR, dx', _, _, rfl, R4.r_, T.cl, T.nW, rgF_w _ _ _ _ _ _ _ _ _ _ _ _, _, rfl, _, rfl, (by show 2 ≤ sizeLine; omega), fun tt ntt => ?_⟩
        have s5 : Same H4 (upd H4 tt (.tup [.int (m : Int), .int (b : Int)])) := same_upd ntt
        have ht5 : (upd H4 tt (.tup [.int (m : Int), .int (b : Int)])) tt = some (.tup [.int (m : Int), .int (b : Int)]) := upd_same
        have R5 := R4.same s5
        generalize upd H4 tt (.tup [.int (m : Int), .int (b : Int)]) = H5 at *
        refine ⟨w, tt, st.whole, m, b, rfl, R5.w_, ht5, hb1, hfit, hm18, by omega, fun H6 k6 hw6 => ?_⟩
        have kk : ∀ c u, c ≠ w → H5 c = some u → H6 c = some u := fun c u nc e => by rw [k6 c nc]; exact e
        have R6 := R5.setW (copyN st.whole b m) kk hw6
        have := q1 (by omega) H6 (((k3.trans k4).trans (.same s5)).trans fun c u _ _ nc e => kk c u nc e)
        rw [show p + (w1.length + w2.length + lb) = p + w1.length + w2.length + lb by omega] at this
        exact this ⟨dx', dh', ln', vL', vB', vT', R6.pos _⟩
    | _ => exact absurd (hok.1.symm.trans hn) (by decide)
end
end K7

namespace K7
open PySem PySem.Spec PyProof.Rows L2 SBX
open K2 (wAt coinsL)
/-! ### Reading: read_rest, read_next -/
theorem scRgS : FnScope ["self", "bit"] ["self"] (defScope sRgRest) := ⟨rfl, rfl, rfl, by decide +kernel, rfl, by decide +kernel, by decide +kernel⟩
theorem scRgN : FnScope ["self"] ["self"] (defScope sRgNext) := ⟨rfl, rfl, rfl, by decide +kernel, rfl, by decide +kernel, by decide +kernel⟩
section
variable {P : Program} {w : World} {K : PySem.W.Frag} {mg : Str → Option Value} {base : Heap} {C CH CT CW CR fI fH fB fR fG fN fL fTI pI pL pB : Addr}
variable {rI rHear rTold rMany rOver rBits rGo rNext rBlk rCnt rPln rRun rTake rTrees rItem rRoom rEnd rRest : Addr}
def spRgS (CH CT CR CW : Addr) : Sp := fun vs H Q E => ∃ (r hd w : Addr) (ld : Nat) (s : RS) (o p : Nat) (t : List Nat) (ov : Bool), vs = [.ref r] ∧ RgAt CH CT CR H r hd w ld s o t p ov ∧ s.nx = 5 ∧ TxOk s o t p ∧
  ((s.pos % 8 ≠ 0 ∧ ov = false ∧ (∃ u, t.drop p = 48 :: u) ∧ ∀ H', Oth r hd w H H' → RgAt CH CT CR H' r hd w ld (stS s .pad) o t (p + 1) false → Q .non H') ∨
   (p = t.length ∧ ∀ H', Oth r hd w H H' → RgAt CH CT CR H' r hd w ld s o t p (ov || decide (s.pos % 8 = 0)) → E (.ref CW) none H'))
theorem ok_rgS (T : RgTxt K mg CR rI rHear rTold rMany rOver rBits rGo rNext rBlk rCnt rPln rRun rTake rTrees rItem rRoom rEnd rRest) (TH : HdTxt K mg CH fI fH fB fR fG fN fL) {fd fdN fdR : FuncData} {j k1 k2 : Nat} (F : Fun K "read_rest" "Reading.read_rest" sRgRest rRest fd)
    (GN : FnOk P w K mg base (L2N.CX P w) k1 fN fdN ["self", "many"] (spHdN CH CW)) (bN : Binds K fdN ["self", "many"] []) (l1 : k1 ≤ j) (GR : FnOk P w K mg base CX0 k2 fR fdR ["self"] (spHdR CH)) (bR : Binds K fdR ["self"] []) (l2 : k2 ≤ j) :
    FnOk P w K mg base (L2N.CX P w) (j + 1) rRest fd ["self"] (spRgS CH CT CR CW) := by
  refine okN F scRgS (fun vs H Q E h => ?_) (fun cdv A outer s H vs Q E hr h => ?_)
  · obtain ⟨r, hd, w, ld, s, o, p, t, ov, rfl, _⟩ := h
    rfl
  · obtain ⟨r, hd, w, ld, st, o, p, t, ov, rfl, ⟨dx, dh, ln, vL, vB, vT, R⟩, hn, tx', q⟩ := h
    refine ⟨_, pss_cons (ps_if (pt_cmpR op_eq (pe_op op_andM (pe_meth0 (pe_fld (pv 0) rfl) TH.cl TH.mR GR (hr.mono l2) bR .nil pass0) pe_int) pe_int (nomark _)) (pss_one (ps_fld (pv 0) pe_bl rfl)) pss_nil)
      (pss_cons (ps_set (i := 1) scRgS.nd rfl (.inl rfl) (pe_meth (pe_fld (pv 0) rfl) TH.cl TH.mN GN (hr.mono l1) bN .nil (L2N.passes_call (L2N.takes_of rfl rfl rfl rfl) (fun _ _ _ _ h => h)) (pa_cons pe_int pa_nil)))
      (pss_one (ps_if (PW.pt (pw_or (pt_cmpR op_eq (pv 1) pe_int (nomark _)) (pw_or1 (pt_val (pe_fld (pv 0) rfl))))) (pss_one ps_never) pss_nil))), ?_⟩
    refine ⟨_, rfl, r, CR, dx, _, _, rfl, R.r_, T.cl, T.nH, rgF_hd _ _ _ _ _ _ _ _ _ _ _ _, hd, dh, _, rfl, R.h_, hdF_no', hd, dh, o, p, t, rfl, R.h_, _, 3, rfl, rfl, rfl, _, rfl, ?_⟩
    have edec : decide (V.int (((o + p : Nat) : Int) % 2 ^ 3) = V.int 0) = decide (st.pos % 8 = 0) := by
      rw [tx'.pos]
      have : ((o + p : Nat) : Int) % 2 ^ 3 = (((o + p) % 8 : Nat) : Int) := by
        show ((o + p : Nat) : Int) % 8 = _
        omega
      rw [this]
      by_cases z : (o + p) % 8 = 0
      · rw [z]; rfl
      · rw [decide_eq_false z, decide_eq_false fun y => z (by have := V.int.inj y; omega)]
    rw [edec]
    rcases q with ⟨h8, rfl, ⟨u, hu⟩, q⟩ | ⟨hp, q⟩
    · rw [decide_eq_false h8]
      refine iteF ?_
      refine ⟨_, rfl, r, CR, dx, _, _, rfl, R.r_, T.cl, T.nH, rgF_hd _ _ _ _ _ _ _ _ _ _ _ _, hd, dh, _, rfl, R.h_, hdF_no', ?_⟩
      dsimp only [tCons, tC, tNil, List.append_nil]
      have hX : t.drop p ++ [] = bitsL 0 1 ++ u := by
        rw [List.append_nil, hu]
        rfl
      have hlt : p < t.length := by
        have := congrArg List.length hu
        rw [List.length_drop, List.length_cons] at this
        omega
      refine num_fit (m := 1) (n := 0) R.h_ tx'.le tx'.len tx'.bits hX (by decide) (by decide) (fun hf hX1 => ?_) (fun hf => absurd hf (by omega))
      have R1 := R.setH o t (p + 1)
      have k1 : Oth r hd w H _ := .h H (.ins CH dh (hdF o t (p + 1)))
      generalize upd H hd (.ins CH dh (hdF o t (p + 1))) = H1 at *
      refine ⟨_, rfl, rfl, _, rfl, ?_⟩
      rw [show decide (V.int ((0 : Nat) : Int) = V.int 1) = false from by decide]
      refine iteF ?_
      refine ⟨_, rfl, r, CR, dx, _, _, rfl, R1.r_, T.cl, T.nO, rgF_ov _ _ _ _ _ _ _ _ _ _ _ _, _, rfl, iteF ?_⟩
      exact q H1 k1 ⟨dx, dh, ln, vL, vB, vT, R1.pos _⟩
    · have hX : t.drop p ++ [48] = bitsL 0 1 ++ [] := by
        rw [hp, List.drop_length]
        rfl
      by_cases h8 : st.pos % 8 = 0
      · rw [decide_eq_true h8] at q ⊢
        refine iteT ?_
        refine ⟨_, rfl, r, CR, dx, _, rfl, R.r_, T.cl, T.nO, (by show 12 < 1000; decide), ?_⟩
        rw [rgF_sov]
        have R1 := R.setR st ln vL vB vT true rfl R.l_ R.nlw R.told R.trs
        have k1 : Oth r hd w H _ := .r H (.ins CR dx (rgF hd ld w st.nx st.last st.left ln vL vB vT true .non))
        generalize upd H r (.ins CR dx (rgF hd ld w st.nx st.last st.left ln vL vB vT true .non)) = H1 at *
        refine ⟨_, rfl, r, CR, dx, _, _, rfl, R1.r_, T.cl, T.nH, rgF_hd _ _ _ _ _ _ _ _ _ _ _ _, hd, dh, _, rfl, R1.h_, hdF_no', ?_⟩
        dsimp only [tCons, tC, tNil, List.append_nil]
        refine num_fit (m := 1) (n := 0) R1.h_ tx'.le tx'.len tx'.bits hX (by decide) (by decide) (fun hf hX1 => absurd hf (by omega)) (fun hf => ?_)
        refine q H1 k1 ?_
        rw [Bool.or_true]
        exact ⟨dx, dh, ln, vL, vB, vT, R1⟩
      · rw [decide_eq_false h8] at q ⊢
        refine iteF ?_
        refine ⟨_, rfl, r, CR, dx, _, _, rfl, R.r_, T.cl, T.nH, rgF_hd _ _ _ _ _ _ _ _ _ _ _ _, hd, dh, _, rfl, R.h_, hdF_no', ?_⟩
        dsimp only [tCons, tC, tNil, List.append_nil]
        refine num_fit (m := 1) (n := 0) R.h_ tx'.le tx'.len tx'.bits hX (by decide) (by decide) (fun hf hX1 => absurd hf (by omega)) (fun hf => ?_)
        refine q H (.refl H) ?_
        rw [Bool.or_false]
        exact ⟨dx, dh, ln, vL, vB, vT, R⟩
/-- the next step, whatever it is -/
def spRgN (CH CT CR CW : Addr) : Sp := fun vs H Q E => (∃ n, n < 5 ∧ StepSp CH CT CR CW n vs H Q E) ∨ spRgS CH CT CR CW vs H Q E
theorem ok_rgN (T : RgTxt K mg CR rI rHear rTold rMany rOver rBits rGo rNext rBlk rCnt rPln rRun rTake rTrees rItem rRoom rEnd rRest) {fd fdB fdC fdP fdR fdI fdS : FuncData} {j k1 k2 k3 k4 k5 k6 : Nat} {t1 t2 t3 t4 t5 : Tok} (F : Fun K "read_next" "Reading.read_next" sRgNext rNext fd)
    (GB : FnOk P w K mg base (L2N.CX P w) k1 rBlk fdB ["self"] (StepSp CH CT CR CW 0)) (bB : Binds K fdB ["self"] []) (l1 : k1 ≤ j) (GC : FnOk P w K mg base (L2N.CX P w) k2 rCnt fdC ["self"] (StepSp CH CT CR CW 1)) (bC : Binds K fdC ["self"] []) (l2 : k2 ≤ j)
    (GP : FnOk P w K mg base (L2N.CX P w) k3 rPln fdP ["self"] (StepSp CH CT CR CW 2)) (bP : Binds K fdP ["self"] []) (l3 : k3 ≤ j) (GR : FnOk P w K mg base (L2N.CX P w) k4 rRun fdR ["self"] (StepSp CH CT CR CW 3)) (bR : Binds K fdR ["self"] []) (l4 : k4 ≤ j)
    (GI : FnOk P w K mg base (L2N.CX P w) k5 rItem fdI ["self"] (StepSp CH CT CR CW 4)) (bI : Binds K fdI ["self"] []) (l5 : k5 ≤ j) (GS : FnOk P w K mg base (L2N.CX P w) k6 rRest fdS ["self"] (spRgS CH CT CR CW)) (bS : Binds K fdS ["self"] []) (l6 : k6 ≤ j)
    (c1 : mg "NEXT_ITEM" = some (.int 4 t1)) (c2 : mg "NEXT_PLAIN" = some (.int 2 t2)) (c3 : mg "NEXT_RUN" = some (.int 3 t3)) (c4 : mg "NEXT_BLOCK" = some (.int 0 t4)) (c5 : mg "NEXT_COUNT" = some (.int 1 t5)) :
    FnOk P w K mg base (L2N.CX P w) (j + 1) rNext fd ["self"] (spRgN CH CT CR CW) := by
  refine okN F scRgN (fun vs H Q E h => ?_) (fun cdv A outer s H vs Q E hr h => ?_)
  · rcases h with ⟨_, _, r, hd, w, ld, s, o, p, t, ov, g, X, D, rfl, _⟩ | ⟨r, hd, w, ld, s, o, p, t, ov, rfl, _⟩
    · rfl
    · rfl
  · have ev : ∃ r hd w ld st o p t ov, vs = [.ref r] ∧ RgAt CH CT CR H r hd w ld st o t p ov ∧ ((st.nx < 5 ∧ StepSp CH CT CR CW st.nx [.ref r] H Q E) ∨ (st.nx = 5 ∧ spRgS CH CT CR CW [.ref r] H Q E)) := by
      rcases h with ⟨n, hn, r, hd, w, ld, s, o, p, t, ov, g, X, D, rfl, h1, h2, h3⟩ | ⟨r, hd, w, ld, s, o, p, t, ov, rfl, h1, h2, h3⟩
      · subst h2
        exact ⟨r, hd, w, ld, s, o, p, t, ov, rfl, h1, .inl ⟨hn, r, hd, w, ld, s, o, p, t, ov, g, X, D, rfl, h1, rfl, h3⟩⟩
      · exact ⟨r, hd, w, ld, s, o, p, t, ov, rfl, h1, .inr ⟨h2, r, hd, w, ld, s, o, p, t, ov, rfl, h1, h2, h3⟩⟩
    clear h
    obtain ⟨r, hd, w, ld, st, o, p, t, ov, rfl, ⟨dx, dh, ln, vL, vB, vT, R⟩, h⟩ := ev
    refine ⟨_, pss_one (ps_if (pt_cmpR op_eq (pe_fld (pv 0) rfl) (pe_glob (v := .int 4) rfl c1 ⟨_, rfl⟩) (nomark _)) (pss_one (ps_expr (pe_meth0 (pv 0) T.cl T.mItem GI (hr.mono l5) bI .nil (L2N.passes_call (L2N.takes_of rfl rfl rfl rfl) (fun _ _ _ _ h => h)))))
      (pss_one (ps_if (pt_cmpR op_eq (pe_fld (pv 0) rfl) (pe_glob (v := .int 2) rfl c2 ⟨_, rfl⟩) (nomark _)) (pss_one (ps_expr (pe_meth0 (pv 0) T.cl T.mPln GP (hr.mono l3) bP .nil (L2N.passes_call (L2N.takes_of rfl rfl rfl rfl) (fun _ _ _ _ h => h)))))
      (pss_one (ps_if (pt_cmpR op_eq (pe_fld (pv 0) rfl) (pe_glob (v := .int 3) rfl c3 ⟨_, rfl⟩) (nomark _)) (pss_one (ps_expr (pe_meth0 (pv 0) T.cl T.mRun GR (hr.mono l4) bR .nil (L2N.passes_call (L2N.takes_of rfl rfl rfl rfl) (fun _ _ _ _ h => h)))))
      (pss_one (ps_if (pt_cmpR op_eq (pe_fld (pv 0) rfl) (pe_glob (v := .int 0) rfl c4 ⟨_, rfl⟩) (nomark _)) (pss_one (ps_expr (pe_meth0 (pv 0) T.cl T.mBlk GB (hr.mono l1) bB .nil (L2N.passes_call (L2N.takes_of rfl rfl rfl rfl) (fun _ _ _ _ h => h)))))
      (pss_one (ps_if (pt_cmpR op_eq (pe_fld (pv 0) rfl) (pe_glob (v := .int 1) rfl c5 ⟨_, rfl⟩) (nomark _)) (pss_one (ps_expr (pe_meth0 (pv 0) T.cl T.mCnt GC (hr.mono l2) bC .nil (L2N.passes_call (L2N.takes_of rfl rfl rfl rfl) (fun _ _ _ _ h => h)))))
        (pss_one (ps_expr (pe_meth0 (pv 0) T.cl T.mRest GS (hr.mono l6) bS .nil (L2N.passes_call (L2N.takes_of rfl rfl rfl rfl) (fun _ _ _ _ h => h)))))))))))))), ?_⟩
    have fl := rgF_nx hd ld w st.nx st.last st.left ln vL vB vT ov .non
    have dec : ∀ m : Nat, decide (V.int (st.nx : Int) = V.int (m : Int)) = decide (st.nx = m) := fun m => by
      by_cases z : st.nx = m
      · rw [z, decide_eq_true rfl, decide_eq_true rfl]
      · rw [decide_eq_false z, decide_eq_false fun y => z (by have := V.int.inj y; omega)]
    refine ⟨_, rfl, r, CR, dx, _, _, rfl, R.r_, T.cl, T.nN, fl, rfl, _, rfl, ?_⟩
    rw [show decide (V.int (st.nx : Int) = V.int 4) = decide (st.nx = 4) from dec 4]
    by_cases z4 : st.nx = 4
    · rw [decide_eq_true z4]
      rcases h with ⟨_, h⟩ | ⟨h5, h⟩
      · rw [z4] at h
        exact iteT ⟨_, rfl, r, dx, _, rfl, R.r_, rgF_no', h⟩
      · omega
    rw [decide_eq_false z4]
    refine iteF ⟨_, rfl, r, CR, dx, _, _, rfl, R.r_, T.cl, T.nN, fl, rfl, _, rfl, ?_⟩
    rw [show decide (V.int (st.nx : Int) = V.int 2) = decide (st.nx = 2) from dec 2]
    by_cases z2 : st.nx = 2
    · rw [decide_eq_true z2]
      rcases h with ⟨_, h⟩ | ⟨h5, h⟩
      · rw [z2] at h
        exact iteT ⟨_, rfl, r, dx, _, rfl, R.r_, rgF_no', h⟩
      · omega
    rw [decide_eq_false z2]
    refine iteF ⟨_, rfl, r, CR, dx, _, _, rfl, R.r_, T.cl, T.nN, fl, rfl, _, rfl, ?_⟩
    rw [show decide (V.int (st.nx : Int) = V.int 3) = decide (st.nx = 3) from dec 3]
    by_cases z3 : st.nx = 3
    · rw [decide_eq_true z3]
      rcases h with ⟨_, h⟩ | ⟨h5, h⟩
      · rw [z3] at h
        exact iteT ⟨_, rfl, r, dx, _, rfl, R.r_, rgF_no', h⟩
      · omega
    rw [decide_eq_false z3]
    refine iteF ⟨_, rfl, r, CR, dx, _, _, rfl, R.r_, T.cl, T.nN, fl, rfl, _, rfl, ?_⟩
    rw [show decide (V.int (st.nx : Int) = V.int 0) = decide (st.nx = 0) from dec 0]
    by_cases z0 : st.nx = 0
    · rw [decide_eq_true z0]
      rcases h with ⟨_, h⟩ | ⟨h5, h⟩
      · rw [z0] at h
        exact iteT ⟨_, rfl, r, dx, _, rfl, R.r_, rgF_no', h⟩
      · omega
    rw [decide_eq_false z0]
    refine iteF ⟨_, rfl, r, CR, dx, _, _, rfl, R.r_, T.cl, T.nN, fl, rfl, _, rfl, ?_⟩
    rw [show decide (V.int (st.nx : Int) = V.int 1) = decide (st.nx = 1) from dec 1]
    by_cases z1 : st.nx = 1
    · rw [decide_eq_true z1]
      rcases h with ⟨_, h⟩ | ⟨h5, h⟩
      · rw [z1] at h
        exact iteT ⟨_, rfl, r, dx, _, rfl, R.r_, rgF_no', h⟩
      · omega
    rw [decide_eq_false z1]
    rcases h with ⟨h5, h⟩ | ⟨_, h⟩
    · omega
    · exact iteF ⟨_, rfl, r, dx, _, rfl, R.r_, rgF_no', h⟩
end
end K7

/-! ### try with several clauses of which the first one catches -/
namespace L2N
open PySem PySem.Spec PyProof.Rows L2
/-- the first clause catches what leaves the body -/
def wFst (K : PySem.W.Frag) (D : Ends) (c : Value) (ts : Addr → Value → Option Addr → TS) : WX := fun cls d σ H => PySem.W.exmOne K cls c = some true ∧ ∀ a, H a = none → ts a cls d D σ H
theorem ps_try_fst {X : Cx} {body suite : List Stmt} {one : Stmt} {more : List ExceptHandler} {x : Str} {np hp pos : Pos} {c : Value} {tb : WX → TS} {ts : Addr → Value → Option Addr → TS} (hs : X.stack = X.env :: X.outer) (hf : X.env.frame = some X.env.locals) (hc : Names X x c)
    (hb : ∀ (W : WX) (pn : List (Addr × Obj)) (xe : Value → Shared → Prop), Takes (X.tr pn xe) W → PassesOwn (model X.prog X.w) X.A X.env xe → PSs (X.tr pn xe) body (tb W))
    (hsu : ∀ (a : Addr) (oe : Obj) (cls : Value) (d : Option Addr) (pn : List (Addr × Obj)), Zn cls d oe → (∃ vs, oe.data = .fields vs) → PSs (X.suite a ((a, oe) :: pn)) (one :: suite) (ts a cls d)) :
    PS X (.Try body (.ExceptHandler (some (.Name x np)) none (one :: suite) hp :: more) [] [] pos) (fun D σ H => tb (wFst X.K D c ts) D σ H) := by
  refine ⟨fun pins s σ H D I h => ?_⟩
  have top : X.A.frames = some (X.env :: X.outer) := by rw [I.ok.frames, hs]
  refine wpAny_Try_except ?_
  refine wpAny_mono ((hb (wFst X.K D c ts) (X.pn ++ pins) _ (fun u s1 air => ?_) PassesOwn.looking).run [] s σ H D (I.toTry _) h) (fun f s1 done => ?_) (fun _ _ he => he)
  · obtain ⟨a, B, s0, pins1, σ1, H1, cls, d, rfl, J1, nb, up, sky, na, os, ag, yes, w⟩ := air
    have J := J1.ofTry I.ok
    rw [show (Cx.stack (X.tr (X.pn ++ pins) _) : List Env) = X.env :: X.outer from hs] at sky
    refine Sky.land Zn.steady top hf sky fun h3 fl up3 => ?_
    have K3 : Inv X pins σ1 H1 { s1 with heap := h3 } := J.landed nb fl.1 (up.trans up3) os ag
    obtain ⟨oe, vs, he, hz, hd⟩ := fl.there
    have out : a ∉ frs (X.env :: X.outer) := fun hm => by
      obtain ⟨_, o, e, hnf⟩ := fl.2.2.1.mem hm
      rw [he] at e
      exact hnf _ (Option.some.inj e ▸ hd)
    have nL : a ≠ X.env.locals := fun z => out (List.mem_filterMap.mpr ⟨X.env, List.mem_cons_self, by rw [hf, z]⟩)
    have nF : a ∉ X.fs := fun hm => by
      obtain ⟨e, m, q⟩ := List.mem_filterMap.mp hm
      exact out (List.mem_filterMap.mpr ⟨e, List.mem_cons_of_mem _ m, q⟩)
    have S := K3.suite he hd na nL nF
    refine wpAny_handleBy_cons (codeAny_handlers_test ?_) (fun q => by cases q)
    have LT : PySem.W.Looks (model X.prog X.w) h3 (typeOf (.ref a)) cls := fun A Q E s k q => wpAny_typeOf_ref (k _ _ he) (by rw [hz.1]; exact q)
    have named : ∀ {Q E : Value → Shared → Prop}, Q c { s1 with heap := h3 } → wpAny (model X.prog X.w) (X.A.mark (some (.ref a))) (eval (.Name x np) X.env) Q E { s1 with heap := h3 } := fun q => by
      obtain ⟨g, db, m | ⟨m, v, nn⟩⟩ := hc
      · exact ld_glob (X := X.suite a ((a, oe) :: (X.pn ++ pins))) S g m q db
      · exact ld_blt (X := X.suite a ((a, oe) :: (X.pn ++ pins))) S g m v q nn db
    refine named ((PySem.W.exm_one (M := model X.prog X.w) K3.kIn LT yes).here (codeAny_handlers_suite ?_))
    refine HandSPX.lands_againZ fl fun h4 fl4 up4 => ?_
    have K4 : Inv X pins σ1 H1 { s1 with heap := h4 } := J.landed nb fl4.1 ((up.trans up3).trans up4) os ag
    obtain ⟨oe4, vs4, he4, hz4, hd4⟩ := fl4.there
    refine wpAny_mono ((hsu a oe4 cls d (X.pn ++ pins) hz4 ⟨_, hd4⟩).run [] _ _ H1 _ (K4.suite he4 hd4 na nL nF) (w a na)) (fun f s6 done => ?_) fun _ _ z => z.elim
    cases f with
    | ret u =>
      obtain ⟨v, σ2, H2, S2, r, q⟩ := done
      exact ⟨v, σ2, H2, S2.unsuite I.ok, r, q⟩
    | next => exact done.elim fun σ2 z => z.elim fun H2 z => ⟨σ2, H2, z.1.unsuite I.ok, z.2⟩
    | brk => exact done.elim fun σ2 z => z.elim fun H2 z => ⟨σ2, H2, z.1.unsuite I.ok, z.2⟩
    | cont => exact done.elim fun σ2 z => z.elim fun H2 z => ⟨σ2, H2, z.1.unsuite I.ok, z.2⟩
  · cases f with
    | ret u =>
      obtain ⟨v, σ2, H2, J, r, q⟩ := done
      exact ⟨v, σ2, H2, J.ofTry I.ok, r, q⟩
    | next =>
      obtain ⟨σ2, H2, J, q⟩ := done
      exact wpAny_execs_nil ⟨σ2, H2, J.ofTry I.ok, q⟩
    | brk =>
      obtain ⟨σ2, H2, J, q⟩ := done
      exact ⟨σ2, H2, J.ofTry I.ok, q⟩
    | cont =>
      obtain ⟨σ2, H2, J, q⟩ := done
      exact ⟨σ2, H2, J.ofTry I.ok, q⟩
/-- o.m() in a try: what it lets out may speak of the slots -/
def tMeth0S (C : Addr) (m : Str) (sp : Sp) (E : L2.St → XK) (ta : TE) : TE := fun σ H Q => ta σ H fun x H1 => ∃ a dx fs, x = .ref a ∧ H1 a = some (.ins C dx fs) ∧ fs.lookup m = none ∧ sp [.ref a] H1 Q (E σ)
theorem pe_meth0S {X : Cx} {CX : CXT} {k : Nat} {C f : Addr} {fd : FuncData} {ps : List Str} {sp : Sp} {E : L2.St → XK} {m : Str} {o : Expr} {pos apos : Pos} {ta : TE} {pl : Sem Bool} (he : PE X o ta) (c : Cls X.K C) (hm : Meth X.K C m f) (F : FnOk X.prog X.w X.K X.mg X.base CX k f fd ps sp) (hr : Room k X.A) (hb : Binds X.K fd ps []) (hx : ∀ σ, PassesAt CX X σ (E σ))
    (ht : eval (.Call (.Attribute o m apos) [] [] pos) X.env = (do let ov ← eval o X.env; standAt apos.atName; let (f, first) ← holding [ov] (getMethod ov m pl); callWith pos f first (backTo pos (starEach [] X.env)) (backToKw pos (keywordEach [] X.env))) := by rfl) :
    PE X (.Call (.Attribute o m apos) [] [] pos) (tMeth0S C m sp E ta) := by
  refine ⟨fun pins s σ H Q I h => PySem.W.methodCall_KW (pl := pl) (thn (he.run pins s σ H _ I h) fun u s1 hh => ?_) ht⟩
  obtain ⟨v, H1, I1, rv, a, dx, fs, rfl, ha, hl, q⟩ := hh
  obtain rfl : u = Value.ref a := rv
  exact getmeth_ok I1 ha c hm hl (PySem.W.callWith_K0 (first := [.ref a]) I1.kIn hm.kp (run_fnS (us := [.ref a]) (vs := [.ref a]) F hr hb (hx σ) I1 (.cons rfl .nil) q))
end L2N

/-! ### iterators that end while an exception is handled -/
namespace HY
open PySem PySem.Spec PyProof.Rows HotX
section
variable {prog : Program} {w : World} {A : Around} {E : Value → Shared → Prop} {s : Shared} {x1 : Addr}
theorem hotUp {h h' : Heap} (x : HotAt A x1 h) (k : ∀ o, h.get? x1 = some o → h'.get? x1 = some o) : HotAt A x1 h' := by
  obtain ⟨hh, o, vs, e1, e2, e3⟩ := x
  exact ⟨hh, o, vs, k _ e1, e2, e3⟩
theorem hotLt {h : Heap} (x : HotAt A x1 h) : x1 < h.objs.size := by
  obtain ⟨_, o, _, e1, _⟩ := x
  exact Heap.lt_size e1
/-- a StopIteration is made and raised -/
theorem stop_hot {α : Type} {Q : α → Shared → Prop} (hot : HotAt A x1 s.heap)
    (hE : ∀ h' e, (∀ b o, s.heap.get? b = some o → h'.get? b = some o) → (∃ o, h'.get? e = some o ∧ o.cls = .type "StopIteration") → E (.ref e) { s with heap := h' }) :
    wpAny (model prog w) A (newExc (.type "StopIteration") [] >>= fun e => (raiseNew e : Sem α)) Q E s := by
  (refine wpAny_bind ?_); (simp only [newExc, newTuple]); (refine wpAny_bind (wpAny_newObj_type ?_ (by size_fits)))
  refine wpAny_bind (m := firstArgMember _ _) (wpAny_of_eq (a := Value.none) (by first | rfl | (simp only [firstArgMember]; rfl)) (wpAny_newObj_type ?_ (by size_fits)))
  refine raiseNew_hot (x1 := x1) (hotUp hot fun o e => Heap.get?_push_of_some _ (Heap.get?_push_of_some _ e)) (Nat.ne_of_lt (by rw [Heap.size_push]; exact Nat.lt_succ_of_lt (hotLt hot))) (Heap.get?_push_size _ rfl) rfl (by first | (simp; done) | (simp; omega)) (hE _ _ (fun b o e => ?_) ⟨_, Heap.get?_update_self _ (Heap.get?_push_size _ rfl) rfl, rfl⟩)
  rw [Heap.get?_update_other _ _ (Nat.ne_of_gt (Heap.lt_size (Heap.get?_push_of_some _ e)))]
  exact Heap.get?_push_of_some _ (Heap.get?_push_of_some _ e)
theorem tup_end_hot {it t : Addr} {i : Nat} {items : Array Value} {Q : Option Value → Shared → Prop} (hot : HotAt A x1 s.heap) (nx : x1 ≠ it) (hit : s.heap.IsTupleIter it t i) (ht : s.heap.IsTuple t items) (hx : items[i]? = none)
    (hQ : ∀ h', Heap.ExtBut it s.heap h' → Q none { s with heap := h' }) : wpAny (model prog w) A (pyNext (.ref it)) Q E s := by
  obtain ⟨o, ho, hc, hd⟩ := id hit
  obtain ⟨ot, hot', _, nt, hdt⟩ := ht
  unfold pyNext
  refine wpAny_bind (wpAny_attempt (wpAny_callSpecial?_slot (name := Str.ofString "__next__") hit.typeIs F.slot_tuple_iterator_next (wpAny_call_entry F.slot_tuple_iterator_next hit.typeIs F.entry_tuple_iterator_next ?_ (F.args_tuple_iterator_next_1 _))))
  show wpAny _ _ (field (.ref it) 0 >>= _) _ _ s; refine wpAny_bind (wpAny_field ho hd (x := .ref t) rfl ?_)
  show wpAny _ _ (if (Value.ref t == Value.none) = true then _ else _) _ _ s; rw [if_neg (show ¬ ((Value.ref t == Value.none) = true) from Bool.false_ne_true)]
  show wpAny _ _ (field (.ref it) 1 >>= _) _ _ s; refine wpAny_bind (wpAny_field ho hd (x := .int i 0) rfl ?_)
  show wpAny _ _ (seqItems? (.ref t) >>= _) _ _ s; refine wpAny_bind (wpAny_seqItems hot' hdt ?_)
  simp only [Int.toNat_natCast, hx]
  refine wpAny_bind (wpAny_rule (wpAny_bind (wpAny_setField ho hd (by simp) ?_)))
  refine stop_hot (x1 := x1) (A := A.in1) (hotUp hot fun u e => (Heap.get?_update_other _ _ (Ne.symm nx)).trans e) fun h' e k ⟨oe, he, hce⟩ => ?_
  refine wpAny_bind (wpAny_isInstance (T := "StopIteration") (b := true) ⟨oe, he, hce⟩ isSubtype_stop (wpAny_pure (hQ _ fun b u hb eb => k b u ((Heap.get?_update_other _ _ (Ne.symm hb)).trans eb))))
theorem list_end_hot {it l : Addr} {i : Nat} {items : Array Value} {Q : Value → Shared → Prop} (hot : HotAt A x1 s.heap) (nx : x1 ≠ it) (hit : s.heap.IsListIter it l i) (hl : s.heap.IsList l items) (hx : items[i]? = none)
    (hE : ∀ h' e, Heap.ExtBut it s.heap h' → (∃ o, h'.get? e = some o ∧ o.cls = .type "StopIteration") → E (.ref e) { s with heap := h' }) : wpAny (model prog w) A (Builtin.SmallTypes.nextOf (.ref it)) Q E s := by
  obtain ⟨o, ho, hc, hd⟩ := id hit
  obtain ⟨ot, hot', _, nt, hdt⟩ := hl
  unfold Builtin.SmallTypes.nextOf
  refine wpAny_bind (wpAny_callSpecial?_slot (name := Str.ofString "__next__") hit.typeIs slot_listiter_next (wpAny_call_entry slot_listiter_next hit.typeIs entry_listiter_next ?_ (args_listiter_next _)))
  show wpAny _ _ (field (.ref it) 0 >>= _) _ _ s; refine wpAny_bind (wpAny_field ho hd (x := .ref l) rfl ?_)
  show wpAny _ _ (if (Value.ref l == Value.none) = true then _ else _) _ _ s; rw [if_neg (show ¬ ((Value.ref l == Value.none) = true) from Bool.false_ne_true)]
  show wpAny _ _ (field (.ref it) 1 >>= _) _ _ s; refine wpAny_bind (wpAny_field ho hd (x := .int i 0) rfl ?_)
  show wpAny _ _ (seqItems? (.ref l) >>= _) _ _ s; refine wpAny_bind (wpAny_seqItems hot' hdt ?_)
  simp only [Int.toNat_natCast, hx]
  refine wpAny_bind (wpAny_rule (wpAny_bind (wpAny_setField ho hd (by simp) ?_)))
  exact stop_hot (x1 := x1) (A := A.in1) (hotUp hot fun u e => (Heap.get?_update_other _ _ (Ne.symm nx)).trans e) fun h' e k he => hE _ _ (fun b u hb eb => k b u ((Heap.get?_update_other _ _ (Ne.symm hb)).trans eb)) he
theorem enum_end_hot {e it l : Addr} {i : Nat} {items : Array Value} {old : Value} {Q : Option Value → Shared → Prop} (hot : HotAt A x1 s.heap) (nx : x1 ≠ it) (he : IsEnum s.heap e it i old) (hit : s.heap.IsListIter it l i) (hl : s.heap.IsList l items) (hx : items[i]? = none)
    (hQ : ∀ h', Heap.ExtBut it s.heap h' → Q none { s with heap := h' }) : wpAny (model prog w) A (pyNext (.ref e)) Q E s := by
  have hT : s.TypeIs (.ref e) "enumerate" := ⟨_, he, rfl⟩
  unfold pyNext
  refine wpAny_bind (wpAny_attempt (wpAny_callSpecial?_slot (name := Str.ofString "__next__") hT F.slot_enumerate_next (wpAny_call_entry F.slot_enumerate_next hT F.entry_enumerate_next ?_ (F.args_enumerate_next_1 _))))
  show wpAny _ _ (field (.ref e) 2 >>= _) _ _ _
  refine wpAny_bind (wpAny_field he rfl (x := .ref it) rfl (wpAny_bind (list_end_hot (x1 := x1) (A := A.in1) hot nx hit hl hx fun h' x eb ⟨o, ho, hc⟩ => ?_)))
  exact wpAny_bind (wpAny_isInstance (T := "StopIteration") (b := true) ⟨o, ho, hc⟩ isSubtype_stop (wpAny_pure (hQ _ eb)))
theorem items_hot {t : Addr} {items : Array Value} {Q : List Value → Shared → Prop} (hot : HotAt A x1 s.heap) (ht : IsTup s.heap t items)
    (hQ : ∀ h', Heap.ExtBut s.heap.objs.size s.heap h' → Q items.toList { s with heap := h' }) : wpAny (model prog w) A (unpackItems (.ref t) items.size none) Q E s := by
  have hlt : t ≠ s.heap.objs.size := by obtain ⟨o, ho, _⟩ := ht; exact Nat.ne_of_lt (Heap.lt_size ho)
  have hxl : x1 ≠ s.heap.objs.size := Nat.ne_of_lt (hotLt hot)
  unfold unpackItems
  refine wpAny_bind ?_
  unfold notIterableAtAll
  refine wpAny_bind (wpAny_specialOf ht.typeIs slot_tuple_iter.lookup (wpAny_pure ?_))
  simp only [Bool.false_eq_true, if_false]
  refine wpAny_bind (wpAny_holding (iter_tuple ht (wpAny_bind (wpAny_holding (draw_tuple hlt items.size 0 _ _ ⟨_, Heap.get?_push_size _ rfl, rfl, rfl⟩ (ht.push _) (by omega) fun h₁ hit₁ hs₁ => ?_)))))
  have hall : List.take items.size (List.drop 0 items.toList) = items.toList := by
    rw [List.drop_zero]; exact List.take_of_length_le (by simp)
  rw [hall, if_neg (by simp)]
  have ht₁ : IsTup h₁ t items := (ht.push _).extBut hs₁.extBut hlt
  have hot₁ : HotAt A x1 h₁ := hotUp hot fun o e => hs₁.extBut x1 o hxl (Heap.get?_push_of_some _ e)
  refine wpAny_bind (wpAny_holding (tup_end_hot (x1 := x1) (t := t) (i := 0 + items.size) hot₁ hxl hit₁ ht₁ (by simp) fun h₂ he₂ => ?_))
  simp only [Option.isSome_none, Bool.false_eq_true, if_false]
  exact wpAny_pure (hQ h₂ fun b o hb e => he₂ b o hb (hs₁.extBut b o hb (Heap.get?_push_of_some _ e)))
theorem tup_asg_hot {env : Env} {elts : List Expr} {k : Nat} {pos : Pos} {t : Addr} {items : Array Value} {Q : Unit → Shared → Prop} (hot : HotAt A x1 s.heap) (ht : IsTup s.heap t items)
    (hn : (assignEach elts env).length = items.size) (hstar : (assignEach elts env).findIdx? (·.1) = none)
    (h : ∀ h', Heap.ExtBut s.heap.objs.size s.heap h' → wpAny (model prog w) A (assignInOrder ((assignEach elts env).map (·.2)) items.toList) Q E { s with heap := h' }) : wpAny (model prog w) A (assign (.Tuple elts k pos) env (.ref t)) Q E s := by
  rw [assign_Tuple]
  refine wpAny_bind (wpAny_standAt ?_)
  unfold unpack
  rw [hn, hstar]
  exact wpAny_bind (wpAny_holding (items_hot (x1 := x1) hot ht h))
theorem walks_hot {I ax : Addr} {items : Array Value} (hne : ax ≠ I) (nx : x1 ≠ I) :
    Walks prog w A I [I, ax, x1] [I] items.size (fun i v => items[i]? = some v) (fun i h => h.IsTupleIter I ax i ∧ h.IsTuple ax items ∧ HotAt A x1 h) where
  sub := fun b hb => by
    rw [List.mem_singleton.mp hb]
    exact List.mem_cons_self ..
  frame := fun _ _ _ st hk => ⟨st.1.at fun o e => hk I (by simp) o e, st.2.1.at fun o e => hk ax (by simp) o e, hotUp st.2.2 fun o e => hk x1 (by simp) o e⟩
  item := fun i s Q E hi st hQ => by
    refine wpAny_pyNext_tuple_item st.1 st.2.1 (x := items[i]) (by simp [hi]) fun h' hi' hs' => hQ _ h' s.toks (by simp [hi]) ⟨hi', st.2.1.extBut hs'.extBut hne, hotUp st.2.2 fun o e => hs'.extBut x1 o nx e⟩ fun b o hb e => hs'.extBut b o (fun z => hb (by simp [z])) e
  done := fun s Q E st hQ => tup_end_hot (x1 := x1) st.2.2 nx st.1 st.2.1 (by simp) fun h' he' => hQ h' s.toks fun b o hb e => he' b o (fun z => hb (by simp [z])) e
  self := fun _ _ _ _ st hQ => wpAny_pyIter_tupleiter st.1 hQ
theorem min_hot {a b : Int} {t u : Tok} {Q : Value → Shared → Prop} (hot : HotAt A x1 s.heap)
    (h : ∀ h' tk, (∀ c o, s.heap.get? c = some o → h'.get? c = some o) → Q (if b < a then .int b u else .int a t) { s with heap := h', toks := tk }) : wpAny (model prog w) A (call (.builtin "min") [.int a t, .int b u]) Q E s := by
  have hT : (s.heap.push { cls := .type "tuple", data := .seq #[.int a t, .int b u] }).IsTuple s.heap.objs.size (intItems #[(a, t), (b, u)]) := ⟨_, Heap.get?_push_size _ rfl, rfl, 0, by simp [intItems]⟩
  have sz : (s.heap.push { cls := .type "tuple", data := .seq #[.int a t, .int b u] }).objs.size = s.heap.objs.size + 1 := Heap.size_push ..
  have hx := hotLt hot
  refine call_min_two (wpAny_pyIter_tuple hT ⟨_, [_, s.heap.objs.size, x1], [_], _, _, _, _, rfl, walks_hot (A := A.in1) (x1 := x1) (ax := s.heap.objs.size) (items := intItems #[(a, t), (b, u)]) (by rw [sz]; exact Nat.ne_of_lt (Nat.lt_succ_self _)) (by rw [sz]; exact Nat.ne_of_lt (Nat.lt_succ_of_lt hx)),
    ⟨⟨_, Heap.get?_push_size _ rfl, rfl, rfl⟩, hT.push _, hotUp hot fun o e => Heap.get?_push_of_some _ (Heap.get?_push_of_some _ e)⟩, fun c hc => ?_, by simp [intItems], CmpOf.ints_lt (numAt #[(a, t), (b, u)]) (fun _ _ => intItems_at), fun v h' tk hP hk => ?_⟩)
  · show c < ((s.heap.push _).push _).objs.size; rw [Heap.size_push, sz]
    rcases List.mem_cons.mp hc with z | hc
    · rw [z, sz]; exact Nat.lt_succ_self _
    rcases List.mem_cons.mp hc with z | hc
    · rw [z]; exact Nat.lt_succ_of_lt (Nat.lt_succ_self _)
    · rw [List.mem_singleton.mp hc]; exact Nat.lt_succ_of_lt (Nat.lt_succ_of_lt hx)
  · have old : ∀ c o, s.heap.get? c = some o → h'.get? c = some o := fun c o e => by
      refine hk c o (fun hm => ?_) (Heap.get?_push_of_some _ (Heap.get?_push_of_some _ e))
      have z := Heap.lt_size e
      rw [List.mem_singleton.mp hm, sz] at z
      exact Nat.lt_irrefl _ (Nat.lt_of_succ_lt z)
    have q := h h' tk old
    have hv : v = if b < a then Value.int b u else Value.int a t := by
      have hP' : (intItems #[(a, t), (b, u)])[argBest (fun i j => decide (numAt #[(a, t), (b, u)] i < numAt #[(a, t), (b, u)] j)) 1]? = some v := by
        rw [show 1 = (intItems #[(a, t), (b, u)]).size - 1 by simp [intItems]]; exact hP
      by_cases hba : b < a
      · rw [show argBest (fun i j => decide (numAt #[(a, t), (b, u)] i < numAt #[(a, t), (b, u)] j)) 1 = 1 by simp [argBest, numAt, hba]] at hP'
        simpa [intItems, hba] using hP'.symm
      · rw [show argBest (fun i j => decide (numAt #[(a, t), (b, u)] i < numAt #[(a, t), (b, u)] j)) 1 = 0 by simp [argBest, numAt, hba]] at hP'
        simpa [intItems, hba] using hP'.symm
    rw [hv]; exact q
end
end HY
namespace L2H
open PySem PySem.Spec PyProof.Rows L2 HotX HY
section
variable {X : Cx} {pos : Pos}
theorem pg_tupH {es : List Expr} {k : Nat} {t : TGs} {n : Nat} (hc : HotC X) (h : PGs X es t)
    (hn : (assignEach es X.env).length = n := by rfl) (hst : (assignEach es X.env).findIdx? (·.1) = none := by rfl) : PG X (.Tuple es k pos) (gTup X.K n t) := by
  refine ⟨fun pins s σ H v u Q I r hw => ?_⟩
  obtain ⟨a, xs, e1, hq, hl, hw⟩ := hw
  subst e1
  cases r
  obtain ⟨its, rv, ht, hz⟩ := I.tuple hq
  obtain ⟨x1, hot⟩ := hc.at I
  refine tup_asg_hot (x1 := x1) hot ht (by simp [hn, ← hl, rv.length]) hst fun h' hx => ?_
  exact h.run pins _ σ H xs _ Q (I.kept (t' := s.toks) fun b o e => hx b o (Nat.ne_of_lt (Heap.lt_size e)) e) (by simpa using rv) hw
theorem call_min2H (hc : HotC X) : CallR X (.builtin "min") (fun xs H Q => ∃ i j, xs = [.int i, .int j] ∧ Q (.int (if j < i then j else i)) H) := by
  intro pins s σ H xs us Q I r h
  obtain ⟨i, j, rfl, q⟩ := h
  obtain ⟨u, w', rfl, ⟨t, rfl⟩, ⟨t', rfl⟩⟩ := vals2 r
  obtain ⟨x1, hot⟩ := hc.at I
  refine min_hot (x1 := x1) hot fun h' tk k => ⟨_, H, I.kept k, ?_, q⟩
  by_cases hj : j < i
  · (rw [if_pos hj, if_pos hj]); exact ⟨_, rfl⟩
  · (rw [if_neg hj, if_neg hj]); exact ⟨_, rfl⟩
theorem turn_enumH {P : Program} {w : World} {K : PySem.W.Frag} {elts : List Expr} {kk : Nat} {tpos : Pos} (a e it : Addr) :
    TurnH P w K (.Tuple elts kk tpos) (Ite K a) [e, it] e (fun i h => (∃ old, IsEnum h e it ((i : Nat) : Int) old) ∧ h.IsListIter it a i ∧ e ≠ it) where
  mem := (turn_enum (P := P) (w := w) (K := K) (elts := elts) (kk := kk) (tpos := tpos) a e it).mem
  obj := (turn_enum (P := P) (w := w) (K := K) (elts := elts) (kk := kk) (tpos := tpos) a e it).obj
  keep := (turn_enum (P := P) (w := w) (K := K) (elts := elts) (kk := kk) (tpos := tpos) a e it).keep
  self := (turn_enum (P := P) (w := w) (K := K) (elts := elts) (kk := kk) (tpos := tpos) a e it).self
  item := by
    intro X hP hw hK hc i pins s σ H E I hf st hg
    subst hP hw hK
    obtain ⟨⟨old, he⟩, hit, hne⟩ := st
    obtain ⟨xs, x, hq, hx⟩ := hg
    obtain ⟨its, rv, p, hz⟩ := I.list hq
    obtain ⟨u, hu, ru⟩ := rv.get hx
    have hel : e < s.heap.objs.size := Heap.lt_size he
    have hil : it < s.heap.objs.size := by (obtain ⟨_, q, _⟩ := hit); (exact Heap.lt_size q)
    refine wpAny_pyNext_enum_item he hit p.isList (x := u) (by simpa using hu) hne fun h' ho hit' hT hsz hk => ⟨_, rfl, wpAny_letOwnedTupleGo_enum (s := { s with heap := h', toks := s.toks + 1 }) ho fun h2 he2 sb => ?_⟩
    have hT2 : h2.get? s.heap.objs.size = some { cls := .type "tuple", data := .seq #[.int i s.toks, u] } := (sb.2 _ (Nat.ne_of_gt hel)).trans hT
    have new : ObjOk X.prog X.w (upd H s.heap.objs.size (.tup [.int (i : Nat), x])) h2 s.heap.objs.size (.tup [.int (i : Nat), x]) := ⟨(show 2 ≤ sizeLine by decide), [.int i s.toks, u], .cons ⟨_, rfl⟩ (.cons ru .nil), ⟨_, hT2, rfl, _, rfl⟩⟩
    have I1 : Inv X pins σ (upd H s.heap.objs.size (.tup [.int (i : Nat), x])) { s with heap := h2, toks := s.toks + 1 } := I.turnedNew (ch := [e, it]) (fun b ob hb q => (sb.2 b (fun z => hb (by simp [z]))).trans (hk b ob (fun z => hb (by simp [z])) (fun z => hb (by simp [z])) q)) hf (Nat.le_refl _) new
    refine ⟨.ref s.heap.objs.size, _, I1, rfl, ⟨_, x, rfl, I.hok.fresh (Nat.le_refl _), rfl, fun ys hy => by rw [I.list_inj hy hq]; exact hx⟩, ⟨⟨u, (by rw [show ((i + 1 : Nat) : Int) = (i : Int) + 1 by omega]; exact he2)⟩, hit'.at fun o q => (sb.2 it (Ne.symm hne)).trans q, hne⟩, fun b hb => ?_⟩
    have hb' : b < s.heap.objs.size := by
      rcases (show b = e ∨ b = it by simpa using hb) with z | z
      · (rw [z]); (exact hel)
      · (rw [z]); (exact hil)
    exact (upd_ne (Nat.ne_of_lt hb')).trans (hf b hb).1
  done := by
    intro X hP hw hK hc i pins s σ H E I hf st hg
    subst hP hw hK
    obtain ⟨⟨old, he⟩, hit, hne⟩ := st
    obtain ⟨xs, hq, hx⟩ := hg
    obtain ⟨its, rv, p, hz⟩ := I.list hq
    obtain ⟨f0, f1, f2, f3, f4, f5⟩ := hf it (by simp)
    have hl := rv.length
    obtain ⟨q, ⟨hh, v1, e1, c1⟩, hp⟩ := id hc
    have hpin := I.pin q (List.mem_append_left _ hp)
    have nx : q.1 ≠ it := fun z => by
      obtain ⟨o, ho, hco, hdo⟩ := hit
      rw [z, ho] at hpin
      have e2 := Option.some.inj hpin.1
      rw [← e2, hdo] at e1
      have e3 : v1 = _ := (Data.fields.inj e1).symm
      rw [e3] at c1
      cases c1
    exact enum_end_hot (x1 := q.1) ⟨hh, q.2, v1, hpin.1, e1, c1⟩ nx he hit p.isList (by simp; omega) fun h' eb => ⟨rfl, I.turned (t' := s.toks) (fun b o hb q => eb b o hb q) f0 f1 f3 f4 f5⟩
theorem pi_enumH {e : Expr} {ta : TA} {p pos tpos : Pos} {elts : List Expr} {kk : Nat} (hg : Gl X "enumerate") (hm : X.mg "enumerate" = none) (ha : PA X [e] ta) (hs : starEach [e] X.env = [(false, eval e X.env)] := by rfl) :
    PIH X (.Tuple elts kk tpos) (.Call (.Name "enumerate" p) [e] [] pos) (iEnum X.K ta) := by
  refine ⟨fun pins s σ H R I h => ?_⟩
  refine Call_ (ld_blt I hg hm boot_enumerate (PyProof.Rows.callWith_type1 (thn (ha.run pos pins s σ H _ I h) fun us s1 ⟨vs, H1, I1, r1, a, xs, ex, hq, q⟩ => ?_) hs rfl))
  subst ex
  cases r1 with
  | cons r rr =>
    cases rr
    cases r
    obtain ⟨its, rv, p', hz⟩ := I1.list hq
    refine call_enumerate_list p'.isList fun h' he hit hsz hk => wpAny_pyIter_enum he ⟨s1.heap.objs.size + 1, [s1.heap.objs.size + 1, s1.heap.objs.size], _, _, H1, rfl, I1.kept (t' := s1.toks) hk, turn_enumH a (s1.heap.objs.size + 1) s1.heap.objs.size, ⟨⟨.none, he⟩, hit, Nat.succ_ne_self _⟩, fun b hb => ?_, q⟩
    have hle : s1.heap.objs.size ≤ b := by
      rcases (show b = s1.heap.objs.size + 1 ∨ b = s1.heap.objs.size by simpa using hb) with z | z
      · (rw [z]); (exact Nat.le_add_right _ _)
      · (rw [z]); (exact Nat.le_refl _)
    exact I1.fpOk hle (I1.hok.fresh hle)
end
end L2H

namespace K7
open PySem PySem.Spec PyProof.Rows L2 SBX
open K2 (wAt coinsL)
/-! ### Reading: go_on -/
theorem scRgG : FnScope ["self", "begun", "slip"] ["self"] (defScope sRgGo) := ⟨rfl, rfl, rfl, by decide +kernel, rfl, by decide +kernel, by decide +kernel⟩
section
variable {P : Program} {w : World} {K : PySem.W.Frag} {mg : Str → Option Value} {base : Heap} {C CH CT CW CR fI fH fB fR fG fN fL fTI pI pL pB : Addr}
variable {rI rHear rTold rMany rOver rBits rGo rNext rBlk rCnt rPln rRun rTake rTrees rItem rRoom rEnd rRest : Addr}
theorem okh_hdG (T : HdTxt K mg CH fI fH fB fR fG fN fL) {fd : FuncData} {j : Nat} (F : Fun K "go_back" "Heard.go_back" sHdBack fG fd) : L2H.FnH P w K mg base CX0 (j + 1) fG fd ["self", "many"] (spHdG CH) := by
  refine okH F scHdG (fun vs H Q E h => ?_) (fun cdv A outer s H vs Q E pn hot hr h => ?_)
  · obtain ⟨x, dx, o, p, n, t, rfl, _⟩ := h
    rfl
  · obtain ⟨x, dx, o, p, n, t, rfl, hx, q⟩ := h
    refine ⟨_, pss_one (ps_fld (pv 0) (pe_op op_sub (pv 1) (pe_fld (pv 0) rfl)) rfl), ?_⟩
    refine ⟨_, rfl, _, rfl, x, CH, dx, _, _, rfl, hx, T.cl, T.nO, hdF_o _ _ _, _, _, rfl, rfl, _, rfl, x, CH, dx, _, rfl, hx, T.cl, T.nA, (by show 3 < 1000; decide), ?_⟩
    dsimp only
    rw [show ((o + n : Nat) : Int) - (o : Int) = (n : Int) by omega, hdF_sp]
    exact q
theorem okS_nx {s : RS} {g : Stp} (h : okS s g) : s.nx < 5 ∨ (s.nx = 5 ∧ g = .pad) := by
  cases g with
  | pad => exact .inr ⟨h.1, rfl⟩
  | _ => exact .inl (by have := h.1; omega)
theorem next_step {H : Hp} {r hd w : Addr} {ld : Nat} {s z : RS} {o p : Nat} {t X D : List Nat} {ov : Bool} {ss : List Stp} {Q : VK} {E : XK} (h : RgAt CH CT CR H r hd w ld s o t p ov) (tx : TxOk s o t p) (hR : Runs s ss D z) (hX : t.drop p ++ X = D) (z5 : z.nx = 5) (z8 : z.pos % 8 = 0) (hov : ov = true → D = [] ∧ ss = [])
    (go : ∀ g ss' D' H', ss = g :: ss' → Oth r hd w H H' → RgAt CH CT CR H' r hd w ld (stS s g) o t (p + (sbS s g).length) ov → TxOk (stS s g) o t (p + (sbS s g).length) → Runs (stS s g) ss' D' z → t.drop (p + (sbS s g).length) ++ X = D' → (ov = true → D' = [] ∧ ss' = []) → Q .non H')
    (stop : ∀ H' p' ov', Oth r hd w H H' → p' ≤ t.length → RgAt CH CT CR H' r hd w ld s o t p' ov' → (X = [] → s = z ∧ p = t.length ∧ ov' = true ∧ ss = []) → (X ≠ [] → ov' = false) → E (.ref CW) none H') : spRgN CH CT CR CW [.ref r] H Q E := by
  cases hR with
  | nil =>
    obtain ⟨h1, h2⟩ := List.append_eq_nil_iff.mp hX
    have hp : p = t.length := by
      have := congrArg List.length h1
      rw [List.length_drop, List.length_nil] at this
      have := tx.le
      omega
    refine .inr ⟨r, hd, w, ld, s, o, p, t, ov, rfl, h, z5, tx, .inr ⟨hp, fun H' k h' => stop H' p _ k tx.le h' (fun _ => ⟨rfl, hp, ?_, rfl⟩) fun n => absurd h2 n⟩⟩
    rw [decide_eq_true z8, Bool.or_true]
  | @cons _ _ g ss' D0 hok q =>
    have ovf : ov = false := by
      cases e : ov with
      | false => rfl
      | true => cases (hov e).2
    have tx2 : p + (sbS s g).length ≤ t.length → TxOk (stS s g) o t (p + (sbS s g).length) := fun l => ⟨l, tx.len, tx.bits, by
      show s.pos + (sbS s g).length = _
      rw [tx.pos]
      omega⟩
    have nov : ov = true → D0 = [] ∧ ss' = [] := fun z => by rw [ovf] at z; cases z
    have xne : t.length - p < (sbS s g).length → X ≠ [] := fun l z => by
      have := congrArg List.length hX
      rw [z, List.append_nil, List.length_drop, List.length_append] at this
      omega
    rcases okS_nx hok with n5 | ⟨n5, rfl⟩
    · refine .inl ⟨s.nx, n5, r, hd, w, ld, s, o, p, t, ov, g, X, D0, rfl, h, rfl, hok, tx, hX, fun l H' k h' => ?_, fun l H' p' k le h' => ?_⟩
      · have l2 : p + (sbS s g).length ≤ t.length := by have := tx.le; omega
        rcases rd_or tx.le hX with ⟨_, _, e2⟩ | ⟨l3, _⟩
        · exact go g ss' D0 H' rfl k h' (tx2 l2) q e2 nov
        · omega
      · exact stop H' p' ov k le h' (fun z => absurd z (xne l)) fun _ => ovf
    · have e1 : (sbS s .pad).length = 1 := rfl
      refine .inr ⟨r, hd, w, ld, s, o, p, t, ov, rfl, h, n5, tx, ?_⟩
      by_cases l : p < t.length
      · rcases rd_or tx.le hX with ⟨_, e2, e3⟩ | ⟨l3, _⟩
        · refine .inl ⟨hok.2, ovf, ⟨t.drop (p + 1), ?_⟩, fun H' k h' => ?_⟩
          · rw [e1] at e2
            have e4 := List.take_append_drop 1 (t.drop p)
            rw [e2, List.drop_drop] at e4
            exact e4.symm
          · rw [← ovf] at h'
            exact go .pad ss' D0 H' rfl k h' (tx2 l) q e3 nov
        · rw [e1] at l3
          omega
      · have hp : p = t.length := by have := tx.le; omega
        refine .inr ⟨hp, fun H' k h' => stop H' p _ k tx.le h' (fun z => absurd z (xne (by rw [e1]; omega))) fun _ => ?_⟩
        rw [decide_eq_false hok.2, Bool.or_false]
        exact ovf
theorem goS_blk (s : RS) (b : Bool) (n : Nat) : (goS s (.blk b n)).whole = s.whole := by
  simp only [goS]
  by_cases h0 : n = 0
  · simp [h0]
  · by_cases h1 : n = 1 <;> simp [h0, h1]
theorem goS_run (s : RS) (l m : Nat) : (goS s (.run l m)).whole = s.whole := by
  simp only [goS]
  by_cases h0 : s.lens.length + m = 284 <;> simp [h0]
theorem okS_whole {s : RS} {g : Stp} : ∃ e, (stS s g).whole = s.whole ++ e := by
  cases g with
  | blk b n => exact ⟨[], by rw [List.append_nil]; exact goS_blk s b n⟩
  | cnt n => exact ⟨[], (List.append_nil _).symm⟩
  | byt k => exact ⟨[k], rfl⟩
  | pend => exact ⟨[], (List.append_nil _).symm⟩
  | run l m => exact ⟨[], by rw [List.append_nil]; exact goS_run s l m⟩
  | itm it =>
    cases it with
    | b k => exact ⟨[k], rfl⟩
    | c m b => exact copyN_pre b m s.whole
  | iend => exact ⟨[], (List.append_nil _).symm⟩
  | pad => exact ⟨[], (List.append_nil _).symm⟩
/-- read on as far as what was heard goes: X is still to be heard -/
def spRgG (CH CT CR : Addr) : Sp := fun vs H Q _ => ∃ (r hd w : Addr) (ld : Nat) (s z : RS) (o p : Nat) (t X D : List Nat) (ov : Bool) (ss : List Stp), vs = [.ref r] ∧ RgAt CH CT CR H r hd w ld s o t p ov ∧ TxOk s o t p ∧ Runs s ss D z ∧ t.drop p ++ X = D ∧ z.nx = 5 ∧ z.pos % 8 = 0 ∧ (ov = true → D = [] ∧ ss = []) ∧
  ∀ H' s' p' ss' D' ov', Oth r hd w H H' → RgAt CH CT CR H' r hd w ld s' o t p' ov' → TxOk s' o t p' → Runs s' ss' D' z → t.drop p' ++ X = D' → (X = [] → s' = z ∧ p' = t.length ∧ ov' = true ∧ ss' = []) → (X ≠ [] → ov' = false) → (∃ e, s'.whole = s.whole ++ e) → Q .non H'
theorem ok_rgG (T : RgTxt K mg CR rI rHear rTold rMany rOver rBits rGo rNext rBlk rCnt rPln rRun rTake rTrees rItem rRoom rEnd rRest) (TH : HdTxt K mg CH fI fH fB fR fG fN fL) (TW : WaTxt K mg CW) (eW : PySem.W.exmOne K (.ref CW) (.ref CW) = some true) {fd fdR fdN fdG : FuncData} {j k1 k2 k3 : Nat} (F : Fun K "go_on" "Reading.go_on" sRgGo rGo fd)
    (GR : FnOk P w K mg base CX0 k1 fR fdR ["self"] (spHdR CH)) (bR : Binds K fdR ["self"] []) (l1 : k1 ≤ j) (GN : FnOk P w K mg base (L2N.CX P w) k2 rNext fdN ["self"] (spRgN CH CT CR CW)) (bN : Binds K fdN ["self"] []) (l2 : k2 ≤ j)
    (GG : L2H.FnH P w K mg base CX0 k3 fG fdG ["self", "many"] (spHdG CH)) (bG : Binds K fdG ["self", "many"] []) (l3 : k3 ≤ j) :
    FnOk P w K mg base CX0 (j + 1) rGo fd ["self"] (spRgG CH CT CR) := by
  refine F.ok scRgG (fun vs H Q E h => ?_) (fun cdv A outer s H vs Q E hr h => ?_)
  · obtain ⟨r, hd, w, ld, s, z, o, p, t, X, D, ov, ss, rfl, _⟩ := h
    rfl
  · obtain ⟨r, hd, w, ld, st, z, o, p, t, X, D, ov, ss, rfl, ⟨dx, dh, ln, vL, vB, vT, R⟩, tx', hR, hX, z5, z8, hov, q⟩ := h
    refine ⟨_, pss_cons (ps_set (i := 1) scRgG.nd rfl (.inl rfl) (pe_meth0 (pe_fld (pv 0) rfl) TH.cl TH.mR GR (hr.mono l1) bR .nil pass0))
      (pss_one (L2N.ps_try_fst (tb := fun W => tWhile (tB (tC (.bl true))) (tSeq (tDrop (L2N.tMeth0S CR "read_next" (spRgN CH CT CR CW) (WE W) (tVar 0))) (tAsg (tMeth CH "many_read" (spHdR CH) [] E0 (tFld K (tVar 0) "_heard") tNil) (gName 1))))
        (ts := fun _ _ _ => tDrop (L2H.tMethH CH "go_back" (spHdG CH) (fun _ => E0) (tFld K (tVar 0) "_heard") (tCons (tVar 1) tNil)))
        rfl rfl ⟨rfl, by decide, .inl TW.gC⟩
        (fun W pn xe tk hp => pss_one (ps_while hp (pt_val pe_bl) (pss_cons (ps_expr (by exact (L2N.pe_meth0S (pv 0) T.cl T.mNext GN (hr.mono l2) bN (fun σ => L2N.passAt tk σ)))) (pss_one (ps_set (i := 1) scRgG.nd rfl (.inl rfl) (by exact (pe_meth0 (pe_fld (pv 0) rfl) TH.cl TH.mR GR (hr.mono l1) bR .nil pass0)))))))
        (fun a oe cls d pn hz hf => pss_one (ps_expr (by exact (L2H.pe_methH (pe_fld (pv 0) rfl) TH.cl TH.mG GG ⟨(hr.mono l3).dp, (hr.mono l3).un⟩ ⟨(a, oe), ⟨rfl, by obtain ⟨fv, e⟩ := hf; exact ⟨fv, e, hz.2.2 fv e⟩⟩, List.mem_cons_self ..⟩ bG (fun σ _ _ _ _ _ _ z => z.elim) (pa_cons (pv 1) pa_nil))))))), ?_⟩
    refine ⟨_, rfl, r, CR, dx, _, _, rfl, R.r_, T.cl, T.nH, rgF_hd _ _ _ _ _ _ _ _ _ _ _ _, hd, dh, _, rfl, R.h_, hdF_no', hd, dh, o, p, t, rfl, R.h_, ?_⟩
    dsimp only [gName]
    obtain ⟨W, hW⟩ : ∃ W : Nat → L2.St → Hp → Prop, W = fun m σ H' => ∃ s1 p1 ss1 D1, m = List.length ss1 ∧ σ = [some (V.ref r), some (.int ((o + p1 : Nat) : Int)), none] ∧ Oth r hd w H H' ∧ RgAt CH CT CR H' r hd w ld s1 o t p1 ov ∧ TxOk s1 o t p1 ∧ Runs s1 ss1 D1 z ∧ t.drop p1 ++ X = D1 ∧ (ov = true → D1 = [] ∧ ss1 = []) ∧ ∃ e, s1.whole = st.whole ++ e := ⟨_, rfl⟩
    refine ⟨W, ⟨ss.length, by rw [hW]; exact ⟨st, p, ss, D, rfl, rfl, .refl H, ⟨dx, dh, ln, vL, vB, vT, R⟩, tx', hR, hX, hov, [], (List.append_nil _).symm⟩⟩, fun m σ H1 h1 => ?_⟩
    rw [hW] at h1
    obtain ⟨s1, p1, ss1, D1, rfl, rfl, k1, h1, tx1, hR1, hX1, hov1, we, hwe⟩ := h1
    refine ⟨_, rfl, ?_⟩
    refine iteT ⟨fun σ' H' => ∃ m', m' < ss1.length ∧ W m' σ' H', fun σ' H' h => h, ?_⟩
    obtain ⟨dx1, dh1, ln1, vL1, vB1, vT1, R1⟩ := id h1
    refine ⟨_, rfl, r, dx1, _, rfl, R1.r_, rgF_no', ?_⟩
    refine next_step h1 tx1 hR1 hX1 z5 z8 hov1 (fun g ss' D' H' e k h' tx2 hR2 hX2 hov2 => ?_) (fun H' p' ov' k le h' c1 c2 => ?_)
    · obtain ⟨dx2, dh2, ln2, vL2, vB2, vT2, R2⟩ := id h'
      refine ⟨_, rfl, r, CR, dx2, _, _, rfl, R2.r_, T.cl, T.nH, rgF_hd _ _ _ _ _ _ _ _ _ _ _ _, hd, dh2, _, rfl, R2.h_, hdF_no', hd, dh2, o, _, t, rfl, R2.h_, ?_⟩
      refine ⟨ss'.length, by rw [e]; exact Nat.lt_succ_self _, ?_⟩
      rw [hW]
      exact ⟨_, _, ss', D', rfl, rfl, k1.trans k, h', tx2, hR2, hX2, hov2, by
        obtain ⟨e2, he2⟩ := okS_whole (s := s1) (g := g)
        exact ⟨we ++ e2, by rw [he2, hwe, List.append_assoc]⟩⟩
    · obtain ⟨dx2, dh2, ln2, vL2, vB2, vT2, R2⟩ := h'
      refine ⟨eW, fun a na => ?_⟩
      refine ⟨_, rfl, r, CR, dx2, _, _, rfl, R2.r_, T.cl, T.nH, rgF_hd _ _ _ _ _ _ _ _ _ _ _ _, hd, dh2, _, rfl, R2.h_, hdF_no', _, rfl, hd, dh2, o, p', p1, t, rfl, R2.h_, ?_⟩
      exact q _ s1 p1 ss1 D1 ov' ((k1.trans k).trans (.h H' _)) ⟨dx2, dh2, ln2, vL2, vB2, vT2, R2.setH o t p1⟩ tx1 hR1 hX1 c1 c2 ⟨we, hwe⟩
end
end K7

namespace K7
open PySem PySem.Spec PyProof.Rows L2 SBX
open K2 (wAt coinsL)
/-! ### Reading: __init__, hear_piece and what it tells -/
theorem up_ne {H : Hp} {x b : Addr} {o u : HO} (n : b ≠ x) (h : H b = some u) : (upd H x o) b = some u := by rw [upd_ne n]; exact h
theorem scRgA : FnScope ["self", "ahead"] ["self", "ahead"] (defScope sRgInit) := ⟨rfl, rfl, rfl, by decide +kernel, rfl, by decide +kernel, by decide +kernel⟩
section
variable {P : Program} {w : World} {K : PySem.W.Frag} {mg : Str → Option Value} {base : Heap} {C CH CT CW CR fI fH fB fR fG fN fL fTI pI pL pB : Addr}
variable {rI rHear rTold rMany rOver rBits rGo rNext rBlk rCnt rPln rRun rTake rTrees rItem rRoom rEnd rRest : Addr}
def rs0 (lead : List Nat) : RS := ⟨0, false, 0, [], [], [], lead, 0⟩
def spRgA (CH CT CR : Addr) : Sp := fun vs H Q _ => ∃ (x dx : Addr) (lead : List Nat), vs = [.ref x, .byt (byB lead)] ∧ H x = some (.ins CR dx []) ∧ (∀ k ∈ lead, k < 256) ∧ lead.length ≤ 5000 ∧
  ∀ H' hd w, (∀ b o, b ≠ x → H b = some o → H' b = some o) → H hd = none → H w = none → RgAt CH CT CR H' x hd w lead.length (rs0 lead) 0 [] 0 false → Q .non H'
theorem ok_rgA (T : RgTxt K mg CR rI rHear rTold rMany rOver rBits rGo rNext rBlk rCnt rPln rRun rTake rTrees rItem rRoom rEnd rRest) (TH : HdTxt K mg CH fI fH fB fR fG fN fL) {fd fdI : FuncData} {j k1 : Nat} {t1 : Tok} (F : Fun K "__init__" "Reading.__init__" sRgInit rI fd)
    (GI : FnOk P w K mg base CX0 k1 fI fdI ["self"] (spHdI CH)) (bI : Binds K fdI ["self"] []) (l1 : k1 + 1 ≤ j) (c1 : mg "NEXT_BLOCK" = some (.int 0 t1)) (m2 : mg "len" = none) (m4 : mg "list" = none) :
    FnOk P w K mg base CX0 (j + 1) rI fd ["self", "ahead"] (spRgA CH CT CR) := by
  refine F.ok scRgA (fun vs H Q E h => ?_) (fun cdv A outer s H vs Q E hr h => ?_)
  · obtain ⟨x, dx, lead, rfl, _⟩ := h
    rfl
  · obtain ⟨x, dx, lead, rfl, hx, hk0, hl0, q⟩ := h
    have hz := PySem.sizeLine_eq
    refine ⟨_, pss_cons (ps_fld (pv 0) (pe_make0 TH.made GI (hr.mono l1) (by rfl) TH.gC bI .nil pass0) rfl)
      (pss_cons (ps_fld (pv 0) (pe_callB call_len (by rfl) m2 PySem.boot_len (pa_cons (pv 1) pa_nil)) rfl)
      (pss_cons (ps_fld (pv 0) (pe_listOfB rfl (by rfl) m4 (pv 1)) rfl)
      (pss_cons (ps_fld (pv 0) (pe_glob (v := .int 0) rfl c1 ⟨_, rfl⟩) rfl)
      (pss_cons (ps_fld (pv 0) pe_bl rfl)
      (pss_cons (ps_fld (pv 0) pe_int rfl)
      (pss_cons (ps_fld (pv 0) (pe_lst pa_nil) rfl)
      (pss_cons (ps_fld (pv 0) pe_non rfl)
      (pss_cons (ps_fld (pv 0) pe_non rfl)
      (pss_cons (ps_fld (pv 0) pe_non rfl)
      (pss_cons (ps_fld (pv 0) pe_bl rfl)
      (pss_one (ps_fld (pv 0) pe_non rfl)))))))))))), ?_⟩
    intro hd dh nh ndh neh
    refine ⟨hd, dh, rfl, upd_same, fun H1 O1 => ⟨rfl, ?_⟩⟩
    have s1 := made_same nh ndh O1.keep
    have hh := O1.at_
    have B1 : Ob x CR dx H H1 [] := ⟨s1 _ _ hx, fun b o _ e => s1 _ _ e⟩
    have nhx : hd ≠ x := fun z => by rw [z, hx] at nh; cases nh
    refine ⟨_, rfl, x, CR, dx, _, rfl, B1.at_, T.cl, T.nH, (by show 0 < 1000; decide), ?_⟩
    have B2 := B1.put (putF "_heard" (.ref hd) [])
    have hh := up_ne (o := .ins CR dx (putF "_heard" (.ref hd) [])) nhx hh
    generalize upd H1 x (.ins CR dx (putF "_heard" (.ref hd) [])) = H2 at *
    refine ⟨_, rfl, _, _, rfl, ⟨(by rw [byB_size]; omega), rfl⟩, ?_⟩
    rw [byB_size]
    refine ⟨_, rfl, x, CR, dx, _, rfl, B2.at_, T.cl, T.nA, (by show 1 < 1000; decide), ?_⟩
    have B3 := B2.put (putF "_ahead" (.int (lead.length : Int)) (putF "_heard" (.ref hd) []))
    have hh := up_ne (o := .ins CR dx (putF "_ahead" (.int (lead.length : Int)) (putF "_heard" (.ref hd) []))) nhx hh
    generalize upd H2 x (.ins CR dx (putF "_ahead" (.int (lead.length : Int)) (putF "_heard" (.ref hd) []))) = H3 at *
    refine ⟨_, rfl, _, rfl, (by rw [byB_size, hz]; omega), fun w nw => ?_⟩
    rw [bi_byB hk0]
    have sw : Same H3 (upd H3 w (.lst (bys lead))) := same_upd nw
    have hw : (upd H3 w (.lst (bys lead))) w = some (.lst (bys lead)) := upd_same
    have nwH := (B3.new nw).2
    have nwx := (B3.new nw).1
    have B3w := B3.same sw
    have hh := sw _ _ hh
    generalize upd H3 w (.lst (bys lead)) = H3w at *
    have B3x := B3w
    refine ⟨_, rfl, x, CR, dx, _, rfl, B3w.at_, T.cl, T.nW, (by show 2 < 1000; decide), ?_⟩
    have B4 := B3w.put (putF "_whole" (.ref w) (putF "_ahead" (.int (lead.length : Int)) (putF "_heard" (.ref hd) [])))
    have hh := up_ne (o := .ins CR dx (putF "_whole" (.ref w) (putF "_ahead" (.int (lead.length : Int)) (putF "_heard" (.ref hd) [])))) nhx hh
    have hw := up_ne (o := .ins CR dx (putF "_whole" (.ref w) (putF "_ahead" (.int (lead.length : Int)) (putF "_heard" (.ref hd) [])))) nwx hw
    generalize upd H3w x (.ins CR dx (putF "_whole" (.ref w) (putF "_ahead" (.int (lead.length : Int)) (putF "_heard" (.ref hd) [])))) = H4 at *
    refine ⟨_, rfl, x, CR, dx, _, rfl, B4.at_, T.cl, T.nN, (by show 3 < 1000; decide), ?_⟩
    have B5 := B4.put (putF "_next" (.int 0) (putF "_whole" (.ref w) (putF "_ahead" (.int (lead.length : Int)) (putF "_heard" (.ref hd) []))))
    have hh := up_ne (o := .ins CR dx (putF "_next" (.int 0) (putF "_whole" (.ref w) (putF "_ahead" (.int (lead.length : Int)) (putF "_heard" (.ref hd) []))))) nhx hh
    have hw := up_ne (o := .ins CR dx (putF "_next" (.int 0) (putF "_whole" (.ref w) (putF "_ahead" (.int (lead.length : Int)) (putF "_heard" (.ref hd) []))))) nwx hw
    generalize upd H4 x (.ins CR dx (putF "_next" (.int 0) (putF "_whole" (.ref w) (putF "_ahead" (.int (lead.length : Int)) (putF "_heard" (.ref hd) []))))) = H5 at *
    refine ⟨_, rfl, x, CR, dx, _, rfl, B5.at_, T.cl, T.nI, (by show 4 < 1000; decide), ?_⟩
    have B6 := B5.put (putF "_is_last" (.bl false) (putF "_next" (.int 0) (putF "_whole" (.ref w) (putF "_ahead" (.int (lead.length : Int)) (putF "_heard" (.ref hd) [])))))
    have hh := up_ne (o := .ins CR dx (putF "_is_last" (.bl false) (putF "_next" (.int 0) (putF "_whole" (.ref w) (putF "_ahead" (.int (lead.length : Int)) (putF "_heard" (.ref hd) [])))))) nhx hh
    have hw := up_ne (o := .ins CR dx (putF "_is_last" (.bl false) (putF "_next" (.int 0) (putF "_whole" (.ref w) (putF "_ahead" (.int (lead.length : Int)) (putF "_heard" (.ref hd) [])))))) nwx hw
    generalize upd H5 x (.ins CR dx (putF "_is_last" (.bl false) (putF "_next" (.int 0) (putF "_whole" (.ref w) (putF "_ahead" (.int (lead.length : Int)) (putF "_heard" (.ref hd) [])))))) = H6 at *
    refine ⟨_, rfl, x, CR, dx, _, rfl, B6.at_, T.cl, T.nF, (by show 5 < 1000; decide), ?_⟩
    have B7 := B6.put (putF "_left" (.int 0) (putF "_is_last" (.bl false) (putF "_next" (.int 0) (putF "_whole" (.ref w) (putF "_ahead" (.int (lead.length : Int)) (putF "_heard" (.ref hd) []))))))
    have hh := up_ne (o := .ins CR dx (putF "_left" (.int 0) (putF "_is_last" (.bl false) (putF "_next" (.int 0) (putF "_whole" (.ref w) (putF "_ahead" (.int (lead.length : Int)) (putF "_heard" (.ref hd) []))))))) nhx hh
    have hw := up_ne (o := .ins CR dx (putF "_left" (.int 0) (putF "_is_last" (.bl false) (putF "_next" (.int 0) (putF "_whole" (.ref w) (putF "_ahead" (.int (lead.length : Int)) (putF "_heard" (.ref hd) []))))))) nwx hw
    generalize upd H6 x (.ins CR dx (putF "_left" (.int 0) (putF "_is_last" (.bl false) (putF "_next" (.int 0) (putF "_whole" (.ref w) (putF "_ahead" (.int (lead.length : Int)) (putF "_heard" (.ref hd) []))))))) = H7 at *
    refine ⟨Nat.zero_le _, fun ln nl => ?_⟩
    have sl : Same H7 (upd H7 ln (.lst [])) := same_upd nl
    have hl : (upd H7 ln (.lst [])) ln = some (.lst []) := upd_same
    have nlx := (B7.new nl).1
    have nlw : ln ≠ w := Ne.symm (ne_of_none hw nl)
    have B7w := B7.same sl
    have hh := sl _ _ hh
    have hw := sl _ _ hw
    generalize upd H7 ln (.lst []) = H7w at *
    refine ⟨_, rfl, x, CR, dx, _, rfl, B7w.at_, T.cl, T.nG, (by show 6 < 1000; decide), ?_⟩
    have B8 := B7w.put (putF "_lengths" (.ref ln) (putF "_left" (.int 0) (putF "_is_last" (.bl false) (putF "_next" (.int 0) (putF "_whole" (.ref w) (putF "_ahead" (.int (lead.length : Int)) (putF "_heard" (.ref hd) [])))))))
    have hh := up_ne (o := .ins CR dx (putF "_lengths" (.ref ln) (putF "_left" (.int 0) (putF "_is_last" (.bl false) (putF "_next" (.int 0) (putF "_whole" (.ref w) (putF "_ahead" (.int (lead.length : Int)) (putF "_heard" (.ref hd) [])))))))) nhx hh
    have hw := up_ne (o := .ins CR dx (putF "_lengths" (.ref ln) (putF "_left" (.int 0) (putF "_is_last" (.bl false) (putF "_next" (.int 0) (putF "_whole" (.ref w) (putF "_ahead" (.int (lead.length : Int)) (putF "_heard" (.ref hd) [])))))))) nwx hw
    have hl := up_ne (o := .ins CR dx (putF "_lengths" (.ref ln) (putF "_left" (.int 0) (putF "_is_last" (.bl false) (putF "_next" (.int 0) (putF "_whole" (.ref w) (putF "_ahead" (.int (lead.length : Int)) (putF "_heard" (.ref hd) [])))))))) nlx hl
    generalize upd H7w x (.ins CR dx (putF "_lengths" (.ref ln) (putF "_left" (.int 0) (putF "_is_last" (.bl false) (putF "_next" (.int 0) (putF "_whole" (.ref w) (putF "_ahead" (.int (lead.length : Int)) (putF "_heard" (.ref hd) [])))))))) = H8 at *
    refine ⟨_, rfl, x, CR, dx, _, rfl, B8.at_, T.cl, T.nL, (by show 7 < 1000; decide), ?_⟩
    have B9 := B8.put (putF "_letters" (.non) (putF "_lengths" (.ref ln) (putF "_left" (.int 0) (putF "_is_last" (.bl false) (putF "_next" (.int 0) (putF "_whole" (.ref w) (putF "_ahead" (.int (lead.length : Int)) (putF "_heard" (.ref hd) []))))))))
    have hh := up_ne (o := .ins CR dx (putF "_letters" (.non) (putF "_lengths" (.ref ln) (putF "_left" (.int 0) (putF "_is_last" (.bl false) (putF "_next" (.int 0) (putF "_whole" (.ref w) (putF "_ahead" (.int (lead.length : Int)) (putF "_heard" (.ref hd) []))))))))) nhx hh
    have hw := up_ne (o := .ins CR dx (putF "_letters" (.non) (putF "_lengths" (.ref ln) (putF "_left" (.int 0) (putF "_is_last" (.bl false) (putF "_next" (.int 0) (putF "_whole" (.ref w) (putF "_ahead" (.int (lead.length : Int)) (putF "_heard" (.ref hd) []))))))))) nwx hw
    have hl := up_ne (o := .ins CR dx (putF "_letters" (.non) (putF "_lengths" (.ref ln) (putF "_left" (.int 0) (putF "_is_last" (.bl false) (putF "_next" (.int 0) (putF "_whole" (.ref w) (putF "_ahead" (.int (lead.length : Int)) (putF "_heard" (.ref hd) []))))))))) nlx hl
    generalize upd H8 x (.ins CR dx (putF "_letters" (.non) (putF "_lengths" (.ref ln) (putF "_left" (.int 0) (putF "_is_last" (.bl false) (putF "_next" (.int 0) (putF "_whole" (.ref w) (putF "_ahead" (.int (lead.length : Int)) (putF "_heard" (.ref hd) []))))))))) = H9 at *
    refine ⟨_, rfl, x, CR, dx, _, rfl, B9.at_, T.cl, T.nB, (by show 8 < 1000; decide), ?_⟩
    have B10 := B9.put (putF "_backs" (.non) (putF "_letters" (.non) (putF "_lengths" (.ref ln) (putF "_left" (.int 0) (putF "_is_last" (.bl false) (putF "_next" (.int 0) (putF "_whole" (.ref w) (putF "_ahead" (.int (lead.length : Int)) (putF "_heard" (.ref hd) [])))))))))
    have hh := up_ne (o := .ins CR dx (putF "_backs" (.non) (putF "_letters" (.non) (putF "_lengths" (.ref ln) (putF "_left" (.int 0) (putF "_is_last" (.bl false) (putF "_next" (.int 0) (putF "_whole" (.ref w) (putF "_ahead" (.int (lead.length : Int)) (putF "_heard" (.ref hd) [])))))))))) nhx hh
    have hw := up_ne (o := .ins CR dx (putF "_backs" (.non) (putF "_letters" (.non) (putF "_lengths" (.ref ln) (putF "_left" (.int 0) (putF "_is_last" (.bl false) (putF "_next" (.int 0) (putF "_whole" (.ref w) (putF "_ahead" (.int (lead.length : Int)) (putF "_heard" (.ref hd) [])))))))))) nwx hw
    have hl := up_ne (o := .ins CR dx (putF "_backs" (.non) (putF "_letters" (.non) (putF "_lengths" (.ref ln) (putF "_left" (.int 0) (putF "_is_last" (.bl false) (putF "_next" (.int 0) (putF "_whole" (.ref w) (putF "_ahead" (.int (lead.length : Int)) (putF "_heard" (.ref hd) [])))))))))) nlx hl
    generalize upd H9 x (.ins CR dx (putF "_backs" (.non) (putF "_letters" (.non) (putF "_lengths" (.ref ln) (putF "_left" (.int 0) (putF "_is_last" (.bl false) (putF "_next" (.int 0) (putF "_whole" (.ref w) (putF "_ahead" (.int (lead.length : Int)) (putF "_heard" (.ref hd) [])))))))))) = H10 at *
    refine ⟨_, rfl, x, CR, dx, _, rfl, B10.at_, T.cl, T.nT, (by show 9 < 1000; decide), ?_⟩
    have B11 := B10.put (putF "_told" (.non) (putF "_backs" (.non) (putF "_letters" (.non) (putF "_lengths" (.ref ln) (putF "_left" (.int 0) (putF "_is_last" (.bl false) (putF "_next" (.int 0) (putF "_whole" (.ref w) (putF "_ahead" (.int (lead.length : Int)) (putF "_heard" (.ref hd) []))))))))))
    have hh := up_ne (o := .ins CR dx (putF "_told" (.non) (putF "_backs" (.non) (putF "_letters" (.non) (putF "_lengths" (.ref ln) (putF "_left" (.int 0) (putF "_is_last" (.bl false) (putF "_next" (.int 0) (putF "_whole" (.ref w) (putF "_ahead" (.int (lead.length : Int)) (putF "_heard" (.ref hd) []))))))))))) nhx hh
    have hw := up_ne (o := .ins CR dx (putF "_told" (.non) (putF "_backs" (.non) (putF "_letters" (.non) (putF "_lengths" (.ref ln) (putF "_left" (.int 0) (putF "_is_last" (.bl false) (putF "_next" (.int 0) (putF "_whole" (.ref w) (putF "_ahead" (.int (lead.length : Int)) (putF "_heard" (.ref hd) []))))))))))) nwx hw
    have hl := up_ne (o := .ins CR dx (putF "_told" (.non) (putF "_backs" (.non) (putF "_letters" (.non) (putF "_lengths" (.ref ln) (putF "_left" (.int 0) (putF "_is_last" (.bl false) (putF "_next" (.int 0) (putF "_whole" (.ref w) (putF "_ahead" (.int (lead.length : Int)) (putF "_heard" (.ref hd) []))))))))))) nlx hl
    generalize upd H10 x (.ins CR dx (putF "_told" (.non) (putF "_backs" (.non) (putF "_letters" (.non) (putF "_lengths" (.ref ln) (putF "_left" (.int 0) (putF "_is_last" (.bl false) (putF "_next" (.int 0) (putF "_whole" (.ref w) (putF "_ahead" (.int (lead.length : Int)) (putF "_heard" (.ref hd) []))))))))))) = H11 at *
    refine ⟨_, rfl, x, CR, dx, _, rfl, B11.at_, T.cl, T.nO, (by show 10 < 1000; decide), ?_⟩
    have B12 := B11.put (putF "_over" (.bl false) (putF "_told" (.non) (putF "_backs" (.non) (putF "_letters" (.non) (putF "_lengths" (.ref ln) (putF "_left" (.int 0) (putF "_is_last" (.bl false) (putF "_next" (.int 0) (putF "_whole" (.ref w) (putF "_ahead" (.int (lead.length : Int)) (putF "_heard" (.ref hd) [])))))))))))
    have hh := up_ne (o := .ins CR dx (putF "_over" (.bl false) (putF "_told" (.non) (putF "_backs" (.non) (putF "_letters" (.non) (putF "_lengths" (.ref ln) (putF "_left" (.int 0) (putF "_is_last" (.bl false) (putF "_next" (.int 0) (putF "_whole" (.ref w) (putF "_ahead" (.int (lead.length : Int)) (putF "_heard" (.ref hd) [])))))))))))) nhx hh
    have hw := up_ne (o := .ins CR dx (putF "_over" (.bl false) (putF "_told" (.non) (putF "_backs" (.non) (putF "_letters" (.non) (putF "_lengths" (.ref ln) (putF "_left" (.int 0) (putF "_is_last" (.bl false) (putF "_next" (.int 0) (putF "_whole" (.ref w) (putF "_ahead" (.int (lead.length : Int)) (putF "_heard" (.ref hd) [])))))))))))) nwx hw
    have hl := up_ne (o := .ins CR dx (putF "_over" (.bl false) (putF "_told" (.non) (putF "_backs" (.non) (putF "_letters" (.non) (putF "_lengths" (.ref ln) (putF "_left" (.int 0) (putF "_is_last" (.bl false) (putF "_next" (.int 0) (putF "_whole" (.ref w) (putF "_ahead" (.int (lead.length : Int)) (putF "_heard" (.ref hd) [])))))))))))) nlx hl
    generalize upd H11 x (.ins CR dx (putF "_over" (.bl false) (putF "_told" (.non) (putF "_backs" (.non) (putF "_letters" (.non) (putF "_lengths" (.ref ln) (putF "_left" (.int 0) (putF "_is_last" (.bl false) (putF "_next" (.int 0) (putF "_whole" (.ref w) (putF "_ahead" (.int (lead.length : Int)) (putF "_heard" (.ref hd) [])))))))))))) = H12 at *
    refine ⟨_, rfl, x, CR, dx, _, rfl, B12.at_, T.cl, T.nS, (by show 11 < 1000; decide), ?_⟩
    have B13 := B12.put (putF "_slip" (.non) (putF "_over" (.bl false) (putF "_told" (.non) (putF "_backs" (.non) (putF "_letters" (.non) (putF "_lengths" (.ref ln) (putF "_left" (.int 0) (putF "_is_last" (.bl false) (putF "_next" (.int 0) (putF "_whole" (.ref w) (putF "_ahead" (.int (lead.length : Int)) (putF "_heard" (.ref hd) []))))))))))))
    have hh := up_ne (o := .ins CR dx (putF "_slip" (.non) (putF "_over" (.bl false) (putF "_told" (.non) (putF "_backs" (.non) (putF "_letters" (.non) (putF "_lengths" (.ref ln) (putF "_left" (.int 0) (putF "_is_last" (.bl false) (putF "_next" (.int 0) (putF "_whole" (.ref w) (putF "_ahead" (.int (lead.length : Int)) (putF "_heard" (.ref hd) []))))))))))))) nhx hh
    have hw := up_ne (o := .ins CR dx (putF "_slip" (.non) (putF "_over" (.bl false) (putF "_told" (.non) (putF "_backs" (.non) (putF "_letters" (.non) (putF "_lengths" (.ref ln) (putF "_left" (.int 0) (putF "_is_last" (.bl false) (putF "_next" (.int 0) (putF "_whole" (.ref w) (putF "_ahead" (.int (lead.length : Int)) (putF "_heard" (.ref hd) []))))))))))))) nwx hw
    have hl := up_ne (o := .ins CR dx (putF "_slip" (.non) (putF "_over" (.bl false) (putF "_told" (.non) (putF "_backs" (.non) (putF "_letters" (.non) (putF "_lengths" (.ref ln) (putF "_left" (.int 0) (putF "_is_last" (.bl false) (putF "_next" (.int 0) (putF "_whole" (.ref w) (putF "_ahead" (.int (lead.length : Int)) (putF "_heard" (.ref hd) []))))))))))))) nlx hl
    refine q _ hd w B13.keep nh nwH ⟨dx, dh, ln, .non, .non, .non, ⟨?_, hh, hw, hl, nlw, .inl rfl, fun z => nomatch z⟩⟩
    rw [B13.at_]
    exact congrArg (fun f => some (HO.ins CR dx f)) (rgF_put hd lead.length w 0 false 0 ln .non .non .non false .non)
end
end K7

namespace K7
open PySem PySem.Spec PyProof.Rows L2 SBX
open K2 (wAt coinsL)
/-! ### Reading between pieces -/
theorem Runs.whole {a z : RS} {r : List Stp} {D : List Nat} (h : Runs a r D z) : ∃ e, z.whole = a.whole ++ e := by
  induction h with
  | nil s => exact ⟨[], (List.append_nil _).symm⟩
  | @cons s z g r D hok _ ih =>
    obtain ⟨e1, h1⟩ := okS_whole (s := s) (g := g)
    obtain ⟨e2, h2⟩ := ih
    exact ⟨e1 ++ e2, by rw [h2, h1, List.append_assoc]⟩
structure ZOk (z : RS) (lead nums : List Nat) : Prop where
  nx : z.nx = 5
  pos8 : z.pos % 8 = 0
  pos : z.pos ≤ 80000
  whole : z.whole = lead ++ nums
  lt : ∀ k ∈ lead ++ nums, k < 256
  len : (lead ++ nums).length ≤ 9000
/-- X is still to be heard, kn is known -/
def Bet (CH CT CR : Addr) (H : Hp) (r hd w : Addr) (lead : List Nat) (z : RS) (kn X : List Nat) : Prop := ∃ (s : RS) (o p : Nat) (t D : List Nat) (ov : Bool) (ss : List Stp), RgAt CH CT CR H r hd w lead.length s o t p ov ∧ TxOk s o t p ∧ Runs s ss D z ∧ t.drop p ++ X = D ∧
  (X = [] → s = z ∧ p = t.length ∧ ov = true ∧ ss = []) ∧ (X ≠ [] → ov = false) ∧ s.whole = lead ++ kn
theorem Bet.pre {CH CT CR : Addr} {H : Hp} {r hd w : Addr} {lead nums kn X : List Nat} {z : RS} (h : Bet CH CT CR H r hd w lead z kn X) (hz : ZOk z lead nums) : kn = nums.take kn.length ∧ kn.length ≤ nums.length ∧ (X = [] → kn = nums) := by
  obtain ⟨s, o, p, t, D, ov, ss, _, _, hR, _, h0, _, hk⟩ := h
  obtain ⟨e, he⟩ := hR.whole
  rw [hz.whole, hk, List.append_assoc] at he
  have he := List.append_cancel_left he
  refine ⟨by rw [he, List.take_left], by rw [he, List.length_append]; omega, fun x0 => ?_⟩
  have := (h0 x0).1
  rw [this, hz.whole] at hk
  exact (List.append_cancel_left hk).symm
theorem Bet.same {CH CT CR : Addr} {H H' : Hp} {r hd w : Addr} {lead kn X : List Nat} {z : RS} (h : Bet CH CT CR H r hd w lead z kn X) (sm : Same H H') : Bet CH CT CR H' r hd w lead z kn X := by
  obtain ⟨s, o, p, t, D, ov, ss, ⟨dx, dh, ln, vL, vB, vT, R⟩, h2⟩ := h
  exact ⟨s, o, p, t, D, ov, ss, ⟨dx, dh, ln, vL, vB, vT, R.same sm⟩, h2⟩
theorem scRgH : FnScope ["self", "piece"] ["self", "piece"] (defScope sRgHear) := ⟨rfl, rfl, rfl, by decide +kernel, rfl, by decide +kernel, by decide +kernel⟩
theorem scRgTo : FnScope ["self"] ["self"] (defScope sRgTold) := ⟨rfl, rfl, rfl, by decide +kernel, rfl, by decide +kernel, by decide +kernel⟩
theorem scRgMa : FnScope ["self"] ["self"] (defScope sRgBytes) := ⟨rfl, rfl, rfl, by decide +kernel, rfl, by decide +kernel, by decide +kernel⟩
theorem scRgOv : FnScope ["self"] ["self"] (defScope sRgOver) := ⟨rfl, rfl, rfl, by decide +kernel, rfl, by decide +kernel, by decide +kernel⟩
theorem scRgBi : FnScope ["self"] ["self"] (defScope sRgBits) := ⟨rfl, rfl, rfl, by decide +kernel, rfl, by decide +kernel, by decide +kernel⟩
section
variable {P : Program} {w : World} {K : PySem.W.Frag} {mg : Str → Option Value} {base : Heap} {C CH CT CW CR fI fH fB fR fG fN fL fTI pI pL pB : Addr}
variable {rI rHear rTold rMany rOver rBits rGo rNext rBlk rCnt rPln rRun rTake rTrees rItem rRoom rEnd rRest : Addr}
def spRgH (CH CT CR : Addr) : Sp := fun vs H Q _ => ∃ (r hd w : Addr) (lead nums kn ks X : List Nat) (z : RS), vs = [.ref r, .byt (byB ks)] ∧ Bet CH CT CR H r hd w lead z kn (b8 ks ++ X) ∧ ZOk z lead nums ∧ (∀ k ∈ ks, k < 256) ∧
  ∀ H' kn', Oth r hd w H H' → Bet CH CT CR H' r hd w lead z kn' X → Q .non H'
theorem ok_rgH (T : RgTxt K mg CR rI rHear rTold rMany rOver rBits rGo rNext rBlk rCnt rPln rRun rTake rTrees rItem rRoom rEnd rRest) (TH : HdTxt K mg CH fI fH fB fR fG fN fL) {fd fdH fdG : FuncData} {j k1 k2 : Nat} (F : Fun K "hear_piece" "Reading.hear_piece" sRgHear rHear fd)
    (GH : FnOk P w K mg base CX0 k1 fH fdH ["self", "piece"] (spHdH CH)) (bH : Binds K fdH ["self", "piece"] []) (l1 : k1 ≤ j) (GG : FnOk P w K mg base CX0 k2 rGo fdG ["self"] (spRgG CH CT CR)) (bG : Binds K fdG ["self"] []) (l2 : k2 ≤ j) :
    FnOk P w K mg base CX0 (j + 1) rHear fd ["self", "piece"] (spRgH CH CT CR) := by
  refine F.ok scRgH (fun vs H Q E h => ?_) (fun cdv A outer s H vs Q E hr h => ?_)
  · obtain ⟨r, hd, w, lead, nums, kn, ks, X, z, rfl, _⟩ := h
    rfl
  · obtain ⟨r, hd, w, lead, nums, kn, ks, X, z, rfl, ⟨st, o, p, t, D, ov, ss, ⟨dx, dh, ln, vL, vB, vT, R⟩, tx, hR, hX, c1, c2, hkn⟩, hz, hk, q⟩ := h
    refine ⟨_, pss_cons (ps_if (pt_cmpR op_isN (pe_fld (pv 0) rfl) pe_non (nomark _)) (pss_cons (ps_expr (pe_meth (pe_fld (pv 0) rfl) TH.cl TH.mH GH (hr.mono l1) bH .nil pass0 (pa_cons (pv 1) pa_nil))) (pss_one (ps_expr (pe_meth0 (pv 0) T.cl T.mGo GG (hr.mono l2) bG .nil pass0)))) pss_nil)
      (pss_one (ps_if (pt_cmpR op_notN (pe_fld (pv 0) rfl) pe_non (nomark _)) (pss_one ps_never) pss_nil)), ?_⟩
    have hDl : D.length ≤ 80000 := by
      have := hR.pos
      have := hz.pos
      omega
    have hXl := congrArg List.length hX
    rw [List.length_append, List.length_append, List.length_drop, b8_len] at hXl
    have tl := tx.le
    refine ⟨_, rfl, r, CR, dx, _, _, rfl, R.r_, T.cl, T.nS, rgF_sp _ _ _ _ _ _ _ _ _ _ _ _, rfl, _, rfl, iteT ?_⟩
    refine ⟨_, rfl, r, CR, dx, _, _, rfl, R.r_, T.cl, T.nH, rgF_hd _ _ _ _ _ _ _ _ _ _ _ _, hd, dh, _, rfl, R.h_, hdF_no', _, rfl, hd, dh, o, p, t, ks, rfl, R.h_, hk, by omega, by have := tx.len; omega, fun H1 O1 => ?_⟩
    have T3 := R.three
    have k1 : Oth r hd w H H1 := fun b u _ n _ e => O1.keep b u n e
    have R1 : RgP CH CT CR H1 r hd w dx dh ln vL vB vT lead.length st (o + p) (t.drop p ++ b8 ks) 0 ov := ⟨O1.keep _ _ T3.rh R.r_, O1.at_, O1.keep _ _ T3.hw.symm R.w_, T3.lst k1 R.nlw R.l_, R.nlw, R.told.oth T3 k1, R.trs.oth T3 k1⟩
    have tx1 : TxOk st (o + p) (t.drop p ++ b8 ks) 0 := ⟨Nat.zero_le _, (by rw [List.length_append, List.length_drop, b8_len]; omega), fun c hc => (by
      rcases List.mem_append.mp hc with hc | hc
      · exact tx.bits c (List.mem_of_mem_drop hc)
      · unfold b8 at hc
        obtain ⟨l, h1, h2⟩ := List.mem_flatten.mp hc
        obtain ⟨k, _, rfl⟩ := List.mem_map.mp h1
        exact bits_are k 8 c h2), (by rw [tx.pos]; rfl)⟩
    have hov : ov = true → D = [] ∧ ss = [] := fun e => by
      by_cases x0 : b8 ks ++ X = []
      · obtain ⟨_, h2, _, h4⟩ := c1 x0
        exact ⟨by rw [← hX, x0, h2, List.drop_length]; rfl, h4⟩
      · rw [c2 x0] at e
        cases e
    refine ⟨_, rfl, r, dx, _, rfl, R1.r_, rgF_no', r, hd, w, lead.length, st, z, _, 0, _, X, D, ov, ss, rfl, ⟨dx, dh, ln, vL, vB, vT, R1⟩, tx1, hR, (by rw [List.drop_zero, List.append_assoc]; exact hX), hz.nx, hz.pos8, hov, fun H2 s2 p2 ss2 D2 ov2 k2 h2 tx2 hR2 hX2 c3 c4 hgrow => ?_⟩
    obtain ⟨dx2, dh2, ln2, vL2, vB2, vT2, R2⟩ := id h2
    refine ⟨_, rfl, r, CR, dx2, _, _, rfl, R2.r_, T.cl, T.nS, rgF_sp _ _ _ _ _ _ _ _ _ _ _ _, rfl, _, rfl, iteF ?_⟩
    -- what is known grows
    have hpre : ∃ kn', s2.whole = lead ++ kn' := by
      obtain ⟨e, he⟩ := hgrow
      exact ⟨kn ++ e, by rw [he, hkn, List.append_assoc]⟩
    obtain ⟨kn', hkn'⟩ := hpre
    exact q H2 kn' (k1.trans k2) ⟨s2, _, p2, _, D2, ov2, ss2, h2, tx2, hR2, hX2, c3, c4, hkn'⟩
end
end K7


namespace K7
open PySem PySem.Spec PyProof.Rows L2
theorem u8_inj : ∀ {a b : List Nat}, (∀ k ∈ a, k < 256) → (∀ k ∈ b, k < 256) → a.map Nat.toUInt8 = b.map Nat.toUInt8 → a = b
  | [], [], _, _, _ => rfl
  | [], _ :: _, _, _, h => by cases h
  | _ :: _, [], _, _, h => by cases h
  | x :: a, y :: b, ha, hb, h => by
    have h1 : x.toUInt8 :: a.map Nat.toUInt8 = y.toUInt8 :: b.map Nat.toUInt8 := h
    injection h1 with h1 h2
    have hx := ha x (List.mem_cons_self ..)
    have hy := hb y (List.mem_cons_self ..)
    have e1 := congrArg UInt8.toNat h1
    have e2 : x = y := by
      have ex : x.toUInt8.toNat = x % 256 := UInt8.toNat_ofNat'
      have ey : y.toUInt8.toNat = y % 256 := UInt8.toNat_ofNat'
      omega
    rw [e2, u8_inj (fun k m => ha k (List.mem_cons_of_mem _ m)) (fun k m => hb k (List.mem_cons_of_mem _ m)) h2]
theorem byB_inj {a b : List Nat} (ha : ∀ k ∈ a, k < 256) (hb : ∀ k ∈ b, k < 256) (h : byB a = byB b) : a = b := u8_inj ha hb (congrArg Array.toList h)
def sliceN (e : List Nat) (i m : Nat) : List Nat := (e.drop i).take m
theorem slice_len (e : List Nat) (i m : Nat) : (sliceN e i m).length = min m (e.length - i) := by
  unfold sliceN
  rw [List.length_take, List.length_drop]
theorem picked_slice (e : List Nat) (i m : Nat) (h : i ≤ e.length) : PySem.W.KBy.picked (byB e) (some (i : Int)) (some ((i + m : Nat) : Int)) = byB (sliceN e i m) := by
  rw [PySem.W.KBc.picked_eq]
  show (((byB e).toList.drop (clipAt (byB e).size (i : Int))).take (clipAt (byB e).size ((i + m : Nat) : Int) - clipAt (byB e).size (i : Int))).toArray = _
  rw [clipAt_nat, clipAt_nat, byB_size, Nat.min_eq_left h]
  unfold byB sliceN
  show (((e.map Nat.toUInt8).drop i).take (min (i + m) e.length - i)).toArray = (((e.drop i).take m).map Nat.toUInt8).toArray
  rw [← List.map_drop, ← List.map_take]
  congr 2
  by_cases q : i + m ≤ e.length
  · rw [Nat.min_eq_left q, Nat.add_sub_cancel_left]
  · rw [Nat.min_eq_right (by omega), List.take_of_length_le (by rw [List.length_drop]; exact Nat.le_refl _), List.take_of_length_le (by rw [List.length_drop]; omega)]
theorem slice_lt {e : List Nat} (hk : ∀ k ∈ e, k < 256) {i m : Nat} : ∀ k ∈ sliceN e i m, k < 256 := fun k h => hk k (List.mem_of_mem_drop (List.mem_of_mem_take h))
theorem byB_get {e : List Nat} (hk : ∀ k ∈ e, k < 256) (i : Nat) : ((e.map Nat.toUInt8).getD i 0).toNat = e.getD i 0 := by
  rw [List.getD_eq_getElem?_getD, List.getD_eq_getElem?_getD, List.getElem?_map]
  cases q : e[i]? with
  | none => rfl
  | some x =>
    have := hk x (List.mem_of_getElem? q)
    show (x.toUInt8).toNat = x
    have ex : x.toUInt8.toNat = x % 256 := UInt8.toNat_ofNat'
    omega
theorem byB_ext (e : List Nat) (i m : Nat) : (byB e).extract i (i + m) = byB (sliceN e i m) := by
  unfold byB sliceN
  apply Array.ext'
  rw [Array.toList_extract]
  show (e.map Nat.toUInt8).extract i (i + m) = ((e.drop i).take m).map Nat.toUInt8
  rw [List.extract_eq_take_drop, Nat.add_sub_cancel_left, List.map_take, List.map_drop]
theorem ext_is {e s : List Nat} (hk : ∀ k ∈ e, k < 256) (hs : ∀ k ∈ s, k < 256) (i : Nat) : ((byB e).extract i (i + (byB s).size) == byB s) = decide (sliceN e i s.length = s) := by
  rw [byB_size, byB_ext]
  by_cases q : sliceN e i s.length = s
  · rw [q, decide_eq_true rfl]
    exact beq_self_eq_true _
  · rw [decide_eq_false q]
    refine Bool.eq_false_iff.mpr fun z => q (byB_inj (slice_lt hk) hs ?_)
    exact eq_of_beq z
/-- what find tells -/
structure FndIs (e s : List Nat) (lo hi : Nat) (o : Option Nat) : Prop where
  no : o = none → ∀ i, lo ≤ i → i + s.length ≤ min e.length hi → sliceN e i s.length ≠ s
  yes : ∀ i, o = some i → lo ≤ i ∧ i + s.length ≤ min e.length hi ∧ sliceN e i s.length = s ∧ ∀ j, lo ≤ j → j < i → sliceN e j s.length ≠ s
structure RfndIs (e s : List Nat) (lo hi : Nat) (o : Option Nat) : Prop where
  no : o = none → ∀ i, lo ≤ i → i + s.length ≤ min e.length hi → sliceN e i s.length ≠ s
  yes : ∀ i, o = some i → lo ≤ i ∧ i + s.length ≤ min e.length hi ∧ sliceN e i s.length = s ∧ ∀ j, i < j → j + s.length ≤ min e.length hi → sliceN e j s.length ≠ s
end K7

namespace K7
open PySem PySem.Spec PyProof.Rows L2 SBX
open K2 (wAt coinsL)
/-! ### what a reading tells; Reader; opened -/
theorem rg_step {n c : Nat} (h : n ≤ 100000) (hc : 1 ≤ c) (hc2 : c ≤ 1000) : RgC 0 (n : Int) (c : Int) ((n + c - 1) / c) := by
  have e : Builtin.Range.rangeSize 0 (n : Int) (c : Int) = (((n + c - 1) / c : Nat) : Int) := by
    unfold Builtin.Range.rangeSize
    rw [if_pos (show (c : Int) > 0 by omega)]
    by_cases q : n = 0
    · subst q
      rw [if_neg (by decide)]
      have : (0 + c - 1) / c = 0 := Nat.div_eq_of_lt (by omega)
      rw [this]
      rfl
    · rw [if_pos (by omega)]
      have e1 : (n : Int) - 0 - 1 = ((n - 1 : Nat) : Int) := by omega
      rw [e1, ← Int.natCast_ediv]
      have e2 : n + c - 1 = (n - 1) + c := by omega
      rw [e2, Nat.add_div_right _ (by omega)]
      rfl
  have hle : (n + c - 1) / c ≤ 101000 := Nat.le_trans (Nat.div_le_self _ _) (by omega)
  generalize (n + c - 1) / c = m at *
  refine ⟨by omega, by omega, ?_, e⟩
  unfold Builtin.Range.small
  rw [e]
  simp [Builtin.Range.rangeFitsLong]
  refine ⟨by omega, .inr ?_⟩
  rw [if_pos (by omega)]
  omega
abbrev NOp : List Str := ["stream", "ahead", "reading", "at"]
theorem scOp : FnScope NOp ["stream", "ahead"] (defScope sOpened) := ⟨rfl, rfl, rfl, by decide +kernel, rfl, by decide +kernel, by decide +kernel⟩
theorem kb_op {K : PySem.W.Frag} {f : Addr} {fd : FuncData} (F : Fun K "opened" "opened" sOpened f fd) : KBn K fd ["stream", "ahead"] 1 ["ahead"] (fun us ws => us ++ ws) (fun vs zs => vs ++ zs) := by
  obtain ⟨oc, od, kV, doc, pm, an, cdv, ct, osl, rfl, lk, hcd⟩ := F.ex
  refine ⟨fun s us ws X h1 h2 => ?_, fun r1 r2 => r1.append r2⟩
  match us, h1, ws, h2 with
  | [u], _, [x], _ => exact BindsTo.of_eq rfl
section
variable {P : Program} {w : World} {K : PySem.W.Frag} {mg : Str → Option Value} {base : Heap} {C CH CT CW CR fI fH fB fR fG fN fL fTI pI pL pB : Addr}
variable {rI rHear rTold rMany rOver rBits rGo rNext rBlk rCnt rPln rRun rTake rTrees rItem rRoom rEnd rRest : Addr}
def spRgTo (CH CT CR : Addr) : Sp := fun vs H Q _ => ∃ (r hd w : Addr) (lead nums kn X : List Nat) (z : RS), vs = [.ref r] ∧ Bet CH CT CR H r hd w lead z kn X ∧ ZOk z lead nums ∧ ∀ H', Same H H' → Q (.byt (byB kn)) H'
theorem ok_rgTo (T : RgTxt K mg CR rI rHear rTold rMany rOver rBits rGo rNext rBlk rCnt rPln rRun rTake rTrees rItem rRoom rEnd rRest) {fd : FuncData} {j : Nat} (F : Fun K "told_bytes" "Reading.told_bytes" sRgTold rTold fd) (m6 : mg "bytes" = none) :
    FnOk P w K mg base CX0 (j + 1) rTold fd ["self"] (spRgTo CH CT CR) := by
  refine F.ok scRgTo (fun vs H Q E h => ?_) (fun cdv A outer s H vs Q E hr h => ?_)
  · obtain ⟨r, hd, w, lead, nums, kn, X, z, rfl, _⟩ := h
    rfl
  · obtain ⟨r, hd, w, lead, nums, kn, X, z, rfl, hb, hz, q⟩ := h
    obtain ⟨e1, e2, _⟩ := hb.pre hz
    obtain ⟨st, o, p, t, D, ov, ss, ⟨dx, dh, ln, vL, vB, vT, R⟩, tx, hR, hX, c1, c2, hkn⟩ := hb
    refine ⟨_, pss_one (ps_ret (pe_bytesOf rfl (by rfl) m6 (pe_slice sl_list (pe_fld (pv 0) rfl) (po_some (pe_fld (pv 0) rfl)) po_none))), ?_⟩
    have hw := R.w_
    rw [hkn] at hw
    refine ⟨_, rfl, r, CR, dx, _, _, rfl, R.r_, T.cl, T.nW, rgF_w _ _ _ _ _ _ _ _ _ _ _ _, _, rfl, r, CR, dx, _, _, rfl, R.r_, T.cl, T.nA, rgF_ld _ _ _ _ _ _ _ _ _ _ _ _, _, rfl, w, _, rfl, .inl (.inl hw), fun u nu => ?_⟩
    have hcut : cutV (bys (lead ++ kn)) (some ((lead.length : Nat) : Int)) none = bys kn := by
      have := ints_cut_from ((lead ++ kn).map fun (k : Nat) => (k : Int)) lead.length
      unfold bys
      rw [this, ← List.map_drop, List.drop_left]
    rw [hcut]
    have hlt : ∀ k ∈ kn, k < 256 := fun k hk => hz.lt k (List.mem_append_right _ (by rw [e1] at hk; exact List.mem_of_mem_take hk))
    refine .inr ⟨u, kn.map fun (k : Nat) => (k : Int), rfl, .inl (.inl upd_same), ?_, ?_⟩
    · intro x m
      obtain ⟨k, mk, rfl⟩ := List.mem_map.mp m
      have := hlt k mk
      omega
    · rw [byB_of]
      exact q _ (same_upd nu)
def spRgMa (CH CT CR : Addr) : Sp := fun vs H Q _ => ∃ (r hd w : Addr) (lead nums kn X : List Nat) (z : RS), vs = [.ref r] ∧ Bet CH CT CR H r hd w lead z kn X ∧ ZOk z lead nums ∧ Q (.int (kn.length : Int)) H
theorem ok_rgMa (T : RgTxt K mg CR rI rHear rTold rMany rOver rBits rGo rNext rBlk rCnt rPln rRun rTake rTrees rItem rRoom rEnd rRest) {fd : FuncData} {j : Nat} (F : Fun K "many_bytes" "Reading.many_bytes" sRgBytes rMany fd) (m2 : mg "len" = none) :
    FnOk P w K mg base CX0 (j + 1) rMany fd ["self"] (spRgMa CH CT CR) := by
  refine F.ok scRgMa (fun vs H Q E h => ?_) (fun cdv A outer s H vs Q E hr h => ?_)
  · obtain ⟨r, hd, w, lead, nums, kn, X, z, rfl, _⟩ := h
    rfl
  · obtain ⟨r, hd, w, lead, nums, kn, X, z, rfl, hb, hz, q⟩ := h
    obtain ⟨st, o, p, t, D, ov, ss, ⟨dx, dh, ln, vL, vB, vT, R⟩, tx, hR, hX, c1, c2, hkn⟩ := hb
    refine ⟨_, pss_one (ps_ret (pe_op op_sub (pe_callB call_len_seq (by rfl) m2 PySem.boot_len (pa_cons (pe_fld (pv 0) rfl) pa_nil)) (pe_fld (pv 0) rfl))), ?_⟩
    have hw := R.w_
    rw [hkn] at hw
    refine ⟨_, rfl, r, CR, dx, _, _, rfl, R.r_, T.cl, T.nW, rgF_w _ _ _ _ _ _ _ _ _ _ _ _, w, _, rfl, .inl (.inl (.inl hw)), _, rfl, r, CR, dx, _, _, rfl, R.r_, T.cl, T.nA, rgF_ld _ _ _ _ _ _ _ _ _ _ _ _, _, _, rfl, rfl, ?_⟩
    dsimp only
    rw [bys_len, List.length_append, show ((lead.length + kn.length : Nat) : Int) - (lead.length : Int) = (kn.length : Int) by omega]
    exact q
def spRgOv (CH CT CR : Addr) : Sp := fun vs H Q _ => ∃ (r hd w : Addr) (lead kn X : List Nat) (z : RS), vs = [.ref r] ∧ Bet CH CT CR H r hd w lead z kn X ∧ Q (.bl (decide (X = []))) H
theorem ok_rgOv (T : RgTxt K mg CR rI rHear rTold rMany rOver rBits rGo rNext rBlk rCnt rPln rRun rTake rTrees rItem rRoom rEnd rRest) {fd : FuncData} {j : Nat} (F : Fun K "was_over" "Reading.was_over" sRgOver rOver fd) :
    FnOk P w K mg base CX0 (j + 1) rOver fd ["self"] (spRgOv CH CT CR) := by
  refine F.ok scRgOv (fun vs H Q E h => ?_) (fun cdv A outer s H vs Q E hr h => ?_)
  · obtain ⟨r, hd, w, lead, kn, X, z, rfl, _⟩ := h
    rfl
  · obtain ⟨r, hd, w, lead, kn, X, z, rfl, hb, q⟩ := h
    obtain ⟨st, o, p, t, D, ov, ss, ⟨dx, dh, ln, vL, vB, vT, R⟩, tx, hR, hX, c1, c2, hkn⟩ := hb
    refine ⟨_, pss_one (ps_ret (pe_fld (pv 0) rfl)), ?_⟩
    have e : ov = decide (X = []) := by
      by_cases x0 : X = []
      · rw [decide_eq_true x0]
        exact (c1 x0).2.2.1
      · rw [decide_eq_false x0]
        exact c2 x0
    rw [← e] at q
    exact ⟨_, rfl, r, CR, dx, _, _, rfl, R.r_, T.cl, T.nO, rgF_ov _ _ _ _ _ _ _ _ _ _ _ _, q⟩
def spRgBi (CH CT CR : Addr) : Sp := fun vs H Q _ => ∃ (r hd w : Addr) (lead nums kn X : List Nat) (z : RS), vs = [.ref r] ∧ Bet CH CT CR H r hd w lead z kn X ∧ ZOk z lead nums ∧ Q (.int ((z.pos - X.length : Nat) : Int)) H
theorem ok_rgBi (T : RgTxt K mg CR rI rHear rTold rMany rOver rBits rGo rNext rBlk rCnt rPln rRun rTake rTrees rItem rRoom rEnd rRest) (TH : HdTxt K mg CH fI fH fB fR fG fN fL) {fd fdB : FuncData} {j k1 : Nat} (F : Fun K "many_bits" "Reading.many_bits" sRgBits rBits fd)
    (GB : FnOk P w K mg base CX0 k1 fB fdB ["self"] (spHdB CH)) (bB : Binds K fdB ["self"] []) (l1 : k1 ≤ j) : FnOk P w K mg base CX0 (j + 1) rBits fd ["self"] (spRgBi CH CT CR) := by
  refine F.ok scRgBi (fun vs H Q E h => ?_) (fun cdv A outer s H vs Q E hr h => ?_)
  · obtain ⟨r, hd, w, lead, nums, kn, X, z, rfl, _⟩ := h
    rfl
  · obtain ⟨r, hd, w, lead, nums, kn, X, z, rfl, hb, hz, q⟩ := h
    obtain ⟨st, o, p, t, D, ov, ss, ⟨dx, dh, ln, vL, vB, vT, R⟩, tx, hR, hX, c1, c2, hkn⟩ := hb
    refine ⟨_, pss_one (ps_ret (pe_ifExp (pt_cmpR op_isN (pe_fld (pv 0) rfl) pe_non (nomark _)) (pe_meth0 (pe_fld (pv 0) rfl) TH.cl TH.mB GB (hr.mono l1) bB .nil pass0) (pe_fld (pv 0) rfl))), ?_⟩
    refine ⟨_, rfl, r, CR, dx, _, _, rfl, R.r_, T.cl, T.nS, rgF_sp _ _ _ _ _ _ _ _ _ _ _ _, rfl, _, rfl, iteT ?_⟩
    refine ⟨_, rfl, r, CR, dx, _, _, rfl, R.r_, T.cl, T.nH, rgF_hd _ _ _ _ _ _ _ _ _ _ _ _, hd, dh, _, rfl, R.h_, hdF_no', hd, dh, o, p, t, rfl, R.h_, by have := tx.len; omega, ?_⟩
    have h1 := hR.pos
    have h2 := congrArg List.length hX
    rw [List.length_append, List.length_drop] at h2
    have h3 := tx.pos
    have h4 := tx.le
    rw [show o + t.length = z.pos - X.length by omega]
    exact q
end
end K7

namespace K7
open PySem PySem.Spec PyProof.Rows L2 SBX
open K2 (wAt coinsL)
/-! ### opened, Reader -/
/-- a stream that is right: it tells nums behind lead -/
structure StrmOk (lead nums strm : List Nat) (z : RS) (ss : List Stp) : Prop where
  runs : Runs (rs0 lead) ss (b8 strm) z
  zok : ZOk z lead nums
  ne : strm ≠ []
  lt : ∀ k ∈ strm, k < 256
theorem StrmOk.len {lead nums strm : List Nat} {z : RS} {ss : List Stp} (h : StrmOk lead nums strm z ss) : strm.length ≤ 10000 ∧ z.pos = 8 * strm.length := by
  have h1 := h.runs.pos
  rw [b8_len] at h1
  have h2 : z.pos = 8 * strm.length := by
    rw [h1]
    show 0 + _ = _
    omega
  have := h.zok.pos
  exact ⟨by omega, h2⟩
/-- nothing was heard yet -/
theorem StrmOk.bet {CH CT CR : Addr} {H : Hp} {r hd w : Addr} {lead nums strm : List Nat} {z : RS} {ss : List Stp} (h : StrmOk lead nums strm z ss) (R : RgAt CH CT CR H r hd w lead.length (rs0 lead) 0 [] 0 false) : Bet CH CT CR H r hd w lead z [] (b8 strm) := by
  have hne : b8 strm ≠ [] := fun e => by
    have := congrArg List.length e
    rw [b8_len] at this
    have := List.length_pos_iff.mpr h.ne
    simp at *
    omega
  exact ⟨rs0 lead, 0, 0, [], b8 strm, false, ss, R, ⟨Nat.le_refl _, Nat.zero_le _, fun c hc => (by cases hc), rfl⟩, h.runs, rfl, fun e => absurd e hne, fun _ => rfl, (List.append_nil _).symm⟩
theorem scRdI : FnScope ["self", "ahead"] ["self", "ahead"] (defScope sRdInit) := ⟨rfl, rfl, rfl, by decide +kernel, rfl, by decide +kernel, by decide +kernel⟩
theorem scRdH : FnScope ["self", "told", "many"] ["self", "told"] (defScope sRdHear) := ⟨rfl, rfl, rfl, by decide +kernel, rfl, by decide +kernel, by decide +kernel⟩
theorem scRdK : FnScope ["self"] ["self"] (defScope sRdKnown) := ⟨rfl, rfl, rfl, by decide +kernel, rfl, by decide +kernel, by decide +kernel⟩
theorem scRdO : FnScope ["self"] ["self"] (defScope sRdOver) := ⟨rfl, rfl, rfl, by decide +kernel, rfl, by decide +kernel, by decide +kernel⟩
theorem scRdB : FnScope ["self"] ["self"] (defScope sRdBits) := ⟨rfl, rfl, rfl, by decide +kernel, rfl, by decide +kernel, by decide +kernel⟩
theorem kb_rd {K : PySem.W.Frag} {f : Addr} {fd : FuncData} (F : Fun K "__init__" "Reader.__init__" sRdInit f fd) : KBn K fd ["self", "ahead"] 1 ["ahead"] (fun us ws => us ++ ws) (fun vs zs => vs ++ zs) := by
  obtain ⟨oc, od, kV, doc, pm, an, cdv, ct, osl, rfl, lk, hcd⟩ := F.ex
  refine ⟨fun s us ws X h1 h2 => ?_, fun r1 r2 => r1.append r2⟩
  match us, h1, ws, h2 with
  | [u], _, [x], _ => exact BindsTo.of_eq rfl
structure RdTxt (K : PySem.W.Frag) (mg : Str → Option Value) (C fI fH fK fO fB : Addr) : Prop where
  cl : Cls K C
  gC : mg "Reader" = some (.ref C)
  made : Mk K C fI
  nR : NoAttr K C "_reading"
  mH : Meth K C "hear" fH
  mK : Meth K C "known" fK
  mO : Meth K C "is_over" fO
  mB : Meth K C "bits" fB
/-- a reader between pieces -/
def RdAt (CH CT CR CD : Addr) (H : Hp) (x r hd w : Addr) (lead : List Nat) (z : RS) (kn X : List Nat) : Prop := (∃ dx, H x = some (.ins CD dx (rdF r))) ∧ Bet CH CT CR H r hd w lead z kn X
theorem RdAt.same {CH CT CR CD : Addr} {H H' : Hp} {x r hd w : Addr} {lead kn X : List Nat} {z : RS} (h : RdAt CH CT CR CD H x r hd w lead z kn X) (s : Same H H') : RdAt CH CT CR CD H' x r hd w lead z kn X := by
  obtain ⟨⟨dx, h1⟩, h2⟩ := h
  exact ⟨⟨dx, s _ _ h1⟩, h2.same s⟩
theorem Bet.ne {CH CT CR CD : Addr} {H : Hp} {x r hd w dx : Addr} {lead kn X : List Nat} {z : RS} (h : Bet CH CT CR H r hd w lead z kn X) (hx : H x = some (.ins CD dx (rdF r))) : x ≠ r ∧ x ≠ hd ∧ x ≠ w := by
  obtain ⟨s, o, p, t, D, ov, ss, ⟨dx1, dh, ln, vL, vB, vT, R⟩, _⟩ := h
  refine ⟨fun e => ?_, fun e => ?_, ne_of hx R.w_ (fun z => nomatch z)⟩
  · rw [e, R.r_] at hx
    have := congrArg List.length (HO.ins.inj (Option.some.inj hx)).2.2
    rw [rgF_len, rdF_len] at this
    omega
  · rw [e, R.h_] at hx
    have := congrArg List.length (HO.ins.inj (Option.some.inj hx)).2.2
    rw [hdF_len, rdF_len] at this
    omega
section
variable {P : Program} {w : World} {K : PySem.W.Frag} {mg : Str → Option Value} {base : Heap} {C CH CT CW CR CD fI fH fB fR fG fN fL fTI pI pL pB dI dH dK dO dB : Addr}
variable {rI rHear rTold rMany rOver rBits rGo rNext rBlk rCnt rPln rRun rTake rTrees rItem rRoom rEnd rRest : Addr}
theorem oth_same {H H0 H' : Hp} {r hd w : Addr} (s : Same H H0) (nr : H r = none) (nh : H hd = none) (nw : H w = none) (k : Oth r hd w H0 H') : Same H H' := fun b o e => k b o (ne_of_none e nr) (ne_of_none e nh) (ne_of_none e nw) (s b o e)
theorem none_made {H : Hp} {x dx C b : Addr} (h : (upd (upd H dx (.own x)) x (.ins C dx [])) b = none) : H b = none ∧ b ≠ x ∧ b ≠ dx := by
  have n1 : b ≠ x := fun z => by rw [z, upd_same] at h; cases h
  rw [upd_ne n1] at h
  have n2 : b ≠ dx := fun z => by rw [z, upd_same] at h; cases h
  rw [upd_ne n2] at h
  exact ⟨h, n1, n2⟩
def spOp : Sp := fun vs H Q _ => ∃ (lead nums strm : List Nat) (z : RS) (ss : List Stp), vs = [.byt (byB strm), .byt (byB lead)] ∧ StrmOk lead nums strm z ss ∧ lead.length ≤ 4096 ∧ (∀ k ∈ lead, k < 256) ∧ ∀ H', Same H H' → Q (.byt (byB nums)) H'
theorem ok_op (T : RgTxt K mg CR rI rHear rTold rMany rOver rBits rGo rNext rBlk rCnt rPln rRun rTake rTrees rItem rRoom rEnd rRest) {f fA : Addr} {fd fdA fdI fdH fdO fdT : FuncData} {j k1 k2 k3 k4 k5 : Nat} {t1 t2 : Tok} (F : Fun K "opened" "opened" sOpened f fd)
    (GA : FnOk P w K mg base CX0 k1 fA fdA ["told", "most"] spAreBytes) (bA : Binds K fdA ["told", "most"] []) (kA : PySem.W.keepIn K (.ref fA) = true) (gA : mg "are_bytes" = some (.ref fA)) (l1 : k1 ≤ j)
    (GI : FnOk P w K mg base CX0 k2 rI fdI ["self", "ahead"] (spRgA CH CT CR)) (bI : Binds K fdI ["self", "ahead"] []) (l2 : k2 + 1 ≤ j) (GH : FnOk P w K mg base CX0 k3 rHear fdH ["self", "piece"] (spRgH CH CT CR)) (bH : Binds K fdH ["self", "piece"] []) (l3 : k3 ≤ j)
    (GO : FnOk P w K mg base CX0 k4 rOver fdO ["self"] (spRgOv CH CT CR)) (bO : Binds K fdO ["self"] []) (l4 : k4 ≤ j) (GT : FnOk P w K mg base CX0 k5 rTold fdT ["self"] (spRgTo CH CT CR)) (bT : Binds K fdT ["self"] []) (l5 : k5 ≤ j)
    (c1 : mg "MOST_AHEAD" = some (.int 4096 t1)) (c2 : mg "PIECE_BYTES" = some (.int 64 t2)) (m1 : mg "isinstance" = none) (m2 : mg "bytes" = none) (m3 : mg "range" = none) (m4 : mg "len" = none) :
    FnOk P w K mg base CX0 (j + 1) f fd ["stream", "ahead"] spOp := by
  refine F.ok scOp (fun vs H Q E h => ?_) (fun cdv A outer s H vs Q E hr h => ?_)
  · obtain ⟨lead, nums, strm, z, ss, rfl, _⟩ := h
    rfl
  · obtain ⟨lead, nums, strm, z, ss, rfl, SO, hl, hk, q⟩ := h
    have hz := PySem.sizeLine_eq
    obtain ⟨sl1, sl2⟩ := SO.len
    refine ⟨_, pss_cons (ps_if (PW.pt (pw_or (pt_not (pt_val (pe_callB call_isi (by rfl) m1 (by decide +kernel) (pa_cons (pv 0) (pa_cons (pe_bltn (v := .ty "bytes") (by rfl) m2 (by decide +kernel) rfl) pa_nil)))))
          (pw_or1 (pt_not (pt_val (pe_call GA (hr.mono l1) (by rfl) gA kA bA .nil pass0 (pa_cons (pv 1) (pa_cons (pe_glob (v := .int 4096) rfl c1 ⟨_, rfl⟩) pa_nil)))))))) (pss_one ps_never) pss_nil)
      (pss_cons (ps_set (i := 2) scOp.nd rfl (.inl rfl) (pe_make T.made GI (hr.mono l2) (by rfl) T.gC bI .nil pass0 (pa_cons (pv 1) pa_nil)))
      (pss_cons (ps_for PassesOwn.never rfl (pi_range3 (by rfl) m3 (pa_cons pe_int (pa_cons (pe_callB call_len (by rfl) m4 PySem.boot_len (pa_cons (pv 0) pa_nil)) (pa_cons (pe_glob (v := .int 64) rfl c2 ⟨_, rfl⟩) pa_nil)))) (pg_name (i := 3) scOp.nd rfl (.inl rfl))
        (pss_one (ps_expr (pe_meth (pv 2) T.cl T.mHear GH (hr.mono l3) bH .nil pass0 (pa_cons (pe_slice sl_byt (pv 0) (po_some (pv 3)) (po_some (pe_op op_add (pv 3) (pe_glob (v := .int 64) rfl c2 ⟨_, rfl⟩)))) pa_nil)))))
      (pss_cons (ps_if (pt_not (pt_val (pe_meth0 (pv 2) T.cl T.mOver GO (hr.mono l4) bO .nil pass0))) (pss_one ps_never) pss_nil)
      (pss_one (ps_ret (pe_meth0 (pv 2) T.cl T.mTold GT (hr.mono l5) bT .nil pass0)))))), ?_⟩
    refine ⟨_, rfl, _, _, _, _, _, rfl, .ty "bytes", .byt _, kit_ty (a := "bytes") (r := true) (by decide +kernel), _, rfl, iteF ?_⟩
    refine ⟨_, rfl, _, 4096, rfl, (by rw [byB_size]; omega), _, rfl, ?_⟩
    rw [byB_size, decide_eq_true hl]
    refine iteF ?_
    refine ⟨_, rfl, ?_⟩
    intro r dxx nr ndx ner
    refine ⟨r, dxx, lead, rfl, upd_same, hk, by omega, fun H1 hd w k1 nh nw R1 => ⟨rfl, ?_⟩⟩
    have s1 := made_same nr ndx k1
    have nh0 := (none_made nh).1
    have nw0 := (none_made nw).1
    dsimp only [gName]
    refine ⟨_, rfl, _, _, rfl, ⟨(by rw [byB_size]; omega), rfl⟩, _, _, _, (strm.length + 64 - 1) / 64, rfl, (by rw [byB_size]; exact rg_step (by omega) (by decide) (by decide)), ?_⟩
    refine for_rangeC (lo := 0) (c := 64) (n := (strm.length + 64 - 1) / 64) (fun i σ H' => ∃ y kn, σ = [some (.byt (byB strm)), some (.byt (byB lead)), some (.ref r), y] ∧ Oth r hd w H1 H' ∧ Bet CH CT CR H' r hd w lead z kn (b8 (strm.drop (64 * i))))
      ⟨none, [], rfl, .refl H1, SO.bet R1⟩ (fun i σ H2 hi h => ?_) (fun σ H2 h => ?_)
    · obtain ⟨y, kn, rfl, k2, B2⟩ := h
      obtain ⟨s2, o2, p2, t2, D2, ov2, ss2, ⟨dx2, dh2, ln2, vL2, vB2, vT2, R2⟩, _⟩ := id B2
      have hle : 64 * i ≤ strm.length := by
        have := Nat.div_mul_le_self (strm.length + 64 - 1) 64
        omega
      have esl : PySem.W.KBy.picked (byB strm) (some (0 + (i : Int) * 64)) (some (0 + (i : Int) * 64 + 64)) = byB (sliceN strm (64 * i) 64) := by
        rw [← picked_slice strm (64 * i) 64 hle]
        congr 2
        · omega
        · push_cast
          omega
      have e8 : b8 (strm.drop (64 * i)) = b8 (sliceN strm (64 * i) 64) ++ b8 (strm.drop (64 * (i + 1))) := by
        rw [← b8_app]
        unfold sliceN
        rw [show 64 * (i + 1) = 64 * i + 64 by omega, ← List.drop_drop, List.take_append_drop]
      rw [e8] at B2
      refine ⟨_, rfl, r, dx2, _, rfl, R2.r_, rgF_no', _, rfl, _, rfl, _, rfl, _, rfl, _, _, rfl, rfl, _, rfl, byB strm, rfl, (by rw [byB_size]; omega), ?_⟩
      dsimp only
      rw [esl]
      refine ⟨r, hd, w, lead, nums, kn, sliceN strm (64 * i) 64, _, z, rfl, B2, SO.zok, slice_lt SO.lt, fun H3 kn3 k3 B3 => ?_⟩
      exact ⟨_, kn3, rfl, k2.trans k3, B3⟩
    · obtain ⟨y, kn, rfl, k2, B2⟩ := h
      have hge : strm.length ≤ 64 * ((strm.length + 64 - 1) / 64) := by
        have := Nat.div_add_mod (strm.length + 64 - 1) 64
        have := Nat.mod_lt (strm.length + 64 - 1) (show 0 < 64 by decide)
        omega
      rw [List.drop_of_length_le hge, show b8 [] = [] from rfl] at B2
      obtain ⟨s2, o2, p2, t2, D2, ov2, ss2, ⟨dx2, dh2, ln2, vL2, vB2, vT2, R2⟩, _⟩ := id B2
      refine ⟨_, rfl, r, dx2, _, rfl, R2.r_, rgF_no', r, hd, w, lead, kn, [], z, rfl, B2, _, rfl, iteF ?_⟩
      refine ⟨_, rfl, r, dx2, _, rfl, R2.r_, rgF_no', r, hd, w, lead, nums, kn, [], z, rfl, B2, SO.zok, fun H3 s3 => ?_⟩
      rw [(B2.pre SO.zok).2.2 rfl]
      exact q H3 ((oth_same s1 nr nh0 nw0 k2).trans s3)
end
end K7

namespace K7
open PySem PySem.Spec PyProof.Rows L2 SBX
open K2 (wAt coinsL)
/-! ### Reader -/
section
variable {P : Program} {w : World} {K : PySem.W.Frag} {mg : Str → Option Value} {base : Heap} {C CH CT CW CR CD fI fH fB fR fG fN fL fTI pI pL pB dI dH dK dO dB : Addr}
variable {rI rHear rTold rMany rOver rBits rGo rNext rBlk rCnt rPln rRun rTake rTrees rItem rRoom rEnd rRest : Addr}
def spRdI (CH CT CR CD : Addr) : Sp := fun vs H Q _ => ∃ (x dx : Addr) (lead : List Nat), vs = [.ref x, .byt (byB lead)] ∧ H x = some (.ins CD dx []) ∧ lead.length ≤ 4096 ∧ (∀ k ∈ lead, k < 256) ∧
  ∀ H' r hd w, (∀ b o, b ≠ x → H b = some o → H' b = some o) → H r = none → H hd = none → H w = none → H' x = some (.ins CD dx (rdF r)) → RgAt CH CT CR H' r hd w lead.length (rs0 lead) 0 [] 0 false → Q .non H'
theorem ok_rdI (T : RgTxt K mg CR rI rHear rTold rMany rOver rBits rGo rNext rBlk rCnt rPln rRun rTake rTrees rItem rRoom rEnd rRest) (TD : RdTxt K mg CD dI dH dK dO dB) {fA : Addr} {fd fdA fdI : FuncData} {j k1 k2 : Nat} {t1 : Tok} (F : Fun K "__init__" "Reader.__init__" sRdInit dI fd)
    (GA : FnOk P w K mg base CX0 k1 fA fdA ["told", "most"] spAreBytes) (bA : Binds K fdA ["told", "most"] []) (kA : PySem.W.keepIn K (.ref fA) = true) (gA : mg "are_bytes" = some (.ref fA)) (l1 : k1 ≤ j)
    (GI : FnOk P w K mg base CX0 k2 rI fdI ["self", "ahead"] (spRgA CH CT CR)) (bI : Binds K fdI ["self", "ahead"] []) (l2 : k2 + 1 ≤ j) (c1 : mg "MOST_AHEAD" = some (.int 4096 t1)) :
    FnOk P w K mg base CX0 (j + 1) dI fd ["self", "ahead"] (spRdI CH CT CR CD) := by
  refine F.ok scRdI (fun vs H Q E h => ?_) (fun cdv A outer s H vs Q E hr h => ?_)
  · obtain ⟨x, dx, lead, rfl, _⟩ := h
    rfl
  · obtain ⟨x, dx, lead, rfl, hx, hl, hk, q⟩ := h
    refine ⟨_, pss_cons (ps_if (pt_not (pt_val (pe_call GA (hr.mono l1) (by rfl) gA kA bA .nil pass0 (pa_cons (pv 1) (pa_cons (pe_glob (v := .int 4096) rfl c1 ⟨_, rfl⟩) pa_nil))))) (pss_one ps_never) pss_nil)
      (pss_one (ps_fld (pv 0) (pe_make T.made GI (hr.mono l2) (by rfl) T.gC bI .nil pass0 (pa_cons (pv 1) pa_nil)) rfl)), ?_⟩
    refine ⟨_, rfl, _, 4096, rfl, (by rw [byB_size]; omega), _, rfl, ?_⟩
    rw [byB_size, decide_eq_true hl]
    refine iteF ⟨_, rfl, ?_⟩
    intro r dxx nr ndx ner
    refine ⟨r, dxx, lead, rfl, upd_same, hk, by omega, fun H1 hd w k1 nh nw R1 => ⟨rfl, ?_⟩⟩
    have s1 := made_same nr ndx k1
    obtain ⟨nh0, _⟩ := none_made nh
    obtain ⟨nw0, _⟩ := none_made nw
    have hx1 := s1 _ _ hx
    refine ⟨_, rfl, x, CD, dx, _, rfl, hx1, TD.cl, TD.nR, (by show 0 < 1000; decide), ?_⟩
    have nxr : x ≠ r := ne_of_none hx nr
    have nxh : x ≠ hd := ne_of_none hx nh0
    have nxw : x ≠ w := ne_of_none hx nw0
    obtain ⟨dx1, dh, ln, vL, vB, vT, R⟩ := R1
    have kk : ∀ b u, b ≠ x → H1 b = some u → (upd H1 x (.ins CD dx (putF "_reading" (.ref r) []))) b = some u := fun b u n e => by rw [upd_ne n]; exact e
    have tre : ∀ {t : Addr} {ls : List Int}, TrAt CT H1 t ls → TrAt CT (upd H1 x (.ins CD dx (putF "_reading" (.ref r) []))) t ls := fun {t ls} h => by
      refine h.keep fun b o ho e => kk b o (fun z => ?_) e
      rw [z, hx1] at e
      obtain rfl := Option.some.inj e
      rcases ho with ⟨d', p, q, e2⟩ | ⟨kvs, e2⟩
      · have := congrArg List.length (HO.ins.inj e2).2.2
        rw [trF_len] at this
        cases this
      · cases e2
    have nlx : ln ≠ x := ne_of R.l_ hx1 (fun z => nomatch z)
    refine q _ r hd w (fun b o n e => kk b o n (s1 b o e)) nr nh0 nw0 upd_same ⟨dx1, dh, ln, vL, vB, vT, ⟨kk _ _ (Ne.symm nxr) R.r_, kk _ _ (Ne.symm nxh) R.h_, kk _ _ (Ne.symm nxw) R.w_, kk _ _ nlx R.l_, R.nlw, ?_, fun z => absurd z (by show ¬ (0 = 4); decide)⟩⟩
    rcases R.told with e | ⟨t, u1, u2, e, ht, h1, h2⟩
    · exact .inl e
    · exact .inr ⟨t, u1, u2, e, kk _ _ (ne_of ht hx1 (fun z => nomatch z)) ht, tre h1, tre h2⟩
theorem rd_start {H0 H : Hp} {x r hd w dx : Addr} {lead nums strm : List Nat} {z : RS} {ss : List Stp} (SO : StrmOk lead nums strm z ss) (hx : H x = some (.ins CD dx (rdF r))) (R : RgAt CH CT CR H r hd w lead.length (rs0 lead) 0 [] 0 false) : RdAt CH CT CR CD H x r hd w lead z [] (b8 strm) := ⟨⟨dx, hx⟩, SO.bet R⟩
def spRdH (CH CT CR CD : Addr) : Sp := fun vs H Q _ => ∃ (x r hd w : Addr) (lead nums kn ks X : List Nat) (z : RS), vs = [.ref x, .byt (byB ks)] ∧ RdAt CH CT CR CD H x r hd w lead z kn (b8 ks ++ X) ∧ ZOk z lead nums ∧ (∀ k ∈ ks, k < 256) ∧
  ∀ H' kn', Oth r hd w H H' → RdAt CH CT CR CD H' x r hd w lead z kn' X → Q (.int ((kn'.length : Int) - (kn.length : Int))) H'
theorem ok_rdH (T : RgTxt K mg CR rI rHear rTold rMany rOver rBits rGo rNext rBlk rCnt rPln rRun rTake rTrees rItem rRoom rEnd rRest) (TD : RdTxt K mg CD dI dH dK dO dB) {fd fdM fdP : FuncData} {j k1 k2 : Nat} (F : Fun K "hear" "Reader.hear" sRdHear dH fd)
    (GM : FnOk P w K mg base CX0 k1 rMany fdM ["self"] (spRgMa CH CT CR)) (bM : Binds K fdM ["self"] []) (l1 : k1 ≤ j) (GP : FnOk P w K mg base CX0 k2 rHear fdP ["self", "piece"] (spRgH CH CT CR)) (bP : Binds K fdP ["self", "piece"] []) (l2 : k2 ≤ j) (m1 : mg "isinstance" = none) (m2 : mg "bytes" = none) :
    FnOk P w K mg base CX0 (j + 1) dH fd ["self", "told"] (spRdH CH CT CR CD) := by
  refine F.ok scRdH (fun vs H Q E h => ?_) (fun cdv A outer s H vs Q E hr h => ?_)
  · obtain ⟨x, r, hd, w, lead, nums, kn, ks, X, z, rfl, _⟩ := h
    rfl
  · obtain ⟨x, r, hd, w, lead, nums, kn, ks, X, z, rfl, ⟨⟨dx, hx⟩, B⟩, hz, hk, q⟩ := h
    refine ⟨_, pss_cons (ps_if (pt_not (pt_val (pe_callB call_isi (by rfl) m1 (by decide +kernel) (pa_cons (pv 1) (pa_cons (pe_bltn (v := .ty "bytes") (by rfl) m2 (by decide +kernel) rfl) pa_nil))))) (pss_one ps_never) pss_nil)
      (pss_cons (ps_set (i := 2) scRdH.nd rfl (.inl rfl) (pe_meth0 (pe_fld (pv 0) rfl) T.cl T.mMany GM (hr.mono l1) bM .nil pass0))
      (pss_cons (ps_expr (pe_meth (pe_fld (pv 0) rfl) T.cl T.mHear GP (hr.mono l2) bP .nil pass0 (pa_cons (pv 1) pa_nil)))
      (pss_one (ps_ret (pe_op op_sub (pe_meth0 (pe_fld (pv 0) rfl) T.cl T.mMany GM (hr.mono l1) bM .nil pass0) (pv 2)))))), ?_⟩
    refine ⟨_, rfl, _, _, _, _, _, rfl, .ty "bytes", .byt _, kit_ty (a := "bytes") (r := true) (by decide +kernel), _, rfl, iteF ?_⟩
    obtain ⟨s1, o1, p1, t1, D1, ov1, ss1, ⟨dx1, dh1, ln1, vL1, vB1, vT1, R1⟩, _⟩ := id B
    refine ⟨_, rfl, x, CD, dx, _, _, rfl, hx, TD.cl, TD.nR, rdF_r _, r, dx1, _, rfl, R1.r_, rgF_no', r, hd, w, lead, nums, kn, _, z, rfl, B, hz, ?_⟩
    dsimp only [gName]
    refine ⟨_, rfl, x, CD, dx, _, _, rfl, hx, TD.cl, TD.nR, rdF_r _, r, dx1, _, rfl, R1.r_, rgF_no', _, rfl, r, hd, w, lead, nums, kn, ks, X, z, rfl, B, hz, hk, fun H2 kn2 k2 B2 => ?_⟩
    obtain ⟨n1, n2, n3⟩ := B.ne hx
    have hx2 := k2 _ _ n1 n2 n3 hx
    obtain ⟨s2, o2, p2, t2, D2, ov2, ss2, ⟨dx2, dh2, ln2, vL2, vB2, vT2, R2⟩, _⟩ := id B2
    refine ⟨_, rfl, x, CD, dx, _, _, rfl, hx2, TD.cl, TD.nR, rdF_r _, r, dx2, _, rfl, R2.r_, rgF_no', r, hd, w, lead, nums, kn2, X, z, rfl, B2, hz, _, rfl, _, _, rfl, rfl, ?_⟩
    exact q H2 kn2 k2 ⟨⟨dx, hx2⟩, B2⟩
def spRdK (CH CT CR CD : Addr) : Sp := fun vs H Q _ => ∃ (x r hd w : Addr) (lead nums kn X : List Nat) (z : RS), vs = [.ref x] ∧ RdAt CH CT CR CD H x r hd w lead z kn X ∧ ZOk z lead nums ∧ ∀ H', Same H H' → Q (.byt (byB kn)) H'
theorem ok_rdK (T : RgTxt K mg CR rI rHear rTold rMany rOver rBits rGo rNext rBlk rCnt rPln rRun rTake rTrees rItem rRoom rEnd rRest) (TD : RdTxt K mg CD dI dH dK dO dB) {fd fdM : FuncData} {j k1 : Nat} (F : Fun K "known" "Reader.known" sRdKnown dK fd)
    (GM : FnOk P w K mg base CX0 k1 rTold fdM ["self"] (spRgTo CH CT CR)) (bM : Binds K fdM ["self"] []) (l1 : k1 ≤ j) : FnOk P w K mg base CX0 (j + 1) dK fd ["self"] (spRdK CH CT CR CD) := by
  refine F.ok scRdK (fun vs H Q E h => ?_) (fun cdv A outer s H vs Q E hr h => ?_)
  · obtain ⟨x, r, hd, w, lead, nums, kn, X, z, rfl, _⟩ := h
    rfl
  · obtain ⟨x, r, hd, w, lead, nums, kn, X, z, rfl, ⟨⟨dx, hx⟩, B⟩, hz, q⟩ := h
    refine ⟨_, pss_one (ps_ret (pe_meth0 (pe_fld (pv 0) rfl) T.cl T.mTold GM (hr.mono l1) bM .nil pass0)), ?_⟩
    obtain ⟨s1, o1, p1, t1, D1, ov1, ss1, ⟨dx1, dh1, ln1, vL1, vB1, vT1, R1⟩, _⟩ := id B
    exact ⟨_, rfl, x, CD, dx, _, _, rfl, hx, TD.cl, TD.nR, rdF_r _, r, dx1, _, rfl, R1.r_, rgF_no', r, hd, w, lead, nums, kn, X, z, rfl, B, hz, q⟩
def spRdO (CH CT CR CD : Addr) : Sp := fun vs H Q _ => ∃ (x r hd w : Addr) (lead kn X : List Nat) (z : RS), vs = [.ref x] ∧ RdAt CH CT CR CD H x r hd w lead z kn X ∧ Q (.bl (decide (X = []))) H
theorem ok_rdO (T : RgTxt K mg CR rI rHear rTold rMany rOver rBits rGo rNext rBlk rCnt rPln rRun rTake rTrees rItem rRoom rEnd rRest) (TD : RdTxt K mg CD dI dH dK dO dB) {fd fdM : FuncData} {j k1 : Nat} (F : Fun K "is_over" "Reader.is_over" sRdOver dO fd)
    (GM : FnOk P w K mg base CX0 k1 rOver fdM ["self"] (spRgOv CH CT CR)) (bM : Binds K fdM ["self"] []) (l1 : k1 ≤ j) : FnOk P w K mg base CX0 (j + 1) dO fd ["self"] (spRdO CH CT CR CD) := by
  refine F.ok scRdO (fun vs H Q E h => ?_) (fun cdv A outer s H vs Q E hr h => ?_)
  · obtain ⟨x, r, hd, w, lead, kn, X, z, rfl, _⟩ := h
    rfl
  · obtain ⟨x, r, hd, w, lead, kn, X, z, rfl, ⟨⟨dx, hx⟩, B⟩, q⟩ := h
    refine ⟨_, pss_one (ps_ret (pe_meth0 (pe_fld (pv 0) rfl) T.cl T.mOver GM (hr.mono l1) bM .nil pass0)), ?_⟩
    obtain ⟨s1, o1, p1, t1, D1, ov1, ss1, ⟨dx1, dh1, ln1, vL1, vB1, vT1, R1⟩, _⟩ := id B
    exact ⟨_, rfl, x, CD, dx, _, _, rfl, hx, TD.cl, TD.nR, rdF_r _, r, dx1, _, rfl, R1.r_, rgF_no', r, hd, w, lead, kn, X, z, rfl, B, q⟩
def spRdB (CH CT CR CD : Addr) : Sp := fun vs H Q _ => ∃ (x r hd w : Addr) (lead nums kn X : List Nat) (z : RS), vs = [.ref x] ∧ RdAt CH CT CR CD H x r hd w lead z kn X ∧ ZOk z lead nums ∧ Q (.int ((z.pos - X.length : Nat) : Int)) H
theorem ok_rdB (T : RgTxt K mg CR rI rHear rTold rMany rOver rBits rGo rNext rBlk rCnt rPln rRun rTake rTrees rItem rRoom rEnd rRest) (TD : RdTxt K mg CD dI dH dK dO dB) {fd fdM : FuncData} {j k1 : Nat} (F : Fun K "bits" "Reader.bits" sRdBits dB fd)
    (GM : FnOk P w K mg base CX0 k1 rBits fdM ["self"] (spRgBi CH CT CR)) (bM : Binds K fdM ["self"] []) (l1 : k1 ≤ j) : FnOk P w K mg base CX0 (j + 1) dB fd ["self"] (spRdB CH CT CR CD) := by
  refine F.ok scRdB (fun vs H Q E h => ?_) (fun cdv A outer s H vs Q E hr h => ?_)
  · obtain ⟨x, r, hd, w, lead, nums, kn, X, z, rfl, _⟩ := h
    rfl
  · obtain ⟨x, r, hd, w, lead, nums, kn, X, z, rfl, ⟨⟨dx, hx⟩, B⟩, hz, q⟩ := h
    refine ⟨_, pss_one (ps_ret (pe_meth0 (pe_fld (pv 0) rfl) T.cl T.mBits GM (hr.mono l1) bM .nil pass0)), ?_⟩
    obtain ⟨s1, o1, p1, t1, D1, ov1, ss1, ⟨dx1, dh1, ln1, vL1, vB1, vT1, R1⟩, _⟩ := id B
    exact ⟨_, rfl, x, CD, dx, _, _, rfl, hx, TD.cl, TD.nR, rdF_r _, r, dx1, _, rfl, R1.r_, rgF_no', r, hd, w, lead, nums, kn, X, z, rfl, B, hz, q⟩
end
end K7

namespace K7
open PySem PySem.Spec PyProof.Rows L2
/-! ### _law_none_better -/
def badItem (cs : List (Option Int)) (L B : List Int) (p : Nat) (it : Itm) : Bool :=
  match costO L B it, cs.getD (p + lenI it) none with
  | some a, some r => match cs.getD p none with
    | none => true
    | some c => decide (a + r < c)
  | _, _ => false
def nonNeg : Option Int → Bool
  | none => true
  | some c => decide (0 ≤ c)
def noneBetter (e : List Nat) (lead : Nat) (cs : List (Option Int)) (L B : List Int) : Bool :=
  decide (cs.length = e.length - lead + 1) && (decide (cs.getD (cs.length - 1) none = some 0) && (cs.all nonNeg &&
    (List.range (e.length - lead)).all fun p => (itemsF e (lead + p) (min 18 (e.length - lead - p))).all fun it => !badItem cs L B p it))
abbrev NNb : List Str := ["_law_every", "_law_lead", "_law_costs", "_law_letters", "_law_backs", "_law_many", "_law_place", "_law_item", "_law_cost_here", "_law_rest", "_law_one"]
theorem opt_last {cs : List (Option Int)} (h : 1 ≤ cs.length) : atI (cs.map optV) (-1) = some (optV (cs.getD (cs.length - 1) none)) := by
  unfold atI ixN
  rw [if_neg (by omega), List.length_map, if_pos (by omega)]
  show (cs.map optV)[(-1 + (cs.length : Int)).toNat]? = _
  have e : (-1 + (cs.length : Int)).toNat = cs.length - 1 := by omega
  have hi : cs.length > cs.length - 1 := by omega
  rw [e, List.getElem?_map, List.getElem?_eq_getElem hi, List.getD_eq_getElem?_getD, List.getElem?_eq_getElem hi]
  rfl
theorem not_better {e : List Nat} {lead : Nat} {cs : List (Option Int)} {L B : List Int} {p : Nat} {it : Itm} (hp : p < e.length - lead) (hm : it ∈ itemsF e (lead + p) (min 18 (e.length - lead - p))) (hb : badItem cs L B p it = true) : noneBetter e lead cs L B = false := by
  cases q : noneBetter e lead cs L B with
  | false => rfl
  | true =>
    unfold noneBetter at q
    rw [Bool.and_eq_true, Bool.and_eq_true, Bool.and_eq_true] at q
    have h1 := List.all_eq_true.mp q.2.2.2 p (List.mem_range.mpr hp)
    have h2 := List.all_eq_true.mp h1 it hm
    rw [hb] at h2
    cases h2
theorem opt_at {cs : List (Option Int)} {i : Int} {k : Nat} (e : i = (k : Int)) (h : k < cs.length) : atI (cs.map optV) i = some (optV (cs.getD k none)) := by
  subst e
  refine atI_nat ?_
  rw [List.getElem?_map, List.getElem?_eq_getElem h, List.getD_eq_getElem?_getD, List.getElem?_eq_getElem h]
  rfl
section
variable {P : Program} {w : World} {K : PySem.W.Frag} {mg : Str → Option Value} {base : Heap}
def spBetter : Sp := fun vs H Q _ => ∃ (pe pc pL pB : Addr) (every : List Nat) (lead : Nat) (cs : List (Option Int)) (L B : List Int), vs = [.ref pe, .int (lead : Int), .ref pc, .ref pL, .ref pB] ∧ H pe = some (.lst (bys every)) ∧ (∀ k ∈ every, k < 256) ∧ lead ≤ every.length ∧ every.length ≤ 1000 ∧
  H pc = some (.lst (cs.map optV)) ∧ cs.length ≤ 2000 ∧ H pL = some (.lst (L.map V.int)) ∧ H pB = some (.lst (B.map V.int)) ∧ L.length = 273 ∧ B.length = 11 ∧ ∀ H', Same H H' → Q (.bl (noneBetter every lead cs L B)) H'
end
end K7

namespace K7
open PySem PySem.Spec PyProof.Rows L2
/-! ### the table's own promises: pure -/
theorem tab_stable {e : List Nat} {lead en : Nat} {L B : List Int} : ∀ {m n q : Nat}, n ≤ m → m ≤ en → en - n ≤ q → tab e lead en L B m q = tab e lead en L B n q
  | 0, n, q, h, _, _ => by
    have : n = 0 := by omega
    rw [this]
  | m + 1, n, q, h, h2, h3 => by
    by_cases hn : n = m + 1
    · rw [hn]
    · have e1 : tab e lead en L B (m + 1) q = tab e lead en L B m q := by
        show (if q = en - (m + 1) then _ else _) = _
        rw [if_neg (by omega)]
      rw [e1]
      exact tab_stable (by omega) (by omega) h3
theorem fold_congr {L B : List Int} {c1 c2 : Nat → Option Int} {p : Nat} : ∀ {its : List Itm} {acc : Cell2}, (∀ it ∈ its, c1 (p + lenI it) = c2 (p + lenI it)) → its.foldl (stepS L B c1 p) acc = its.foldl (stepS L B c2 p) acc
  | [], acc, _ => rfl
  | it :: r, acc, h => by
    have e1 : stepS L B c1 p acc it = stepS L B c2 p acc it := by
      unfold stepS
      rw [h it (List.mem_cons_self ..)]
    show r.foldl _ (stepS L B c1 p acc it) = r.foldl _ (stepS L B c2 p acc it)
    rw [e1]
    exact fold_congr fun x m => h x (List.mem_cons_of_mem _ m)
theorem tab_fix {e : List Nat} {lead en : Nat} {L B : List Int} (hk : ∀ k ∈ e, k < 256) {p : Nat} (hp : p < en) :
    tab e lead en L B en p = (itemsF e (lead + p) (min 18 (en - p))).foldl (stepS L B (fun q => (tab e lead en L B en q).1) p) (none, none) := by
  have e1 : tab e lead en L B en p = tab e lead en L B (en - p - 1 + 1) p := tab_stable (by omega) (Nat.le_refl _) (by omega)
  rw [e1]
  show (if p = en - (en - p - 1 + 1) then _ else _) = _
  rw [if_pos (by omega)]
  refine fold_congr fun it m => ?_
  obtain ⟨_, h1, h2⟩ := itemsF_ok hk (by omega) (by omega) m
  show (tab e lead en L B (en - p - 1) (p + lenI it)).1 = (tab e lead en L B en (p + lenI it)).1
  rw [tab_stable (m := en) (n := en - p - 1) (by omega) (Nat.le_refl _) (by omega)]
theorem tab_end {e : List Nat} {lead en : Nat} {L B : List Int} : tab e lead en L B en en = (some 0, none) := by
  rw [tab_stable (m := en) (n := 0) (by omega) (Nat.le_refl _) (by omega)]
  show (if en = en then _ else _) = _
  rw [if_pos rfl]
/-- what one step makes of the best so far -/
theorem step_le {L B : List Int} {cs : Nat → Option Int} {p : Nat} {acc : Cell2} {it : Itm} {c : Int} (h : acc.1 = some c) : ∃ c', (stepS L B cs p acc it).1 = some c' ∧ c' ≤ c := by
  unfold stepS
  cases h1 : costO L B it with
  | none => exact ⟨c, h, Int.le_refl _⟩
  | some a =>
    cases h2 : cs (p + lenI it) with
    | none => exact ⟨c, h, Int.le_refl _⟩
    | some r =>
      rw [h]
      show ∃ c', (if a + r < c then (some (a + r), some it) else acc : Cell2).1 = some c' ∧ c' ≤ c
      by_cases q : a + r < c
      · rw [if_pos q]
        exact ⟨_, rfl, by omega⟩
      · rw [if_neg q]
        exact ⟨c, h, Int.le_refl _⟩
theorem fold_le {L B : List Int} {cs : Nat → Option Int} {p : Nat} : ∀ {its : List Itm} {acc : Cell2} {c : Int}, acc.1 = some c → ∃ c', (its.foldl (stepS L B cs p) acc).1 = some c' ∧ c' ≤ c
  | [], acc, c, h => ⟨c, h, Int.le_refl _⟩
  | it :: r, acc, c, h => by
    obtain ⟨c1, h1, h2⟩ := step_le (L := L) (B := B) (cs := cs) (p := p) (it := it) h
    obtain ⟨c2, h3, h4⟩ := fold_le (its := r) h1
    exact ⟨c2, h3, by omega⟩
theorem step_new {L B : List Int} {cs : Nat → Option Int} {p : Nat} {acc : Cell2} {it : Itm} {a r : Int} (h1 : costO L B it = some a) (h2 : cs (p + lenI it) = some r) : ∃ c', (stepS L B cs p acc it).1 = some c' ∧ c' ≤ a + r := by
  unfold stepS
  rw [h1, h2]
  cases h : acc.1 with
  | none => exact ⟨a + r, rfl, Int.le_refl _⟩
  | some c =>
    show ∃ c', (if a + r < c then (some (a + r), some it) else acc : Cell2).1 = some c' ∧ c' ≤ a + r
    by_cases q : a + r < c
    · rw [if_pos q]
      exact ⟨_, rfl, Int.le_refl _⟩
    · rw [if_neg q]
      exact ⟨c, h, by omega⟩
/-- no item leads for fewer bits -/
theorem fold_min {L B : List Int} {cs : Nat → Option Int} {p : Nat} : ∀ {its : List Itm} {acc : Cell2} {it : Itm} {a r : Int}, it ∈ its → costO L B it = some a → cs (p + lenI it) = some r → ∃ c', (its.foldl (stepS L B cs p) acc).1 = some c' ∧ c' ≤ a + r
  | x :: l, acc, it, a, r, m, h1, h2 => by
    rcases List.mem_cons.mp m with rfl | m
    · obtain ⟨c1, h3, h4⟩ := step_new (acc := acc) h1 h2
      obtain ⟨c2, h5, h6⟩ := fold_le (L := L) (B := B) (cs := cs) (p := p) (its := l) h3
      exact ⟨c2, h5, by omega⟩
    · exact fold_min (its := l) m h1 h2
/-- and one does for just so many -/
theorem fold_val {L B : List Int} {cs : Nat → Option Int} {p : Nat} : ∀ {its : List Itm} {acc : Cell2} {c : Int}, (its.foldl (stepS L B cs p) acc).1 = some c → (its.foldl (stepS L B cs p) acc = acc) ∨ ∃ it ∈ its, (its.foldl (stepS L B cs p) acc).2 = some it ∧ ∃ a r, costO L B it = some a ∧ cs (p + lenI it) = some r ∧ c = a + r
  | [], acc, c, h => .inl rfl
  | x :: l, acc, c, h => by
    have h' : (l.foldl (stepS L B cs p) (stepS L B cs p acc x)).1 = some c := h
    rcases fold_val (its := l) h' with h3 | ⟨it, m, h4, h5⟩
    · have e0 : (x :: l).foldl (stepS L B cs p) acc = stepS L B cs p acc x := h3
      rw [e0]
      rw [h3] at h'
      unfold stepS at h' ⊢
      cases h1 : costO L B x with
      | none => exact .inl rfl
      | some a =>
        cases h2 : cs (p + lenI x) with
        | none => exact .inl rfl
        | some r =>
          rw [h1, h2] at h'
          cases h6 : acc.1 with
          | none =>
            rw [h6] at h'
            exact .inr ⟨x, List.mem_cons_self .., rfl, a, r, h1, h2, (Option.some.inj h').symm⟩
          | some c0 =>
            rw [h6] at h'
            have h' : (if a + r < c0 then (some (a + r), some x) else acc : Cell2).1 = some c := h'
            show (if a + r < c0 then (some (a + r), some x) else acc : Cell2) = acc ∨ _
            by_cases q : a + r < c0
            · rw [if_pos q] at h'
              refine .inr ⟨x, List.mem_cons_self .., ?_, a, r, h1, h2, (Option.some.inj h').symm⟩
              show (if a + r < c0 then (some (a + r), some x) else acc : Cell2).2 = some x
              rw [if_pos q]
            · exact .inl (if_neg q)
    · exact .inr ⟨it, List.mem_cons_of_mem _ m, h4, h5⟩
theorem tab_val {e : List Nat} {lead en : Nat} {L B : List Int} (hk : ∀ k ∈ e, k < 256) {p : Nat} (hp : p < en) {c : Int} (h : (tab e lead en L B en p).1 = some c) :
    ∃ it ∈ itemsF e (lead + p) (min 18 (en - p)), (tab e lead en L B en p).2 = some it ∧ ∃ a r, costO L B it = some a ∧ (tab e lead en L B en (p + lenI it)).1 = some r ∧ c = a + r := by
  rw [tab_fix hk hp] at h
  rcases fold_val h with h1 | ⟨it, m, h2, h3⟩
  · rw [h1] at h
    cases h
  · exact ⟨it, m, by rw [tab_fix hk hp]; exact h2, h3⟩
theorem costO_nonneg {L B : List Int} (hL : ∀ x ∈ L, 0 ≤ x) (hB : ∀ x ∈ B, 0 ≤ x) {it : Itm} {a : Int} (h : costO L B it = some a) : 0 ≤ a := by
  have g : ∀ {X : List Int} (_ : ∀ x ∈ X, 0 ≤ x) (k : Nat), 0 ≤ X.getD k 0 := fun {X} hX k => by
    rw [List.getD_eq_getElem?_getD]
    cases q : X[k]? with
    | none => exact Int.le_refl 0
    | some x => exact hX x (List.mem_of_getElem? q)
  cases it with
  | b k =>
    have h : (if 0 < L.getD k 0 then some (L.getD k 0) else none) = some a := h
    by_cases q : 0 < L.getD k 0
    · rw [if_pos q] at h
      have e := Option.some.inj h
      omega
    · rw [if_neg q] at h
      cases h
  | c m r =>
    have h : (if L.getD (254 + m) 0 = 0 ∨ B.getD (Nat.log2 r) 0 = 0 then none else some (L.getD (254 + m) 0 + B.getD (Nat.log2 r) 0 + (Nat.log2 r : Nat))) = some a := h
    by_cases q : L.getD (254 + m) 0 = 0 ∨ B.getD (Nat.log2 r) 0 = 0
    · rw [if_pos q] at h
      cases h
    · rw [if_neg q] at h
      have := g hL (254 + m)
      have := g hB (Nat.log2 r)
      have e := Option.some.inj h
      omega
theorem tab_nonneg {e : List Nat} {lead en : Nat} {L B : List Int} (hk : ∀ k ∈ e, k < 256) (hL : ∀ x ∈ L, 0 ≤ x) (hB : ∀ x ∈ B, 0 ≤ x) : ∀ (d p : Nat) (c : Int), p ≤ en → en - p ≤ d → (tab e lead en L B en p).1 = some c → 0 ≤ c
  | d, p, c, h1, h2, h3 => by
    by_cases hp : p = en
    · rw [hp, tab_end] at h3
      have := Option.some.inj h3
      omega
    · obtain ⟨it, m, _, a, r, ha, hr, rfl⟩ := tab_val hk (by omega) h3
      obtain ⟨_, l1, l2⟩ := itemsF_ok hk (by omega) (by omega) m
      have := costO_nonneg hL hB ha
      match d, h2 with
      | 0, h2 => omega
      | d + 1, h2 =>
        have := tab_nonneg hk hL hB d (p + lenI it) r (by omega) (by omega) hr
        omega
def costsF (e : List Nat) (lead en : Nat) (L B : List Int) : List (Option Int) := (List.range (en + 1)).map fun i => (tab e lead en L B en i).1
theorem costsF_len (e : List Nat) (lead en : Nat) (L B : List Int) : (costsF e lead en L B).length = en + 1 := by simp [costsF]
theorem costsF_at {e : List Nat} {lead en : Nat} {L B : List Int} {q : Nat} (h : q ≤ en) : (costsF e lead en L B).getD q none = (tab e lead en L B en q).1 := by
  unfold costsF
  rw [List.getD_eq_getElem?_getD, List.getElem?_map, List.getElem?_range (by omega)]
  rfl
/-- its costs show themselves -/
theorem costsF_ok {e : List Nat} {lead en : Nat} {L B : List Int} (hk : ∀ k ∈ e, k < 256) (hen : en = e.length - lead) (hL : ∀ x ∈ L, 0 ≤ x) (hB : ∀ x ∈ B, 0 ≤ x) : noneBetter e lead (costsF e lead en L B) L B = true := by
  unfold noneBetter
  rw [Bool.and_eq_true, Bool.and_eq_true, Bool.and_eq_true]
  refine ⟨decide_eq_true (by rw [costsF_len]; omega), decide_eq_true ?_, List.all_eq_true.mpr fun o m => ?_, List.all_eq_true.mpr fun p hp => List.all_eq_true.mpr fun it m => ?_⟩
  · rw [costsF_len, show en + 1 - 1 = en by omega, costsF_at (Nat.le_refl _), tab_end]
  · obtain ⟨i, hi, rfl⟩ := List.mem_map.mp m
    have hi' := List.mem_range.mp hi
    cases q : (tab e lead en L B en i).1 with
    | none => rfl
    | some c => exact decide_eq_true (tab_nonneg hk hL hB en i c (by omega) (by omega) q)
  · have hp' := List.mem_range.mp hp
    rw [← hen] at hp' m
    obtain ⟨_, l1, l2⟩ := itemsF_ok hk (by omega) (by omega) m
    unfold badItem
    rw [costsF_at (by omega), costsF_at (by omega)]
    cases ha : costO L B it with
    | none => rfl
    | some a =>
      cases hr : (tab e lead en L B en (p + lenI it)).1 with
      | none => rfl
      | some r =>
        obtain ⟨c, h1, h2⟩ := fold_min (cs := fun q => (tab e lead en L B en q).1) (p := p) (acc := (none, none)) m ha hr
        rw [← tab_fix hk hp'] at h1
        rw [h1]
        show (!decide (a + r < c)) = true
        rw [decide_eq_false (by omega)]
        rfl
/-! ### the row tells the bytes -/
theorem mlGo_eq (e : List Nat) (h b : Nat) : ∀ f m i, m ≤ i → i < mlGo e h b f m → e.getD (h + i) 0 = e.getD (h + i - b) 0
  | 0, m, i, h1, h2 => by
    have : mlGo e h b 0 m = m := rfl
    omega
  | f + 1, m, i, h1, h2 => by
    have h2 : i < (if e.getD (h + m) 0 = e.getD (h + m - b) 0 then mlGo e h b f (m + 1) else m) := h2
    by_cases q : e.getD (h + m) 0 = e.getD (h + m - b) 0
    · rw [if_pos q] at h2
      by_cases hi : i = m
      · rw [hi]
        exact q
      · exact mlGo_eq e h b f (m + 1) i (by omega) h2
    · rw [if_neg q] at h2
      omega
theorem mem_prs2 {e : List Nat} {h lim i : Nat} {p : Int × Int} (m : p ∈ prs e h lim i) : ∃ o b : Nat, p = (-((3 + o : Nat) : Int), ((1 + b : Nat) : Int)) ∧ b < i ∧ 3 + o ≤ lim ∧ ∀ t, t < 3 + o → e.getD (h + t) 0 = e.getD (h + t - (1 + b)) 0 := by
  obtain ⟨b, hb0, hb⟩ := List.mem_flatMap.mp m
  obtain ⟨o, ho, rfl⟩ := List.mem_map.mp hb
  have h1 := List.mem_range.mp ho
  have h2 := (mlGo_le e h (1 + b) lim 0).2
  have h3 : ml e h (1 + b) lim ≤ 0 + lim := h2
  exact ⟨o, b, rfl, List.mem_range.mp hb0, by omega, fun t ht => mlGo_eq e h (1 + b) lim 0 t (Nat.zero_le _) (by show t < ml e h (1 + b) lim; omega)⟩
/-- an item of a place says what stands there -/
theorem item_says {e : List Nat} {h lim : Nat} {it : Itm} (m : it ∈ itemsF e h lim) : it = .b (e.getD h 0) ∨ ∃ k b, it = .c k b ∧ 1 ≤ b ∧ b ≤ h ∧ ∀ t, t < k → e.getD (h + t) 0 = e.getD (h + t - b) 0 := by
  rcases (List.mem_cons.mp m) with (rfl | m)
  · exact .inl rfl
  · obtain ⟨p, hp, rfl⟩ := List.mem_map.mp m
    obtain ⟨o, b, rfl, hb, ho, hh⟩ := mem_prs2 ((List.mergeSort_perm _ _).mem_iff.mp hp)
    have e1 : (-(-((3 + o : Nat) : Int))).toNat = 3 + o := by omega
    have e2 : ((1 + b : Nat) : Int).toNat = 1 + b := by omega
    refine .inr ⟨3 + o, 1 + b, ?_, by omega, by omega, hh⟩
    show Itm.c (-(-((3 + o : Nat) : Int))).toNat ((1 + b : Nat) : Int).toNat = _
    rw [e1, e2]
theorem take_snoc {e : List Nat} {h : Nat} (hh : h < e.length) : e.take h ++ [e.getD h 0] = e.take (h + 1) := by
  rw [List.take_add_one, List.getD_eq_getElem?_getD, List.getElem?_eq_getElem hh]
  rfl
theorem copy_says {e : List Nat} {b : Nat} (hb : 1 ≤ b) : ∀ (k h : Nat), b ≤ h → h + k ≤ e.length → (∀ t, t < k → e.getD (h + t) 0 = e.getD (h + t - b) 0) → copyN (e.take h) b k = e.take (h + k)
  | 0, h, _, _, _ => rfl
  | k + 1, h, h1, h2, hh => by
    show copyN (e.take h ++ [(e.take h).getD ((e.take h).length - b) 0]) b k = _
    have el : (e.take h).length = h := by rw [List.length_take]; omega
    have e0 : (e.take h).getD (h - b) 0 = e.getD h 0 := by
      have := hh 0 (by omega)
      rw [Nat.add_zero] at this
      rw [this, List.getD_eq_getElem?_getD, List.getD_eq_getElem?_getD, List.getElem?_take_of_lt (by omega)]
    rw [el, e0, take_snoc (by omega), copy_says hb k (h + 1) (by omega) (by omega) fun t ht => ?_, show h + 1 + k = h + (k + 1) by omega]
    have := hh (t + 1) (by omega)
    rw [show h + 1 + t = h + (t + 1) by omega]
    exact this
theorem row_says {e : List Nat} {lead en : Nat} {L B : List Int} (hk : ∀ k ∈ e, k < 256) (hen : lead + en = e.length) : ∀ (f p : Nat), p ≤ en → en - p ≤ f → (tab e lead en L B en p).1 ≠ none →
    tells (e.take (lead + p)) (rowS (tab e lead en L B en) en f p) = some e ∧ bitsO L B (rowS (tab e lead en L B en) en f p) = (tab e lead en L B en p).1 ∧ (∀ it ∈ rowS (tab e lead en L B en) en f p, ItmOk it) ∧ (rowS (tab e lead en L B en) en f p).length ≤ en - p
  | 0, p, h1, h2, h3 => by
    have hp : p = en := by omega
    subst hp
    rw [tab_end]
    refine ⟨?_, rfl, fun it m => (by cases m), Nat.zero_le _⟩
    show some (e.take (lead + p)) = some e
    rw [List.take_of_length_le (by omega)]
  | f + 1, p, h1, h2, h3 => by
    by_cases hp : p < en
    · cases hc : (tab e lead en L B en p).1 with
      | none => exact absurd hc h3
      | some c =>
        obtain ⟨it, m, h4, a, r, ha, hr, rfl⟩ := tab_val hk hp hc
        obtain ⟨ok, l1, l2⟩ := itemsF_ok hk (by omega) (by omega) m
        have er : rowS (tab e lead en L B en) en (f + 1) p = it :: rowS (tab e lead en L B en) en f (p + lenI it) := by
          show (if p < en then (match (tab e lead en L B en p).2 with
            | some it => it :: rowS (tab e lead en L B en) en f (p + lenI it)
            | none => []) else []) = _
          rw [if_pos hp, h4]
        obtain ⟨i1, i2, i3, i4⟩ := row_says hk hen f (p + lenI it) (by omega) (by omega) (by rw [hr]; exact fun z => by cases z)
        rw [er]
        refine ⟨?_, ?_, fun x mx => ?_, by rw [List.length_cons]; omega⟩
        · rcases item_says m with rfl | ⟨k, b, rfl, b1, b2, hh⟩
          · show tells (e.take (lead + p) ++ [e.getD (lead + p) 0]) _ = some e
            rw [take_snoc (by omega)]
            exact i1
          · have lk : lenI (.c k b) = k := rfl
            rw [lk] at i1 l1 l2 hr
            show (if b ≤ (e.take (lead + p)).length then tells (copyN (e.take (lead + p)) b k) _ else none) = some e
            rw [if_pos (by rw [List.length_take]; omega), copy_says b1 k (lead + p) b2 (by omega) hh, lk, show lead + p + k = lead + (p + k) by omega]
            exact i1
        · show sumO (costO L B it :: _) = _
          rw [ha]
          show (bitsO L B (rowS (tab e lead en L B en) en f (p + lenI it))).map (a + ·) = _
          rw [i2, hr]
          rfl
        · rcases List.mem_cons.mp mx with rfl | mx
          · exact ok
          · exact i3 x mx
    · have hp' : p = en := by omega
      subst hp'
      have er : rowS (tab e lead p L B p) p (f + 1) p = [] := by
        show (if p < p then _ else _) = _
        rw [if_neg (by omega)]
      rw [er, tab_end]
      refine ⟨?_, rfl, fun it m => (by cases m), Nat.zero_le _⟩
      show some (e.take (lead + p)) = some e
      rw [List.take_of_length_le (by omega)]
end K7

namespace K7
open PySem PySem.Spec PyProof.Rows L2 SBX
open K2 (wAt coinsL)
/-! ### a stream's blocks are read: pure -/
/-- a row that tells every from p to q -/
inductive Row (every : List Nat) : Nat → List Itm → Nat → Prop
  | nil (p : Nat) : Row every p [] p
  | cons {p q : Nat} {it : Itm} {r : List Itm} (ok : ItmOk it) (fit : fitI (every.take p) it) (put : putI (every.take p) it = every.take (p + lenI it)) (pos : 1 ≤ lenI it) (h : Row every (p + lenI it) r q) : Row every p (it :: r) q
theorem Row.snoc {every : List Nat} {p q : Nat} {its : List Itm} {it : Itm} (h : Row every p its q) (ok : ItmOk it) (fit : fitI (every.take q) it) (put : putI (every.take q) it = every.take (q + lenI it)) (pos : 1 ≤ lenI it) : Row every p (its ++ [it]) (q + lenI it) := by
  induction h with
  | nil p => exact .cons ok fit put pos (.nil _)
  | cons a b c d _ ih => exact .cons a b c d (ih fit put)
theorem Row.len {every : List Nat} {p q : Nat} {its : List Itm} (h : Row every p its q) : p + its.length ≤ q ∧ ∀ it ∈ its, ItmOk it := by
  induction h with
  | nil p => exact ⟨Nat.le_refl _, fun it m => by cases m⟩
  | cons a b c d _ ih =>
    refine ⟨by rw [List.length_cons]; omega, fun it m => ?_⟩
    rcases List.mem_cons.mp m with rfl | m
    · exact a
    · exact ih.2 it m
/-- an item that can stand at a place tells on -/
theorem row_item {every : List Nat} {p en : Nat} {it : Itm} (hk : ∀ k ∈ every, k < 256) (hp : p < en) (hen : en ≤ every.length) (m : it ∈ itemsF every p (min 18 (en - p))) :
    ItmOk it ∧ fitI (every.take p) it ∧ putI (every.take p) it = every.take (p + lenI it) ∧ 1 ≤ lenI it ∧ p + lenI it ≤ en := by
  obtain ⟨ok, l1, l2⟩ := itemsF_ok hk (by omega) (by omega) m
  have l3 : p + lenI it ≤ en := by omega
  rcases item_says m with rfl | ⟨k, b, rfl, b1, b2, hh⟩
  · refine ⟨ok, trivial, ?_, l1, l3⟩
    exact take_snoc (by omega)
  · have l3 : p + k ≤ en := l3
    refine ⟨ok, ?_, copy_says b1 k p b2 (by omega) hh, l1, l3⟩
    show b ≤ (every.take p).length
    rw [List.length_take]
    omega
/-- what stays of a reading in a block -/
structure Keeps (s s' : RS) (n : Nat) (e : List Nat) : Prop where
  nx : s'.nx = n
  whole : s'.whole = e
theorem row_runs {every : List Nat} (he : every.length ≤ 9000) {p q : Nat} {its : List Itm} (h : Row every p its q) : ∀ s : RS, s.nx = 4 → WP s.tL s.tB → s.whole = every.take p → q ≤ every.length → q ≤ p + s.left → (∀ it ∈ its, costO s.tL s.tB it ≠ none) →
    ∃ s', Runs s (its.map Stp.itm) ((its.map (itT s.tL s.tB)).flatten) s' ∧ s'.nx = 4 ∧ s'.last = s.last ∧ s'.tL = s.tL ∧ s'.tB = s.tB ∧ s'.whole = every.take q := by
  induction h with
  | nil p => exact fun s h1 _ h3 _ _ _ => ⟨s, .nil s, h1, rfl, rfl, rfl, h3⟩
  | @cons p q it r ok fit put pos hr ih =>
    intro s h1 W h3 h4 h5 h6
    have hle := hr.len.1
    have hl : (every.take p).length ≤ p := by rw [List.length_take]; exact Nat.min_le_left _ _
    have okk : okS s (.itm it) := ⟨h1, W, ok, h6 it (List.mem_cons_self ..), by omega, by rw [h3]; exact fit, by rw [h3]; omega⟩
    obtain ⟨s', r1, r2, r3, r4, r5, r6⟩ := ih (stS s (.itm it)) h1 W (by show putI s.whole it = _; rw [h3]; exact put) h4 (by show q ≤ p + lenI it + (s.left - lenI it); omega) (fun x hx => h6 x (List.mem_cons_of_mem _ hx))
    exact ⟨s', .cons okk r1, r2, r3, r4, r5, r6⟩
theorem pln_runs {every : List Nat} (he : every.length ≤ 8000) (hk : ∀ k ∈ every, k < 256) : ∀ (n p : Nat) (s : RS), s.nx = 2 → s.left = n → s.whole = every.take p → p + n ≤ every.length →
    ∃ ss s', Runs s ss (b8 ((every.drop p).take n)) s' ∧ s'.nx = (if s.last then 5 else 0) ∧ s'.whole = every.take (p + n)
  | 0, p, s, h1, h2, h3, h4 => by
    refine ⟨[.pend], stS s .pend, Runs.one (t := .pend) ⟨h1, h2⟩, rfl, h3⟩
  | n + 1, p, s, h1, h2, h3, h4 => by
    have hp : p < every.length := by omega
    have e1 : every.drop p = every[p] :: every.drop (p + 1) := List.drop_eq_getElem_cons hp
    have hw : s.whole.length ≤ p := by rw [h3, List.length_take]; exact Nat.min_le_left _ _
    have okk : okS s (.byt every[p]) := ⟨h1, by omega, hk _ (List.getElem_mem hp), by omega⟩
    have e2 : every.take p ++ [every[p]] = every.take (p + 1) := by rw [List.take_add_one, List.getElem?_eq_getElem hp]; rfl
    obtain ⟨ss, s', r1, r2, r3⟩ := pln_runs he hk n (p + 1) (stS s (.byt every[p])) h1 (by show s.left - 1 = n; omega) (by show s.whole ++ [every[p]] = _; rw [h3, e2]) (by omega)
    refine ⟨.byt every[p] :: ss, s', ?_, r2, by rw [r3, show p + 1 + n = p + (n + 1) by omega]⟩
    have e3 : b8 ((every.drop p).take (n + 1)) = bitsL every[p] 8 ++ b8 ((every.drop (p + 1)).take n) := by
      rw [e1]
      rfl
    rw [e3]
    exact .cons okk r1
/-! heads: runs of lengths -/
def hdB (rs : List (Nat × Nat)) : List Nat := (rs.map fun x => bitsL x.1 4 ++ bitsL (x.2 - 1) 5).flatten
def hdL (rs : List (Nat × Nat)) : List Int := (rs.map fun x => List.replicate x.2 (x.1 : Int)).flatten
structure HdOk (rs : List (Nat × Nat)) (X : List Int) : Prop where
  tell : hdL rs = X
  ok : ∀ x ∈ rs, x.1 ≤ 12 ∧ 1 ≤ x.2 ∧ x.2 ≤ 32
theorem hdL_cons (x : Nat × Nat) (r : List (Nat × Nat)) : hdL (x :: r) = List.replicate x.2 (x.1 : Int) ++ hdL r := by
  unfold hdL
  rw [List.map_cons, List.flatten_cons]
theorem hdB_cons (x : Nat × Nat) (r : List (Nat × Nat)) : hdB (x :: r) = bitsL x.1 4 ++ bitsL (x.2 - 1) 5 ++ hdB r := by
  unfold hdB
  rw [List.map_cons, List.flatten_cons]
theorem hdL_pos {rs : List (Nat × Nat)} (h : ∀ x ∈ rs, 1 ≤ x.2) : rs.length ≤ (hdL rs).length := by
  induction rs with
  | nil => exact Nat.le_refl _
  | cons x r ih =>
    rw [hdL_cons, List.length_append, List.length_replicate, List.length_cons]
    have := ih fun y hy => h y (List.mem_cons_of_mem _ hy)
    have := h x (List.mem_cons_self ..)
    omega
theorem hdB_len (rs : List (Nat × Nat)) : (hdB rs).length = 9 * rs.length := by
  induction rs with
  | nil => rfl
  | cons x r ih => rw [hdB_cons, List.length_append, List.length_append, bits_len, bits_len, ih, List.length_cons]; omega
theorem head_runs {L B : List Int} (W : WP L B) (h0 : 0 < L.getD 256 0) : ∀ (rs : List (Nat × Nat)) (s : RS), rs ≠ [] → s.nx = 3 → s.lens ++ hdL rs = L ++ B → (∀ x ∈ rs, x.1 ≤ 12 ∧ 1 ≤ x.2 ∧ x.2 ≤ 32) →
    ∃ s', Runs s (rs.map fun x => Stp.run x.1 x.2) (hdB rs) s' ∧ s'.nx = 4 ∧ s'.last = s.last ∧ s'.tL = L ∧ s'.tB = B ∧ s'.whole = s.whole ∧ s'.left = s.left
  | [], s, hne, _, _, _ => absurd rfl hne
  | x :: r, s, _, h3, hX, hok => by
    have h273 := W.l273
    have h11 := W.b11
    obtain ⟨o1, o2, o3⟩ := hok x (List.mem_cons_self ..)
    have hlen := congrArg List.length hX
    rw [hdL_cons, List.length_append, List.length_append, List.length_append, List.length_replicate, h273, h11] at hlen
    have t1 : (L ++ B).take 273 = L := by rw [← h273, List.take_left]
    have t2 : (L ++ B).drop 273 = B := by rw [← h273, List.drop_left]
    have h0' : 0 < (L ++ B).getD 256 0 := by
      rw [List.getD_eq_getElem?_getD, List.getElem?_append_left (by omega), ← List.getD_eq_getElem?_getD]
      exact h0
    match r, hX, hok, hlen with
    | [], hX, hok, hlen =>
      have hlen : s.lens.length + (x.2 + 0) = 273 + 11 := hlen
      have eX : runX s x.1 x.2 = L ++ B := by
        rw [hdL_cons, show hdL [] = [] from rfl, List.append_nil] at hX
        exact hX
      have hfu : s.lens.length + x.2 = 284 := by omega
      have okk : okS s (.run x.1 x.2) := ⟨h3, o1, o2, o3, by omega, fun _ => by rw [eX, t1, t2]; exact ⟨W, h0'⟩⟩
      have eg : goS s (.run x.1 x.2) = { s with nx := 4, lens := runX s x.1 x.2, tL := (runX s x.1 x.2).take 273, tB := (runX s x.1 x.2).drop 273 } := if_pos hfu
      refine ⟨stS s (.run x.1 x.2), Runs.cons okk (.nil _), ?_, ?_, ?_, ?_, ?_, ?_⟩
      · show (goS s (.run x.1 x.2)).nx = 4
        rw [eg]
      · show (goS s (.run x.1 x.2)).last = _
        rw [eg]
      · show (goS s (.run x.1 x.2)).tL = L
        rw [eg]
        show (runX s x.1 x.2).take 273 = L
        rw [eX, t1]
      · show (goS s (.run x.1 x.2)).tB = B
        rw [eg]
        show (runX s x.1 x.2).drop 273 = B
        rw [eX, t2]
      · show (goS s (.run x.1 x.2)).whole = _
        rw [eg]
      · show (goS s (.run x.1 x.2)).left = _
        rw [eg]
    | y :: r, hX, hok, hlen =>
      have hy := hok y (List.mem_cons_of_mem _ (List.mem_cons_self ..))
      rw [hdL_cons, List.length_append, List.length_replicate] at hlen
      have hfu : ¬ s.lens.length + x.2 = 284 := by omega
      have okk : okS s (.run x.1 x.2) := ⟨h3, o1, o2, o3, by omega, fun z => absurd z hfu⟩
      have eg : goS s (.run x.1 x.2) = { s with lens := runX s x.1 x.2 } := if_neg hfu
      have e1 : (stS s (.run x.1 x.2)).nx = 3 := by
        show (goS s (.run x.1 x.2)).nx = 3
        rw [eg]
        exact h3
      have e2 : (stS s (.run x.1 x.2)).lens ++ hdL (y :: r) = L ++ B := by
        show (goS s (.run x.1 x.2)).lens ++ _ = _
        rw [eg]
        show s.lens ++ List.replicate x.2 (x.1 : Int) ++ hdL (y :: r) = _
        rw [List.append_assoc, ← hdL_cons]
        exact hX
      obtain ⟨s', r1, r2, r3, r4, r5, r6, r7⟩ := head_runs W h0 (y :: r) (stS s (.run x.1 x.2)) (fun z => by cases z) e1 e2 (fun z hz => hok z (List.mem_cons_of_mem _ hz))
      refine ⟨s', ?_, r2, ?_, r4, r5, ?_, ?_⟩
      · rw [hdB_cons]
        exact Runs.cons okk r1
      · rw [r3]
        show (goS s (.run x.1 x.2)).last = _
        rw [eg]
      · rw [r6]
        show (goS s (.run x.1 x.2)).whole = _
        rw [eg]
      · rw [r7]
        show (goS s (.run x.1 x.2)).left = _
        rw [eg]
end K7

namespace K7
open PySem PySem.Spec PyProof.Rows L2 SBX
open K2 (wAt coinsL)
/-! ### blocks, noughts behind them, bytes: pure -/
theorem told_cost {it : Itm} (h : ItmOk it) : costO toldL toldB it ≠ none := by
  have hL : ∀ k : Nat, k < 273 → 0 < toldL.getD k 0 := by
    have : ∀ k : Fin 273, 0 < toldL.getD k.1 0 := by decide +kernel
    exact fun k hk => this ⟨k, hk⟩
  have hB : ∀ k : Nat, k < 11 → 0 < toldB.getD k 0 := by
    have : ∀ k : Fin 11, 0 < toldB.getD k.1 0 := by decide +kernel
    exact fun k hk => this ⟨k, hk⟩
  cases it with
  | b k =>
    have hk : k < 256 := h
    show (if 0 < toldL.getD k 0 then _ else none) ≠ none
    rw [if_pos (hL k (by omega))]
    exact fun z => by cases z
  | c m r =>
    obtain ⟨h1, h2, h3, h4⟩ := h
    have e1 := hL (254 + m) (by omega)
    have e2 := hB _ (log_lt h3 h4)
    show (if toldL.getD (254 + m) 0 = 0 ∨ toldB.getD (Nat.log2 r) 0 = 0 then none else _) ≠ none
    rw [if_neg (by omega)]
    exact fun z => by cases z
theorem told_end0 : 0 < toldL.getD 256 0 := by decide +kernel
/-- a row and its end -/
theorem rowT_runs {every : List Nat} (he : every.length ≤ 8000) {p q : Nat} {its : List Itm} (h : Row every p its q) (s : RS) (h1 : s.nx = 4) (W : WP s.tL s.tB) (h3 : s.whole = every.take p) (h4 : q ≤ every.length) (h5 : q ≤ p + s.left) (h6 : ∀ it ∈ its, costO s.tL s.tB it ≠ none) (h0 : 0 < s.tL.getD 256 0) :
    ∃ ss s', Runs s ss (rowT s.tL s.tB its) s' ∧ s'.nx = (if s.last then 5 else 0) ∧ s'.whole = every.take q := by
  obtain ⟨s1, r1, r2, r3, r4, r5, r6⟩ := row_runs (by omega) h s h1 W h3 h4 h5 h6
  have okk : okS s1 .iend := ⟨r2, by rw [r4, r5]; exact W, by rw [r4]; exact h0⟩
  have r7 := Runs.one okk
  have e1 : sbS s1 .iend = wdL s.tL 256 := by
    show wdL s1.tL 256 = _
    rw [r4]
  rw [e1] at r7
  refine ⟨_, stS s1 .iend, r1.app r7, ?_, r6⟩
  show (if s1.last then 5 else 0) = _
  rw [r3]
inductive Body (every : List Nat) (p q : Nat) : Nat → List Nat → Prop
  | plain : Body every p q 0 (bitsL (q - p) 11 ++ b8 ((every.drop p).take (q - p)))
  | told {its : List Itm} (h : Row every p its q) : Body every p q 1 (rowT toldL toldB its)
  | own {its : List Itm} {rs : List (Nat × Nat)} (h : Row every p its q) (R : RwOk its) (hd : HdOk rs (ownL its ++ ownB its)) : Body every p q 2 (hdB rs ++ rowT (ownL its) (ownB its) its)
theorem blk_runs {every : List Nat} (he : every.length ≤ 1900) (hk : ∀ k ∈ every, k < 256) {p q k : Nat} {T : List Nat} (hpq : p ≤ q) (hq : q ≤ every.length) (hb : Body every p q k T) (s : RS) (h1 : s.nx = 0) (h3 : s.whole = every.take p) (last : Bool) :
    ∃ ss s', Runs s ss (bitsL (lastN last) 1 ++ bitsL k 2 ++ T) s' ∧ s'.nx = (if last then 5 else 0) ∧ s'.whole = every.take q := by
  cases hb with
  | plain =>
    have okk : okS s (.blk last 0) := ⟨h1, by decide⟩
    have ok2 : okS (stS s (.blk last 0)) (.cnt (q - p)) := ⟨rfl, by omega⟩
    obtain ⟨ss, s', r1, r2, r3⟩ := pln_runs (by omega) hk (q - p) p (stS (stS s (.blk last 0)) (.cnt (q - p))) rfl rfl h3 (by omega)
    refine ⟨_, s', Runs.cons okk (Runs.cons ok2 r1), r2, by rw [r3, show p + (q - p) = q by omega]⟩
  | told h =>
    have okk : okS s (.blk last 1) := ⟨h1, by decide⟩
    obtain ⟨ss, s', r1, r2, r3⟩ := rowT_runs (by omega) h (stS s (.blk last 1)) rfl toldWP h3 hq (by show q ≤ p + 2000; omega) (fun it hi => told_cost (h.len.2 it hi)) told_end0
    exact ⟨_, s', Runs.cons okk r1, r2, r3⟩
  | @own its rs h R hd =>
    have okk : okS s (.blk last 2) := ⟨h1, by decide⟩
    have W := ownWP R
    obtain ⟨c1, c2⟩ := own_pos R
    have hne : rs ≠ [] := fun z => by
      have := congrArg List.length hd.tell
      rw [z, List.length_append, W.l273, W.b11] at this
      cases this
    obtain ⟨s1, r1, r2, r3, r4, r5, r6, r7⟩ := head_runs W c1 rs (stS s (.blk last 2)) hne rfl (by show [] ++ hdL rs = _; rw [List.nil_append]; exact hd.tell) hd.ok
    obtain ⟨ss, s', g1, g2, g3⟩ := rowT_runs (by omega) h s1 r2 (by rw [r4, r5]; exact W) (by rw [r6]; exact h3) hq (by rw [r7]; show q ≤ p + 2000; omega) (by rw [r4, r5]; exact c2) (by rw [r4]; exact c1)
    rw [r4, r5] at g1
    exact ⟨_, s', Runs.cons okk (r1.app g1), by rw [g2, r3]; rfl, g3⟩
theorem pad_runs : ∀ (m : Nat) (s : RS), s.nx = 5 → (s.pos + m) % 8 = 0 → m < 8 → ∃ ss s', Runs s ss (List.replicate m 48) s' ∧ s'.nx = 5 ∧ s'.whole = s.whole
  | 0, s, h1, _, _ => ⟨[], s, .nil s, h1, rfl⟩
  | m + 1, s, h1, h2, h3 => by
    have okk : okS s .pad := ⟨h1, by omega⟩
    obtain ⟨ss, s', r1, r2, r3⟩ := pad_runs m (stS s .pad) h1 (by show (s.pos + 1 + m) % 8 = 0; rw [show s.pos + 1 + m = s.pos + (m + 1) by omega]; exact h2) (by omega)
    refine ⟨.pad :: ss, s', ?_, r2, r3⟩
    rw [List.replicate_succ]
    exact Runs.cons okk r1
theorem snoc_ind {P : List Nat → Prop} (h0 : P []) (hs : ∀ l c, P l → P (l ++ [c])) (l : List Nat) : P l := by
  have : ∀ r : List Nat, P r.reverse := fun r => by
    induction r with
    | nil => exact h0
    | cons c r ih =>
      rw [List.reverse_cons]
      exact hs _ _ ih
  rw [← List.reverse_reverse l]
  exact this _
theorem bits_bin (l : List Nat) : (∀ c ∈ l, IsBit c) → bitsL (binNum l) l.length = l := by
  refine snoc_ind (P := fun l => (∀ c ∈ l, IsBit c) → bitsL (binNum l) l.length = l) (fun _ => rfl) (fun l c ih h => ?_) l
  have hc := h c (List.mem_append_right _ (List.mem_singleton_self c))
  have hl := ih fun x hx => h x (List.mem_append_left _ hx)
  rw [List.length_append, List.length_singleton, bitsL, bin_app]
  have h2 : c - 48 < 2 := (hv_bit hc).2
  have h48 : 48 ≤ c := by rcases hc with rfl | rfl <;> decide
  rw [show (binNum l * 2 + (c - 48)) / 2 = binNum l by omega, hl, show 48 + (binNum l * 2 + (c - 48)) % 2 = c by omega]
theorem bin_lt (l : List Nat) : (∀ c ∈ l, IsBit c) → binNum l < 2 ^ l.length := by
  refine snoc_ind (P := fun l => (∀ c ∈ l, IsBit c) → binNum l < 2 ^ l.length) (fun _ => by decide) (fun l c ih h => ?_) l
  have hc := h c (List.mem_append_right _ (List.mem_singleton_self c))
  have hl := ih fun x hx => h x (List.mem_append_left _ hx)
  have h2 : c - 48 < 2 := (hv_bit hc).2
  rw [List.length_append, List.length_singleton, bin_app, Nat.pow_succ]
  omega
/-- the bytes of bits, eight each -/
def strmU (P : List Nat) (n : Nat) : List Nat := (List.range n).map fun i => binNum ((P.drop (8 * i)).take 8)
theorem strmU_succ (P : List Nat) (n : Nat) : strmU P (n + 1) = strmU P n ++ [binNum ((P.drop (8 * n)).take 8)] := by
  unfold strmU
  rw [List.range_succ, List.map_append]
  rfl
theorem strmU_b8 {P : List Nat} (hP : ∀ c ∈ P, IsBit c) : ∀ n, 8 * n ≤ P.length → b8 (strmU P n) = P.take (8 * n) ∧ ∀ k ∈ strmU P n, k < 256
  | 0, _ => ⟨rfl, fun k m => by cases m⟩
  | n + 1, h => by
    obtain ⟨i1, i2⟩ := strmU_b8 hP n (by omega)
    have hl : ((P.drop (8 * n)).take 8).length = 8 := by
      rw [List.length_take, List.length_drop]
      omega
    have hb : ∀ c ∈ (P.drop (8 * n)).take 8, IsBit c := fun c hc => hP c (List.mem_of_mem_drop (List.mem_of_mem_take hc))
    have e1 := bits_bin _ hb
    rw [hl] at e1
    rw [strmU_succ, b8_app, i1]
    refine ⟨?_, fun k m => ?_⟩
    · show _ ++ (bitsL (binNum ((P.drop (8 * n)).take 8)) 8 ++ []) = _
      rw [List.append_nil, e1, show 8 * (n + 1) = 8 * n + 8 by omega, List.take_add]
    · rcases List.mem_append.mp m with m | m
      · exact i2 k m
      · rw [List.mem_singleton.mp m]
        have := bin_lt _ hb
        rw [hl] at this
        exact this
theorem sbS_bits {s : RS} {g : Stp} (ok : okS s g) : ∀ c ∈ sbS s g, IsBit c := by
  have hw : ∀ {ls : List Int} {k : Nat}, WdOk ls → k < ls.length → 0 < ls.getD k 0 → ∀ c ∈ wdL ls k, IsBit c := fun h1 h2 h3 => (wd_ne h1 h2 h3).2.2
  cases g with
  | blk b n => intro c hc; rcases List.mem_append.mp hc with hc | hc <;> exact bits_are _ _ c hc
  | cnt n => exact bits_are _ _
  | byt k => exact bits_are _ _
  | pend => intro c hc; cases hc
  | run l m => intro c hc; rcases List.mem_append.mp hc with hc | hc <;> exact bits_are _ _ c hc
  | itm it =>
    obtain ⟨_, W, hio, hc0, _⟩ := ok
    cases it with
    | b k =>
      obtain ⟨c, hc⟩ := Option.ne_none_iff_exists'.mp hc0
      have hk : k < 256 := hio
      exact hw W.l (by have := W.l273; omega) (cost_byte hc).1
    | c m r =>
      obtain ⟨c, hc⟩ := Option.ne_none_iff_exists'.mp hc0
      obtain ⟨h1, h2, _⟩ := cost_pos W hc
      obtain ⟨a1, a2, a3, a4⟩ := hio
      have := log_lt a3 a4
      intro x hx
      rcases List.mem_append.mp (show x ∈ wdL s.tL (254 + m) ++ wdL s.tB (Nat.log2 r) ++ bitsL (r - 2 ^ Nat.log2 r) (Nat.log2 r) from hx) with hx | hx
      · rcases List.mem_append.mp hx with hx | hx
        · exact hw W.l (by have := W.l273; omega) h1 x hx
        · exact hw W.b (by have := W.b11; omega) h2 x hx
      · exact bits_are _ _ x hx
  | iend =>
    obtain ⟨_, W, h0⟩ := ok
    exact hw W.l (by have := W.l273; omega) h0
  | pad => intro c hc; rw [List.mem_singleton.mp hc]; exact .inl rfl
theorem Runs.bits {a z : RS} {r : List Stp} {D : List Nat} (h : Runs a r D z) : ∀ c ∈ D, IsBit c := by
  induction h with
  | nil => intro c hc; cases hc
  | cons ok _ ih =>
    intro c hc
    rcases List.mem_append.mp hc with hc | hc
    · exact sbS_bits ok c hc
    · exact ih c hc
/-- noughts to a whole byte -/
def padN (n : Nat) : Nat := (8 - n % 8) % 8
theorem strm_ok {lead nums T : List Nat} {ss : List Stp} {s : RS} (h : Runs (rs0 lead) ss T s) (h5 : s.nx = 5) (hw : s.whole = lead ++ nums) (hT : T.length ≤ 70000) (hne : T ≠ []) (hk : ∀ k ∈ lead ++ nums, k < 256) (hl : (lead ++ nums).length ≤ 8000) :
    ∃ z ss', StrmOk lead nums (strmU (T ++ List.replicate (padN T.length) 48) ((T.length + padN T.length) / 8)) z ss' ∧ (T ++ List.replicate (padN T.length) 48).length = 8 * ((T.length + padN T.length) / 8) := by
  have hp : s.pos = T.length := by
    rw [h.pos]
    show 0 + _ = _
    omega
  have hpad : (T.length + padN T.length) % 8 = 0 ∧ padN T.length < 8 := by
    unfold padN
    omega
  obtain ⟨ss2, z, r1, r2, r3⟩ := pad_runs (padN T.length) s h5 (by rw [hp]; exact hpad.1) hpad.2
  have r4 := h.app r1
  have hlen : (T ++ List.replicate (padN T.length) 48).length = 8 * ((T.length + padN T.length) / 8) := by
    rw [List.length_append, List.length_replicate]
    omega
  obtain ⟨b1, b2⟩ := strmU_b8 r4.bits ((T.length + padN T.length) / 8) (by omega)
  rw [← hlen, List.take_length] at b1
  have zp := r4.pos
  rw [List.length_append, List.length_replicate] at zp
  have zp : z.pos = 0 + (T.length + padN T.length) := zp
  refine ⟨z, _, ⟨by rw [b1]; exact r4, ⟨r2, by omega, by omega, by rw [r3, hw], hk, by omega⟩, fun e => ?_, b2⟩, hlen⟩
  rw [e] at b1
  exact hne (List.append_eq_nil_iff.mp b1.symm).1
end K7

/-! ### set(xs) of a list of ints -/
namespace SLX
open PySem PySem.Spec PyProof.Rows L2
abbrev nSet (w : World) : Obj := { cls := .type "set", dict := none, data := .set #[] 0 (.fresh 0 0 (!w.params.followText "set-order")) }
section
variable {P : Program} {w : World} {A : Around} {E : Value → Shared → Prop} {s : Shared}
set_option maxHeartbeats 4100000 in
theorem set_ints {l : Addr} {items : Array Value} (ns : List Int) {Q : Value → Shared → Prop} (hh : A.handled = none) (hl : s.heap.IsList l items) (hit : IntsAre items.toList ns) (hb : ns.length + 1 < scanBound)
    (h : ∀ (h' : Heap) (tk c : Nat), SetR w h' s.heap.objs.size (fun j => decide (j ∈ ns)) c → c ≤ ns.length → (∀ b o, s.heap.get? b = some o → h'.get? b = some o) → Q (.ref s.heap.objs.size) { s with heap := h', toks := tk }) :
    wpAny (model P w) A (call (.type "set") [.ref l]) Q E s := by
  have sz : items.size = ns.length := (Array.length_toList ▸ IntsAre.length hit : items.size = ns.length)
  obtain ⟨c, tl, hmro⟩ := F.called_set.mro
  have hmade := F.called_set.made; have hsub := F.called_set.sub
  refine wpAny_call (codeAny_of_tree ?_)
  show wpAny (model P w) _ (callAny (.type "set") _) _ _ _
  refine wpAny_pure ⟨Code.quiet_builtin _ (by decide +kernel), codeAny_builtin F.entry_type_call ?_⟩; rw [Around.under_plain (weight_type_call_type "set" [.ref l] []) rfl]
  have h1 := F.called_set.notType; have h2 := F.called_set.canCreate; have hct := F.typeCall_set_1 (.ref l)
  repeat (any_goals (first | assumption | wp_step))
  refine codeAny_mono (code_set_led1 (.ref l) (E := E) (Q₁ := fun obj s₁ => obj = .ref s.heap.objs.size ∧ s₁ = { s with heap := s.heap.push (nSet w) }) ⟨rfl, rfl⟩) fun r s₁ hr => ?_
  cases r with
  | error e => exact hr
  | ok fl =>
    cases fl with
    | ret obj =>
      obtain ⟨rfl, rfl⟩ := hr
      have hS : (s.heap.push (nSet w)).get? s.heap.objs.size = some (nSet w) := Heap.get?_push_size _ rfl
      have hT : Shared.TypeIs { s with heap := s.heap.push (nSet w) } (.ref s.heap.objs.size) "set" := ⟨_, hS, rfl⟩
      have hli := F.called_set.init.lookup; have hbi := F.called_set.init.bind (.ref s.heap.objs.size)
      repeat (any_goals (first | assumption | wp_step))
      refine codeAny_mono (codeAny_call_builtin (R := wants (fun r s₂ => r = .none ∧ ∃ h' tk c, s₂ = { s with heap := h', toks := tk } ∧ SetR w h' s.heap.objs.size (fun j => decide (j ∈ ns)) c ∧ c ≤ ns.length ∧ (∀ b o, s.heap.get? b = some o → h'.get? b = some o)) E) F.called_set.init.plain F.entry_set_init (check_set_init_1 hT ?_)) fun r₂ s₂ hr₂ => ?_
      · obtain ⟨ol, hol, hcl, nl, hdl⟩ := hl
        obtain ⟨ocls, odict, odata, oslots⟩ := ol
        (simp only at hcl hdl); (subst hcl; subst hdl)
        have hol' : (s.heap.push (nSet w)).get? l = some { cls := .type "list", dict := odict, data := .seq items nl, slots := oslots } := Heap.get?_push_of_some _ hol
        have hsls := F.sub_list_set; have hslf := F.sub_list_frozenset
        have hne : (Value.type "list" == Value.type "dict") = false := by decide
        have hl1 : (s.heap.push (nSet w)).IsList l items := ⟨_, hol', rfl, nl, rfl⟩
        unfold Builtin.«set.__init__» noKeywords Builtin.Frozenset.updateFrom
        generalize hPI : pyIter = PI
        wp_walk
        subst hPI
        refine wpAny_pyIter_list hl1 (wpAny_bind (wpAny_runValue ?_))
        have hlS : l < s.heap.objs.size := Heap.lt_size hol
        have hz1 : (s.heap.push (nSet w)).objs.size = s.heap.objs.size + 1 := Heap.size_push ..
        have hneI : l ≠ (s.heap.push (nSet w)).objs.size := by (rw [Heap.size_push]); (exact Nat.ne_of_lt (Nat.lt_succ_of_lt hlS))
        have hSf : s.heap.objs.size ∉ [(s.heap.push (nSet w)).objs.size, l] := fun m => by
          rcases List.mem_cons.mp m with z | m
          · (rw [hz1] at z); (exact Nat.ne_of_lt (Nat.lt_succ_self _) z)
          · exact Nat.ne_of_gt hlS (List.mem_singleton.mp m)
        have hval : ∀ (i : Nat) (v : Value), items[i]? = some v → ∃ k t, ns[i]? = some k ∧ v = .int k t := fun i v hv => by
          have hi : i < ns.length := sz ▸ (Array.getElem?_eq_some_iff.mp hv).1
          obtain ⟨t, e⟩ := PyProof.Rows.IntsAre.int_at hit i v (by rw [Array.getElem?_toList]; exact hv)
          exact ⟨ns[i], t, List.getElem?_eq_getElem hi, by rw [e, List.getD_eq_getElem?_getD, List.getElem?_eq_getElem hi] <;> rfl⟩
        have hh3 : A.in1.in1.in1.handled = none := hh
        refine set_update_ints ((Walks.list hh3 _ l hneI items).toS) s.heap.objs.size hSf ns sz hb hval (items.size - 0) 0 _ (by omega) (Nat.zero_le _) ⟨⟨_, Heap.get?_push_size _ rfl, rfl, rfl⟩, (hl1.push _)⟩ ⟨0, Nat.le_refl 0, setR_new_at (Heap.get?_push_of_some _ hS)⟩ fun s' c' hm hc' hS' => ?_
        obtain ⟨h', g2, d', tk', os'⟩ := s'
        (have eg : g2 = s.gens := hm.gens); (have ed : d' = s.drawn := hm.drawn); (have eo : os' = s.os := hm.os); (subst eg; subst ed; subst eo)
        show wpAny (model P w) _ _ _ _ _
        refine wpAny_pure ?_
        show wpAny (model P w) _ (ret Value.none) _ _ _
        refine wpAny_pure ⟨rfl, h', tk', c', rfl, hS', sz ▸ hc', fun b o e => ?_⟩
        have hb0 : b < s.heap.objs.size := Heap.lt_size e
        refine hm.heap b o (fun m => ?_) (Heap.get?_push_of_some _ (Heap.get?_push_of_some _ e))
        rcases List.mem_cons.mp m with z | m
        · exact Nat.ne_of_lt hb0 z
        · (have z := List.mem_singleton.mp m); (rw [hz1] at z); (exact Nat.ne_of_lt (Nat.lt_succ_of_lt hb0) z)
      · cases r₂ with
        | error e => exact hr₂
        | ok fl₂ => cases fl₂ with
          | ret r =>
            obtain ⟨rfl, h', tk, c', rfl, hS', hc', hk'⟩ := hr₂
            (repeat (any_goals (first | assumption | wp_step))); (exact h _ _ _ hS' hc' hk')
          | next => exact hr₂.elim
          | brk => exact hr₂.elim
          | cont => exact hr₂.elim
    | next => exact hr.elim
    | brk => exact hr.elim
    | cont => exact hr.elim
end
/-- set(xs) -/
def rSetI (K : PySem.W.Frag) (w : World) : List V → Hp → VK → Prop := fun xs H Q => ∃ (a : Addr) (ns : List Int), xs = [V.ref a] ∧ SqL K H a (ns.map V.int) ∧ ns.length + 1 < scanBound ∧ ∀ p n, H p = none → n ≤ ns.length → Q (.ref p) (upd H p (SetO w p (fun j => decide (j ∈ ns)) n))
theorem cr_setI {X : Cx} (hc : X.calm = true) : CallR X (.type "set") (rSetI X.K X.w) := by
  intro pins s σ H xs us Q I r h
  obtain ⟨a, ns, rfl, hs, hb, q⟩ := h
  rw [Vals.ref1 r]
  obtain ⟨its, rv, pl, hz⟩ := I.list hs
  refine set_ints ns (I.ok.hd hc) pl.isList (ints_of_vals rv) hb fun h' tk c R hcl k => ?_
  exact ⟨.ref s.heap.objs.size, upd H s.heap.objs.size (SetO X.w s.heap.objs.size (fun j => decide (j ∈ ns)) c), I.laid (t' := tk) k (Nat.le_refl _) (setO_new R), rfl, q _ c (I.hok.fresh (Nat.le_refl _)) hcl⟩
end SLX

namespace K7
open PySem PySem.Spec PyProof.Rows L2
/-! ### drawn good lengths: pure -/
def fK (x : Int) : Int := 1 * 2 ^ (12 - x).toNat
def krS (ls : List Int) : Int := (ls.map fK).sum
theorem fK_half {x : Int} (h : x < 12) : fK x = 2 * fK (x + 1) := by
  unfold fK
  have e : (12 - x).toNat = (12 - (x + 1)).toNat + 1 := by omega
  rw [e, Int.pow_succ]
  omega
theorem fK_top {x : Int} (h : 12 ≤ x) : fK x = 1 := by
  unfold fK
  have e : (12 - x).toNat = 0 := by omega
  rw [e]
  rfl
theorem krS_app (a b : List Int) : krS (a ++ b) = krS a + krS b := by
  unfold krS
  rw [List.map_append, List.sum_append]
theorem krS_set : ∀ (ls : List Int) (j : Nat) (x y : Int), ls[j]? = some x → krS (ls.set j y) = krS ls - fK x + fK y
  | [], _, _, _, h => by cases h
  | a :: r, 0, x, y, h => by
    obtain rfl : a = x := Option.some.inj h
    show ((y :: r).map fK).sum = ((a :: r).map fK).sum - fK a + fK y
    simp only [List.map_cons, List.sum_cons]
    omega
  | a :: r, j + 1, x, y, h => by
    have ih := krS_set r j x y h
    unfold krS at ih ⊢
    show ((a :: r.set j y).map fK).sum = ((a :: r).map fK).sum - fK x + fK y
    simp only [List.map_cons, List.sum_cons]
    omega
theorem krS_all {ls : List Int} (h : ∀ x ∈ ls, 12 ≤ x) : krS ls = ls.length := by
  induction ls with
  | nil => rfl
  | cons a r ih =>
    have e1 := fK_top (h a (List.mem_cons_self ..))
    have e2 := ih fun x m => h x (List.mem_cons_of_mem _ m)
    unfold krS at e2 ⊢
    simp only [List.map_cons, List.sum_cons, List.length_cons]
    push_cast
    omega
/-- leaves of a tree -/
structure LvOk (ls : List Int) : Prop where
  pos : 0 < ls.length
  kr : krS ls = 4096
  le : ∀ x ∈ ls, 0 ≤ x ∧ x ≤ 12
  one : 2 ≤ ls.length → ∀ x ∈ ls, 1 ≤ x
theorem lv_start : LvOk [0] := ⟨by decide, by decide +kernel, by decide, fun h => by simp at h⟩
theorem lv_split {ls : List Int} {j : Nat} {x : Int} (h : LvOk ls) (hx : ls[j]? = some x) (h12 : x < 12) : LvOk (ls.set j (x + 1) ++ [x + 1]) := by
  have h0 := (h.le x (List.mem_of_getElem? hx)).1
  refine ⟨by simp, ?_, ?_, ?_⟩
  · rw [krS_app, krS_set ls j x _ hx, h.kr]
    have := fK_half h12
    have e : krS [x + 1] = fK (x + 1) := by unfold krS; simp
    omega
  · intro y m
    rcases List.mem_append.mp m with m | m
    · rcases List.mem_or_eq_of_mem_set m with m | m
      · exact h.le y m
      · subst m; omega
    · rw [List.mem_singleton.mp m]; omega
  · intro h2 y m
    rcases List.mem_append.mp m with m | m
    · rcases List.mem_or_eq_of_mem_set m with q | q
      · by_cases hl : 2 ≤ ls.length
        · exact h.one hl y q
        · have hl1 : ls.length = 1 := by have := h.pos; omega
          match ls, hl1, hx, m with
          | [a], _, hx, m =>
            have hj : j = 0 := by
              have := (List.getElem?_eq_some_iff.mp hx).1
              simp at this
              omega
            subst hj
            have hm : y ∈ [x + 1] := m
            rw [List.mem_singleton.mp hm]
            omega
      · subst q; omega
    · rw [List.mem_singleton.mp m]; omega
theorem lv_min {ls : List Int} {m : Int} (h : LvOk ls) (hl : ls.length ≤ 1000) (hm : ∀ y ∈ ls, m ≤ y) : m < 12 := by
  refine Decidable.byContradiction fun z => ?_
  have e := krS_all (ls := ls) fun x mx => by have := hm x mx; omega
  rw [h.kr] at e
  omega
def mx1 (x : Int) : Int := if x > 1 then x else 1
theorem used_set : ∀ (L : List Int) (s : Nat) (v : Int), L[s]? = some 0 → 0 < v → (usedL (L.set s v)).Perm (v :: usedL L)
  | [], _, _, h, _ => by cases h
  | a :: r, 0, v, h, hv => by
    obtain rfl : a = 0 := Option.some.inj h
    show (usedL (v :: r)).Perm (v :: usedL (0 :: r))
    unfold usedL
    rw [List.filter_cons, if_pos (by simpa using hv), List.filter_cons, if_neg (by simp)]
  | a :: r, s + 1, v, h, hv => by
    have ih := used_set r s v h hv
    show (usedL (a :: r.set s v)).Perm (v :: usedL (a :: r))
    unfold usedL at ih ⊢
    rw [List.filter_cons, List.filter_cons]
    by_cases ha : 0 < a
    · rw [if_pos (by simpa using ha), if_pos (by simpa using ha)]
      exact (ih.cons a).trans (List.Perm.swap v a _)
    · rw [if_neg (by simpa using ha), if_neg (by simpa using ha)]
      exact ih
theorem sum_perm : ∀ {a b : List Int}, a.Perm b → a.sum = b.sum := by
  intro a b h
  induction h with
  | nil => rfl
  | cons x _ ih => simp only [List.sum_cons]; omega
  | swap x y l => simp only [List.sum_cons]; omega
  | trans _ _ h1 h2 => exact h1.trans h2
/-- what such lengths end in -/
theorem good_of {L ls : List Int} (h : LvOk ls) (hp : (usedL L).Perm (ls.map mx1)) : goodP L = true := by
  unfold goodP
  by_cases h1 : (usedL L).length < 2
  · rw [if_pos h1]
    have hl : ls.length = 1 := by
      have e := hp.length_eq
      rw [List.length_map] at e
      have := h.pos
      omega
    match ls, hl with
    | [a], _ =>
      have ka := h.kr
      have la := h.le a (List.mem_singleton_self a)
      have a0 : a = 0 := by
        refine Decidable.byContradiction fun z => ?_
        have e : krS [a] = fK a := by unfold krS; simp
        rw [e] at ka
        have e2 : (12 - a).toNat ≤ 11 := by omega
        have e3 : fK a ≤ 2048 := by
          unfold fK
          rw [Int.one_mul]
          exact_mod_cast Nat.pow_le_pow_right (n := 2) (by decide) e2
        omega
      subst a0
      have hp' : (usedL L).Perm [1] := hp
      rw [List.perm_singleton.mp hp']
      rfl
  · rw [if_neg h1]
    have h2 : 2 ≤ ls.length := by
      have e := hp.length_eq
      rw [List.length_map] at e
      omega
    have em : ls.map mx1 = ls := by
      conv => rhs; rw [← List.map_id ls]
      refine List.map_congr_left fun x m => ?_
      have := h.one h2 x m
      show (if x > 1 then x else 1) = x
      split <;> omega
    rw [em] at hp
    have e := sum_perm (hp.map fK)
    have e2 : ((usedL L).map fK).sum = 4096 := e.trans h.kr
    exact decide_eq_true e2
end K7

namespace K7
open PySem PySem.Spec PyProof.Rows L2
abbrev NPr : List Str := ["_law_script", "_law_at", "_law_data_here", "_law_cell", "_law_some", "_law_leaves", "_law_spot", "_law_letters", "_law_letter", "_law_leaf", "_law_backs", "_law_k"]
/-- what stands between two statements, said once however the first one ends -/
theorem seq_mid {ts tr : TS} {D : Ends} {σ : L2.St} {H : Hp} (Mid : L2.St → Hp → Prop) (ht : ∀ N : L2.St → Hp → Prop, (∀ σ' H', Mid σ' H' → N σ' H') → ts { D with nx := N } σ H) (hr : ∀ σ' H', Mid σ' H' → tr D σ' H') : tSeq ts tr D σ H := ht _ hr
theorem ixN_natK {n j : Nat} (hj : j < n) : ixN n (j : Int) = some j := by
  unfold ixN
  rw [if_pos (by omega), if_pos (by omega)]
  simp
theorem ints_to (ns : List Int) (b : Nat) : cutV (ns.map V.int) none (some (b : Int)) = (ns.take b).map V.int := by
  unfold cutV
  rw [HT.sIx_nat, HT.sIx_none, List.length_map, List.drop_zero, Nat.sub_zero, ← List.map_take]
  congr 1
  by_cases h : b ≤ ns.length
  · rw [Nat.min_eq_left h]
  · rw [Nat.min_eq_right (by omega), List.take_length, List.take_of_length_le (by omega)]
theorem flat_ints (ns : List Int) : (ns.map V.int).all flatV = true := by
  rw [List.all_eq_true]
  intro x m
  obtain ⟨k, _, rfl⟩ := List.mem_map.mp m
  rfl
theorem inV_ints (x : Int) (ns : List Int) : inV (.int x) (ns.map V.int) = decide (x ∈ ns) := by
  unfold inV
  rw [List.any_map]
  induction ns with
  | nil => rfl
  | cons a r ih =>
    rw [List.any_cons, ih]
    show ((a == x) || decide (x ∈ r)) = _
    by_cases e : a = x
    · subst e
      simp
    · have e' : ¬ x = a := fun z => e z.symm
      simp [e, e']
theorem first_ix : ∀ (ls : List Int) (m : Int), m ∈ ls → ∃ j : Nat, ls[j]? = some m ∧ ∀ (i : Nat) (x : Int), i < j → ls[i]? = some x → x ≠ m
  | [], _, h => by cases h
  | a :: r, m, h => by
    by_cases e : a = m
    · exact ⟨0, by rw [e]; rfl, fun i x hi => by omega⟩
    · obtain ⟨j, h1, h2⟩ := first_ix r m (by rcases List.mem_cons.mp h with h | h; exact absurd h.symm e; exact h)
      refine ⟨j + 1, h1, fun i x hi hx => ?_⟩
      cases i with
      | zero =>
        obtain rfl : a = x := Option.some.inj hx
        exact e
      | succ i => exact h2 i x (by omega) hx
section
variable {P : Program} {w : World} {K : PySem.W.Frag} {mg : Str → Option Value} {base : Heap}
def spPrc (K : PySem.W.Frag) : Sp := fun vs H Q _ => ∃ (p pd : Addr) (xs : List Int) (a : Nat) (ks : List Nat), vs = [.ref p, .int (a : Int), .ref pd] ∧ SqL K H p (xs.map V.int) ∧ a ≤ 40000 ∧ H pd = some (.lst (bys ks)) ∧ (∀ k ∈ ks, k < 256) ∧ ks.length ≤ 42 ∧
  ∀ H' t pL pB L B, Same H H' → H' t = some (.tup [.ref pL, .ref pB]) → H' pL = some (.lst (L.map V.int)) → H' pB = some (.lst (B.map V.int)) → PrL 273 L → PrL 11 B → H t = none → H pL = none → H pB = none → Q (.ref t) H'
set_option maxHeartbeats 8000000 in
end
end K7

namespace K7
open PySem PySem.Spec PyProof.Rows L2 SBX
open K2 (wAt coinsL)
/-! ### _law_any_row -/
abbrev NAr : List Str := ["_law_script", "_law_at", "_law_every", "_law_begin", "_law_end", "_law_found", "_law_place", "_law_items_here", "_law_cell", "_law_item"]
theorem scAr : FnScope NAr ["_law_script", "_law_at", "_law_every", "_law_begin", "_law_end"] (defScope sLAnyRow) := ⟨rfl, rfl, rfl, by decide +kernel, rfl, by decide +kernel, by decide +kernel⟩
section
variable {P : Program} {w : World} {K : PySem.W.Frag} {mg : Str → Option Value} {base : Heap}
def spAr (K : PySem.W.Frag) : Sp := fun vs H Q _ => ∃ (ps pe : Addr) (xs : List Int) (at_ b en : Nat) (every : List Nat), vs = [.ref ps, .int (at_ : Int), .ref pe, .int (b : Int), .int (en : Int)] ∧ SqL K H ps (xs.map V.int) ∧ at_ ≤ 1000 ∧ H pe = some (.lst (bys every)) ∧ b ≤ en ∧ en ≤ every.length ∧ every.length ≤ 1000 ∧ (∀ k ∈ every, k < 256) ∧
  ∀ H' r us its, Same H H' → H r = none → H' r = some (.lst us) → RowAt H' its us → Row every b its en → Q (.ref r) H'
theorem ok_ar {f fI fC : Addr} {fd fdI fdC : FuncData} {j k1 k2 : Nat} (F : Fun K "_law_any_row" "_law_any_row" sLAnyRow f fd)
    (GI : FnOk P w K mg base CX0 k1 fI fdI ["_law_every", "_law_lead", "_law_place", "_law_end"] spItems) (bI : Binds K fdI ["_law_every", "_law_lead", "_law_place", "_law_end"] []) (kI : PySem.W.keepIn K (.ref fI) = true) (gI : mg "_law_items" = some (.ref fI)) (l1 : k1 ≤ j)
    (GC : FnOk P w K mg base CX0 k2 fC fdC ["_law_script", "_law_k"] (K7.spCell K)) (bC : Binds K fdC ["_law_script", "_law_k"] []) (kC : PySem.W.keepIn K (.ref fC) = true) (gC : mg "_law_cell_at" = some (.ref fC)) (l2 : k2 ≤ j)
    (m1 : mg "int" = none) (m2 : mg "len" = none) (m3 : mg "isinstance" = none) : FnOk P w K mg base CX0 (j + 1) f fd ["_law_script", "_law_at", "_law_every", "_law_begin", "_law_end"] (spAr K) := by
  refine F.ok scAr (fun vs H Q E h => ?_) (fun cdv A outer s H vs Q E hr h => ?_)
  · obtain ⟨ps, pe, xs, at_, b, en, every, rfl, _⟩ := h
    rfl
  · obtain ⟨ps, pe, xs, at_, b, en, every, rfl, hs, ha, he, hb, hen, hlen, hk, q⟩ := h
    have hz := PySem.sizeLine_eq
    refine ⟨_, pss_cons (ps_par (i := 5) (j := 6) rfl scAr.nd rfl rfl (by decide) rfl rfl (pa_cons (pe_lst pa_nil) (pa_cons (pv 3) pa_nil)) (by rfl))
      (pss_cons (ps_while PassesOwn.never (pt_cmpR op_lt (pv 6) (pv 4) (nomark _))
        (pss_cons (ps_set (i := 7) scAr.nd rfl (.inl rfl) (pe_call GI (hr.mono l1) (by rfl) gI kI bI .nil pass0 (pa_cons (pv 2) (pa_cons pe_int (pa_cons (pv 6) (pa_cons (pv 4) pa_nil))))))
        (pss_cons (ps_set (i := 8) scAr.nd rfl (.inl rfl) (pe_call GC (hr.mono l2) (by rfl) gC kC bC .nil pass0 (pa_cons (pv 0) (pa_cons (pe_op op_add (pv 1) (pv 6)) pa_nil))))
        (pss_cons (ps_set (i := 9) scAr.nd rfl (.inl rfl) (pe_ix ix_list (pv 7) (pe_ifExp (pt_cmpR op_gt (pe_op op_modN (pe_callTy call_int1 (by rfl) m1 (by decide +kernel) (pa_cons (pv 8) pa_nil)) pe_int) pe_int (nomark _))
            (pe_op op_modN (pe_callTy call_int1 (by rfl) m1 (by decide +kernel) (pa_cons (pv 8) pa_nil)) (pe_callB call_len_seq (by rfl) m2 PySem.boot_len (pa_cons (pv 7) pa_nil))) pe_int) (fun _ _ => rfl)))
        (pss_one (ps_par (i := 5) (j := 6) rfl scAr.nd rfl rfl (by decide) rfl rfl (pa_cons (pe_op op_cat (pv 5) (pe_lst (pa_cons (pv 9) pa_nil)))
          (pa_cons (pe_op op_add (pv 6) (pe_ifExp (pt_val (pe_callB call_isi (by rfl) m3 (by decide +kernel) (pa_cons (pv 9) (pa_cons (pe_bltn (v := .ty "int") (by rfl) m1 (by decide +kernel) rfl) pa_nil)))) pe_int (pe_ix ix_tup (pv 9) pe_int (fun _ _ => rfl)))) pa_nil)) (by rfl)))))))
      (pss_one (ps_ret (pv 5)))), ?_⟩
    refine ⟨Nat.zero_le _, fun D nD => ?_⟩
    have s0 : Same H (upd H D (.lst [])) := same_upd nD
    have hD0 : (upd H D (.lst [])) D = some (.lst []) := upd_same
    generalize upd H D (.lst []) = H0 at *
    refine ⟨_, rfl, _, _, rfl, ?_⟩
    obtain ⟨W, hW⟩ : ∃ W : Nat → L2.St → Hp → Prop, W = fun m σ H' => ∃ (p : Nat) (D : Addr) (us : List V) (its : List Itm) (y7 y8 y9 : Option V), m = en - p ∧ σ = [some (.ref ps), some (.int (at_ : Int)), some (.ref pe), some (.int (b : Int)), some (.int (en : Int)), some (.ref D), some (.int (p : Int)), y7, y8, y9] ∧ Same H H' ∧ H D = none ∧ H' D = some (.lst us) ∧ RowAt H' its us ∧ Row every b its p ∧ p ≤ en := ⟨_, rfl⟩
    refine ⟨W, ⟨en - b, by rw [hW]; exact ⟨b, D, [], [], none, none, none, rfl, rfl, s0, nD, hD0, .nil, .nil b, hb⟩⟩, fun m σ H1 h1 => ?_⟩
    rw [hW] at h1
    obtain ⟨p, D1, us, its, y7, y8, y9, rfl, rfl, s1, nD1, hD1, hrow, hR, hp⟩ := h1
    refine ⟨_, rfl, _, rfl, _, _, rfl, rfl, _, rfl, ite2 (fun c => ?_) (fun c => ?_)⟩
    · have hlt : p < en := by
        have := of_decide_eq_true c
        omega
      refine ⟨fun σ' H' => ∃ m', m' < en - p ∧ W m' σ' H', fun σ' H' h => h, ?_⟩
      refine ⟨_, rfl, _, rfl, _, rfl, pe, every, 0, p, en, rfl, s1 _ _ he, hlt, by omega, hlen, fun H2 r2 us2 its2 s2 nr2 hr2 hrow2 hI => ?_⟩
      rw [Nat.zero_add] at hI
      have eI := hI.eq
      dsimp only [gName]
      have s12 := s1.trans s2
      refine ⟨_, rfl, _, rfl, _, rfl, _, _, rfl, rfl, ps, xs, at_ + p, rfl, s12.seq hs, by omega, fun H3 s3 => ?_⟩
      dsimp only [gName]
      have s13 := s12.trans s3
      have hr3 := s3 _ _ hr2
      have hrow3 : RowAt H3 its2 us2 := hrow2.mono fun _ _ z => z.same s3
      have hul := hrow2.length
      have hpos : 0 < us2.length := by
        rw [← hul, eI]
        unfold itemsF
        rw [List.length_cons]
        omega
      obtain ⟨M, hM⟩ : ∃ M : L2.St → Hp → Prop, M = fun σ' H' => H' = H3 ∧ ∃ (v : V) (it : Itm), σ' = [some (.ref ps), some (.int (at_ : Int)), some (.ref pe), some (.int (b : Int)), some (.int (en : Int)), some (.ref D1), some (.int (p : Int)), some (.ref r2), some (.int (K7.cellAt xs (at_ + p))), some v] ∧ it ∈ its2 ∧ ItmAt H3 it v := ⟨_, rfl⟩
      with_reducible refine seq_mid M (fun N hN => ?_) (fun σ' H' h => ?_)
      · have get : ∀ idx : Nat, idx < us2.length → ∃ v it, atI us2 (idx : Int) = some v ∧ it ∈ its2 ∧ ItmAt H3 it v := fun idx hi => by
          obtain ⟨it, e1, h1⟩ := paired_at hrow3 (List.getElem?_eq_getElem hi)
          exact ⟨us2[idx], it, atI_nat (List.getElem?_eq_getElem hi), List.mem_of_getElem? e1, h1⟩
        refine ⟨_, rfl, _, rfl, .inl ⟨_, rfl, _, _, rfl, rfl, (by show (3 : Int) ≠ 0; decide), _, _, rfl, rfl, _, rfl, ite2 (fun c2 => ?_) (fun c2 => ?_)⟩⟩
        · obtain ⟨hm1, hm2⟩ := fmod_in (a := K7.cellAt xs (at_ + p)) (l := (us2.length : Int)) (by omega)
          obtain ⟨idx, hidx⟩ := nat_of hm1
          obtain ⟨v, it, e1, e2, e3⟩ := get idx (by omega)
          refine ⟨_, rfl, .inl ⟨_, rfl, _, rfl, r2, _, rfl, .inl (.inl (.inl hr3)), _, _, rfl, rfl, (by show (us2.length : Int) ≠ 0; omega), r2, us2, _, v, rfl, rfl, .inl (.inl hr3), by rw [hidx]; exact e1, ?_⟩⟩
          refine hN _ _ ?_
          rw [hM]
          exact ⟨rfl, v, it, rfl, e2, e3⟩
        · obtain ⟨v, it, e1, e2, e3⟩ := get 0 hpos
          refine ⟨r2, us2, _, v, rfl, rfl, .inl (.inl hr3), e1, ?_⟩
          refine hN _ _ ?_
          rw [hM]
          exact ⟨rfl, v, it, rfl, e2, e3⟩
      · rw [hM] at h
        obtain ⟨rfl, v, it, rfl, hit, hat⟩ := h
        rw [eI] at hit
        obtain ⟨i1, i2, i3, i4, i5⟩ := row_item hk hlt hen hit
        have hul1 := hrow.length
        have hle := hR.len.1
        refine ⟨_, rfl, _, rfl, (by show 1 ≤ sizeLine; omega), fun z nz => ?_⟩
        have s4 : Same H' (upd H' z (.lst [v])) := same_upd nz
        have hz4 : (upd H' z (.lst [v])) z = some (.lst [v]) := upd_same
        generalize upd H' z (.lst [v]) = H4 at *
        have hD4 := s4 _ _ (s3 _ _ (s2 _ _ hD1))
        refine ⟨D1, z, us, [v], rfl, rfl, hD4, hz4, (by rw [List.length_singleton]; omega), fun R nR => ?_⟩
        have s5 : Same H4 (upd H4 R (.lst (us ++ [v]))) := same_upd nR
        have hR5 : (upd H4 R (.lst (us ++ [v]))) R = some (.lst (us ++ [v])) := upd_same
        generalize upd H4 R (.lst (us ++ [v])) = H5 at *
        have s14 := s13.trans s4
        have s15 := s14.trans s5
        have hat5 := (hat.same s4).same s5
        have hrow5 : RowAt H5 (its ++ [it]) (us ++ [v]) := paired_app ((hrow.mono fun _ _ z => (((z.same s2).same s3).same s4).same s5)) (.cons hat5 .nil)
        have fin : ∀ (H6 : Hp), H6 = H5 → ∃ m', m' < en - p ∧ W m' [some (.ref ps), some (.int (at_ : Int)), some (.ref pe), some (.int (b : Int)), some (.int (en : Int)), some (.ref R), some (.int ((p + lenI it : Nat) : Int)), some (.ref r2), some (.int (K7.cellAt xs (at_ + p))), some v] H6 := fun H6 e => by
          refine ⟨en - (p + lenI it), by omega, ?_⟩
          rw [hW, e]
          exact ⟨p + lenI it, R, us ++ [v], its ++ [it], _, _, _, rfl, rfl, s15, none_back s14 nR, hR5, hrow5, hR.snoc i1 i2 i3 i4, i5⟩
        refine ⟨_, rfl, ?_⟩
        cases it with
        | b k =>
          obtain rfl : v = .int (k : Int) := hat
          refine ⟨_, rfl, _, _, _, _, _, rfl, .ty "int", .base (.int _), kit_ty (a := "int") (r := true) (by decide +kernel), _, rfl, iteT ?_⟩
          exact ⟨_, _, rfl, rfl, _, _, rfl, fin _ rfl⟩
        | c mm rr =>
          obtain ⟨t, rfl, ht⟩ := hat5
          refine ⟨_, rfl, _, _, _, _, _, rfl, .ty "int", .base (.tup ht), kit_ty (a := "tuple") (r := false) (by decide +kernel), _, rfl, iteF ?_⟩
          refine ⟨_, rfl, t, _, 0, _, rfl, rfl, .inl (.inl ht), rfl, _, _, rfl, rfl, _, _, rfl, ?_⟩
          exact fin _ rfl
    · have hge : p = en := by
        have : ¬ ((p : Int) < (en : Int)) := fun z => c (decide_eq_true z)
        omega
      rw [hge] at hR
      exact ⟨_, rfl, q H1 D1 us its s1 nD1 hD1 hrow hR⟩
end
end K7

namespace K7
open PySem PySem.Spec PyProof.Rows L2 SBX
open K2 (wAt coinsL)
/-! ### _law_any_head -/
theorem hdL_snoc (rs : List (Nat × Nat)) (x : Nat × Nat) : hdL (rs ++ [x]) = hdL rs ++ List.replicate x.2 (x.1 : Int) := by
  unfold hdL
  rw [List.map_append, List.flatten_append]
  simp
theorem hdB_snoc (rs : List (Nat × Nat)) (x : Nat × Nat) : hdB (rs ++ [x]) = hdB rs ++ bitsL x.1 4 ++ bitsL (x.2 - 1) 5 := by
  unfold hdB
  rw [List.map_append, List.flatten_append, List.append_assoc]
  simp
theorem take_rep {ls : List Int} {p : Nat} {v : Int} : ∀ {m : Nat}, p + m ≤ ls.length → (∀ t, t < m → ls.getD (p + t) 0 = v) → ls.take (p + m) = ls.take p ++ List.replicate m v
  | 0, _, _ => by rw [Nat.add_zero, List.replicate_zero, List.append_nil]
  | m + 1, h, hv => by
    have e := hv m (by omega)
    rw [List.getD_eq_getElem?_getD, List.getElem?_eq_getElem (by omega)] at e
    have e : ls[p + m] = v := e
    rw [show p + (m + 1) = p + m + 1 by omega, List.take_add_one, List.getElem?_eq_getElem (by omega), take_rep (by omega) fun t ht => hv t (by omega), e, List.replicate_succ', ← List.append_assoc]
    rfl
abbrev NAh : List Str := ["_law_script", "_law_at", "_law_lengths", "_law_found", "_law_place", "_law_many"]
theorem scAh : FnScope NAh ["_law_script", "_law_at", "_law_lengths"] (defScope sLAnyHead) := ⟨rfl, rfl, rfl, by decide +kernel, rfl, by decide +kernel, by decide +kernel⟩
section
variable {P : Program} {w : World} {K : PySem.W.Frag} {mg : Str → Option Value} {base : Heap}
def spAh (K : PySem.W.Frag) : Sp := fun vs H Q _ => ∃ (ps pl : Addr) (xs ls : List Int) (at_ : Nat), vs = [.ref ps, .int (at_ : Int), .ref pl] ∧ SqL K H ps (xs.map V.int) ∧ at_ ≤ 1000 ∧ H pl = some (.lst (ls.map V.int)) ∧ ls.length ≤ 300 ∧ (∀ x ∈ ls, 0 ≤ x ∧ x ≤ 12) ∧
  ∀ H' rs, Same H H' → HdOk rs ls → Q (.str (tx (hdB rs))) H'
theorem ok_ah {f fB fC : Addr} {fd fdB fdC : FuncData} {j k1 k2 : Nat} (F : Fun K "_law_any_head" "_law_any_head" sLAnyHead f fd)
    (GB : FnOk P w K mg base CX0 k1 fB fdB ["_law_number", "_law_breadth"] spLBits) (bB : Binds K fdB ["_law_number", "_law_breadth"] []) (kB : PySem.W.keepIn K (.ref fB) = true) (gB : mg "_law_bits" = some (.ref fB)) (l1 : k1 ≤ j)
    (GC : FnOk P w K mg base CX0 k2 fC fdC ["_law_script", "_law_k"] (K7.spCell K)) (bC : Binds K fdC ["_law_script", "_law_k"] []) (kC : PySem.W.keepIn K (.ref fC) = true) (gC : mg "_law_cell_at" = some (.ref fC)) (l2 : k2 ≤ j)
    (m1 : mg "int" = none) (m2 : mg "len" = none) (m3 : mg "max" = none) : FnOk P w K mg base CX0 (j + 1) f fd ["_law_script", "_law_at", "_law_lengths"] (spAh K) := by
  refine F.ok scAh (fun vs H Q E h => ?_) (fun cdv A outer s H vs Q E hr h => ?_)
  · obtain ⟨ps, pl, xs, ls, at_, rfl, _⟩ := h
    rfl
  · obtain ⟨ps, pl, xs, ls, at_, rfl, hs, ha, hl, hll, hin, q⟩ := h
    have hz := PySem.sizeLine_eq
    refine ⟨_, pss_cons (ps_asg (pe_tup (pa_cons pe_str (pa_cons pe_int pa_nil))) (pg_tup rfl (pgs_cons (pg_name (i := 3) scAh.nd rfl (.inl rfl)) (pgs_cons (pg_name (i := 4) scAh.nd rfl (.inl rfl)) pgs_nil))))
      (pss_cons (ps_while PassesOwn.never (pt_cmpR op_lt (pv 4) (pe_callB call_len_seq (by rfl) m2 PySem.boot_len (pa_cons (pv 2) pa_nil)) (nomark _))
        (pss_cons (ps_set (i := 5) scAh.nd rfl (.inl rfl) pe_int)
        (pss_cons (ps_while PassesOwn.never (PW.pt (pw_and (pt_cmpR op_lt (pv 5) pe_int (nomark _)) (pw_and (pt_cmpR op_lt (pe_op op_add (pv 4) (pv 5)) (pe_callB call_len_seq (by rfl) m2 PySem.boot_len (pa_cons (pv 2) pa_nil)) (nomark _))
            (pw_and1 (pt_cmpR op_eq (pe_ix ix_list (pv 2) (pe_op op_add (pv 4) (pv 5)) (fun _ _ => rfl)) (pe_ix ix_list (pv 2) (pv 4) (fun _ _ => rfl)) (nomark _)))))) (pss_one (ps_set (i := 5) scAh.nd rfl (.inl rfl) (pe_op op_add (pv 5) pe_int))))
        (pss_cons (ps_set (i := 5) scAh.nd rfl (.inl rfl) (pe_callB (call_max2 rfl) (by rfl) m3 (by decide +kernel) (pa_cons pe_int (pa_cons (pe_op op_sub (pv 5) (pe_op op_modN (pe_callTy call_int1 (by rfl) m1 (by decide +kernel) (pa_cons (pe_call GC (hr.mono l2) (by rfl) gC kC bC .nil pass0 (pa_cons (pv 0) (pa_cons (pe_op op_add (pv 1) (pv 4)) pa_nil))) pa_nil)) pe_int)) pa_nil))))
        (pss_one (ps_par (i := 3) (j := 4) rfl scAh.nd rfl rfl (by decide) rfl rfl (pa_cons (pe_op op_add_str (pe_op op_add_str (pv 3) (pe_call GB (hr.mono l1) (by rfl) gB kB bB .nil pass0 (pa_cons (pe_ix ix_list (pv 2) (pv 4) (fun _ _ => rfl)) (pa_cons pe_int pa_nil))))
            (pe_call GB (hr.mono l1) (by rfl) gB kB bB .nil pass0 (pa_cons (pe_op op_sub (pv 5) pe_int) (pa_cons pe_int pa_nil)))) (pa_cons (pe_op op_add (pv 4) (pv 5)) pa_nil)) (by rfl)))))))
      (pss_one (ps_ret (pv 3)))), ?_⟩
    refine ⟨(by show 2 ≤ sizeLine; omega), fun T0 nT0 => ⟨T0, _, rfl, .inl (.inl upd_same), rfl, _, _, rfl, _, _, rfl, rfl, ?_⟩⟩
    have sT : Same H (upd H T0 (.tup [.str "", .int 0])) := same_upd nT0
    dsimp only [gName]
    obtain ⟨W, hW⟩ : ∃ W : Nat → L2.St → Hp → Prop, W = fun m σ H' => ∃ (p : Nat) (rs : List (Nat × Nat)) (y5 : Option V), m = ls.length - p ∧ σ = [some (.ref ps), some (.int (at_ : Int)), some (.ref pl), some (.str (tx (hdB rs))), some (.int (p : Int)), y5] ∧ Same H H' ∧ HdOk rs (ls.take p) ∧ p ≤ ls.length ∧ rs.length ≤ p := ⟨_, rfl⟩
    refine ⟨W, ⟨ls.length, by rw [hW]; exact ⟨0, [], none, rfl, rfl, sT, ⟨rfl, fun x hx => by cases hx⟩, Nat.zero_le _, Nat.le_refl _⟩⟩, fun m σ H1 h1 => ?_⟩
    rw [hW] at h1
    obtain ⟨p, rs, y5, rfl, rfl, s1, hR, hp, hrl⟩ := h1
    have hl1 := s1 _ _ hl
    refine ⟨_, rfl, _, rfl, pl, _, rfl, .inl (.inl (.inl hl1)), _, _, rfl, rfl, _, rfl, ite2 (fun c => ?_) (fun c => ?_)⟩
    · have hlt : p < ls.length := by
        have := of_decide_eq_true c
        rw [List.length_map] at this
        omega
      refine ⟨fun σ' H' => ∃ m', m' < ls.length - p ∧ W m' σ' H', fun σ' H' h => h, ?_⟩
      have hin0 := hin _ (List.mem_of_getElem? (show ls[p]? = some (ls.getD p 0) by rw [List.getD_eq_getElem?_getD, List.getElem?_eq_getElem hlt]; rfl))
      dsimp only [gName]
      obtain ⟨M, hM⟩ : ∃ M : L2.St → Hp → Prop, M = fun σ' H' => H' = H1 ∧ ∃ m : Nat, σ' = [some (.ref ps), some (.int (at_ : Int)), some (.ref pl), some (.str (tx (hdB rs))), some (.int (p : Int)), some (.int (m : Int))] ∧ 1 ≤ m ∧ m ≤ 32 ∧ p + m ≤ ls.length ∧ ∀ t, t < m → ls.getD (p + t) 0 = ls.getD p 0 := ⟨_, rfl⟩
      with_reducible refine seq_mid (fun σ' H' => H' = H1 ∧ σ' = [some (.ref ps), some (.int (at_ : Int)), some (.ref pl), some (.str (tx (hdB rs))), some (.int (p : Int)), some (.int 1)]) (fun N hN => ?_) (fun σ0 H0 h => ?_)
      · exact hN _ _ ⟨rfl, rfl⟩
      obtain ⟨rfl, rfl⟩ := h
      with_reducible refine seq_mid M (fun N hN => ?_) (fun σ' H' h => ?_)
      · refine ⟨fun k σ' H' => ∃ m : Nat, k = 32 - m ∧ M σ' H' ∧ σ' = [some (.ref ps), some (.int (at_ : Int)), some (.ref pl), some (.str (tx (hdB rs))), some (.int (p : Int)), some (.int (m : Int))], ⟨31, 1, rfl, ?_, rfl⟩, fun k σ' H' h => ?_⟩
        · rw [hM]
          refine ⟨rfl, 1, rfl, Nat.le_refl _, by decide, by omega, fun t ht => ?_⟩
          rw [show t = 0 by omega, Nat.add_zero]
        · obtain ⟨m, rfl, h, rfl⟩ := h
          have hM0 := h
          rw [hM] at h
          obtain ⟨rfl, m0, e0, h1, h2, h3, h4⟩ := h
          obtain rfl : m = m0 := by
            have := List.cons.inj (List.cons.inj (List.cons.inj (List.cons.inj (List.cons.inj (List.cons.inj e0).2).2).2).2).2 |>.1
            have := V.int.inj (Option.some.inj this)
            omega
          refine ⟨_, rfl, _, _, rfl, rfl, _, rfl, ite2 (fun c1 => ?_) (fun c1 => hN _ _ hM0)⟩
          have c1' : m < 32 := by
            have := of_decide_eq_true c1
            omega
          refine ⟨_, rfl, _, rfl, _, _, rfl, rfl, _, rfl, pl, _, rfl, .inl (.inl (.inl hl1)), _, _, rfl, rfl, _, rfl, ite2 (fun c2 => ?_) (fun c2 => hN _ _ hM0)⟩
          have c2' : p + m < ls.length := by
            have := of_decide_eq_true c2
            rw [List.length_map] at this
            omega
          refine ⟨_, rfl, _, rfl, _, rfl, _, _, rfl, rfl, pl, _, _, _, rfl, rfl, .inl (.inl hl1), (show atI (ls.map V.int) ((p : Int) + (m : Int)) = _ from at_getD (k := p + m) c2'), _, rfl, _, rfl, pl, _, _, _, rfl, rfl, .inl (.inl hl1), at_getD (k := p) hlt, rfl, _, rfl, ite2 (fun c3 => ?_) (fun c3 => hN _ _ hM0)⟩
          have c3' := V.int.inj (of_decide_eq_true c3)
          refine ⟨fun σ2 H2 => ∃ k', k' < 32 - m ∧ ∃ m : Nat, k' = 32 - m ∧ M σ2 H2 ∧ σ2 = [some (.ref ps), some (.int (at_ : Int)), some (.ref pl), some (.str (tx (hdB rs))), some (.int (p : Int)), some (.int (m : Int))], fun σ2 H2 h => h, ?_⟩
          refine ⟨_, rfl, _, _, rfl, rfl, 32 - (m + 1), by omega, m + 1, rfl, ?_, rfl⟩
          rw [hM]
          refine ⟨rfl, m + 1, rfl, by omega, by omega, by omega, fun t ht => ?_⟩
          by_cases z : t = m
          · rw [z]
            exact c3'
          · exact h4 t (by omega)
      · rw [hM] at h
        obtain ⟨rfl, m, rfl, h1, h2, h3, h4⟩ := h
        refine ⟨_, rfl, _, rfl, _, rfl, _, rfl, _, _, rfl, rfl, ps, xs, at_ + p, rfl, s1.seq hs, by omega, fun H2 s2 => ?_⟩
        refine .inl ⟨_, rfl, _, _, rfl, rfl, (by show (3 : Int) ≠ 0; decide), _, _, rfl, rfl, _, _, rfl, ?_⟩
        have hfm := fmod_in (a := K7.cellAt xs (at_ + p)) (l := 3) (by decide)
        obtain ⟨m', hm', b1, b2⟩ : ∃ m' : Nat, (if (m : Int) - (K7.cellAt xs (at_ + p)).fmod 3 > 1 then (m : Int) - (K7.cellAt xs (at_ + p)).fmod 3 else 1) = (m' : Int) ∧ 1 ≤ m' ∧ m' ≤ m := by
          by_cases z : (m : Int) - (K7.cellAt xs (at_ + p)).fmod 3 > 1
          · rw [if_pos z]
            exact ⟨((m : Int) - (K7.cellAt xs (at_ + p)).fmod 3).toNat, by omega, by omega, by omega⟩
          · rw [if_neg z]
            exact ⟨1, rfl, Nat.le_refl _, h1⟩
        rw [hm']
        dsimp only [gName]
        have hl2 := s2 _ _ hl1
        obtain ⟨l, hl0⟩ := nat_of hin0.1
        have hat := at_getD (L := ls) (k := p) hlt
        rw [hl0] at hat h4 hin0
        have hbl := hdB_len rs
        refine ⟨_, rfl, _, rfl, _, rfl, pl, _, _, _, rfl, rfl, .inl (.inl hl2), hat, l, 4, rfl, by decide, by omega, fun H3 s3 => ?_⟩
        refine ⟨_, _, rfl, rfl, (by show (tx (hdB rs)).length + (tx (bitsL l 4)).length ≤ sizeLine; rw [tx_len, tx_len, bits_len]; omega), ?_⟩
        refine ⟨_, rfl, _, _, rfl, rfl, m' - 1, 5, (by show [V.int ((m' : Int) - 1), V.int 5] = [V.int ((m' - 1 : Nat) : Int), V.int ((5 : Nat) : Int)]; rw [show (m' : Int) - 1 = ((m' - 1 : Nat) : Int) by omega]; rfl), by decide, by omega, fun H4 s4 => ?_⟩
        refine ⟨_, _, rfl, rfl, (by show (tx (hdB rs) ++ tx (bitsL l 4)).length + (tx (bitsL (m' - 1) 5)).length ≤ sizeLine; rw [tx_app, tx_len, tx_len, List.length_append, bits_len, bits_len]; omega), ?_⟩
        refine ⟨_, rfl, _, rfl, _, _, rfl, rfl, _, _, rfl, ls.length - (p + m'), by omega, ?_⟩
        rw [hW]
        have etx : tx (hdB rs) ++ bitS l 4 ++ bitS (m' - 1) 5 = tx (hdB (rs ++ [(l, m')])) := by
          show tx (hdB rs) ++ tx (bitsL l 4) ++ tx (bitsL (m' - 1) 5) = _
          rw [tx_app, tx_app, hdB_snoc]
        rw [etx]
        refine ⟨p + m', rs ++ [(l, m')], _, rfl, rfl, ((s1.trans s2).trans s3).trans s4, ⟨?_, fun x hx => ?_⟩, by omega, by rw [List.length_append, List.length_singleton]; omega⟩
        · rw [hdL_snoc, hR.tell, take_rep (by omega) fun t ht => h4 t (by omega)]
        · rcases List.mem_append.mp hx with hx | hx
          · exact hR.ok x hx
          · rw [List.mem_singleton.mp hx]
            exact ⟨by show l ≤ 12; omega, b1, by show m' ≤ 32; omega⟩
    · have hge : p = ls.length := by
        have h0 : ¬ ((p : Int) < ((ls.map V.int).length : Int)) := fun z => c (decide_eq_true z)
        rw [List.length_map] at h0
        omega
      rw [hge, List.take_length] at hR
      exact ⟨_, rfl, q H1 rs s1 hR⟩
end
end K7

namespace L2
open PySem PySem.Spec PyProof.Rows SBX
theorem mulOk0 : ∀ n : Nat, n < 8 → MulOk "0" (n : Int) ∧ Txt.mul "0" (n : Int) = tx (List.replicate n 48) := fun n h => by
  rcases (show n = 0 ∨ n = 1 ∨ n = 2 ∨ n = 3 ∨ n = 4 ∨ n = 5 ∨ n = 6 ∨ n = 7 by omega) with rfl | rfl | rfl | rfl | rfl | rfl | rfl | rfl
  all_goals exact ⟨⟨by decide +kernel, fun h1 _ => by first | exact absurd (by decide) h1 | decide +kernel, fun h1 _ => by first | exact absurd (by decide) h1 | decide +kernel⟩, by decide +kernel⟩
/-- '0' * n, n below eight -/
theorem op_rep0 {X : Cx} : OpR X (binaryOp .Mult) (fun x y H Q => ∃ n : Nat, n < 8 ∧ x = .str "0" ∧ y = .int (n : Int) ∧ Q (.str (tx (List.replicate n 48))) H) := by
  intro pins s σ H x y v u Q I rx ry h
  obtain ⟨n, hn, rfl, rfl, q⟩ := h
  obtain ⟨t, rfl⟩ := rx
  obtain ⟨t2, rfl⟩ := ry
  obtain ⟨h1, h2⟩ := mulOk0 n hn
  refine PySem.SB.mul h1 fun t' k => ?_
  rw [h2]
  exact ⟨.str (tx (List.replicate n 48)), H, I.tok k, ⟨t', rfl⟩, q⟩
end L2

namespace K7
open PySem PySem.Spec PyProof.Rows L2 SBX
open K2 (wAt coinsL)
/-! ### _law_stream -/
theorem rowT_le {L B : List Int} (W : WP L B) {its : List Itm} (h : ∀ it ∈ its, ItmOk it ∧ costO L B it ≠ none) (h0 : 0 < L.getD 256 0) : (rowT L B its).length ≤ 34 * its.length + 12 := by
  have h1 := row_le W h
  have h2 := (wd_ne W.l (by have := W.l273; omega) h0).2.1
  unfold rowT
  rw [List.length_append, List.length_flatten]
  omega
theorem body_len {every : List Nat} {p q k : Nat} {T : List Nat} (h : Body every p q k T) (hpq : p ≤ q) (hq : q ≤ every.length) (hl : every.length ≤ 200) : T.length ≤ 9900 := by
  cases h with
  | plain =>
    rw [List.length_append, bits_len, b8_len, List.length_take, List.length_drop]
    omega
  | told h =>
    have := h.len.1
    have := rowT_le toldWP (fun it hi => ⟨h.len.2 it hi, told_cost (h.len.2 it hi)⟩) told_end0
    omega
  | own h R hd =>
    have := h.len.1
    obtain ⟨c1, c2⟩ := own_pos R
    have h1 := rowT_le (ownWP R) (fun it hi => ⟨h.len.2 it hi, c2 it hi⟩) c1
    have h2 := hdL_pos fun x hx => (hd.ok x hx).2.1
    rw [hd.tell, List.length_append, (ownWP R).l273, (ownWP R).b11] at h2
    rw [List.length_append, hdB_len]
    omega
abbrev NSt : List Str := ["_law_script", "_law_at", "_law_lead", "_law_numbers_here", "_law_found", "_law_begin", "_law_every", "_law_k", "_law_cell", "_law_end", "_law_row", "_law_head", "_law_letters", "_law_backs", "_law_bits_here", "_law_one"]
theorem scSt : FnScope NSt ["_law_script", "_law_at", "_law_lead", "_law_numbers_here"] (defScope sLStream) := ⟨rfl, rfl, rfl, by decide +kernel, rfl, by decide +kernel, by decide +kernel⟩
section
variable {P : Program} {w : World} {K : PySem.W.Frag} {mg : Str → Option Value} {base : Heap}
def spSt (K : PySem.W.Frag) : Sp := fun vs H Q _ => ∃ (ps pl pn : Addr) (xs : List Int) (at_ : Nat) (lead nums : List Nat), vs = [.ref ps, .int (at_ : Int), .ref pl, .ref pn] ∧ SqL K H ps (xs.map V.int) ∧ at_ ≤ 500 ∧ H pl = some (.lst (bys lead)) ∧ H pn = some (.lst (bys nums)) ∧ (∀ k ∈ lead ++ nums, k < 256) ∧ (lead ++ nums).length ≤ 200 ∧
  ∀ H' T ss s, Same H H' → Runs (rs0 lead) ss T s → s.nx = 5 → s.whole = lead ++ nums → T.length ≤ 70000 → T ≠ [] → Q (.str (tx (T ++ List.replicate (padN T.length) 48))) H'
theorem ok_st {f fC fA fB fT fR fO fH : Addr} {fd fdC fdA fdB fdT fdR fdO fdH : FuncData} {j k1 k2 k3 k4 k5 k6 k7 : Nat} (F : Fun K "_law_stream" "_law_stream" sLStream f fd)
    (GC : FnOk P w K mg base CX0 k1 fC fdC ["_law_script", "_law_k"] (K7.spCell K)) (bC : Binds K fdC ["_law_script", "_law_k"] []) (kC : PySem.W.keepIn K (.ref fC) = true) (gC : mg "_law_cell_at" = some (.ref fC)) (l1 : k1 ≤ j)
    (GA : FnOk P w K mg base CX0 k2 fA fdA ["_law_script", "_law_at", "_law_every", "_law_begin", "_law_end"] (spAr K)) (bA : Binds K fdA ["_law_script", "_law_at", "_law_every", "_law_begin", "_law_end"] []) (kA : PySem.W.keepIn K (.ref fA) = true) (gA : mg "_law_any_row" = some (.ref fA)) (l2 : k2 ≤ j)
    (GB : FnOk P w K mg base CX0 k3 fB fdB ["_law_number", "_law_breadth"] spLBits) (bB : Binds K fdB ["_law_number", "_law_breadth"] []) (kB : PySem.W.keepIn K (.ref fB) = true) (gB : mg "_law_bits" = some (.ref fB)) (l3 : k3 ≤ j)
    (GT : FnOk P w K mg base CX0 k4 fT fdT [] spTold) (bT : Binds K fdT [] []) (kT : PySem.W.keepIn K (.ref fT) = true) (gT : mg "_law_told_lengths" = some (.ref fT)) (l4 : k4 ≤ j)
    (GR : FnOk P w K mg base CX0 k5 fR fdR ["_law_row", "_law_letters", "_law_backs"] spLRowB) (bR : Binds K fdR ["_law_row", "_law_letters", "_law_backs"] []) (kR : PySem.W.keepIn K (.ref fR) = true) (gR : mg "_law_row_bits" = some (.ref fR)) (l5 : k5 ≤ j)
    (GO : FnOk P w K mg base CX0 k6 fO fdO ["_law_row"] spLOwn) (bO : Binds K fdO ["_law_row"] []) (kO : PySem.W.keepIn K (.ref fO) = true) (gO : mg "_law_own" = some (.ref fO)) (l6 : k6 ≤ j)
    (GH : FnOk P w K mg base CX0 k7 fH fdH ["_law_script", "_law_at", "_law_lengths"] (spAh K)) (bH : Binds K fdH ["_law_script", "_law_at", "_law_lengths"] []) (kH : PySem.W.keepIn K (.ref fH) = true) (gH : mg "_law_any_head" = some (.ref fH)) (l7 : k7 ≤ j)
    (m1 : mg "int" = none) (m2 : mg "len" = none) (m3 : mg "range" = none) : FnOk P w K mg base CX0 (j + 1) f fd ["_law_script", "_law_at", "_law_lead", "_law_numbers_here"] (spSt K) := by
  refine F.ok scSt (fun vs H Q E h => ?_) (fun cdv A outer s H vs Q E hr h => ?_)
  · obtain ⟨ps, pl, pn, xs, at_, lead, nums, rfl, _⟩ := h
    rfl
  · obtain ⟨ps, pl, pn, xs, at_, lead, nums, rfl, hs, ha, hl, hn, hk, hlen, q⟩ := h
    have hz := PySem.sizeLine_eq
    refine ⟨_, pss_cons (ps_par3 (i := 4) (j := 5) (l := 6) rfl scSt.nd rfl rfl rfl (by decide) (by decide) (by decide) rfl rfl rfl (pa_cons pe_str (pa_cons (pe_callB call_len_seq (by rfl) m2 PySem.boot_len (pa_cons (pv 2) pa_nil)) (pa_cons (pe_op op_cat (pv 2) (pv 3)) pa_nil))) (by rfl))
      (pss_cons (ps_for PassesOwn.never rfl (pi_range1 (by rfl) m3 (pa_cons pe_int pa_nil)) (pg_name (i := 7) scSt.nd rfl (.inl rfl))
        (pss_cons (ps_set (i := 8) scSt.nd rfl (.inl rfl) (pe_call GC (hr.mono l1) (by rfl) gC kC bC .nil pass0 (pa_cons (pv 0) (pa_cons (pe_op op_add (pv 1) (pv 7)) pa_nil))))
        (pss_cons (ps_set (i := 9) scSt.nd rfl (.inl rfl) (pe_ifExp (pt_cmpR op_eq (pv 7) pe_int (nomark _)) (pe_callB call_len_seq (by rfl) m2 PySem.boot_len (pa_cons (pv 6) pa_nil))
            (pe_op op_add (pv 5) (pe_op op_modN (pe_callTy call_int1 (by rfl) m1 (by decide +kernel) (pa_cons (pv 8) pa_nil)) (pe_op op_add (pe_op op_sub (pe_callB call_len_seq (by rfl) m2 PySem.boot_len (pa_cons (pv 6) pa_nil)) (pv 5)) pe_int)))))
        (pss_cons (ps_set (i := 10) scSt.nd rfl (.inl rfl) (pe_call GA (hr.mono l2) (by rfl) gA kA bA .nil pass0 (pa_cons (pv 0) (pa_cons (pe_op op_add (pv 1) pe_int) (pa_cons (pv 6) (pa_cons (pv 5) (pa_cons (pv 9) pa_nil)))))))
        (pss_cons (ps_set (i := 11) scSt.nd rfl (.inl rfl) (pe_ix ix_list (pe_lst (pa_cons pe_str (pa_cons pe_str (pa_cons pe_str pa_nil)))) (pe_op op_modN (pe_op op_fdivN (pv 8) pe_int) pe_int) (fun _ _ => rfl)))
        (pss_cons (ps_if (pt_cmpR op_eq (pv 11) pe_str (nomark _))
          (pss_one (ps_set (i := 14) scSt.nd rfl (.inl rfl) (pe_op op_add_str (pe_call GB (hr.mono l3) (by rfl) gB kB bB .nil pass0 (pa_cons (pe_op op_sub (pv 9) (pv 5)) (pa_cons pe_int pa_nil)))
            (pe_join pe_str (pe_lc (own := [("_law_one", 15)]) (g := gName 15) (tt := tYes) rfl scSt.nd (pi_list (pe_slice sl_list (pv 6) (po_some (pv 5)) (po_some (pv 9)))) (blkOk_by (N := NSt) (sc := defScope sLStream) (by decide +kernel))
              (fun _ _ _ _ _ => pg_name (i := 15) scSt.nd rfl (.inl rfl)) (fun _ _ _ _ _ => pts_nil) (fun _ _ _ _ _ => pe_call GB (hr.mono l3) (by rfl) gB kB bB .nil pass0 (pa_cons (pv 15) (pa_cons pe_int pa_nil))))))))
          (pss_one (ps_if (pt_cmpR op_eq (pv 11) pe_str (nomark _))
            (pss_cons (ps_asg (pe_call0 GT (hr.mono l4) (by rfl) gT kT bT .nil pass0) (pg_tup (by rfl) (pgs_cons (pg_name (i := 12) scSt.nd rfl (.inl rfl)) (pgs_cons (pg_name (i := 13) scSt.nd rfl (.inl rfl)) pgs_nil))))
            (pss_one (ps_set (i := 14) scSt.nd rfl (.inl rfl) (pe_call GR (hr.mono l5) (by rfl) gR kR bR .nil pass0 (pa_cons (pv 10) (pa_cons (pv 12) (pa_cons (pv 13) pa_nil)))))))
            (pss_cons (ps_asg (pe_call GO (hr.mono l6) (by rfl) gO kO bO .nil pass0 (pa_cons (pv 10) pa_nil)) (pg_tup (by rfl) (pgs_cons (pg_name (i := 12) scSt.nd rfl (.inl rfl)) (pgs_cons (pg_name (i := 13) scSt.nd rfl (.inl rfl)) pgs_nil))))
            (pss_one (ps_set (i := 14) scSt.nd rfl (.inl rfl) (pe_op op_add_str (pe_call GH (hr.mono l7) (by rfl) gH kH bH .nil pass0 (pa_cons (pv 0) (pa_cons (pe_op op_add (pv 1) pe_int) (pa_cons (pe_op op_cat (pv 12) (pv 13)) pa_nil))))
              (pe_call GR (hr.mono l5) (by rfl) gR kR bR .nil pass0 (pa_cons (pv 10) (pa_cons (pv 12) (pa_cons (pv 13) pa_nil)))))))))))
        (pss_one (ps_par (i := 4) (j := 5) rfl scSt.nd rfl rfl (by decide) rfl rfl (pa_cons (pe_op op_add_str (pe_op op_add_str (pe_op op_add_str (pv 4) (pe_ifExp (pt_cmpR op_eq (pv 7) pe_int (nomark _)) pe_str pe_str)) (pv 11)) (pv 14)) (pa_cons (pv 9) pa_nil)) (by rfl)))))))))
      (pss_one (ps_ret (pe_op op_add_str (pv 4) (pe_op op_rep0 pe_str (pe_op op_modN (pe_un un_neg (pe_callB call_len (by rfl) m2 PySem.boot_len (pa_cons (pv 4) pa_nil))) pe_int)))))), ?_⟩
    have hpl := hl
    refine ⟨_, rfl, pl, _, rfl, .inl (.inl (.inl hl)), ?_⟩
    refine ⟨_, rfl, _, rfl, pl, pn, _, _, rfl, rfl, hl, hn, (by rw [bys_len, bys_len]; rw [List.length_append] at hlen; omega), fun pe nE => ?_⟩
    rw [bys_app]
    have s0 : Same H (upd H pe (.lst (bys (lead ++ nums)))) := same_upd nE
    have hE0 : (upd H pe (.lst (bys (lead ++ nums)))) pe = some (.lst (bys (lead ++ nums))) := upd_same
    generalize upd H pe (.lst (bys (lead ++ nums))) = H0 at *
    refine ⟨_, _, _, rfl, ?_⟩
    have hev : (lead ++ nums).take lead.length = lead := List.take_left
    have hle0 : lead.length ≤ (lead ++ nums).length := by rw [List.length_append]; omega
    obtain ⟨every, hevery⟩ : ∃ e, e = lead ++ nums := ⟨_, rfl⟩
    rw [← hevery] at hE0 hk hlen hev hle0
    refine ⟨4, rfl, by decide, by decide, ?_⟩
    refine for_range (lo := 0) (n := 4) (fun i σ H' => ∃ (T : List Nat) (ss : List Stp) (s : RS) (p : Nat) (y7 y8 y9 y10 y11 y12 y13 y14 : Option V), σ = [some (.ref ps), some (.int (at_ : Int)), some (.ref pl), some (.ref pn), some (.str (tx T)), some (.int (p : Int)), some (.ref pe), y7, y8, y9, y10, y11, y12, y13, y14, none] ∧ Same H0 H' ∧ Runs (rs0 lead) ss T s ∧ s.whole = every.take p ∧ p ≤ every.length ∧ T.length ≤ 10000 * i ∧ (i < 4 → s.nx = 0) ∧ (i = 4 → s.nx = 5 ∧ p = every.length ∧ T ≠ []))
      ⟨[], [], rs0 lead, lead.length, none, none, none, none, none, none, none, none, by rw [bys_len]; rfl, .refl H0, .nil _, hev.symm, hle0, Nat.zero_le _, fun _ => rfl, fun z => absurd z (by decide)⟩ (fun i σ H1 hi h => ?_) (fun σ H1 h => ?_)
    · obtain ⟨T, ss, st, p, y7, y8, y9, y10, y11, y12, y13, y14, rfl, s1, hR, hw, hp, hT, h0, _⟩ := h
      have h0 := h0 hi
      dsimp only [gName]
      have s01 := s0.trans s1
      refine ⟨_, rfl, _, rfl, _, rfl, _, _, rfl, rfl, ps, xs, at_ + i, (by show [V.ref ps, V.int ((at_ : Int) + (0 + (i : Int)))] = _; rw [show (at_ : Int) + (0 + (i : Int)) = ((at_ + i : Nat) : Int) by omega]), s01.seq hs, by omega, fun H2 s2 => ?_⟩
      have s12 := s1.trans s2
      have hE2 := s12 _ _ hE0
      generalize K7.cellAt xs (at_ + i) = cell
      dsimp only [gName]
      obtain ⟨M1, hM1⟩ : ∃ M : L2.St → Hp → Prop, M = fun σ' H' => H' = H2 ∧ ∃ en : Nat, σ' = [some (.ref ps), some (.int (at_ : Int)), some (.ref pl), some (.ref pn), some (.str (tx T)), some (.int (p : Int)), some (.ref pe), some (.int (0 + (i : Int))), some (.int cell), some (.int (en : Int)), y10, y11, y12, y13, y14, none] ∧ p ≤ en ∧ en ≤ every.length ∧ (i = 3 → en = every.length) := ⟨_, rfl⟩
      with_reducible refine seq_mid M1 (fun N hN => ?_) (fun σ' H' h => ?_)
      · refine ⟨_, rfl, rfl, _, rfl, ite2 (fun c => ?_) (fun c => ?_)⟩
        · refine ⟨_, rfl, pe, _, rfl, .inl (.inl (.inl hE2)), hN _ _ ?_⟩
          rw [hM1]
          exact ⟨rfl, every.length, by rw [bys_len]; rfl, hp, Nat.le_refl _, fun _ => rfl⟩
        · have hi3 : i ≠ 3 := fun z => c (decide_eq_true (by rw [z]; rfl))
          have hm := fmod_in (a := cell) (l := (every.length : Int) - (p : Int) + 1) (by omega)
          obtain ⟨d, hd⟩ := nat_of hm.1
          refine ⟨_, rfl, _, rfl, .inl ⟨_, rfl, _, rfl, pe, _, rfl, .inl (.inl (.inl hE2)), _, rfl, _, _, rfl, rfl, _, _, rfl, rfl, _, _, rfl, rfl, (by show ((bys every).length : Int) - (p : Int) + 1 ≠ 0; rw [bys_len]; omega), _, _, rfl, rfl, hN _ _ ?_⟩⟩
          rw [hM1]
          refine ⟨rfl, p + d, ?_, by omega, by omega, fun z => absurd z hi3⟩
          dsimp only
          rw [bys_len, hd]
          rfl
      · rw [hM1] at h
        obtain ⟨rfl, en, rfl, hpe, hen, hi3⟩ := h
        refine ⟨_, rfl, _, rfl, _, _, rfl, rfl, _, rfl, _, rfl, _, rfl, ps, pe, xs, at_ + 10, p, en, every, rfl, (s0.trans s12).seq hs, by omega, hE2, hpe, hen, by omega, hk, fun H3 r us its s3 nr hr hrow hRow => ?_⟩
        have s13 := s12.trans s3
        have hE3 := s13 _ _ hE0
        dsimp only [gName]
        refine ⟨(by show 3 ≤ sizeLine; omega), fun z nz => ?_⟩
        have s4 : Same H3 (upd H3 z (.lst [.str "00", .str "01", .str "10"])) := same_upd nz
        have hz4 : (upd H3 z (.lst [.str "00", .str "01", .str "10"])) z = some (.lst [.str "00", .str "01", .str "10"]) := upd_same
        generalize upd H3 z (.lst [.str "00", .str "01", .str "10"]) = H4 at *
        have hm := fmod_in (a := cell.fdiv 7) (l := 3) (by decide)
        obtain ⟨kk, hkk⟩ := nat_of hm.1
        have hkk3 : kk < 3 := by omega
        have hat : atI [V.str "00", V.str "01", V.str "10"] (kk : Int) = some (.str (tx (bitsL kk 2))) := by
          rcases (show kk = 0 ∨ kk = 1 ∨ kk = 2 by omega) with rfl | rfl | rfl
          · rfl
          · rfl
          · rfl
        refine ⟨_, rfl, _, _, rfl, rfl, ⟨by decide, by decide⟩, _, _, rfl, rfl, (by show (3 : Int) ≠ 0; decide), z, _, _, _, rfl, rfl, .inl (.inl hz4), (by rw [hkk]; exact hat), ?_⟩
        have s14 := s13.trans s4
        have hE4 := s4 _ _ hE3
        have hr4 := s4 _ _ hr
        have hrow4 : RowAt H4 its us := hrow.mono fun _ _ z => z.same s4
        obtain ⟨hRl, hRok⟩ := hRow.len
        have hRw : RwOk its := ⟨hRok, by omega⟩
        dsimp only [gName]
        obtain ⟨M2, hM2⟩ : ∃ M : L2.St → Hp → Prop, M = fun σ' H' => Same H4 H' ∧ ∃ (B : List Nat) (z12 z13 : Option V), σ' = [some (.ref ps), some (.int (at_ : Int)), some (.ref pl), some (.ref pn), some (.str (tx T)), some (.int (p : Int)), some (.ref pe), some (.int (0 + (i : Int))), some (.int cell), some (.int (en : Int)), some (.ref r), some (.str (tx (bitsL kk 2))), z12, z13, some (.str (tx B)), none] ∧ Body every p en kk B := ⟨_, rfl⟩
        with_reducible refine seq_mid M2 (fun N hN => ?_) (fun σ' H' h => ?_)
        · have dec0 : decide (V.str (tx (bitsL kk 2)) = V.str "00") = decide (kk = 0) := by
            rcases (show kk = 0 ∨ kk = 1 ∨ kk = 2 by omega) with rfl | rfl | rfl <;> decide +kernel
          have dec1 : decide (V.str (tx (bitsL kk 2)) = V.str "01") = decide (kk = 1) := by
            rcases (show kk = 0 ∨ kk = 1 ∨ kk = 2 by omega) with rfl | rfl | rfl <;> decide +kernel
          refine ⟨_, rfl, rfl, _, rfl, ?_⟩
          rw [dec0]
          rcases (show kk = 0 ∨ kk = 1 ∨ kk = 2 by omega) with rfl | rfl | rfl
          · refine iteT ?_
            refine ⟨_, rfl, _, rfl, _, _, rfl, rfl, en - p, 11, (by show [V.int ((en : Int) - (p : Int)), V.int 11] = [V.int ((en - p : Nat) : Int), V.int ((11 : Nat) : Int)]; rw [show (en : Int) - (p : Int) = ((en - p : Nat) : Int) by omega]; rfl), by decide, by omega, fun H5 s5 => ?_⟩
            have hE5 := s5 _ _ hE4
            refine ⟨⟨_, rfl⟩, _, rfl, _, rfl, _, rfl, _, rfl, _, rfl, pe, _, rfl, .inl (.inl hE5), fun y ny => ?_⟩
            rw [bys_cut, Nat.min_eq_left hp, Nat.min_eq_left hen]
            have s6 : Same H5 (upd H5 y (.lst (bys ((every.drop p).take (en - p))))) := same_upd ny
            have hy6 : (upd H5 y (.lst (bys ((every.drop p).take (en - p))))) y = some (.lst (bys ((every.drop p).take (en - p)))) := upd_same
            have hcl : ((every.drop p).take (en - p)).length = en - p := by
              rw [List.length_take, List.length_drop]
              omega
            have hck : ∀ k ∈ (every.drop p).take (en - p), k < 256 := fun k m => hk k (List.mem_of_mem_drop (List.mem_of_mem_take m))
            have hBody := Body.plain (every := every) (p := p) (q := en)
            generalize (every.drop p).take (en - p) = cutl at *
            generalize upd H5 y (.lst (bys cutl)) = H6 at *
            refine ⟨y, rfl, ⟨_, .inl (.inl hy6)⟩, fun R nR => ?_⟩
            refine lc_it (walk_list (K := K) (a := y) (xs := bys cutl)) (fun i H' => Same H6 H' ∧ H' R = some (.lst ((((cutl.take i).map fun k => bitsL k 8).map tx).map V.str))) ⟨same_upd nR, upd_same⟩ (fun i H' _ h => .inl (.inl (h.1 _ _ hy6))) (fun i2 v H7 H8 hi2 h y2 => ?_) (fun H7 h => ?_)
            · obtain ⟨rfl, e1⟩ := y2
              rw [bys_eq, List.getElem?_map] at e1
              rw [bys_len] at hi2
              rw [List.getElem?_eq_getElem hi2] at e1
              obtain rfl := Option.some.inj e1
              have hk8 := hck _ (List.getElem_mem hi2)
              refine ⟨rfl, yes ⟨_, rfl, cutl[i2], 8, rfl, by decide, by omega, fun H9 s9 => ⟨_, s9 _ _ h.2, ?_, same_put (h.1.trans s9) nR, ?_⟩⟩⟩
              · rw [List.length_map, List.length_map, List.length_map, List.length_take]
                omega
              · rw [upd_same, List.take_add_one, List.getElem?_eq_getElem hi2, List.map_append, List.map_append, List.map_append]
                rfl
            · obtain ⟨s7, hR7⟩ := h
              rw [bys_len, List.take_length] at hR7
              have e8 := b8_sum cutl
              have hfl := b8_len cutl
              refine ⟨_, R, (cutl.map fun k => bitsL k 8).map tx, rfl, rfl, .inl (.inl (.inl hR7)), ?_, ?_⟩
              · rw [e8]
                show 8 * cutl.length + _ * 0 ≤ _
                omega
              rw [tx_join]
              refine ⟨_, _, rfl, rfl, (by show (tx (bitsL (en - p) 11)).length + (tx (b8 cutl)).length ≤ sizeLine; rw [tx_len, tx_len, bits_len, hfl]; omega), ?_⟩
              refine hN _ _ ?_
              rw [hM2]
              refine ⟨(s5.trans s6).trans s7, _, y12, y13, ?_, hBody⟩
              show _ = [some (.ref ps), some (.int (at_ : Int)), some (.ref pl), some (.ref pn), some (.str (tx T)), some (.int (p : Int)), some (.ref pe), some (.int (0 + (i : Int))), some (.int cell), some (.int (en : Int)), some (.ref r), some (.str (tx (bitsL 0 2))), y12, y13, some (.str (tx (bitsL (en - p) 11 ++ b8 cutl))), none]
              rw [← tx_app]
              rfl
          · refine iteF ⟨_, rfl, rfl, _, rfl, ?_⟩
            rw [dec1]
            refine iteT ?_
            refine ⟨rfl, fun H5 t u v s5 ht hu hv nt nu nv => ?_⟩
            refine ⟨t, _, rfl, .inl (.inl ht), rfl, _, _, rfl, _, _, rfl, rfl, ?_⟩
            dsimp only [gName]
            refine ⟨_, rfl, _, rfl, _, rfl, r, u, v, us, its, toldL, toldB, rfl, s5 _ _ hr4, hrow4.mono (fun _ _ z => z.same s5), hu, hv, toldWP, fun it hi => ⟨hRok it hi, told_cost (hRok it hi)⟩, by omega, told_end0, fun H6 s6 => hN _ _ ?_⟩
            rw [hM2]
            exact ⟨s5.trans s6, _, _, _, rfl, .told hRow⟩
          · refine iteF ⟨_, rfl, rfl, _, rfl, ?_⟩
            rw [dec1]
            refine iteF ?_
            obtain ⟨c1, c2⟩ := own_pos hRw
            have W := ownWP hRw
            have hL273 := W.l273
            have hB11 := W.b11
            refine ⟨_, rfl, r, us, its, rfl, hr4, hrow4, hRw, fun H5 t u v s5 nt ht hu hv => ?_⟩
            refine ⟨t, _, rfl, .inl (.inl ht), rfl, _, _, rfl, _, _, rfl, rfl, ?_⟩
            dsimp only [gName]
            refine ⟨_, rfl, _, rfl, _, _, rfl, rfl, _, rfl, _, rfl, u, v, _, _, rfl, rfl, hu, hv, (by rw [List.length_map, List.length_map]; omega), fun c nc => ?_⟩
            rw [← List.map_append]
            have s6 : Same H5 (upd H5 c (.lst ((ownL its ++ ownB its).map V.int))) := same_upd nc
            have hc6 : (upd H5 c (.lst ((ownL its ++ ownB its).map V.int))) c = some (.lst ((ownL its ++ ownB its).map V.int)) := upd_same
            generalize upd H5 c (.lst ((ownL its ++ ownB its).map V.int)) = H6 at *
            have s56 := s5.trans s6
            refine ⟨ps, c, xs, ownL its ++ ownB its, at_ + 5, rfl, ((s0.trans s14).trans s56).seq hs, by omega, hc6, by rw [List.length_append]; omega, fun x hx => (List.mem_append.mp hx).elim (fun h => W.l.in_ x h) fun h => W.b.in_ x h, fun H7 rs s7 hd => ?_⟩
            have s57 := s56.trans s7
            refine ⟨_, rfl, _, rfl, _, rfl, r, u, v, us, its, ownL its, ownB its, rfl, s57 _ _ hr4, hrow4.mono (fun _ _ z => z.same s57), s7 _ _ (s6 _ _ hu), s7 _ _ (s6 _ _ hv), W, fun it hi => ⟨hRok it hi, c2 it hi⟩, by omega, c1, fun H8 s8 => ?_⟩
            have hbl := body_len (.own hRow hRw hd) hpe hen hlen
            rw [List.length_append] at hbl
            refine ⟨_, _, rfl, rfl, (by rw [tx_len, tx_len]; omega), hN _ _ ?_⟩
            rw [hM2]
            refine ⟨s57.trans s8, _, some (.ref u), some (.ref v), ?_, .own hRow hRw hd⟩
            rw [← tx_app]
            rfl
        · rw [hM2] at h
          obtain ⟨s5, B, z12, z13, rfl, hB⟩ := h
          have hbl := body_len hB hpe hen hlen
          obtain ⟨ss2, st2, g1, g2, g3⟩ := blk_runs (by omega) hk hpe hen hB st h0 hw (decide (i = 3))
          have hl2 := bits_len kk 2
          have hl1 := bits_len (lastN (decide (i = 3))) 1
          have fin : ∀ (z : V), (z = .str (tx (T ++ (bitsL (lastN (decide (i = 3))) 1 ++ bitsL kk 2 ++ B)))) → ∃ (T : List Nat) (ss : List Stp) (s : RS) (p : Nat) (y7 y8 y9 y10 y11 y12 y13 y14 : Option V), [some (.ref ps), some (.int (at_ : Int)), some (.ref pl), some (.ref pn), some z, some (.int (en : Int)), some (.ref pe), some (.int (0 + (i : Int))), some (.int cell), some (.int (en : Int)), some (.ref r), some (.str (tx (bitsL kk 2))), z12, z13, some (.str (tx B)), none] = [some (.ref ps), some (.int (at_ : Int)), some (.ref pl), some (.ref pn), some (.str (tx T)), some (.int (p : Int)), some (.ref pe), y7, y8, y9, y10, y11, y12, y13, y14, none] ∧ Same H0 H' ∧ Runs (rs0 lead) ss T s ∧ s.whole = every.take p ∧ p ≤ every.length ∧ T.length ≤ 10000 * (i + 1) ∧ (i + 1 < 4 → s.nx = 0) ∧ (i + 1 = 4 → s.nx = 5 ∧ p = every.length ∧ T ≠ []) := fun z e => by
            refine ⟨_, ss ++ ss2, st2, en, _, _, _, _, _, _, _, _, by rw [e], s14.trans s5, hR.app g1, g3, hen, ?_, fun h4 => ?_, fun h4 => ?_⟩
            · rw [List.length_append, List.length_append, List.length_append]
              omega
            · rw [g2, decide_eq_false (by omega)]
              rfl
            · refine ⟨by rw [g2, decide_eq_true (by omega)]; rfl, hi3 (by omega), fun z => ?_⟩
              have := congrArg List.length z
              rw [List.length_append, List.length_append, List.length_append, hl1] at this
              simp at this
          have esum : ∀ w1 : List Nat, w1 = bitsL (lastN (decide (i = 3))) 1 → tx T ++ tx w1 ++ tx (bitsL kk 2) ++ tx B = tx (T ++ (bitsL (lastN (decide (i = 3))) 1 ++ bitsL kk 2 ++ B)) := fun w1 e => by
            rw [tx_app, tx_app, tx_app, e, List.append_assoc, List.append_assoc, List.append_assoc]
          have hTl : T.length ≤ 30000 := by omega
          refine ⟨_, rfl, _, rfl, rfl, _, rfl, ite2 (fun c => ?_) (fun c => ?_)⟩
          · have h3 : i = 3 := by
              have := V.int.inj (of_decide_eq_true c)
              omega
            refine ⟨_, _, rfl, rfl, (by show (tx T).length + (tx [49]).length ≤ sizeLine; rw [tx_len, tx_len]; show T.length + 1 ≤ _; omega), ?_⟩
            refine ⟨_, rfl, _, _, rfl, rfl, (by show (tx T ++ tx [49]).length + (tx (bitsL kk 2)).length ≤ sizeLine; rw [tx_app, tx_len, tx_len, List.length_append]; show T.length + 1 + _ ≤ _; omega), ?_⟩
            refine ⟨_, rfl, _, _, rfl, rfl, (by show (tx T ++ tx [49] ++ tx (bitsL kk 2)).length + (tx B).length ≤ sizeLine; rw [tx_app, tx_app, tx_len, tx_len, List.length_append, List.length_append]; show T.length + 1 + _ + _ ≤ _; omega), ?_⟩
            refine ⟨_, rfl, _, _, rfl, ?_⟩
            exact fin _ (congrArg V.str (esum [49] (by rw [decide_eq_true h3]; rfl)))
          · have h3 : ¬ i = 3 := fun z => c (decide_eq_true (by rw [z]; rfl))
            refine ⟨_, _, rfl, rfl, (by show (tx T).length + (tx [48]).length ≤ sizeLine; rw [tx_len, tx_len]; show T.length + 1 ≤ _; omega), ?_⟩
            refine ⟨_, rfl, _, _, rfl, rfl, (by show (tx T ++ tx [48]).length + (tx (bitsL kk 2)).length ≤ sizeLine; rw [tx_app, tx_len, tx_len, List.length_append]; show T.length + 1 + _ ≤ _; omega), ?_⟩
            refine ⟨_, rfl, _, _, rfl, rfl, (by show (tx T ++ tx [48] ++ tx (bitsL kk 2)).length + (tx B).length ≤ sizeLine; rw [tx_app, tx_app, tx_len, tx_len, List.length_append, List.length_append]; show T.length + 1 + _ + _ ≤ _; omega), ?_⟩
            refine ⟨_, rfl, _, _, rfl, ?_⟩
            exact fin _ (congrArg V.str (esum [48] (by rw [decide_eq_false h3]; rfl)))
    · obtain ⟨T, ss, st, p, y7, y8, y9, y10, y11, y12, y13, y14, rfl, s1, hR, hw, hp, hT, _, h4⟩ := h
      obtain ⟨n5, hpe, hTne⟩ := h4 rfl
      have hT2 : T.length ≤ 40000 := by omega
      have hpad : (-((tx T).length : Int)).fmod 8 = ((padN T.length : Nat) : Int) := by
        rw [tx_len, Int.fmod_eq_emod_of_nonneg _ (by decide)]
        unfold padN
        omega
      have hpl8 : padN T.length < 8 := by
        unfold padN
        omega
      refine ⟨_, rfl, _, rfl, _, _, rfl, ⟨(by rw [tx_len]; omega), rfl⟩, _, rfl, _, _, rfl, rfl, (by show (8 : Int) ≠ 0; decide), padN T.length, hpl8, rfl, congrArg V.int hpad, ?_⟩
      refine ⟨_, _, rfl, rfl, (by rw [tx_len, tx_len, List.length_replicate]; omega), ?_⟩
      have := q H1 T ss st (s0.trans s1) hR n5 (by rw [hw, hpe, List.take_length, hevery]) (by omega) hTne
      rw [← tx_app] at this
      exact this
end
end K7

namespace K7
open PySem PySem.Spec PyProof.Rows L2 SBX
/-! ### eight signs as a byte -/
theorem int_sign {c : Nat} (h : IsBit c) : PySem.intText? (tx [c]) = some ((c - 48 : Nat) : Int) := by
  rcases h with rfl | rfl <;> decide +kernel
theorem bin8 : ∀ l : List Nat, l.length = 8 → ((List.range 8).map fun j => (((l.getD j 48 - 48 : Nat) : Int) * 2 ^ (7 - j))).sum = ((binNum l : Nat) : Int)
  | [a, b, c, d, e, f, g, h], _ => by
    have e1 : List.range 8 = [0, 1, 2, 3, 4, 5, 6, 7] := by decide
    rw [e1]
    simp only [List.map_cons, List.map_nil, List.sum_cons, List.sum_nil]
    show (((a - 48 : Nat) : Int) * 2 ^ 7 + (((b - 48 : Nat) : Int) * 2 ^ 6 + (((c - 48 : Nat) : Int) * 2 ^ 5 + (((d - 48 : Nat) : Int) * 2 ^ 4 + (((e - 48 : Nat) : Int) * 2 ^ 3 + (((f - 48 : Nat) : Int) * 2 ^ 2 + (((g - 48 : Nat) : Int) * 2 ^ 1 + (((h - 48 : Nat) : Int) * 2 ^ 0 + 0)))))))) = ((((((((((0 * 2 + (a - 48)) * 2 + (b - 48)) * 2 + (c - 48)) * 2 + (d - 48)) * 2 + (e - 48)) * 2 + (f - 48)) * 2 + (g - 48)) * 2 + (h - 48)) : Nat) : Int)
    generalize a - 48 = a
    generalize b - 48 = b
    generalize c - 48 = c
    generalize d - 48 = d
    generalize e - 48 = e
    generalize f - 48 = f
    generalize g - 48 = g
    generalize h - 48 = h
    omega
theorem getD_cut {P : List Nat} {i j : Nat} (hj : j < 8) : ((P.drop (8 * i)).take 8).getD j 48 = P.getD (8 * i + j) 48 := by
  rw [List.getD_eq_getElem?_getD, List.getElem?_take_of_lt hj, List.getElem?_drop, ← List.getD_eq_getElem?_getD]
end K7

namespace K7
open PySem PySem.Spec PyProof.Rows L2 SBX
open K2 (wAt coinsL)
/-! ### _law_all_right -/
theorem rdF_no' {x : Str} {r : Addr} (h0 : (x == ("_reading" : Str)) = false := by decide +kernel) : (rdF r).lookup x = none := rdF_no _ h0
abbrev NAl : List Str := ["_law_script", "_law_numbers_here", "_law_lead", "_law_bits_here", "_law_stream_here", "_law_at", "_law_bit", "_law_before", "_law_reader", "_law_sum_of", "_law_k", "_law_many", "_law_found"]
theorem scAl : FnScope NAl ["_law_script"] (defScope sAll) := ⟨rfl, rfl, rfl, by decide +kernel, rfl, by decide +kernel, by decide +kernel⟩
section
variable {P : Program} {w : World} {K : PySem.W.Frag} {mg : Str → Option Value} {base : Heap} {C CH CT CW CR CD fI fH fB fR fG fN fL fTI pI pL pB dI dH dK dO dB : Addr}
variable {rI rHear rTold rMany rOver rBits rGo rNext rBlk rCnt rPln rRun rTake rTrees rItem rRoom rEnd rRest : Addr}
def spAl (K : PySem.W.Frag) : Sp := fun vs H Q _ => ∃ (p : Addr) (xs : List Int), vs = [.ref p] ∧ SqL K H p (xs.map V.int) ∧ ∀ H', Q (.bl true) H'
theorem ok_al (TD : RdTxt K mg CD dI dH dK dO dB) {f0 fDa fC fS fO fX fOp : Addr} {fd fdDa fdC fdS fdO fdX fdOp fdI fdH fdK fdV fdB : FuncData} {j k1 k2 k3 k4 k5 k6 k7 k8 k9 k10 k11 : Nat} (F : Fun K "_law_all_right" "_law_all_right" sAll f0 fd)
    (GDa : FnOk P w K mg base CX0 k1 fDa fdDa ["_law_script", "_law_at", "_law_most"] (spData K)) (bDa : Binds K fdDa ["_law_script", "_law_at", "_law_most"] []) (kDa : PySem.W.keepIn K (.ref fDa) = true) (gDa : mg "_law_data" = some (.ref fDa)) (l1 : k1 ≤ j)
    (GC : FnOk P w K mg base CX0 k2 fC fdC ["_law_script", "_law_k"] (K7.spCell K)) (bC : Binds K fdC ["_law_script", "_law_k"] []) (kC : PySem.W.keepIn K (.ref fC) = true) (gC : mg "_law_cell_at" = some (.ref fC)) (l2 : k2 ≤ j)
    (GS : FnOk P w K mg base CX0 k3 fS fdS ["_law_script", "_law_at", "_law_lead", "_law_numbers_here"] (spSt K)) (bS : Binds K fdS ["_law_script", "_law_at", "_law_lead", "_law_numbers_here"] []) (kS : PySem.W.keepIn K (.ref fS) = true) (gS : mg "_law_stream" = some (.ref fS)) (l3 : k3 ≤ j)
    (GO : FnOk P w K mg base CX0 k4 fO fdO ["text"] spOfHex) (bO : Binds K fdO ["text"] []) (kO : PySem.W.keepIn K (.ref fO) = true) (gO : mg "of_hex" = some (.ref fO)) (l4 : k4 ≤ j)
    (GX : FnOk P w K mg base CX0 k5 fX fdX ["_law_numbers_here"] spHex) (bX : Binds K fdX ["_law_numbers_here"] []) (kX : PySem.W.keepIn K (.ref fX) = true) (gX : mg "_law_hex" = some (.ref fX)) (l5 : k5 ≤ j)
    (FOp : Fun K "opened" "opened" sOpened fOp fdOp) (GOp : FnOk P w K mg base CX0 k6 fOp fdOp ["stream", "ahead"] spOp) (gOp : mg "opened" = some (.ref fOp)) (l6 : k6 ≤ j)
    (FI : Fun K "__init__" "Reader.__init__" sRdInit dI fdI) (GI : FnOk P w K mg base CX0 k7 dI fdI ["self", "ahead"] (spRdI CH CT CR CD)) (l7 : k7 + 1 ≤ j)
    (GH : FnOk P w K mg base CX0 k8 dH fdH ["self", "told"] (spRdH CH CT CR CD)) (bH : Binds K fdH ["self", "told"] []) (l8 : k8 ≤ j)
    (GK : FnOk P w K mg base CX0 k9 dK fdK ["self"] (spRdK CH CT CR CD)) (bK : Binds K fdK ["self"] []) (l9 : k9 ≤ j)
    (GV : FnOk P w K mg base CX0 k10 dO fdV ["self"] (spRdO CH CT CR CD)) (bV : Binds K fdV ["self"] []) (l10 : k10 ≤ j)
    (GB : FnOk P w K mg base CX0 k11 dB fdB ["self"] (spRdB CH CT CR CD)) (bB : Binds K fdB ["self"] []) (l11 : k11 ≤ j)
    (m1 : mg "int" = none) (m2 : mg "len" = none) (m3 : mg "range" = none) (m4 : mg "sum" = none) (m5 : mg "list" = none) (m6 : mg "min" = none) : FnOk P w K mg base CX0 (j + 1) f0 fd ["_law_script"] (spAl K) := by
  refine F.ok scAl (fun vs H Q E h => ?_) (fun cdv A outer s H vs Q E hr h => ?_)
  · obtain ⟨p, xs, rfl, _⟩ := h
    rfl
  · obtain ⟨ps, xs, rfl, hs, q⟩ := h
    have hz := PySem.sizeLine_eq
    refine ⟨_, pss_cons (ps_set (i := 1) scAl.nd rfl (.inl rfl) (pe_call GDa (hr.mono l1) (by rfl) gDa kDa bDa .nil pass0 (pa_cons (pv 0) (pa_cons pe_int (pa_cons pe_int pa_nil)))))
      (pss_cons (ps_set (i := 2) scAl.nd rfl (.inl rfl) (pe_ifExp (pt_cmpR op_eq (pe_op op_modN (pe_callTy call_int1 (by rfl) m1 (by decide +kernel) (pa_cons (pe_call GC (hr.mono l2) (by rfl) gC kC bC .nil pass0 (pa_cons (pv 0) (pa_cons pe_int pa_nil))) pa_nil)) pe_int) pe_int (nomark _))
          (pe_call GDa (hr.mono l1) (by rfl) gDa kDa bDa .nil pass0 (pa_cons (pv 0) (pa_cons pe_int (pa_cons pe_int pa_nil)))) (pe_lst pa_nil)))
      (pss_cons (ps_set (i := 3) scAl.nd rfl (.inr rfl) (pe_call GS (hr.mono l3) (by rfl) gS kS bS .nil pass0 (pa_cons (pv 0) (pa_cons pe_int (pa_cons (pv 2) (pa_cons (pv 1) pa_nil))))))
      (pss_cons (ps_setLc (i := 4) (own := [("_law_at", 5)]) (g := gName 5) (tt := tYes) rfl scAl.nd rfl rfl (sw_true rfl rfl rfl (by decide +kernel)) (pi_range3 (by rfl) m3 (pa_cons pe_int (pa_cons (pe_callB call_len (by rfl) m2 PySem.boot_len (pa_cons (pv 3) pa_nil)) (pa_cons pe_int pa_nil)))) (blkOk_by (N := NAl) (sc := defScope sAll) (by decide +kernel))
          (fun _ _ _ _ _ => pg_name (i := 5) scAl.nd rfl (.inr rfl)) (fun _ _ _ _ _ => pts_nil)
          (fun _ _ _ _ _ => pe_callB (r := rSum K) (cr_sum rfl) (by rfl) m4 (by decide +kernel) (pa_cons (pe_lc (own := [("_law_bit", 6)]) (g := gName 6) (tt := tYes) rfl scAl.nd (pi_range1 (by rfl) m3 (pa_cons pe_int pa_nil)) (blkOk_by (by rfl))
              (fun _ _ _ _ _ => pg_name (i := 6) scAl.nd rfl (.inl rfl)) (fun _ _ _ _ _ => pts_nil)
              (fun _ _ _ _ _ => pe_op op_shl (pe_callTy call_int_str (by rfl) m1 (by decide +kernel) (pa_cons (pe_ix ix_str (pv 3) (pe_op op_add (pv 5) (pv 6)) (fun _ _ => rfl)) pa_nil)) (pe_op op_sub pe_int (pv 6)))) pa_nil)))
      (pss_cons (ps_set (i := 7) scAl.nd rfl (.inl rfl) (pe_call GO (hr.mono l4) (by rfl) gO kO bO .nil pass0 (pa_cons (pe_call GX (hr.mono l5) (by rfl) gX kX bX .nil pass0 (pa_cons (pv 2) pa_nil)) pa_nil)))
      (pss_cons (ps_if (pt_cmpR (op_neD hr.units) (pe_listOfB rfl (by rfl) m5 (pe_callN GOp (hr.mono l6) (by rfl) gOp FOp.kp (kb_op FOp) pass0 (pa_cons (pe_call GO (hr.mono l4) (by rfl) gO kO bO .nil pass0 (pa_cons (pe_call GX (hr.mono l5) (by rfl) gX kX bX .nil pass0 (pa_cons (pv 4) pa_nil)) pa_nil)) pa_nil) (pk_cons (pv 7) pk_nil))) (pv 1) (nomark _)) (pss_one (ps_ret pe_bl)) pss_nil)
      (pss_cons (ps_par3 (i := 8) (j := 5) (l := 9) rfl scAl.nd rfl rfl rfl (by decide) (by decide) (by decide) rfl rfl rfl (pa_cons (pe_makeK0 TD.made GI (hr.mono l7) (by rfl) TD.gC (kb_rd FI) pass0 (pk_cons (pv 7) pk_nil)) (pa_cons pe_int (pa_cons pe_int pa_nil))) (by rfl))
      (pss_cons (ps_for PassesOwn.never rfl (pi_range1 (by rfl) m3 (pa_cons (pe_op op_add (pe_callB call_len_seq (by rfl) m2 PySem.boot_len (pa_cons (pv 4) pa_nil)) pe_int) pa_nil)) (pg_name (i := 10) scAl.nd rfl (.inl rfl))
        (pss_cons (ps_set (i := 11) scAl.nd rfl (.inl rfl) (pe_ifExp (pt_cmpR op_lt (pv 10) (pe_callB call_len_seq (by rfl) m2 PySem.boot_len (pa_cons (pv 4) pa_nil)) (nomark _))
            (pe_ix ix_list (pe_lst (pa_cons pe_int (pa_cons pe_int (pa_cons pe_int (pa_cons pe_int (pa_cons pe_int pa_nil)))))) (pe_op op_modN (pe_callTy call_int1 (by rfl) m1 (by decide +kernel) (pa_cons (pe_call GC (hr.mono l2) (by rfl) gC kC bC .nil pass0 (pa_cons (pv 0) (pa_cons (pe_op op_add pe_int (pv 10)) pa_nil))) pa_nil)) pe_int) (fun _ _ => rfl))
            (pe_op op_add pe_int (pe_callB call_len_seq (by rfl) m2 PySem.boot_len (pa_cons (pv 4) pa_nil)))))
        (pss_cons (ps_if (PW.pt (pw_or (pt_cmpR op_ne (pe_meth0 (pv 8) TD.cl TD.mO GV (hr.mono l10) bV .nil pass0) (pe_cmpR op_eq (pv 5) (pe_callB call_len_seq (by rfl) m2 PySem.boot_len (pa_cons (pv 4) pa_nil)) (nomark _)) (nomark _))
            (pw_or1 (pt_cmpR op_ne (pe_meth0 (pv 8) TD.cl TD.mB GB (hr.mono l11) bB .nil pass0) (pe_op op_mul pe_int (pe_callB (call_min2 rfl) (by rfl) m6 (by decide +kernel) (pa_cons (pv 5) (pa_cons (pe_callB call_len_seq (by rfl) m2 PySem.boot_len (pa_cons (pv 4) pa_nil)) pa_nil)))) (nomark _))))) (pss_one (ps_ret pe_bl)) pss_nil)
        (pss_cons (ps_set (i := 12) scAl.nd rfl (.inl rfl) (pe_meth (pv 8) TD.cl TD.mH GH (hr.mono l8) bH .nil pass0 (pa_cons (pe_call GO (hr.mono l4) (by rfl) gO kO bO .nil pass0 (pa_cons (pe_call GX (hr.mono l5) (by rfl) gX kX bX .nil pass0 (pa_cons (pe_slice sl_list (pv 4) (po_some (pv 5)) (po_some (pe_op op_add (pv 5) (pv 11)))) pa_nil)) pa_nil)) pa_nil)))
        (pss_cons (ps_par (i := 9) (j := 5) rfl scAl.nd rfl rfl (by decide) rfl rfl (pa_cons (pe_op op_add (pv 9) (pv 12)) (pa_cons (pe_callB (call_min2 rfl) (by rfl) m6 (by decide +kernel) (pa_cons (pe_callB call_len_seq (by rfl) m2 PySem.boot_len (pa_cons (pv 4) pa_nil)) (pa_cons (pe_op op_add (pv 5) (pv 11)) pa_nil))) pa_nil)) (by rfl))
        (pss_one (ps_if (pt_cmpR (op_neD hr.units) (pe_listOfB rfl (by rfl) m5 (pe_meth0 (pv 8) TD.cl TD.mK GK (hr.mono l9) bK .nil pass0)) (pe_slice sl_list (pv 1) po_none (po_some (pv 9))) (nomark _)) (pss_one (ps_ret pe_bl)) pss_nil)))))))
      (pss_one (ps_ret (pe_and (pe_meth0 (pv 8) TD.cl TD.mO GV (hr.mono l10) bV .nil pass0) (pe_one (pe_cmpR op_eq (pv 9) (pe_callB call_len_seq (by rfl) m2 PySem.boot_len (pa_cons (pv 1) pa_nil)) (nomark _))))))))))))), ?_⟩
    refine ⟨_, rfl, ps, xs, 0, 90, rfl, hs, by decide, by decide, fun H1 pn nums s1 nn hn hkn hln => ?_⟩
    dsimp only [gName]
    obtain ⟨M1, hM1⟩ : ∃ M : L2.St → Hp → Prop, M = fun σ' H' => Same H1 H' ∧ ∃ (pl : Addr) (lead : List Nat), σ' = [some (.ref ps), some (.ref pn), some (.ref pl), none, none, none, none, none, none, none, none, none, none] ∧ H' pl = some (.lst (bys lead)) ∧ (∀ k ∈ lead, k < 256) ∧ lead.length ≤ 25 := ⟨_, rfl⟩
    with_reducible refine seq_mid M1 (fun N hN => ?_) (fun σ' H2 h => ?_)
    · refine ⟨_, rfl, ps, xs, 50, rfl, s1.seq hs, by decide, fun H2 s2 => ?_⟩
      refine .inl ⟨_, rfl, _, _, rfl, rfl, (by show (2 : Int) ≠ 0; decide), rfl, _, rfl, ite2 (fun c => ?_) (fun c => ?_)⟩
      · refine ⟨_, rfl, ps, xs, 25, 25, rfl, (s1.trans s2).seq hs, by decide, by decide, fun H3 pl lead s3 nl hl hkl hll => hN _ _ ?_⟩
        rw [hM1]
        exact ⟨s2.trans s3, pl, lead, rfl, hl, hkl, hll⟩
      · refine ⟨Nat.zero_le _, fun pl nl => hN _ _ ?_⟩
        rw [hM1]
        exact ⟨s2.trans (same_upd nl), pl, [], rfl, upd_same, fun k hk => (by cases hk), Nat.zero_le _⟩
    rw [hM1] at h
    obtain ⟨s2, pl, lead, rfl, hl, hkl, hll⟩ := h
    have s12 := s1.trans s2
    have hk : ∀ k ∈ lead ++ nums, k < 256 := fun k m => (List.mem_append.mp m).elim (hkl k) (hkn k)
    have hlen : (lead ++ nums).length ≤ 200 := by rw [List.length_append]; omega
    refine ⟨_, rfl, _, rfl, _, rfl, ps, pl, pn, xs, 60, lead, nums, rfl, s12.seq hs, by decide, hl, s2 _ _ hn, hk, hlen, fun H3 T ss st s3 hR n5 hw hT hTne => ?_⟩
    obtain ⟨z, ss', SO, eP⟩ := strm_ok hR n5 hw hT hTne hk (by omega)
    have hPb : ∀ c ∈ T ++ List.replicate (padN T.length) 48, IsBit c := fun c hc => (List.mem_append.mp hc).elim (hR.bits c) fun h => .inl (List.mem_replicate.mp h).2
    have hPl : (T ++ List.replicate (padN T.length) 48).length ≤ 70010 := by
      have hpl8 : padN T.length < 8 := by
        unfold padN
        omega
      rw [List.length_append, List.length_replicate]
      omega
    generalize T ++ List.replicate (padN T.length) 48 = PP at *
    generalize (T.length + padN T.length) / 8 = n8 at *
    obtain ⟨sl1, sl2⟩ := SO.len
    have hn8 : (strmU PP n8).length = n8 := by
      unfold strmU
      rw [List.length_map, List.length_range]
    have s13 := s12.trans s3
    have hn3 := (s2.trans s3) _ _ hn
    have hl3 := s3 _ _ hl
    dsimp only [gName]
    -- the bytes of the stream
    obtain ⟨M2, hM2⟩ : ∃ M : L2.St → Hp → Prop, M = fun σ' H' => Same H3 H' ∧ ∃ pst : Addr, σ' = [some (.ref ps), some (.ref pn), some (.ref pl), some (.str (tx PP)), some (.ref pst), none, none, none, none, none, none, none, none] ∧ H' pst = some (.lst (bys (strmU PP n8))) := ⟨_, rfl⟩
    with_reducible refine seq_mid M2 (fun N hN => ?_) (fun σ' H4 h => ?_)
    · refine ⟨_, rfl, _, _, rfl, ⟨(by rw [tx_len]; omega), rfl⟩, _, _, _, n8, rfl, ?_, fun D nD => ?_⟩
      · rw [tx_len, eP]
        have := rg_step (n := 8 * n8) (c := 8) (by omega) (by decide) (by decide)
        rw [show (8 * n8 + 8 - 1) / 8 = n8 by omega] at this
        exact this
      refine lc_it (walk_rangeC (lo := 0) (c := 8) (n := n8)) (fun i H' => Same H3 H' ∧ H' D = some (.lst (bys (strmU PP i)))) ⟨same_upd nD, upd_same⟩ (fun _ _ _ _ => True.intro) (fun i v H4 H5 hi h y => ?_) (fun H4 h => ?_)
      · obtain ⟨rfl, rfl⟩ := y
        obtain ⟨sm, hD⟩ := h
        refine ⟨rfl, yes ⟨8, rfl, by decide, by decide, fun D2 nD2 => ?_⟩⟩
        refine lc_it (walk_range (lo := 0) (n := 8)) (fun j H' => Same H5 H' ∧ H' D2 = some (.lst (((List.range j).map fun j => (((PP.getD (8 * i + j) 48 - 48 : Nat) : Int) * 2 ^ (7 - j))).map V.int))) ⟨same_upd nD2, upd_same⟩ (fun _ _ _ _ => True.intro) (fun j v H6 H7 hj h y => ?_) (fun H6 h => ?_)
        · obtain ⟨rfl, rfl⟩ := y
          have hlt : 8 * i + j < PP.length := by omega
          have hbit := hPb _ (List.getElem_mem hlt)
          have eget : PP.getD (8 * i + j) 48 = PP[8 * i + j] := by rw [List.getD_eq_getElem?_getD, List.getElem?_eq_getElem hlt]; rfl
          refine ⟨rfl, yes ⟨_, rfl, _, rfl, _, rfl, _, _, rfl, rfl, _, _, PP[8 * i + j], rfl, rfl, (by rw [tx_len]; omega), ?_, ⟨#[PP[8 * i + j]]⟩, _, rfl, int_sign hbit, (by show 1 ≤ 640; decide), ?_⟩⟩
          · have ei : (0 + (i : Int) * 8 + (0 + (j : Int))) = ((8 * i + j : Nat) : Int) := by omega
            show atI (tx PP).cps.toList (0 + (i : Int) * 8 + (0 + (j : Int))) = _
            rw [ei]
            refine atI_nat ?_
            show (PP.toArray.toList)[8 * i + j]? = _
            rw [List.toList_toArray]
            exact List.getElem?_eq_getElem hlt
          · refine ⟨_, rfl, _, _, rfl, rfl, _, _, rfl, rfl, ⟨by omega, by omega, ?_⟩, _, h.2, ?_, same_put h.1 nD2, ?_⟩
            · rw [Int.natAbs_natCast]
              exact Nat.lt_of_lt_of_le (hv_bit hbit).2 (by decide)
            · rw [List.length_map, List.length_map, List.length_range]
              omega
            · rw [upd_same, List.range_succ, List.map_append, List.map_append]
              congr 3
              show [V.int _] = [V.int (((PP.getD (8 * i + j) 48 - 48 : Nat) : Int) * 2 ^ (7 - j))]
              rw [eget, show ((7 : Int) - (0 + (j : Int))).toNat = 7 - j by omega]
        · obtain ⟨s6, hD2⟩ := h
          have hD6 := s6 _ _ hD
          have e8 := bin8 ((PP.drop (8 * i)).take 8) (by rw [List.length_take, List.length_drop]; omega)
          have e9 : ((List.range 8).map fun j => (((PP.getD (8 * i + j) 48 - 48 : Nat) : Int) * 2 ^ (7 - j))) = (List.range 8).map fun j => (((((PP.drop (8 * i)).take 8).getD j 48 - 48 : Nat) : Int) * 2 ^ (7 - j)) := List.map_congr_left fun j hj => by rw [getD_cut (List.mem_range.mp hj)]
          refine ⟨D2, _, rfl, .inl (.inl hD2), _, hD6, ?_, same_put (sm.trans s6) nD, ?_⟩
          · rw [bys_len]
            unfold strmU
            rw [List.length_map, List.length_range]
            omega
          · rw [upd_same, strmU_succ, ← bys_app, e9, e8]
            rfl
      · refine hN _ _ ?_
        rw [hM2]
        exact ⟨h.1, D, rfl, h.2⟩
    rw [hM2] at h
    obtain ⟨s4, pst, rfl, hst⟩ := h
    clear hM2 M2 hM1 M1
    generalize strmU PP n8 = strm at *
    have s14 := s13.trans s4
    have hn4 := s4 _ _ hn3
    have hl4 := s4 _ _ hl3
    refine ⟨_, rfl, pl, lead, rfl, (by rw [hl4, bys_eq]), hkl, by omega, fun H5 s5 => ⟨lead, rfl, hkl, by omega, fun H6 s6 => ?_⟩⟩
    have s46 := s5.trans s6
    dsimp only [gName]
    refine ⟨_, rfl, pst, strm, rfl, (by rw [s46 _ _ hst, bys_eq]), SO.lt, by omega, fun H7 s7 => ⟨strm, rfl, SO.lt, by omega, fun H8 s8 => ?_⟩⟩
    refine ⟨_, rfl, rfl, rfl, lead, nums, strm, z, ss', rfl, SO, by omega, hkl, fun H9 s9 => ?_⟩
    have s49 := ((s46.trans s7).trans s8).trans s9
    refine ⟨_, rfl, (by rw [byB_size]; omega), fun W nW => ?_⟩
    rw [bi_byB hkn]
    have sW : Same H9 (upd H9 W (.lst (bys nums))) := same_upd nW
    have eW : (upd H9 W (.lst (bys nums))) W = some (.lst (bys nums)) := upd_same
    generalize upd H9 W (.lst (bys nums)) = Hc at *
    have s4c := s49.trans sW
    have hnc := s4c _ _ hn4
    refine ⟨_, rfl, .list ((nums.map fun (k : Nat) => (k : Int)).map .int), .list ((nums.map fun (k : Nat) => (k : Int)).map .int), .lst (.inl (.inl eW)) (dp_ints _), .lst (.inl (.inl hnc)) (dp_ints _), shaped_intsQ _, shaped_intsQ _, _, rfl, ?_⟩
    rw [eqv_ints, decide_eq_true rfl]
    refine iteF ?_
    refine ⟨_, rfl, rfl, rfl, fun x dx nx ndx nex => ?_⟩
    refine ⟨x, dx, lead, rfl, upd_same, by omega, hkl, fun Hd r hd w kd nr nhd nw hx R => ⟨rfl, ?_⟩⟩
    have scd := made_same nx ndx kd
    have nr0 := (none_made nr).1
    have nh0 := (none_made nhd).1
    have nw0 := (none_made nw).1
    have RD := rd_start (H0 := Hc) SO hx R
    have hstc := s4c _ _ hst
    have s1c := s14.trans s4c
    refine ⟨_, _, _, rfl, ?_⟩
    dsimp only [gName]
    have hstd := scd _ _ hstc
    have hnd := scd _ _ hnc
    have s1d := s1c.trans scd
    refine ⟨_, rfl, pst, _, rfl, .inl (.inl (.inl hstd)), _, _, rfl, rfl, ?_⟩
    refine ⟨strm.length + 9, (by rw [bys_len]), by omega, by omega, ?_⟩
    refine for_range (lo := 0) (n := strm.length + 9) (fun i σ H' => ∃ (at_ : Nat) (kn : List Nat) (y10 y11 y12 : Option V), σ = [some (.ref ps), some (.ref pn), some (.ref pl), some (.str (tx PP)), some (.ref pst), some (.int (at_ : Int)), none, some (.byt (byB lead)), some (.ref x), some (.int (kn.length : Int)), y10, y11, y12] ∧ Same Hc H' ∧ RdAt CH CT CR CD H' x r hd w lead z kn (b8 (strm.drop at_)) ∧ at_ ≤ strm.length ∧ (strm.length < i → at_ = strm.length))
      ⟨0, [], _, _, _, rfl, scd, RD, Nat.zero_le _, fun z => absurd z (by omega)⟩ (fun i σ H1 hi h => ?_) (fun σ H1 h => ?_)
    · obtain ⟨at_, kn, y10, y11, y12, rfl, sc1, RD1, hat, hend⟩ := h
      have s11 := s1c.trans sc1
      have hst1 := sc1 _ _ hstc
      have hn1 := sc1 _ _ hnc
      dsimp only [gName]
      obtain ⟨M3, hM3⟩ : ∃ M : L2.St → Hp → Prop, M = fun σ' H' => Same H1 H' ∧ ∃ (mm : Nat), σ' = [some (.ref ps), some (.ref pn), some (.ref pl), some (.str (tx PP)), some (.ref pst), some (.int (at_ : Int)), none, some (.byt (byB lead)), some (.ref x), some (.int (kn.length : Int)), some (.int (0 + (i : Int))), some (.int (mm : Int)), y12] ∧ (strm.length ≤ i → strm.length ≤ mm) := ⟨_, rfl⟩
      with_reducible refine seq_mid M3 (fun N hN => ?_) (fun σ' H2 h => ?_)
      · refine ⟨_, rfl, _, rfl, pst, _, rfl, .inl (.inl (.inl hst1)), _, _, rfl, rfl, _, rfl, ite2 (fun c => ?_) (fun c => ?_)⟩
        · refine ⟨(by show 5 ≤ sizeLine; omega), fun z5 nz5 => ?_⟩
          have s5' : Same H1 (upd H1 z5 (.lst [.int 0, .int 1, .int 2, .int 5, .int 40])) := same_upd nz5
          have hz5 : (upd H1 z5 (.lst [.int 0, .int 1, .int 2, .int 5, .int 40])) z5 = some (.lst [.int 0, .int 1, .int 2, .int 5, .int 40]) := upd_same
          generalize upd H1 z5 (.lst [.int 0, .int 1, .int 2, .int 5, .int 40]) = H5' at *
          refine ⟨_, rfl, _, rfl, _, _, rfl, rfl, ps, xs, 400 + i, (by show [V.ref ps, V.int (400 + (0 + (i : Int)))] = _; rw [show (400 : Int) + (0 + (i : Int)) = ((400 + i : Nat) : Int) by omega]), (s11.trans s5').seq hs, by omega, fun H6' s6' => ?_⟩
          generalize K7.cellAt xs (400 + i) = cell
          have hm := fmod_in (a := cell) (l := 5) (by decide)
          obtain ⟨kk, hkk⟩ := nat_of hm.1
          have hkk5 : kk < 5 := by omega
          obtain ⟨mm, hmm⟩ : ∃ mm : Nat, atI [V.int 0, V.int 1, V.int 2, V.int 5, V.int 40] (kk : Int) = some (.int (mm : Int)) := by
            rcases (show kk = 0 ∨ kk = 1 ∨ kk = 2 ∨ kk = 3 ∨ kk = 4 by omega) with rfl | rfl | rfl | rfl | rfl
            · exact ⟨0, rfl⟩
            · exact ⟨1, rfl⟩
            · exact ⟨2, rfl⟩
            · exact ⟨5, rfl⟩
            · exact ⟨40, rfl⟩
          refine .inl ⟨_, rfl, _, _, rfl, rfl, (by show (5 : Int) ≠ 0; decide), z5, _, _, _, rfl, rfl, .inl (.inl (s6' _ _ hz5)), (by rw [hkk]; exact hmm), hN _ _ ?_⟩
          rw [hM3]
          refine ⟨s5'.trans s6', mm, rfl, fun hge => absurd c (by
            have hnl : ¬ ((0 : Int) + (i : Int) < ((bys strm).length : Int)) := by rw [bys_len]; omega
            intro hc
            exact hnl (of_decide_eq_true hc))⟩
        · refine ⟨_, rfl, pst, _, rfl, .inl (.inl (.inl hst1)), _, _, rfl, rfl, hN _ _ ?_⟩
          rw [hM3]
          refine ⟨.refl H1, 40 + strm.length, ?_, fun _ => by omega⟩
          dsimp only
          rw [bys_len]
          rfl
      rw [hM3] at h
      obtain ⟨s12', mm, rfl, hmm⟩ := h
      clear hM3 M3
      have sc2 := sc1.trans s12'
      have RD2 := RD1.same s12'
      have hst2 := s12' _ _ hst1
      have hn2 := s12' _ _ hn1
      generalize some (V.int (0 + (i : Int))) = y10'
      obtain ⟨⟨dx2, hx2⟩, B2⟩ := id RD2
      have dec1 : decide (b8 (strm.drop at_) = []) = decide (at_ = strm.length) := by
        refine decide_eq_decide.mpr ⟨fun e => ?_, fun e => ?_⟩
        · have := congrArg List.length e
          rw [b8_len, List.length_drop] at this
          simp at this
          omega
        · rw [e, List.drop_length]
          rfl
      refine ⟨_, rfl, x, dx2, _, rfl, hx2, rdF_no', x, r, hd, w, lead, kn, _, z, rfl, RD2, ?_⟩
      refine ⟨_, rfl, _, rfl, pst, _, rfl, .inl (.inl (.inl hst2)), rfl, rfl, _, rfl, ?_⟩
      have e1 : (decide (V.bl (decide (b8 (strm.drop at_) = [])) = V.bl (decide (V.int (at_ : Int) = V.int ((bys strm).length : Int))))) = true := by
        refine decide_eq_true ?_
        rw [dec1, bys_len]
        congr 1
        refine decide_eq_decide.mpr ⟨fun e => by rw [e], fun e => by
          have := V.int.inj e
          omega⟩
      rw [e1]
      refine iteF ?_
      refine ⟨_, rfl, x, dx2, _, rfl, hx2, rdF_no', x, r, hd, w, lead, nums, kn, _, z, rfl, RD2, SO.zok, ?_⟩
      refine ⟨_, rfl, _, rfl, pst, _, rfl, .inl (.inl (.inl hst2)), _, _, rfl, _, _, rfl, rfl, ?_, rfl, _, rfl, ?_⟩
      · exact .inl ⟨by decide, by decide⟩
      have e2 : (decide (V.int ((z.pos - (b8 (strm.drop at_)).length : Nat) : Int) = V.int (8 * (if ((bys strm).length : Int) < (at_ : Int) then ((bys strm).length : Int) else (at_ : Int))))) = true := by
        refine decide_eq_true ?_
        congr 1
        rw [b8_len, List.length_drop, bys_len, if_neg (by omega), sl2]
        omega
      rw [e2]
      refine iteF ?_
      clear e1 e2
      obtain ⟨at2, hat2⟩ : ∃ at2, at2 = min (at_ + mm) strm.length := ⟨_, rfl⟩
      have hat2l : at2 ≤ strm.length := by omega
      have ecut : cutV (bys strm) (some (at_ : Int)) (some ((at_ : Int) + (mm : Int))) = bys ((strm.drop at_).take (at2 - at_)) := by
        rw [show (at_ : Int) + (mm : Int) = ((at_ + mm : Nat) : Int) by omega, bys_cut, show min at_ strm.length = at_ by omega, ← hat2]
      have e8 : b8 (strm.drop at_) = b8 ((strm.drop at_).take (at2 - at_)) ++ b8 (strm.drop at2) := by
        have e : strm.drop at2 = (strm.drop at_).drop (at2 - at_) := by rw [List.drop_drop]; congr 1; omega
        rw [← b8_app, e, List.take_append_drop]
      have hks : ∀ k ∈ (strm.drop at_).take (at2 - at_), k < 256 := fun k hk => SO.lt k (List.mem_of_mem_drop (List.mem_of_mem_take hk))
      have hkl' : ((strm.drop at_).take (at2 - at_)).length ≤ 100000 := by
        rw [List.length_take, List.length_drop]
        omega
      refine ⟨_, rfl, x, dx2, _, rfl, hx2, rdF_no', _, rfl, _, rfl, _, rfl, _, rfl, _, rfl, _, _, rfl, rfl, _, rfl, pst, _, rfl, .inl (.inl hst2), fun c1 nc1 => ?_⟩
      rw [ecut]
      rw [e8] at RD2
      generalize (strm.drop at_).take (at2 - at_) = ks at *
      have sK : Same H2 (upd H2 c1 (.lst (bys ks))) := same_upd nc1
      have eK : (upd H2 c1 (.lst (bys ks))) c1 = some (.lst (bys ks)) := upd_same
      generalize upd H2 c1 (.lst (bys ks)) = H3' at *
      refine ⟨c1, ks, rfl, (by rw [eK, bys_eq]), hks, hkl', fun H4' s4' => ⟨ks, rfl, hks, hkl', fun H5' s5' => ?_⟩⟩
      have s25 := (sK.trans s4').trans s5'
      refine ⟨x, r, hd, w, lead, nums, kn, ks, b8 (strm.drop at2), z, rfl, RD2.same s25, SO.zok, hks, fun H6' kn6 O6 RD6 => ?_⟩
      have sc6 : Same Hc H6' := oth_same (sc2.trans s25) nr0 nh0 nw0 O6
      have hst6 := sc6 _ _ hstc
      have hn6 := sc6 _ _ hnc
      obtain ⟨⟨dx6, hx6⟩, B6⟩ := id RD6
      obtain ⟨pre1, pre2, _⟩ := B6.pre SO.zok
      have hkn6 : ∀ k ∈ kn6, k < 256 := fun k hk => hkn k (List.mem_of_mem_take (pre1 ▸ hk))
      dsimp only [gName]
      refine ⟨_, rfl, _, rfl, _, _, rfl, rfl, _, rfl, pst, _, rfl, .inl (.inl (.inl hst6)), _, rfl, _, rfl, _, _, rfl, rfl, _, _, rfl, ?_⟩
      refine ⟨_, _, rfl, ?_⟩
      have eat : (if (at_ : Int) + (mm : Int) < ((bys strm).length : Int) then (at_ : Int) + (mm : Int) else ((bys strm).length : Int)) = (at2 : Int) := by
        rw [bys_len]
        split <;> omega
      have esum : (kn.length : Int) + ((kn6.length : Int) - (kn.length : Int)) = (kn6.length : Int) := by omega
      dsimp only [List.set]
      rw [eat, esum]
      refine ⟨_, rfl, x, dx6, _, rfl, hx6, rdF_no', x, r, hd, w, lead, nums, kn6, _, z, rfl, RD6, SO.zok, fun H7' s7' => ?_⟩
      refine ⟨_, rfl, (by rw [byB_size]; omega), fun W2 nW2 => ?_⟩
      rw [bi_byB hkn6]
      have sW2 : Same H7' (upd H7' W2 (.lst (bys kn6))) := same_upd nW2
      have eW2 : (upd H7' W2 (.lst (bys kn6))) W2 = some (.lst (bys kn6)) := upd_same
      generalize upd H7' W2 (.lst (bys kn6)) = H8' at *
      have s68 := s7'.trans sW2
      refine ⟨_, rfl, _, rfl, _, rfl, pn, _, rfl, .inl (.inl (s68 _ _ hn6)), fun W3 nW3 => ?_⟩
      rw [bys_to, ← pre1]
      have sW3 : Same H8' (upd H8' W3 (.lst (bys kn6))) := same_upd nW3
      have eW3 : (upd H8' W3 (.lst (bys kn6))) W3 = some (.lst (bys kn6)) := upd_same
      generalize upd H8' W3 (.lst (bys kn6)) = H9' at *
      have s69 := s68.trans sW3
      refine ⟨.list ((kn6.map fun (k : Nat) => (k : Int)).map .int), .list ((kn6.map fun (k : Nat) => (k : Int)).map .int), .lst (.inl (.inl (sW3 _ _ eW2))) (dp_ints _), .lst (.inl (.inl eW3)) (dp_ints _), shaped_intsQ _, shaped_intsQ _, _, rfl, ?_⟩
      rw [eqv_ints, decide_eq_true rfl]
      refine iteF ?_
      refine ⟨at2, kn6, _, _, _, rfl, sc6.trans s69, RD6.same s69, hat2l, fun z => ?_⟩
      have := hmm (by omega)
      omega
    · obtain ⟨at_, kn, y10, y11, y12, rfl, sc1, RD1, hat, hend⟩ := h
      have hat9 := hend (by omega)
      have hn1 := sc1 _ _ hnc
      obtain ⟨⟨dx2, hx2⟩, B2⟩ := id RD1
      rw [hat9, List.drop_length] at RD1 B2
      have hk3 := (B2.pre SO.zok).2.2 rfl
      refine ⟨_, rfl, x, dx2, _, rfl, hx2, rdF_no', x, r, hd, w, lead, kn, _, z, rfl, RD1, ?_⟩
      refine ⟨_, rfl, ?_⟩
      rw [show decide (b8 [] = []) = true from rfl, if_pos rfl]
      refine ⟨_, rfl, _, rfl, pn, _, rfl, .inl (.inl (.inl hn1)), rfl, ?_⟩
      have e3 : decide (V.int (kn.length : Int) = V.int ((bys nums).length : Int)) = true := decide_eq_true (by rw [bys_len, hk3])
      rw [e3]
      exact q H1
end
end K7

namespace K7
open PySem PySem.Spec PyProof.Rows L2 SBX
/-! ### law -/
theorem scLaw : FnScope ["_law_script"] ["_law_script"] (defScope sLaw) := ⟨rfl, rfl, rfl, by decide +kernel, rfl, by decide +kernel, by decide +kernel⟩
section
variable {P : Program} {w : World} {K : PySem.W.Frag} {mg : Str → Option Value} {base : Heap}
theorem ok_law {f fA : Addr} {fd fdA : FuncData} {j k1 : Nat} (F : Fun K "law" "law" sLaw f fd)
    (GA : FnOk P w K mg base CX0 k1 fA fdA ["_law_script"] (spAl K)) (bA : Binds K fdA ["_law_script"] []) (kA : PySem.W.keepIn K (.ref fA) = true) (gA : mg "_law_all_right" = some (.ref fA)) (l1 : k1 ≤ j) : FnOk P w K mg base CX0 (j + 1) f fd ["_law_script"] (spAl K) := by
  refine F.ok scLaw (fun vs H Q E h => ?_) (fun cdv A outer s H vs Q E hr h => ?_)
  · obtain ⟨p, xs, rfl, _⟩ := h
    rfl
  · refine ⟨_, pss_one (ps_try_thru0 (pss_one (ps_ret (pe_call GA (hr.mono l1) (by rfl) gA kA bA .nil pass0 (pa_cons (pv 0) pa_nil))))), ?_⟩
    obtain ⟨p, xs, rfl, hp, q⟩ := h
    exact ⟨_, rfl, p, xs, rfl, hp, q⟩
end
end K7

namespace K7
open PySem PySem.Spec PyProof.Rows L2 SBX
theorem exm_own {K : PySem.W.Frag} {S : Addr} (h1 : PySem.W.subIn K (.ref S) (.type "BaseException") = some true) (h2 : PySem.W.isClsIn K S = true) (h3 : PySem.W.typeIn K (.ref S) = some (.type "type")) (h4 : PySem.W.subIn K (.ref S) (.ref S) = some true) : PySem.W.exmOne K (.ref S) (.ref S) = some true := by
  have a : (PySem.W.subIn K (.ref S) (.type "BaseException") == some true) = true := by rw [h1]; rfl
  have b : ((PySem.W.clsIn K S).isSome && PySem.W.typeIn K (.ref S) == some (.type "type")) = true := by
    rw [show (PySem.W.clsIn K S).isSome = true from h2, h3]; rfl
  exact (if_pos a).trans ((if_pos b).trans h4)
theorem sqt_of {K : PySem.W.Frag} {H : Hp} {a : Addr} {dd : Option Addr} {its : Array Value} {n : Nat} {sl : Array (Option Value)} {xs : List V} (h : K.lookup a = some ⟨.type "tuple", dd, .seq its n, sl⟩) (z : its.size ≤ sizeLine) (r : Vals xs its.toList) : SqT K H a xs :=
  .inr ⟨_, its, n, h, rfl, rfl, z, r⟩
theorem runs_of {K : PySem.W.Frag} {mg : Str → Option Value} {x : Str} {l1 : Int} {n1 : Nat} {l2 : Int} {n2 : Nat} {T t1 t2 : Addr} {d0 d1 d2 : Option Addr} {c0 c1 c2 : Nat} {s0 s1 s2 : Array (Option Value)} {k1 k2 k3 k4 : Tok} (g : mg x = some (.ref T))
    (h0 : K.lookup T = some ⟨.type "tuple", d0, .seq #[.ref t1, .ref t2] c0, s0⟩) (h1 : K.lookup t1 = some ⟨.type "tuple", d1, .seq #[.int l1 k1, .int (n1 : Int) k2] c1, s1⟩) (h2 : K.lookup t2 = some ⟨.type "tuple", d2, .seq #[.int l2 k3, .int (n2 : Int) k4] c2, s2⟩) : RunsAt K mg x l1 n1 l2 n2 := by
  have hz := PySem.sizeLine_eq
  exact ⟨T, t1, t2, g, fun H => ⟨sqt_of h0 (by rw [hz]; show 2 ≤ 16777216; decide) (.cons rfl (.cons rfl .nil)), sqt_of h1 (by rw [hz]; show 2 ≤ 16777216; decide) (.cons ⟨_, rfl⟩ (.cons ⟨_, rfl⟩ .nil)), sqt_of h2 (by rw [hz]; show 2 ≤ 16777216; decide) (.cons ⟨_, rfl⟩ (.cons ⟨_, rfl⟩ .nil))⟩⟩
theorem all_mk {l : PySem.W.OpenLaw} {w : World} {K : PySem.W.Frag} {h : Heap} {mg : Str → Option Value} {fa : Addr} (X : K.In h) (G : h.Ns mainGlobals mg) (hfa : mg "law" = some (.ref fa))
    {f0 f1 f2 f3 f4 f5 f6 f7 f8 f9 f10 f11 f12 f13 f14 f15 f16 f17 f18 f19 f20 f21 f22 f23 f24 f25 f26 f27 f28 f29 f30 f31 f32 f33 f34 f35 f36 f37 f38 f39 f40 f41 f42 f43 f44 f45 f46 f47 f48 f49 f50 f51 f52 f53 f54 f55 f56 f57 f58 f59 f60 f61 f62 f63 C_Prices C_Tree C_Heard C_Reading C_Reader CWa Tr rt1 rt2 Tq qt1 qt2 : Addr} {od0 an0 od1 an1 od2 an2 od3 an3 od4 an4 od5 an5 od6 an6 od7 an7 od8 an8 od9 an9 od10 an10 od11 an11 od12 an12 od13 an13 od14 an14 od15 an15 od16 an16 od17 an17 od18 an18 od19 an19 od20 an20 od21 an21 od22 an22 od23 an23 od24 an24 od25 an25 od26 an26 od27 an27 od28 an28 od29 an29 od30 an30 od31 an31 od32 an32 od33 an33 od34 an34 od35 an35 od36 an36 od37 an37 od38 an38 od39 an39 od40 an40 od41 an41 od42 an42 od43 an43 od44 an44 od45 an45 od46 an46 od47 an47 od48 an48 od49 an49 od50 an50 od51 an51 od52 an52 od53 an53 od54 an54 od55 an55 od56 an56 od57 an57 od58 an58 od59 an59 od60 an60 od61 an61 od62 an62 od63 an63 rd0 rd1 rd2 qd0 qd1 qd2 : Option Addr} {sl0 sl1 sl2 sl3 sl4 sl5 sl6 sl7 sl8 sl9 sl10 sl11 sl12 sl13 sl14 sl15 sl16 sl17 sl18 sl19 sl20 sl21 sl22 sl23 sl24 sl25 sl26 sl27 sl28 sl29 sl30 sl31 sl32 sl33 sl34 sl35 sl36 sl37 sl38 sl39 sl40 sl41 sl42 sl43 sl44 sl45 sl46 sl47 sl48 sl49 sl50 sl51 sl52 sl53 sl54 sl55 sl56 sl57 sl58 sl59 sl60 sl61 sl62 sl63 rs0 rs1 rs2 qs0 qs1 qs2 : Array (Option Value)} {oc0 kV0 dc0 pm0 ct0 cd0 oc1 kV1 dc1 pm1 ct1 cd1 oc2 kV2 dc2 pm2 ct2 cd2 oc3 kV3 dc3 pm3 ct3 cd3 oc4 kV4 dc4 pm4 ct4 cd4 oc5 kV5 dc5 pm5 ct5 cd5 oc6 kV6 dc6 pm6 ct6 cd6 oc7 kV7 dc7 pm7 ct7 cd7 oc8 kV8 dc8 pm8 ct8 cd8 oc9 kV9 dc9 pm9 ct9 cd9 oc10 kV10 dc10 pm10 ct10 cd10 oc11 kV11 dc11 pm11 ct11 cd11 oc12 kV12 dc12 pm12 ct12 cd12 oc13 kV13 dc13 pm13 ct13 cd13 oc14 kV14 dc14 pm14 ct14 cd14 oc15 kV15 dc15 pm15 ct15 cd15 oc16 kV16 dc16 pm16 ct16 cd16 oc17 kV17 dc17 pm17 ct17 cd17 oc18 kV18 dc18 pm18 ct18 cd18 oc19 kV19 dc19 pm19 ct19 cd19 oc20 kV20 dc20 pm20 ct20 cd20 oc21 kV21 dc21 pm21 ct21 cd21 oc22 kV22 dc22 pm22 ct22 cd22 oc23 kV23 dc23 pm23 ct23 cd23 oc24 kV24 dc24 pm24 ct24 cd24 oc25 kV25 dc25 pm25 ct25 cd25 oc26 kV26 dc26 pm26 ct26 cd26 oc27 kV27 dc27 pm27 ct27 cd27 oc28 kV28 dc28 pm28 ct28 cd28 oc29 kV29 dc29 pm29 ct29 cd29 oc30 kV30 dc30 pm30 ct30 cd30 oc31 kV31 dc31 pm31 ct31 cd31 oc32 kV32 dc32 pm32 ct32 cd32 oc33 kV33 dc33 pm33 ct33 cd33 oc34 kV34 dc34 pm34 ct34 cd34 oc35 kV35 dc35 pm35 ct35 cd35 oc36 kV36 dc36 pm36 ct36 cd36 oc37 kV37 dc37 pm37 ct37 cd37 oc38 kV38 dc38 pm38 ct38 cd38 oc39 kV39 dc39 pm39 ct39 cd39 oc40 kV40 dc40 pm40 ct40 cd40 oc41 kV41 dc41 pm41 ct41 cd41 oc42 kV42 dc42 pm42 ct42 cd42 oc43 kV43 dc43 pm43 ct43 cd43 oc44 kV44 dc44 pm44 ct44 cd44 oc45 kV45 dc45 pm45 ct45 cd45 oc46 kV46 dc46 pm46 ct46 cd46 oc47 kV47 dc47 pm47 ct47 cd47 oc48 kV48 dc48 pm48 ct48 cd48 oc49 kV49 dc49 pm49 ct49 cd49 oc50 kV50 dc50 pm50 ct50 cd50 oc51 kV51 dc51 pm51 ct51 cd51 oc52 kV52 dc52 pm52 ct52 cd52 oc53 kV53 dc53 pm53 ct53 cd53 oc54 kV54 dc54 pm54 ct54 cd54 oc55 kV55 dc55 pm55 ct55 cd55 oc56 kV56 dc56 pm56 ct56 cd56 oc57 kV57 dc57 pm57 ct57 cd57 oc58 kV58 dc58 pm58 ct58 cd58 oc59 kV59 dc59 pm59 ct59 cd59 oc60 kV60 dc60 pm60 ct60 cd60 oc61 kV61 dc61 pm61 ct61 cd61 oc62 kV62 dc62 pm62 ct62 cd62 oc63 kV63 dc63 pm63 ct63 cd63 : Value} {tS rk1 rk2 rk3 rk4 qk1 qk2 qk3 qk4 tv_FEWEST_LETTERS tv_MOST_LETTERS tv_LONGEST tv_LETTERS tv_BACKS tv_NEXT_REST tv_NEXT_BLOCK tv_PLAIN_BITS tv_MOST_BYTES tv_NEXT_PLAIN tv_LAST_BITS tv_SORT_BITS tv_OWN_WORDS tv_PLAIN tv_NEXT_COUNT tv_TOLD_WORDS tv_NEXT_ITEM tv_NEXT_RUN tv_END tv_LENGTH_BITS tv_RUN_BITS tv_AHEAD_OF_COPIES tv_FARTHEST tv_MOST_AHEAD tv_PIECE_BYTES : Tok} {rn0 rn1 rn2 qn0 qn1 qn2 : Nat}
    (a0 : PySem.W.nsIn K mainGlobals "is_whole" = some (some (.ref f0))) (l0 : K.lookup f0 = some ⟨oc0, od0, .func (PySem.W.fnOf "is_whole" "is_whole" (defArgs sWhole) (defBody sWhole) (defScope sWhole) .none kV0 dc0 pm0 an0 cd0 ct0), sl0⟩) (c0 : PySem.W.codeIn K cd0 "is_whole" = true) (k0 : PySem.W.keepIn K (.ref f0) = true)
    (a1 : PySem.W.nsIn K mainGlobals "is_number" = some (some (.ref f1))) (l1 : K.lookup f1 = some ⟨oc1, od1, .func (PySem.W.fnOf "is_number" "is_number" (defArgs sIsNum) (defBody sIsNum) (defScope sIsNum) .none kV1 dc1 pm1 an1 cd1 ct1), sl1⟩) (c1 : PySem.W.codeIn K cd1 "is_number" = true) (k1 : PySem.W.keepIn K (.ref f1) = true)
    (a2 : PySem.W.nsIn K mainGlobals "are_numbers" = some (some (.ref f2))) (l2 : K.lookup f2 = some ⟨oc2, od2, .func (PySem.W.fnOf "are_numbers" "are_numbers" (defArgs sAreNum) (defBody sAreNum) (defScope sAreNum) .none kV2 dc2 pm2 an2 cd2 ct2), sl2⟩) (c2 : PySem.W.codeIn K cd2 "are_numbers" = true) (k2 : PySem.W.keepIn K (.ref f2) = true)
    (a3 : PySem.W.nsIn K mainGlobals "are_by_letters" = some (some (.ref f3))) (l3 : K.lookup f3 = some ⟨oc3, od3, .func (PySem.W.fnOf "are_by_letters" "are_by_letters" (defArgs K2.sByLet) (defBody K2.sByLet) (defScope K2.sByLet) .none kV3 dc3 pm3 an3 cd3 ct3), sl3⟩) (c3 : PySem.W.codeIn K cd3 "are_by_letters" = true) (k3 : PySem.W.keepIn K (.ref f3) = true)
    (a4 : PySem.W.nsIn K mainGlobals "_law_least_lengths" = some (some (.ref f4))) (l4 : K.lookup f4 = some ⟨oc4, od4, .func (PySem.W.fnOf "_law_least_lengths" "_law_least_lengths" (defArgs K2.sLLeast) (defBody K2.sLLeast) (defScope K2.sLLeast) .none kV4 dc4 pm4 an4 cd4 ct4), sl4⟩) (c4 : PySem.W.codeIn K cd4 "_law_least_lengths" = true) (k4 : PySem.W.keepIn K (.ref f4) = true)
    (a5 : PySem.W.nsIn K mainGlobals "_law_cell_at" = some (some (.ref f5))) (l5 : K.lookup f5 = some ⟨oc5, od5, .func (PySem.W.fnOf "_law_cell_at" "_law_cell_at" (defArgs sCell) (defBody sCell) (defScope sCell) .none kV5 dc5 pm5 an5 cd5 ct5), sl5⟩) (c5 : PySem.W.codeIn K cd5 "_law_cell_at" = true) (k5 : PySem.W.keepIn K (.ref f5) = true)
    (a6 : PySem.W.nsIn K mainGlobals "_law_numbers" = some (some (.ref f6))) (l6 : K.lookup f6 = some ⟨oc6, od6, .func (PySem.W.fnOf "_law_numbers" "_law_numbers" (defArgs sNums) (defBody sNums) (defScope sNums) .none kV6 dc6 pm6 an6 cd6 ct6), sl6⟩) (c6 : PySem.W.codeIn K cd6 "_law_numbers" = true) (k6 : PySem.W.keepIn K (.ref f6) = true)
    (a7 : PySem.W.nsIn K mainGlobals "of_hex" = some (some (.ref f7))) (l7 : K.lookup f7 = some ⟨oc7, od7, .func (PySem.W.fnOf "of_hex" "of_hex" (defArgs sOfHex) (defBody sOfHex) (defScope sOfHex) .none kV7 dc7 pm7 an7 cd7 ct7), sl7⟩) (c7 : PySem.W.codeIn K cd7 "of_hex" = true) (k7 : PySem.W.keepIn K (.ref f7) = true)
    (a8 : PySem.W.nsIn K mainGlobals "_law_hex" = some (some (.ref f8))) (l8 : K.lookup f8 = some ⟨oc8, od8, .func (PySem.W.fnOf "_law_hex" "_law_hex" (defArgs sHex) (defBody sHex) (defScope sHex) .none kV8 dc8 pm8 an8 cd8 ct8), sl8⟩) (c8 : PySem.W.codeIn K cd8 "_law_hex" = true) (k8 : PySem.W.keepIn K (.ref f8) = true)
    (a9 : PySem.W.nsIn K mainGlobals "_law_back" = some (some (.ref f9))) (l9 : K.lookup f9 = some ⟨oc9, od9, .func (PySem.W.fnOf "_law_back" "_law_back" (defArgs sBack) (defBody sBack) (defScope sBack) .none kV9 dc9 pm9 an9 cd9 ct9), sl9⟩) (c9 : PySem.W.codeIn K cd9 "_law_back" = true) (k9 : PySem.W.keepIn K (.ref f9) = true)
    (a10 : PySem.W.nsIn K mainGlobals "_law_told_lengths" = some (some (.ref f10))) (l10 : K.lookup f10 = some ⟨oc10, od10, .func (PySem.W.fnOf "_law_told_lengths" "_law_told_lengths" (defArgs sTold) (defBody sTold) (defScope sTold) .none kV10 dc10 pm10 an10 cd10 ct10), sl10⟩) (c10 : PySem.W.codeIn K cd10 "_law_told_lengths" = true) (k10 : PySem.W.keepIn K (.ref f10) = true)
    (a11 : PySem.W.nsIn K mainGlobals "are_good" = some (some (.ref f11))) (l11 : K.lookup f11 = some ⟨oc11, od11, .func (PySem.W.fnOf "are_good" "are_good" (defArgs sAreGood) (defBody sAreGood) (defScope sAreGood) .none kV11 dc11 pm11 an11 cd11 ct11), sl11⟩) (c11 : PySem.W.codeIn K cd11 "are_good" = true) (k11 : PySem.W.keepIn K (.ref f11) = true)
    (a12 : PySem.W.nsIn K mainGlobals "are_prices" = some (some (.ref f12))) (l12 : K.lookup f12 = some ⟨oc12, od12, .func (PySem.W.fnOf "are_prices" "are_prices" (defArgs sAreP) (defBody sAreP) (defScope sAreP) .none kV12 dc12 pm12 an12 cd12 ct12), sl12⟩) (c12 : PySem.W.codeIn K cd12 "are_prices" = true) (k12 : PySem.W.keepIn K (.ref f12) = true)
    (m13 : PySem.W.findIn K (.ref C_Prices) "__init__" = some (some (.ref f13))) (n13 : PySem.W.isFn K (.ref f13) = true) (l13 : K.lookup f13 = some ⟨oc13, od13, .func (PySem.W.fnOf "__init__" "Prices.__init__" (defArgs sPInit) (defBody sPInit) (defScope sPInit) .none kV13 dc13 pm13 an13 cd13 ct13), sl13⟩) (c13 : PySem.W.codeIn K cd13 "Prices.__init__" = true) (k13 : PySem.W.keepIn K (.ref f13) = true)
    (m14 : PySem.W.findIn K (.ref C_Prices) "letters" = some (some (.ref f14))) (n14 : PySem.W.isFn K (.ref f14) = true) (l14 : K.lookup f14 = some ⟨oc14, od14, .func (PySem.W.fnOf "letters" "Prices.letters" (defArgs sPLet) (defBody sPLet) (defScope sPLet) .none kV14 dc14 pm14 an14 cd14 ct14), sl14⟩) (c14 : PySem.W.codeIn K cd14 "Prices.letters" = true) (k14 : PySem.W.keepIn K (.ref f14) = true)
    (m15 : PySem.W.findIn K (.ref C_Prices) "backs" = some (some (.ref f15))) (n15 : PySem.W.isFn K (.ref f15) = true) (l15 : K.lookup f15 = some ⟨oc15, od15, .func (PySem.W.fnOf "backs" "Prices.backs" (defArgs sPBk) (defBody sPBk) (defScope sPBk) .none kV15 dc15 pm15 an15 cd15 ct15), sl15⟩) (c15 : PySem.W.codeIn K cd15 "Prices.backs" = true) (k15 : PySem.W.keepIn K (.ref f15) = true)
    (a16 : PySem.W.nsIn K mainGlobals "drawn_out" = some (some (.ref f16))) (l16 : K.lookup f16 = some ⟨oc16, od16, .func (PySem.W.fnOf "drawn_out" "drawn_out" (defArgs sDrawn) (defBody sDrawn) (defScope sDrawn) .none kV16 dc16 pm16 an16 cd16 ct16), sl16⟩) (c16 : PySem.W.codeIn K cd16 "drawn_out" = true) (k16 : PySem.W.keepIn K (.ref f16) = true)
    (a17 : PySem.W.nsIn K mainGlobals "told_prices" = some (some (.ref f17))) (l17 : K.lookup f17 = some ⟨oc17, od17, .func (PySem.W.fnOf "told_prices" "told_prices" (defArgs sToldP) (defBody sToldP) (defScope sToldP) .none kV17 dc17 pm17 an17 cd17 ct17), sl17⟩) (c17 : PySem.W.codeIn K cd17 "told_prices" = true) (k17 : PySem.W.keepIn K (.ref f17) = true)
    (a18 : PySem.W.nsIn K mainGlobals "words" = some (some (.ref f18))) (l18 : K.lookup f18 = some ⟨oc18, od18, .func (PySem.W.fnOf "words" "words" (defArgs sWords) (defBody sWords) (defScope sWords) .none kV18 dc18 pm18 an18 cd18 ct18), sl18⟩) (c18 : PySem.W.codeIn K cd18 "words" = true) (k18 : PySem.W.keepIn K (.ref f18) = true)
    (a19 : PySem.W.nsIn K mainGlobals "_law_data" = some (some (.ref f19))) (l19 : K.lookup f19 = some ⟨oc19, od19, .func (PySem.W.fnOf "_law_data" "_law_data" (defArgs sData) (defBody sData) (defScope sData) .none kV19 dc19 pm19 an19 cd19 ct19), sl19⟩) (c19 : PySem.W.codeIn K cd19 "_law_data" = true) (k19 : PySem.W.keepIn K (.ref f19) = true)
    (a20 : PySem.W.nsIn K mainGlobals "_law_items" = some (some (.ref f20))) (l20 : K.lookup f20 = some ⟨oc20, od20, .func (PySem.W.fnOf "_law_items" "_law_items" (defArgs sItems) (defBody sItems) (defScope sItems) .none kV20 dc20 pm20 an20 cd20 ct20), sl20⟩) (c20 : PySem.W.codeIn K cd20 "_law_items" = true) (k20 : PySem.W.keepIn K (.ref f20) = true)
    (a21 : PySem.W.nsIn K mainGlobals "_law_bits" = some (some (.ref f21))) (l21 : K.lookup f21 = some ⟨oc21, od21, .func (PySem.W.fnOf "_law_bits" "_law_bits" (defArgs sLBits) (defBody sLBits) (defScope sLBits) .none kV21 dc21 pm21 an21 cd21 ct21), sl21⟩) (c21 : PySem.W.codeIn K cd21 "_law_bits" = true) (k21 : PySem.W.keepIn K (.ref f21) = true)
    (a22 : PySem.W.nsIn K mainGlobals "_law_words" = some (some (.ref f22))) (l22 : K.lookup f22 = some ⟨oc22, od22, .func (PySem.W.fnOf "_law_words" "_law_words" (defArgs sLWords) (defBody sLWords) (defScope sLWords) .none kV22 dc22 pm22 an22 cd22 ct22), sl22⟩) (c22 : PySem.W.codeIn K cd22 "_law_words" = true) (k22 : PySem.W.keepIn K (.ref f22) = true)
    (a23 : PySem.W.nsIn K mainGlobals "copy_behind" = some (some (.ref f23))) (l23 : K.lookup f23 = some ⟨oc23, od23, .func (PySem.W.fnOf "copy_behind" "copy_behind" (defArgs sCopyB) (defBody sCopyB) (defScope sCopyB) .none kV23 dc23 pm23 an23 cd23 ct23), sl23⟩) (c23 : PySem.W.codeIn K cd23 "copy_behind" = true) (k23 : PySem.W.keepIn K (.ref f23) = true)
    (a24 : PySem.W.nsIn K mainGlobals "are_bytes" = some (some (.ref f24))) (l24 : K.lookup f24 = some ⟨oc24, od24, .func (PySem.W.fnOf "are_bytes" "are_bytes" (defArgs sAreBytes) (defBody sAreBytes) (defScope sAreBytes) .none kV24 dc24 pm24 an24 cd24 ct24), sl24⟩) (c24 : PySem.W.codeIn K cd24 "are_bytes" = true) (k24 : PySem.W.keepIn K (.ref f24) = true)
    (a25 : PySem.W.nsIn K mainGlobals "_law_row_bits" = some (some (.ref f25))) (l25 : K.lookup f25 = some ⟨oc25, od25, .func (PySem.W.fnOf "_law_row_bits" "_law_row_bits" (defArgs sLRowB) (defBody sLRowB) (defScope sLRowB) .none kV25 dc25 pm25 an25 cd25 ct25), sl25⟩) (c25 : PySem.W.codeIn K cd25 "_law_row_bits" = true) (k25 : PySem.W.keepIn K (.ref f25) = true)
    (m26 : PySem.W.findIn K (.ref C_Tree) "__init__" = some (some (.ref f26))) (n26 : PySem.W.isFn K (.ref f26) = true) (l26 : K.lookup f26 = some ⟨oc26, od26, .func (PySem.W.fnOf "__init__" "Tree.__init__" (defArgs sTrInit) (defBody sTrInit) (defScope sTrInit) .none kV26 dc26 pm26 an26 cd26 ct26), sl26⟩) (c26 : PySem.W.codeIn K cd26 "Tree.__init__" = true) (k26 : PySem.W.keepIn K (.ref f26) = true)
    (m27 : PySem.W.findIn K (.ref C_Heard) "__init__" = some (some (.ref f27))) (n27 : PySem.W.isFn K (.ref f27) = true) (l27 : K.lookup f27 = some ⟨oc27, od27, .func (PySem.W.fnOf "__init__" "Heard.__init__" (defArgs sHdInit) (defBody sHdInit) (defScope sHdInit) .none kV27 dc27 pm27 an27 cd27 ct27), sl27⟩) (c27 : PySem.W.codeIn K cd27 "Heard.__init__" = true) (k27 : PySem.W.keepIn K (.ref f27) = true)
    (m28 : PySem.W.findIn K (.ref C_Heard) "hear_bytes" = some (some (.ref f28))) (n28 : PySem.W.isFn K (.ref f28) = true) (l28 : K.lookup f28 = some ⟨oc28, od28, .func (PySem.W.fnOf "hear_bytes" "Heard.hear_bytes" (defArgs sHdHear) (defBody sHdHear) (defScope sHdHear) .none kV28 dc28 pm28 an28 cd28 ct28), sl28⟩) (c28 : PySem.W.codeIn K cd28 "Heard.hear_bytes" = true) (k28 : PySem.W.keepIn K (.ref f28) = true)
    (m29 : PySem.W.findIn K (.ref C_Heard) "many_bits" = some (some (.ref f29))) (n29 : PySem.W.isFn K (.ref f29) = true) (l29 : K.lookup f29 = some ⟨oc29, od29, .func (PySem.W.fnOf "many_bits" "Heard.many_bits" (defArgs sHdBits) (defBody sHdBits) (defScope sHdBits) .none kV29 dc29 pm29 an29 cd29 ct29), sl29⟩) (c29 : PySem.W.codeIn K cd29 "Heard.many_bits" = true) (k29 : PySem.W.keepIn K (.ref f29) = true)
    (m30 : PySem.W.findIn K (.ref C_Heard) "many_read" = some (some (.ref f30))) (n30 : PySem.W.isFn K (.ref f30) = true) (l30 : K.lookup f30 = some ⟨oc30, od30, .func (PySem.W.fnOf "many_read" "Heard.many_read" (defArgs sHdRead) (defBody sHdRead) (defScope sHdRead) .none kV30 dc30 pm30 an30 cd30 ct30), sl30⟩) (c30 : PySem.W.codeIn K cd30 "Heard.many_read" = true) (k30 : PySem.W.keepIn K (.ref f30) = true)
    (m31 : PySem.W.findIn K (.ref C_Heard) "number" = some (some (.ref f31))) (n31 : PySem.W.isFn K (.ref f31) = true) (l31 : K.lookup f31 = some ⟨oc31, od31, .func (PySem.W.fnOf "number" "Heard.number" (defArgs sHdNum) (defBody sHdNum) (defScope sHdNum) .none kV31 dc31 pm31 an31 cd31 ct31), sl31⟩) (c31 : PySem.W.codeIn K cd31 "Heard.number" = true) (k31 : PySem.W.keepIn K (.ref f31) = true)
    (m32 : PySem.W.findIn K (.ref C_Heard) "letter" = some (some (.ref f32))) (n32 : PySem.W.isFn K (.ref f32) = true) (l32 : K.lookup f32 = some ⟨oc32, od32, .func (PySem.W.fnOf "letter" "Heard.letter" (defArgs sHdLet) (defBody sHdLet) (defScope sHdLet) .none kV32 dc32 pm32 an32 cd32 ct32), sl32⟩) (c32 : PySem.W.codeIn K cd32 "Heard.letter" = true) (k32 : PySem.W.keepIn K (.ref f32) = true)
    (m33 : PySem.W.findIn K (.ref C_Reading) "end_block" = some (some (.ref f33))) (n33 : PySem.W.isFn K (.ref f33) = true) (l33 : K.lookup f33 = some ⟨oc33, od33, .func (PySem.W.fnOf "end_block" "Reading.end_block" (defArgs sRgEnd) (defBody sRgEnd) (defScope sRgEnd) .none kV33 dc33 pm33 an33 cd33 ct33), sl33⟩) (c33 : PySem.W.codeIn K cd33 "Reading.end_block" = true) (k33 : PySem.W.keepIn K (.ref f33) = true)
    (m34 : PySem.W.findIn K (.ref C_Reading) "take_room" = some (some (.ref f34))) (n34 : PySem.W.isFn K (.ref f34) = true) (l34 : K.lookup f34 = some ⟨oc34, od34, .func (PySem.W.fnOf "take_room" "Reading.take_room" (defArgs sRgRoom) (defBody sRgRoom) (defScope sRgRoom) .none kV34 dc34 pm34 an34 cd34 ct34), sl34⟩) (c34 : PySem.W.codeIn K cd34 "Reading.take_room" = true) (k34 : PySem.W.keepIn K (.ref f34) = true)
    (m35 : PySem.W.findIn K (.ref C_Reading) "read_count" = some (some (.ref f35))) (n35 : PySem.W.isFn K (.ref f35) = true) (l35 : K.lookup f35 = some ⟨oc35, od35, .func (PySem.W.fnOf "read_count" "Reading.read_count" (defArgs sRgCount) (defBody sRgCount) (defScope sRgCount) .none kV35 dc35 pm35 an35 cd35 ct35), sl35⟩) (c35 : PySem.W.codeIn K cd35 "Reading.read_count" = true) (k35 : PySem.W.keepIn K (.ref f35) = true)
    (m36 : PySem.W.findIn K (.ref C_Reading) "told_trees" = some (some (.ref f36))) (n36 : PySem.W.isFn K (.ref f36) = true) (l36 : K.lookup f36 = some ⟨oc36, od36, .func (PySem.W.fnOf "told_trees" "Reading.told_trees" (defArgs sRgTrees) (defBody sRgTrees) (defScope sRgTrees) .none kV36 dc36 pm36 an36 cd36 ct36), sl36⟩) (c36 : PySem.W.codeIn K cd36 "Reading.told_trees" = true) (k36 : PySem.W.keepIn K (.ref f36) = true)
    (m37 : PySem.W.findIn K (.ref C_Reading) "read_plain" = some (some (.ref f37))) (n37 : PySem.W.isFn K (.ref f37) = true) (l37 : K.lookup f37 = some ⟨oc37, od37, .func (PySem.W.fnOf "read_plain" "Reading.read_plain" (defArgs sRgPlain) (defBody sRgPlain) (defScope sRgPlain) .none kV37 dc37 pm37 an37 cd37 ct37), sl37⟩) (c37 : PySem.W.codeIn K cd37 "Reading.read_plain" = true) (k37 : PySem.W.keepIn K (.ref f37) = true)
    (m38 : PySem.W.findIn K (.ref C_Reading) "read_block" = some (some (.ref f38))) (n38 : PySem.W.isFn K (.ref f38) = true) (l38 : K.lookup f38 = some ⟨oc38, od38, .func (PySem.W.fnOf "read_block" "Reading.read_block" (defArgs sRgBlock) (defBody sRgBlock) (defScope sRgBlock) .none kV38 dc38 pm38 an38 cd38 ct38), sl38⟩) (c38 : PySem.W.codeIn K cd38 "Reading.read_block" = true) (k38 : PySem.W.keepIn K (.ref f38) = true)
    (a39 : PySem.W.nsIn K mainGlobals "_law_own" = some (some (.ref f39))) (l39 : K.lookup f39 = some ⟨oc39, od39, .func (PySem.W.fnOf "_law_own" "_law_own" (defArgs sLOwn) (defBody sLOwn) (defScope sLOwn) .none kV39 dc39 pm39 an39 cd39 ct39), sl39⟩) (c39 : PySem.W.codeIn K cd39 "_law_own" = true) (k39 : PySem.W.keepIn K (.ref f39) = true)
    (m40 : PySem.W.findIn K (.ref C_Reading) "take_lengths" = some (some (.ref f40))) (n40 : PySem.W.isFn K (.ref f40) = true) (l40 : K.lookup f40 = some ⟨oc40, od40, .func (PySem.W.fnOf "take_lengths" "Reading.take_lengths" (defArgs sRgTake) (defBody sRgTake) (defScope sRgTake) .none kV40 dc40 pm40 an40 cd40 ct40), sl40⟩) (c40 : PySem.W.codeIn K cd40 "Reading.take_lengths" = true) (k40 : PySem.W.keepIn K (.ref f40) = true)
    (m41 : PySem.W.findIn K (.ref C_Reading) "read_run" = some (some (.ref f41))) (n41 : PySem.W.isFn K (.ref f41) = true) (l41 : K.lookup f41 = some ⟨oc41, od41, .func (PySem.W.fnOf "read_run" "Reading.read_run" (defArgs sRgRun) (defBody sRgRun) (defScope sRgRun) .none kV41 dc41 pm41 an41 cd41 ct41), sl41⟩) (c41 : PySem.W.codeIn K cd41 "Reading.read_run" = true) (k41 : PySem.W.keepIn K (.ref f41) = true)
    (m42 : PySem.W.findIn K (.ref C_Reading) "read_item" = some (some (.ref f42))) (n42 : PySem.W.isFn K (.ref f42) = true) (l42 : K.lookup f42 = some ⟨oc42, od42, .func (PySem.W.fnOf "read_item" "Reading.read_item" (defArgs sRgItem) (defBody sRgItem) (defScope sRgItem) .none kV42 dc42 pm42 an42 cd42 ct42), sl42⟩) (c42 : PySem.W.codeIn K cd42 "Reading.read_item" = true) (k42 : PySem.W.keepIn K (.ref f42) = true)
    (m43 : PySem.W.findIn K (.ref C_Reading) "read_rest" = some (some (.ref f43))) (n43 : PySem.W.isFn K (.ref f43) = true) (l43 : K.lookup f43 = some ⟨oc43, od43, .func (PySem.W.fnOf "read_rest" "Reading.read_rest" (defArgs sRgRest) (defBody sRgRest) (defScope sRgRest) .none kV43 dc43 pm43 an43 cd43 ct43), sl43⟩) (c43 : PySem.W.codeIn K cd43 "Reading.read_rest" = true) (k43 : PySem.W.keepIn K (.ref f43) = true)
    (m44 : PySem.W.findIn K (.ref C_Reading) "read_next" = some (some (.ref f44))) (n44 : PySem.W.isFn K (.ref f44) = true) (l44 : K.lookup f44 = some ⟨oc44, od44, .func (PySem.W.fnOf "read_next" "Reading.read_next" (defArgs sRgNext) (defBody sRgNext) (defScope sRgNext) .none kV44 dc44 pm44 an44 cd44 ct44), sl44⟩) (c44 : PySem.W.codeIn K cd44 "Reading.read_next" = true) (k44 : PySem.W.keepIn K (.ref f44) = true)
    (m45 : PySem.W.findIn K (.ref C_Heard) "go_back" = some (some (.ref f45))) (n45 : PySem.W.isFn K (.ref f45) = true) (l45 : K.lookup f45 = some ⟨oc45, od45, .func (PySem.W.fnOf "go_back" "Heard.go_back" (defArgs sHdBack) (defBody sHdBack) (defScope sHdBack) .none kV45 dc45 pm45 an45 cd45 ct45), sl45⟩) (c45 : PySem.W.codeIn K cd45 "Heard.go_back" = true) (k45 : PySem.W.keepIn K (.ref f45) = true)
    (m46 : PySem.W.findIn K (.ref C_Reading) "go_on" = some (some (.ref f46))) (n46 : PySem.W.isFn K (.ref f46) = true) (l46 : K.lookup f46 = some ⟨oc46, od46, .func (PySem.W.fnOf "go_on" "Reading.go_on" (defArgs sRgGo) (defBody sRgGo) (defScope sRgGo) .none kV46 dc46 pm46 an46 cd46 ct46), sl46⟩) (c46 : PySem.W.codeIn K cd46 "Reading.go_on" = true) (k46 : PySem.W.keepIn K (.ref f46) = true)
    (m47 : PySem.W.findIn K (.ref C_Reading) "__init__" = some (some (.ref f47))) (n47 : PySem.W.isFn K (.ref f47) = true) (l47 : K.lookup f47 = some ⟨oc47, od47, .func (PySem.W.fnOf "__init__" "Reading.__init__" (defArgs sRgInit) (defBody sRgInit) (defScope sRgInit) .none kV47 dc47 pm47 an47 cd47 ct47), sl47⟩) (c47 : PySem.W.codeIn K cd47 "Reading.__init__" = true) (k47 : PySem.W.keepIn K (.ref f47) = true)
    (m48 : PySem.W.findIn K (.ref C_Reading) "hear_piece" = some (some (.ref f48))) (n48 : PySem.W.isFn K (.ref f48) = true) (l48 : K.lookup f48 = some ⟨oc48, od48, .func (PySem.W.fnOf "hear_piece" "Reading.hear_piece" (defArgs sRgHear) (defBody sRgHear) (defScope sRgHear) .none kV48 dc48 pm48 an48 cd48 ct48), sl48⟩) (c48 : PySem.W.codeIn K cd48 "Reading.hear_piece" = true) (k48 : PySem.W.keepIn K (.ref f48) = true)
    (m49 : PySem.W.findIn K (.ref C_Reading) "told_bytes" = some (some (.ref f49))) (n49 : PySem.W.isFn K (.ref f49) = true) (l49 : K.lookup f49 = some ⟨oc49, od49, .func (PySem.W.fnOf "told_bytes" "Reading.told_bytes" (defArgs sRgTold) (defBody sRgTold) (defScope sRgTold) .none kV49 dc49 pm49 an49 cd49 ct49), sl49⟩) (c49 : PySem.W.codeIn K cd49 "Reading.told_bytes" = true) (k49 : PySem.W.keepIn K (.ref f49) = true)
    (m50 : PySem.W.findIn K (.ref C_Reading) "many_bytes" = some (some (.ref f50))) (n50 : PySem.W.isFn K (.ref f50) = true) (l50 : K.lookup f50 = some ⟨oc50, od50, .func (PySem.W.fnOf "many_bytes" "Reading.many_bytes" (defArgs sRgBytes) (defBody sRgBytes) (defScope sRgBytes) .none kV50 dc50 pm50 an50 cd50 ct50), sl50⟩) (c50 : PySem.W.codeIn K cd50 "Reading.many_bytes" = true) (k50 : PySem.W.keepIn K (.ref f50) = true)
    (m51 : PySem.W.findIn K (.ref C_Reading) "was_over" = some (some (.ref f51))) (n51 : PySem.W.isFn K (.ref f51) = true) (l51 : K.lookup f51 = some ⟨oc51, od51, .func (PySem.W.fnOf "was_over" "Reading.was_over" (defArgs sRgOver) (defBody sRgOver) (defScope sRgOver) .none kV51 dc51 pm51 an51 cd51 ct51), sl51⟩) (c51 : PySem.W.codeIn K cd51 "Reading.was_over" = true) (k51 : PySem.W.keepIn K (.ref f51) = true)
    (m52 : PySem.W.findIn K (.ref C_Reading) "many_bits" = some (some (.ref f52))) (n52 : PySem.W.isFn K (.ref f52) = true) (l52 : K.lookup f52 = some ⟨oc52, od52, .func (PySem.W.fnOf "many_bits" "Reading.many_bits" (defArgs sRgBits) (defBody sRgBits) (defScope sRgBits) .none kV52 dc52 pm52 an52 cd52 ct52), sl52⟩) (c52 : PySem.W.codeIn K cd52 "Reading.many_bits" = true) (k52 : PySem.W.keepIn K (.ref f52) = true)
    (a53 : PySem.W.nsIn K mainGlobals "opened" = some (some (.ref f53))) (l53 : K.lookup f53 = some ⟨oc53, od53, .func (PySem.W.fnOf "opened" "opened" (defArgs sOpened) (defBody sOpened) (defScope sOpened) .none kV53 dc53 pm53 an53 cd53 ct53), sl53⟩) (c53 : PySem.W.codeIn K cd53 "opened" = true) (k53 : PySem.W.keepIn K (.ref f53) = true)
    (m54 : PySem.W.findIn K (.ref C_Reader) "__init__" = some (some (.ref f54))) (n54 : PySem.W.isFn K (.ref f54) = true) (l54 : K.lookup f54 = some ⟨oc54, od54, .func (PySem.W.fnOf "__init__" "Reader.__init__" (defArgs sRdInit) (defBody sRdInit) (defScope sRdInit) .none kV54 dc54 pm54 an54 cd54 ct54), sl54⟩) (c54 : PySem.W.codeIn K cd54 "Reader.__init__" = true) (k54 : PySem.W.keepIn K (.ref f54) = true)
    (m55 : PySem.W.findIn K (.ref C_Reader) "hear" = some (some (.ref f55))) (n55 : PySem.W.isFn K (.ref f55) = true) (l55 : K.lookup f55 = some ⟨oc55, od55, .func (PySem.W.fnOf "hear" "Reader.hear" (defArgs sRdHear) (defBody sRdHear) (defScope sRdHear) .none kV55 dc55 pm55 an55 cd55 ct55), sl55⟩) (c55 : PySem.W.codeIn K cd55 "Reader.hear" = true) (k55 : PySem.W.keepIn K (.ref f55) = true)
    (m56 : PySem.W.findIn K (.ref C_Reader) "known" = some (some (.ref f56))) (n56 : PySem.W.isFn K (.ref f56) = true) (l56 : K.lookup f56 = some ⟨oc56, od56, .func (PySem.W.fnOf "known" "Reader.known" (defArgs sRdKnown) (defBody sRdKnown) (defScope sRdKnown) .none kV56 dc56 pm56 an56 cd56 ct56), sl56⟩) (c56 : PySem.W.codeIn K cd56 "Reader.known" = true) (k56 : PySem.W.keepIn K (.ref f56) = true)
    (m57 : PySem.W.findIn K (.ref C_Reader) "is_over" = some (some (.ref f57))) (n57 : PySem.W.isFn K (.ref f57) = true) (l57 : K.lookup f57 = some ⟨oc57, od57, .func (PySem.W.fnOf "is_over" "Reader.is_over" (defArgs sRdOver) (defBody sRdOver) (defScope sRdOver) .none kV57 dc57 pm57 an57 cd57 ct57), sl57⟩) (c57 : PySem.W.codeIn K cd57 "Reader.is_over" = true) (k57 : PySem.W.keepIn K (.ref f57) = true)
    (m58 : PySem.W.findIn K (.ref C_Reader) "bits" = some (some (.ref f58))) (n58 : PySem.W.isFn K (.ref f58) = true) (l58 : K.lookup f58 = some ⟨oc58, od58, .func (PySem.W.fnOf "bits" "Reader.bits" (defArgs sRdBits) (defBody sRdBits) (defScope sRdBits) .none kV58 dc58 pm58 an58 cd58 ct58), sl58⟩) (c58 : PySem.W.codeIn K cd58 "Reader.bits" = true) (k58 : PySem.W.keepIn K (.ref f58) = true)
    (a59 : PySem.W.nsIn K mainGlobals "_law_any_row" = some (some (.ref f59))) (l59 : K.lookup f59 = some ⟨oc59, od59, .func (PySem.W.fnOf "_law_any_row" "_law_any_row" (defArgs sLAnyRow) (defBody sLAnyRow) (defScope sLAnyRow) .none kV59 dc59 pm59 an59 cd59 ct59), sl59⟩) (c59 : PySem.W.codeIn K cd59 "_law_any_row" = true) (k59 : PySem.W.keepIn K (.ref f59) = true)
    (a60 : PySem.W.nsIn K mainGlobals "_law_any_head" = some (some (.ref f60))) (l60 : K.lookup f60 = some ⟨oc60, od60, .func (PySem.W.fnOf "_law_any_head" "_law_any_head" (defArgs sLAnyHead) (defBody sLAnyHead) (defScope sLAnyHead) .none kV60 dc60 pm60 an60 cd60 ct60), sl60⟩) (c60 : PySem.W.codeIn K cd60 "_law_any_head" = true) (k60 : PySem.W.keepIn K (.ref f60) = true)
    (a61 : PySem.W.nsIn K mainGlobals "_law_stream" = some (some (.ref f61))) (l61 : K.lookup f61 = some ⟨oc61, od61, .func (PySem.W.fnOf "_law_stream" "_law_stream" (defArgs sLStream) (defBody sLStream) (defScope sLStream) .none kV61 dc61 pm61 an61 cd61 ct61), sl61⟩) (c61 : PySem.W.codeIn K cd61 "_law_stream" = true) (k61 : PySem.W.keepIn K (.ref f61) = true)
    (a62 : PySem.W.nsIn K mainGlobals "_law_all_right" = some (some (.ref f62))) (l62 : K.lookup f62 = some ⟨oc62, od62, .func (PySem.W.fnOf "_law_all_right" "_law_all_right" (defArgs sAll) (defBody sAll) (defScope sAll) .none kV62 dc62 pm62 an62 cd62 ct62), sl62⟩) (c62 : PySem.W.codeIn K cd62 "_law_all_right" = true) (k62 : PySem.W.keepIn K (.ref f62) = true)
    (a63 : PySem.W.nsIn K mainGlobals "law" = some (some (.ref f63))) (l63 : K.lookup f63 = some ⟨oc63, od63, .func (PySem.W.fnOf "law" "law" (defArgs sLaw) (defBody sLaw) (defScope sLaw) .none kV63 dc63 pm63 an63 cd63 ct63), sl63⟩) (c63 : PySem.W.codeIn K cd63 "law" = true) (k63 : PySem.W.keepIn K (.ref f63) = true)
    (aC_Prices : PySem.W.nsIn K mainGlobals "Prices" = some (some (.ref C_Prices))) (pg_Prices : PySem.W.plainGet K C_Prices Str.empty = true) (hd_Prices : PySem.W.hasDictIn K C_Prices = true) (po_Prices : PySem.W.plainOver K C_Prices = true) (sa_Prices : PySem.W.findIn K (.ref C_Prices) "__setattr__" = some (some (.builtin "object.__setattr__"))) (mk_Prices : PySem.W.makesIn K C_Prices = true) (kp_Prices : PySem.W.keepIn K (.ref C_Prices) = true) (at__letters_Prices : PySem.W.findIn K (.ref C_Prices) "_letters" = some none) (at__backs_Prices : PySem.W.findIn K (.ref C_Prices) "_backs" = some none) (cc_Prices : PySem.W.findIn K (.ref C_Prices) "__class__" = some (some (.builtin "object.__class__"))) (mr_Prices : PySem.W.mroIn K C_Prices (.type "object") = some true) (ki_Prices : PySem.W.kitOne K (.ref C_Prices) (.ref C_Prices) = some true)
    (aC_Tree : PySem.W.nsIn K mainGlobals "Tree" = some (some (.ref C_Tree))) (pg_Tree : PySem.W.plainGet K C_Tree Str.empty = true) (hd_Tree : PySem.W.hasDictIn K C_Tree = true) (po_Tree : PySem.W.plainOver K C_Tree = true) (sa_Tree : PySem.W.findIn K (.ref C_Tree) "__setattr__" = some (some (.builtin "object.__setattr__"))) (mk_Tree : PySem.W.makesIn K C_Tree = true) (kp_Tree : PySem.W.keepIn K (.ref C_Tree) = true) (at_by_word_Tree : PySem.W.findIn K (.ref C_Tree) "by_word" = some none) (at_begun_Tree : PySem.W.findIn K (.ref C_Tree) "begun" = some none)
    (aC_Heard : PySem.W.nsIn K mainGlobals "Heard" = some (some (.ref C_Heard))) (pg_Heard : PySem.W.plainGet K C_Heard Str.empty = true) (hd_Heard : PySem.W.hasDictIn K C_Heard = true) (po_Heard : PySem.W.plainOver K C_Heard = true) (sa_Heard : PySem.W.findIn K (.ref C_Heard) "__setattr__" = some (some (.builtin "object.__setattr__"))) (mk_Heard : PySem.W.makesIn K C_Heard = true) (kp_Heard : PySem.W.keepIn K (.ref C_Heard) = true) (at__left_out_Heard : PySem.W.findIn K (.ref C_Heard) "_left_out" = some none) (at__text_Heard : PySem.W.findIn K (.ref C_Heard) "_text" = some none) (at__at_Heard : PySem.W.findIn K (.ref C_Heard) "_at" = some none)
    (aC_Reading : PySem.W.nsIn K mainGlobals "Reading" = some (some (.ref C_Reading))) (pg_Reading : PySem.W.plainGet K C_Reading Str.empty = true) (hd_Reading : PySem.W.hasDictIn K C_Reading = true) (po_Reading : PySem.W.plainOver K C_Reading = true) (sa_Reading : PySem.W.findIn K (.ref C_Reading) "__setattr__" = some (some (.builtin "object.__setattr__"))) (mk_Reading : PySem.W.makesIn K C_Reading = true) (kp_Reading : PySem.W.keepIn K (.ref C_Reading) = true) (at__heard_Reading : PySem.W.findIn K (.ref C_Reading) "_heard" = some none) (at__ahead_Reading : PySem.W.findIn K (.ref C_Reading) "_ahead" = some none) (at__whole_Reading : PySem.W.findIn K (.ref C_Reading) "_whole" = some none) (at__next_Reading : PySem.W.findIn K (.ref C_Reading) "_next" = some none) (at__is_last_Reading : PySem.W.findIn K (.ref C_Reading) "_is_last" = some none) (at__left_Reading : PySem.W.findIn K (.ref C_Reading) "_left" = some none) (at__lengths_Reading : PySem.W.findIn K (.ref C_Reading) "_lengths" = some none) (at__letters_Reading : PySem.W.findIn K (.ref C_Reading) "_letters" = some none) (at__backs_Reading : PySem.W.findIn K (.ref C_Reading) "_backs" = some none) (at__told_Reading : PySem.W.findIn K (.ref C_Reading) "_told" = some none) (at__over_Reading : PySem.W.findIn K (.ref C_Reading) "_over" = some none) (at__slip_Reading : PySem.W.findIn K (.ref C_Reading) "_slip" = some none)
    (aC_Reader : PySem.W.nsIn K mainGlobals "Reader" = some (some (.ref C_Reader))) (pg_Reader : PySem.W.plainGet K C_Reader Str.empty = true) (hd_Reader : PySem.W.hasDictIn K C_Reader = true) (po_Reader : PySem.W.plainOver K C_Reader = true) (sa_Reader : PySem.W.findIn K (.ref C_Reader) "__setattr__" = some (some (.builtin "object.__setattr__"))) (mk_Reader : PySem.W.makesIn K C_Reader = true) (kp_Reader : PySem.W.keepIn K (.ref C_Reader) = true) (at__reading_Reader : PySem.W.findIn K (.ref C_Reader) "_reading" = some none)
    (s0 : PySem.W.nsIn K mainGlobals "SIGNS" = some (some (.str hexTab tS)))
    (sp9 : PySem.W.specialIn K (.builtin "object.__class__") "__get__" = some (some (.builtin "getset_descriptor.__get__")))
    (sp10 : PySem.W.takesIn K (.builtin "object.__class__") = some true)
    (wa0 : PySem.W.nsIn K mainGlobals "Wanting" = some (some (.ref CWa)))
    (wa1 : PySem.W.excIn K CWa [.type "Exception", .type "BaseException", .type "object"] "Exception.__new__" = true)
    (wa2 : PySem.W.keepIn K (.ref CWa) = true)
    (wa3 : PySem.W.subIn K (.ref CWa) (.type "BaseException") = some true)
    (wa4 : PySem.W.typeIn K (.ref CWa) = some (.type "type"))
    (wa5 : PySem.W.isClsIn K CWa = true)
    (wa6 : PySem.W.subIn K (.ref CWa) (.ref CWa) = some true)
    (r0 : PySem.W.nsIn K mainGlobals "TOLD_LETTERS" = some (some (.ref Tr)))
    (r1 : K.lookup Tr = some ⟨.type "tuple", rd0, .seq #[.ref rt1, .ref rt2] rn0, rs0⟩)
    (r2 : K.lookup rt1 = some ⟨.type "tuple", rd1, .seq #[.int 8 rk1, .int 239 rk2] rn1, rs1⟩)
    (r3 : K.lookup rt2 = some ⟨.type "tuple", rd2, .seq #[.int 9 rk3, .int 34 rk4] rn2, rs2⟩)
    (q0 : PySem.W.nsIn K mainGlobals "TOLD_BACKS" = some (some (.ref Tq)))
    (q1 : K.lookup Tq = some ⟨.type "tuple", qd0, .seq #[.ref qt1, .ref qt2] qn0, qs0⟩)
    (q2 : K.lookup qt1 = some ⟨.type "tuple", qd1, .seq #[.int 4 qk1, .int 6 qk2] qn1, qs1⟩)
    (q3 : K.lookup qt2 = some ⟨.type "tuple", qd2, .seq #[.int 3 qk3, .int 5 qk4] qn2, qs2⟩)
    (z_isinstance : PySem.W.nsIn K mainGlobals "isinstance" = some none)
    (z_bool : PySem.W.nsIn K mainGlobals "bool" = some none)
    (z_int : PySem.W.nsIn K mainGlobals "int" = some none)
    (z_list : PySem.W.nsIn K mainGlobals "list" = some none)
    (z_all : PySem.W.nsIn K mainGlobals "all" = some none)
    (z_len : PySem.W.nsIn K mainGlobals "len" = some none)
    (z_enumerate : PySem.W.nsIn K mainGlobals "enumerate" = some none)
    (z_range : PySem.W.nsIn K mainGlobals "range" = some none)
    (z_sorted : PySem.W.nsIn K mainGlobals "sorted" = some none)
    (z_str : PySem.W.nsIn K mainGlobals "str" = some none)
    (z_bytes : PySem.W.nsIn K mainGlobals "bytes" = some none)
    (z_sum : PySem.W.nsIn K mainGlobals "sum" = some none)
    (z_min : PySem.W.nsIn K mainGlobals "min" = some none)
    (z_max : PySem.W.nsIn K mainGlobals "max" = some none)
    (v_FEWEST_LETTERS : PySem.W.nsIn K mainGlobals "FEWEST_LETTERS" = some (some (.int 2 tv_FEWEST_LETTERS)))
    (v_MOST_LETTERS : PySem.W.nsIn K mainGlobals "MOST_LETTERS" = some (some (.int 300 tv_MOST_LETTERS)))
    (v_LONGEST : PySem.W.nsIn K mainGlobals "LONGEST" = some (some (.int 12 tv_LONGEST)))
    (v_LETTERS : PySem.W.nsIn K mainGlobals "LETTERS" = some (some (.int 273 tv_LETTERS)))
    (v_BACKS : PySem.W.nsIn K mainGlobals "BACKS" = some (some (.int 11 tv_BACKS)))
    (v_NEXT_REST : PySem.W.nsIn K mainGlobals "NEXT_REST" = some (some (.int 5 tv_NEXT_REST)))
    (v_NEXT_BLOCK : PySem.W.nsIn K mainGlobals "NEXT_BLOCK" = some (some (.int 0 tv_NEXT_BLOCK)))
    (v_PLAIN_BITS : PySem.W.nsIn K mainGlobals "PLAIN_BITS" = some (some (.int 11 tv_PLAIN_BITS)))
    (v_MOST_BYTES : PySem.W.nsIn K mainGlobals "MOST_BYTES" = some (some (.int 2000 tv_MOST_BYTES)))
    (v_NEXT_PLAIN : PySem.W.nsIn K mainGlobals "NEXT_PLAIN" = some (some (.int 2 tv_NEXT_PLAIN)))
    (v_LAST_BITS : PySem.W.nsIn K mainGlobals "LAST_BITS" = some (some (.int 1 tv_LAST_BITS)))
    (v_SORT_BITS : PySem.W.nsIn K mainGlobals "SORT_BITS" = some (some (.int 2 tv_SORT_BITS)))
    (v_OWN_WORDS : PySem.W.nsIn K mainGlobals "OWN_WORDS" = some (some (.int 2 tv_OWN_WORDS)))
    (v_PLAIN : PySem.W.nsIn K mainGlobals "PLAIN" = some (some (.int 0 tv_PLAIN)))
    (v_NEXT_COUNT : PySem.W.nsIn K mainGlobals "NEXT_COUNT" = some (some (.int 1 tv_NEXT_COUNT)))
    (v_TOLD_WORDS : PySem.W.nsIn K mainGlobals "TOLD_WORDS" = some (some (.int 1 tv_TOLD_WORDS)))
    (v_NEXT_ITEM : PySem.W.nsIn K mainGlobals "NEXT_ITEM" = some (some (.int 4 tv_NEXT_ITEM)))
    (v_NEXT_RUN : PySem.W.nsIn K mainGlobals "NEXT_RUN" = some (some (.int 3 tv_NEXT_RUN)))
    (v_END : PySem.W.nsIn K mainGlobals "END" = some (some (.int 256 tv_END)))
    (v_LENGTH_BITS : PySem.W.nsIn K mainGlobals "LENGTH_BITS" = some (some (.int 4 tv_LENGTH_BITS)))
    (v_RUN_BITS : PySem.W.nsIn K mainGlobals "RUN_BITS" = some (some (.int 5 tv_RUN_BITS)))
    (v_AHEAD_OF_COPIES : PySem.W.nsIn K mainGlobals "AHEAD_OF_COPIES" = some (some (.int 254 tv_AHEAD_OF_COPIES)))
    (v_FARTHEST : PySem.W.nsIn K mainGlobals "FARTHEST" = some (some (.int 1024 tv_FARTHEST)))
    (v_MOST_AHEAD : PySem.W.nsIn K mainGlobals "MOST_AHEAD" = some (some (.int 4096 tv_MOST_AHEAD)))
    (v_PIECE_BYTES : PySem.W.nsIn K mainGlobals "PIECE_BYTES" = some (some (.int 64 tv_PIECE_BYTES))) :
    ∃ fd : FuncData, (∀ (s : Shared) (u : Value), BindsTo s fd ⟨[u], []⟩ [("_law_script", u)]) ∧ ∀ base : Heap, K.In base → base.Ns mainGlobals mg → FnOk l.prog w K mg base CX0 15 fa fd ["_law_script"] (spAl K) := by
  have e := hfa.symm.trans (PySem.W.mg_of X G a63)
  cases e
  have F0 := fun_mk (st := sWhole) l0 c0 k0
  have F1 := fun_mk (st := sIsNum) l1 c1 k1
  have F2 := fun_mk (st := sAreNum) l2 c2 k2
  have F3 := fun_mk (st := K2.sByLet) l3 c3 k3
  have F4 := fun_mk (st := K2.sLLeast) l4 c4 k4
  have F5 := fun_mk (st := sCell) l5 c5 k5
  have F6 := fun_mk (st := sNums) l6 c6 k6
  have F7 := fun_mk (st := sOfHex) l7 c7 k7
  have F8 := fun_mk (st := sHex) l8 c8 k8
  have F9 := fun_mk (st := sBack) l9 c9 k9
  have F10 := fun_mk (st := sTold) l10 c10 k10
  have F11 := fun_mk (st := sAreGood) l11 c11 k11
  have F12 := fun_mk (st := sAreP) l12 c12 k12
  have F13 := fun_mk (st := sPInit) l13 c13 k13
  have F14 := fun_mk (st := sPLet) l14 c14 k14
  have F15 := fun_mk (st := sPBk) l15 c15 k15
  have F16 := fun_mk (st := sDrawn) l16 c16 k16
  have F17 := fun_mk (st := sToldP) l17 c17 k17
  have F18 := fun_mk (st := sWords) l18 c18 k18
  have F19 := fun_mk (st := sData) l19 c19 k19
  have F20 := fun_mk (st := sItems) l20 c20 k20
  have F21 := fun_mk (st := sLBits) l21 c21 k21
  have F22 := fun_mk (st := sLWords) l22 c22 k22
  have F23 := fun_mk (st := sCopyB) l23 c23 k23
  have F24 := fun_mk (st := sAreBytes) l24 c24 k24
  have F25 := fun_mk (st := sLRowB) l25 c25 k25
  have F26 := fun_mk (st := sTrInit) l26 c26 k26
  have F27 := fun_mk (st := sHdInit) l27 c27 k27
  have F28 := fun_mk (st := sHdHear) l28 c28 k28
  have F29 := fun_mk (st := sHdBits) l29 c29 k29
  have F30 := fun_mk (st := sHdRead) l30 c30 k30
  have F31 := fun_mk (st := sHdNum) l31 c31 k31
  have F32 := fun_mk (st := sHdLet) l32 c32 k32
  have F33 := fun_mk (st := sRgEnd) l33 c33 k33
  have F34 := fun_mk (st := sRgRoom) l34 c34 k34
  have F35 := fun_mk (st := sRgCount) l35 c35 k35
  have F36 := fun_mk (st := sRgTrees) l36 c36 k36
  have F37 := fun_mk (st := sRgPlain) l37 c37 k37
  have F38 := fun_mk (st := sRgBlock) l38 c38 k38
  have F39 := fun_mk (st := sLOwn) l39 c39 k39
  have F40 := fun_mk (st := sRgTake) l40 c40 k40
  have F41 := fun_mk (st := sRgRun) l41 c41 k41
  have F42 := fun_mk (st := sRgItem) l42 c42 k42
  have F43 := fun_mk (st := sRgRest) l43 c43 k43
  have F44 := fun_mk (st := sRgNext) l44 c44 k44
  have F45 := fun_mk (st := sHdBack) l45 c45 k45
  have F46 := fun_mk (st := sRgGo) l46 c46 k46
  have F47 := fun_mk (st := sRgInit) l47 c47 k47
  have F48 := fun_mk (st := sRgHear) l48 c48 k48
  have F49 := fun_mk (st := sRgTold) l49 c49 k49
  have F50 := fun_mk (st := sRgBytes) l50 c50 k50
  have F51 := fun_mk (st := sRgOver) l51 c51 k51
  have F52 := fun_mk (st := sRgBits) l52 c52 k52
  have F53 := fun_mk (st := sOpened) l53 c53 k53
  have F54 := fun_mk (st := sRdInit) l54 c54 k54
  have F55 := fun_mk (st := sRdHear) l55 c55 k55
  have F56 := fun_mk (st := sRdKnown) l56 c56 k56
  have F57 := fun_mk (st := sRdOver) l57 c57 k57
  have F58 := fun_mk (st := sRdBits) l58 c58 k58
  have F59 := fun_mk (st := sLAnyRow) l59 c59 k59
  have F60 := fun_mk (st := sLAnyHead) l60 c60 k60
  have F61 := fun_mk (st := sLStream) l61 c61 k61
  have F62 := fun_mk (st := sAll) l62 c62 k62
  have F63 := fun_mk (st := sLaw) l63 c63 k63
  have b0 := F0.binds (ps := ["told"]) fun _ _ _ _ _ _ us hl => match us, hl with | [_], _ => rfl
  have b1 := F1.binds (ps := ["told", "least", "most"]) fun _ _ _ _ _ _ us hl => match us, hl with | [_, _, _], _ => rfl
  have b2 := F2.binds (ps := ["told", "least", "most"]) fun _ _ _ _ _ _ us hl => match us, hl with | [_, _, _], _ => rfl
  have b3 := F3.binds (ps := ["told", "most"]) fun _ _ _ _ _ _ us hl => match us, hl with | [_, _], _ => rfl
  have b4 := F4.binds (ps := ["_law_weights", "_law_bound"]) fun _ _ _ _ _ _ us hl => match us, hl with | [_, _], _ => rfl
  have b5 := F5.binds (ps := ["_law_script", "_law_k"]) fun _ _ _ _ _ _ us hl => match us, hl with | [_, _], _ => rfl
  have b6 := F6.binds (ps := ["_law_cell", "_law_limits"]) fun _ _ _ _ _ _ us hl => match us, hl with | [_, _], _ => rfl
  have b7 := F7.binds (ps := ["text"]) fun _ _ _ _ _ _ us hl => match us, hl with | [_], _ => rfl
  have b8 := F8.binds (ps := ["_law_numbers_here"]) fun _ _ _ _ _ _ us hl => match us, hl with | [_], _ => rfl
  have b9 := F9.binds (ps := ["_law_back_here"]) fun _ _ _ _ _ _ us hl => match us, hl with | [_], _ => rfl
  have b10 := F10.binds (ps := ([] : List Str)) fun _ _ _ _ _ _ us hl => match us, hl with | [], _ => rfl
  have b11 := F11.binds (ps := ["lengths"]) fun _ _ _ _ _ _ us hl => match us, hl with | [_], _ => rfl
  have b12 := F12.binds (ps := ["lengths", "many"]) fun _ _ _ _ _ _ us hl => match us, hl with | [_, _], _ => rfl
  have b13 := F13.binds (ps := ["self", "letters", "backs"]) fun _ _ _ _ _ _ us hl => match us, hl with | [_, _, _], _ => rfl
  have b14 := F14.binds (ps := ["self"]) fun _ _ _ _ _ _ us hl => match us, hl with | [_], _ => rfl
  have b15 := F15.binds (ps := ["self"]) fun _ _ _ _ _ _ us hl => match us, hl with | [_], _ => rfl
  have b16 := F16.binds (ps := ["runs"]) fun _ _ _ _ _ _ us hl => match us, hl with | [_], _ => rfl
  have b17 := F17.binds (ps := ([] : List Str)) fun _ _ _ _ _ _ us hl => match us, hl with | [], _ => rfl
  have b18 := F18.binds (ps := ["lengths"]) fun _ _ _ _ _ _ us hl => match us, hl with | [_], _ => rfl
  have b19 := F19.binds (ps := ["_law_script", "_law_at", "_law_most"]) fun _ _ _ _ _ _ us hl => match us, hl with | [_, _, _], _ => rfl
  have b20 := F20.binds (ps := ["_law_every", "_law_lead", "_law_place", "_law_end"]) fun _ _ _ _ _ _ us hl => match us, hl with | [_, _, _, _], _ => rfl
  have b21 := F21.binds (ps := ["_law_number", "_law_breadth"]) fun _ _ _ _ _ _ us hl => match us, hl with | [_, _], _ => rfl
  have b22 := F22.binds (ps := ["_law_lengths"]) fun _ _ _ _ _ _ us hl => match us, hl with | [_], _ => rfl
  have b23 := F23.binds (ps := ["whole", "item"]) fun _ _ _ _ _ _ us hl => match us, hl with | [_, _], _ => rfl
  have b24 := F24.binds (ps := ["told", "most"]) fun _ _ _ _ _ _ us hl => match us, hl with | [_, _], _ => rfl
  have b25 := F25.binds (ps := ["_law_row", "_law_letters", "_law_backs"]) fun _ _ _ _ _ _ us hl => match us, hl with | [_, _, _], _ => rfl
  have b26 := F26.binds (ps := ["self", "lengths"]) fun _ _ _ _ _ _ us hl => match us, hl with | [_, _], _ => rfl
  have b27 := F27.binds (ps := ["self"]) fun _ _ _ _ _ _ us hl => match us, hl with | [_], _ => rfl
  have b28 := F28.binds (ps := ["self", "piece"]) fun _ _ _ _ _ _ us hl => match us, hl with | [_, _], _ => rfl
  have b29 := F29.binds (ps := ["self"]) fun _ _ _ _ _ _ us hl => match us, hl with | [_], _ => rfl
  have b30 := F30.binds (ps := ["self"]) fun _ _ _ _ _ _ us hl => match us, hl with | [_], _ => rfl
  have b31 := F31.binds (ps := ["self", "many"]) fun _ _ _ _ _ _ us hl => match us, hl with | [_, _], _ => rfl
  have b32 := F32.binds (ps := ["self", "tree"]) fun _ _ _ _ _ _ us hl => match us, hl with | [_, _], _ => rfl
  have b33 := F33.binds (ps := ["self"]) fun _ _ _ _ _ _ us hl => match us, hl with | [_], _ => rfl
  have b34 := F34.binds (ps := ["self", "many"]) fun _ _ _ _ _ _ us hl => match us, hl with | [_, _], _ => rfl
  have b35 := F35.binds (ps := ["self"]) fun _ _ _ _ _ _ us hl => match us, hl with | [_], _ => rfl
  have b36 := F36.binds (ps := ["self"]) fun _ _ _ _ _ _ us hl => match us, hl with | [_], _ => rfl
  have b37 := F37.binds (ps := ["self"]) fun _ _ _ _ _ _ us hl => match us, hl with | [_], _ => rfl
  have b38 := F38.binds (ps := ["self"]) fun _ _ _ _ _ _ us hl => match us, hl with | [_], _ => rfl
  have b39 := F39.binds (ps := ["_law_row"]) fun _ _ _ _ _ _ us hl => match us, hl with | [_], _ => rfl
  have b40 := F40.binds (ps := ["self", "letters", "backs"]) fun _ _ _ _ _ _ us hl => match us, hl with | [_, _, _], _ => rfl
  have b41 := F41.binds (ps := ["self"]) fun _ _ _ _ _ _ us hl => match us, hl with | [_], _ => rfl
  have b42 := F42.binds (ps := ["self"]) fun _ _ _ _ _ _ us hl => match us, hl with | [_], _ => rfl
  have b43 := F43.binds (ps := ["self"]) fun _ _ _ _ _ _ us hl => match us, hl with | [_], _ => rfl
  have b44 := F44.binds (ps := ["self"]) fun _ _ _ _ _ _ us hl => match us, hl with | [_], _ => rfl
  have b45 := F45.binds (ps := ["self", "many"]) fun _ _ _ _ _ _ us hl => match us, hl with | [_, _], _ => rfl
  have b46 := F46.binds (ps := ["self"]) fun _ _ _ _ _ _ us hl => match us, hl with | [_], _ => rfl
  have b47 := F47.binds (ps := ["self", "ahead"]) fun _ _ _ _ _ _ us hl => match us, hl with | [_, _], _ => rfl
  have b48 := F48.binds (ps := ["self", "piece"]) fun _ _ _ _ _ _ us hl => match us, hl with | [_, _], _ => rfl
  have b49 := F49.binds (ps := ["self"]) fun _ _ _ _ _ _ us hl => match us, hl with | [_], _ => rfl
  have b50 := F50.binds (ps := ["self"]) fun _ _ _ _ _ _ us hl => match us, hl with | [_], _ => rfl
  have b51 := F51.binds (ps := ["self"]) fun _ _ _ _ _ _ us hl => match us, hl with | [_], _ => rfl
  have b52 := F52.binds (ps := ["self"]) fun _ _ _ _ _ _ us hl => match us, hl with | [_], _ => rfl
  have b55 := F55.binds (ps := ["self", "told"]) fun _ _ _ _ _ _ us hl => match us, hl with | [_, _], _ => rfl
  have b56 := F56.binds (ps := ["self"]) fun _ _ _ _ _ _ us hl => match us, hl with | [_], _ => rfl
  have b57 := F57.binds (ps := ["self"]) fun _ _ _ _ _ _ us hl => match us, hl with | [_], _ => rfl
  have b58 := F58.binds (ps := ["self"]) fun _ _ _ _ _ _ us hl => match us, hl with | [_], _ => rfl
  have b59 := F59.binds (ps := ["_law_script", "_law_at", "_law_every", "_law_begin", "_law_end"]) fun _ _ _ _ _ _ us hl => match us, hl with | [_, _, _, _, _], _ => rfl
  have b60 := F60.binds (ps := ["_law_script", "_law_at", "_law_lengths"]) fun _ _ _ _ _ _ us hl => match us, hl with | [_, _, _], _ => rfl
  have b61 := F61.binds (ps := ["_law_script", "_law_at", "_law_lead", "_law_numbers_here"]) fun _ _ _ _ _ _ us hl => match us, hl with | [_, _, _, _], _ => rfl
  have b62 := F62.binds (ps := ["_law_script"]) fun _ _ _ _ _ _ us hl => match us, hl with | [_], _ => rfl
  have TPr : PrTxt K mg C_Prices f13 f14 f15 := { cl := ⟨pg_Prices, hd_Prices, po_Prices, sa_Prices⟩, gC := PySem.W.mg_of X G aC_Prices, made := ⟨mk_Prices, m13, n13, kp_Prices⟩, nL := at__letters_Prices, nB := at__backs_Prices, mL := ⟨m14, n14, k14⟩, mB := ⟨m15, n15, k15⟩, ity := fun e => .ins e ⟨pg_Prices, hd_Prices, po_Prices, sa_Prices⟩ cc_Prices sp9 sp10 mr_Prices, isC := ki_Prices }
  have TTr : TrTxt K mg C_Tree f26 := { cl := ⟨pg_Tree, hd_Tree, po_Tree, sa_Tree⟩, gC := PySem.W.mg_of X G aC_Tree, made := ⟨mk_Tree, m26, n26, kp_Tree⟩, nW := at_by_word_Tree, nB := at_begun_Tree }
  have THd : HdTxt K mg C_Heard f27 f28 f29 f30 f45 f31 f32 := { cl := ⟨pg_Heard, hd_Heard, po_Heard, sa_Heard⟩, gC := PySem.W.mg_of X G aC_Heard, made := ⟨mk_Heard, m27, n27, kp_Heard⟩, nO := at__left_out_Heard, nT := at__text_Heard, nA := at__at_Heard, mH := ⟨m28, n28, k28⟩, mB := ⟨m29, n29, k29⟩, mR := ⟨m30, n30, k30⟩, mG := ⟨m45, n45, k45⟩, mN := ⟨m31, n31, k31⟩, mL := ⟨m32, n32, k32⟩ }
  have TRg : RgTxt K mg C_Reading f47 f48 f49 f50 f51 f52 f46 f44 f38 f35 f37 f41 f40 f36 f42 f34 f33 f43 := { cl := ⟨pg_Reading, hd_Reading, po_Reading, sa_Reading⟩, gC := PySem.W.mg_of X G aC_Reading, made := ⟨mk_Reading, m47, n47, kp_Reading⟩, nH := at__heard_Reading, nA := at__ahead_Reading, nW := at__whole_Reading, nN := at__next_Reading, nI := at__is_last_Reading, nF := at__left_Reading, nG := at__lengths_Reading, nL := at__letters_Reading, nB := at__backs_Reading, nT := at__told_Reading, nO := at__over_Reading, nS := at__slip_Reading, mHear := ⟨m48, n48, k48⟩, mTold := ⟨m49, n49, k49⟩, mMany := ⟨m50, n50, k50⟩, mOver := ⟨m51, n51, k51⟩, mBits := ⟨m52, n52, k52⟩, mGo := ⟨m46, n46, k46⟩, mNext := ⟨m44, n44, k44⟩, mBlk := ⟨m38, n38, k38⟩, mCnt := ⟨m35, n35, k35⟩, mPln := ⟨m37, n37, k37⟩, mRun := ⟨m41, n41, k41⟩, mTake := ⟨m40, n40, k40⟩, mTrees := ⟨m36, n36, k36⟩, mItem := ⟨m42, n42, k42⟩, mRoom := ⟨m34, n34, k34⟩, mEnd := ⟨m33, n33, k33⟩, mRest := ⟨m43, n43, k43⟩ }
  have TRd : RdTxt K mg C_Reader f54 f55 f56 f57 f58 := { cl := ⟨pg_Reader, hd_Reader, po_Reader, sa_Reader⟩, gC := PySem.W.mg_of X G aC_Reader, made := ⟨mk_Reader, m54, n54, kp_Reader⟩, nR := at__reading_Reader, mH := ⟨m55, n55, k55⟩, mK := ⟨m56, n56, k56⟩, mO := ⟨m57, n57, k57⟩, mB := ⟨m58, n58, k58⟩ }
  have TWa : WaTxt K mg CWa := { gC := PySem.W.mg_of X G wa0, x := wa1, k := wa2, b := wa3, t := wa4 }
  refine ⟨PySem.W.fnOf "law" "law" (defArgs sLaw) (defBody sLaw) (defScope sLaw) .none kV63 dc63 pm63 an63 cd63 ct63, fun s u => .of_eq rfl, fun base _ _ => ?_⟩
  have G_whole_0 : FnOk l.prog w K mg base CX0 1 f0 _ ["told"] _ := ok_whole (k := 0) F0 (PySem.W.mg_none_of X G z_isinstance) (PySem.W.mg_none_of X G z_bool) (PySem.W.mg_none_of X G z_int)
  have G_isNum_1 : FnOk l.prog w K mg base CX0 2 f1 _ ["told", "least", "most"] _ := ok_isNum (k := 0) F1 F0 G_whole_0 b0 (PySem.W.mg_of X G a0)
  have G_areNum_2 : FnOk l.prog w K mg base CX0 3 f2 _ ["told", "least", "most"] _ := ok_areNum (k := 0) F2 F1 G_isNum_1 b1 (PySem.W.mg_of X G a1) (PySem.W.mg_none_of X G z_isinstance) (PySem.W.mg_none_of X G z_list) (PySem.W.mg_none_of X G z_all)
  have G_whole_3 : FnOk l.prog w K mg base CX0 1 f0 _ ["told"] _ := K2.ok_whole (k := 0) F0 (PySem.W.mg_none_of X G z_isinstance) (PySem.W.mg_none_of X G z_bool) (PySem.W.mg_none_of X G z_int)
  have G_isNum_4 : FnOk l.prog w K mg base CX0 2 f1 _ ["told", "least", "most"] _ := K2.ok_isNum (k := 0) F1 F0 G_whole_3 b0 (PySem.W.mg_of X G a0)
  have G_areNum_5 : FnOk l.prog w K mg base CX0 3 f2 _ ["told", "least", "most"] _ := K2.ok_areNum (k := 0) F2 F1 G_isNum_4 b1 (PySem.W.mg_of X G a1) (PySem.W.mg_none_of X G z_isinstance) (PySem.W.mg_none_of X G z_list) (PySem.W.mg_none_of X G z_all)
  have G_byLet_6 : FnOk l.prog w K mg base CX0 4 f3 _ ["told", "most"] _ := K2.ok_byLet (k := 0) F3 F2 G_areNum_5 b2 (PySem.W.mg_of X G a2) (PySem.W.mg_none_of X G z_len) (PySem.W.mg_of X G v_FEWEST_LETTERS) (PySem.W.mg_of X G v_MOST_LETTERS)
  have G_ll_7 : FnOk l.prog w K mg base CX0 1 f4 _ ["_law_weights", "_law_bound"] _ := K2.ok_ll (j := 0) F4 (PySem.W.mg_none_of X G z_len) (PySem.W.mg_none_of X G z_enumerate) (PySem.W.mg_none_of X G z_range) (PySem.W.mg_none_of X G z_sorted)
  have G_cell_8 : FnOk l.prog w K mg base CX0 1 f5 _ ["_law_script", "_law_k"] _ := ok_cell (j := 0) F5 (PySem.W.mg_none_of X G z_len) (PySem.W.mg_none_of X G z_int)
  have G_nums_9 : FnOk l.prog w K mg base CX0 1 f6 _ ["_law_cell", "_law_limits"] _ := ok_nums (j := 0) F6 (PySem.W.mg_none_of X G z_int)
  have G_ofHex_10 : FnOk l.prog w K mg base CX0 1 f7 _ ["text"] _ := ok_ofHex (j := 0) F7 (PySem.W.mg_none_of X G z_isinstance) (PySem.W.mg_none_of X G z_str) (PySem.W.mg_none_of X G z_len) (PySem.W.mg_none_of X G z_all) (PySem.W.mg_none_of X G z_bytes) (PySem.W.mg_of X G s0)
  have G_hex_11 : FnOk l.prog w K mg base CX0 1 f8 _ ["_law_numbers_here"] _ := ok_hex (j := 0) F8 (PySem.W.mg_none_of X G z_int)
  have G_back_12 : FnOk l.prog w K mg base CX0 1 f9 _ ["_law_back_here"] _ := ok_back (j := 0) F9
  have G_told_13 : FnOk l.prog w K mg base CX0 1 f10 _ [] _ := ok_told (j := 0) F10
  have G_areGood_14 : FnOk l.prog w K mg base CX0 1 f11 _ ["lengths"] _ := ok_areGood (j := 0) F11 (PySem.W.mg_none_of X G z_sum) (PySem.W.mg_none_of X G z_len) (PySem.W.mg_of X G v_LONGEST)
  have G_areP_15 : FnOk l.prog w K mg base CX0 4 f12 _ ["lengths", "many"] _ := ok_areP (j := 0) F12 G_areNum_2 b2 k2 (PySem.W.mg_of X G a2) (G_areGood_14.mono (by decide)) b11 k11 (PySem.W.mg_of X G a11) (PySem.W.mg_none_of X G z_len) (PySem.W.mg_of X G v_LONGEST)
  have G_pInit_16 : FnOk l.prog w K mg base CX0 5 f13 _ ["self", "letters", "backs"] _ := ok_pInit (j := 0) TPr F13 G_areP_15 b12 k12 (PySem.W.mg_of X G a12) (PySem.W.mg_none_of X G z_list) (PySem.W.mg_of X G v_LETTERS) (PySem.W.mg_of X G v_BACKS)
  have G_pLet_17 : FnOk l.prog w K mg base CX0 1 f14 _ ["self"] _ := ok_pLet (j := 0) TPr F14 (PySem.W.mg_none_of X G z_list)
  have G_pBk_18 : FnOk l.prog w K mg base CX0 1 f15 _ ["self"] _ := ok_pBk (j := 0) TPr F15 (PySem.W.mg_none_of X G z_list)
  have G_drawn_19 : FnOk l.prog w K mg base CX0 1 f16 _ ["runs"] _ := ok_drawn (j := 0) F16
  have G_toldP_20 : FnOk l.prog w K mg base CX0 7 f17 _ [] _ := ok_toldP (j := 0) TPr F17 G_pInit_16 b13 (G_drawn_19.mono (by decide)) b16 k16 (PySem.W.mg_of X G a16) (runs_of (PySem.W.mg_of X G r0) r1 r2 r3) (runs_of (PySem.W.mg_of X G q0) q1 q2 q3)
  have G_words_21 : FnOk l.prog w K mg base CX0 5 f18 _ ["lengths"] _ := ok_words (j := 4) F18 G_byLet_6 b3 k3 (PySem.W.mg_of X G a3) (by decide) G_areGood_14 b11 k11 (PySem.W.mg_of X G a11) (by decide) (PySem.W.mg_none_of X G z_sorted) (PySem.W.mg_none_of X G z_enumerate) (PySem.W.mg_of X G v_LONGEST)
  have G_data_22 : FnOk l.prog w K mg base CX0 2 f19 _ ["_law_script", "_law_at", "_law_most"] _ := ok_data (j := 0) F19 G_cell_8 b5 k5 (PySem.W.mg_of X G a5) G_nums_9 b6 k6 (PySem.W.mg_of X G a6) (PySem.W.mg_none_of X G z_len) (PySem.W.mg_none_of X G z_int) (PySem.W.mg_none_of X G z_range)
  have G_items_23 : FnOk l.prog w K mg base CX0 1 f20 _ ["_law_every", "_law_lead", "_law_place", "_law_end"] _ := ok_items (j := 0) F20 (PySem.W.mg_none_of X G z_range) (PySem.W.mg_none_of X G z_min) (PySem.W.mg_none_of X G z_sorted)
  have G_lbits_24 : FnOk l.prog w K mg base CX0 1 f21 _ ["_law_number", "_law_breadth"] _ := ok_lbits (j := 0) F21 (PySem.W.mg_none_of X G z_range) (PySem.W.mg_none_of X G z_int)
  have G_lwords_25 : FnOk l.prog w K mg base CX0 2 f22 _ ["_law_lengths"] _ := ok_lwords (j := 1) F22 G_lbits_24 b21 k21 (PySem.W.mg_of X G a21) (by decide) (PySem.W.mg_none_of X G z_range) (PySem.W.mg_none_of X G z_enumerate)
  have G_copyB_26 : FnOk l.prog w K mg base CX0 1 f23 _ ["whole", "item"] _ := ok_copyB (j := 0) F23 (PySem.W.mg_none_of X G z_range)
  have G_areBytes_27 : FnOk l.prog w K mg base CX0 1 f24 _ ["told", "most"] _ := ok_areBytes (j := 0) F24 (PySem.W.mg_none_of X G z_isinstance) (PySem.W.mg_none_of X G z_bytes) (PySem.W.mg_none_of X G z_len)
  have G_lrowB_28 : FnOk l.prog w K mg base CX0 3 f25 _ ["_law_row", "_law_letters", "_law_backs"] _ := ok_lrowB (j := 2) F25 G_lwords_25 b22 k22 (PySem.W.mg_of X G a22) (by decide) G_back_12 b9 k9 (PySem.W.mg_of X G a9) (by decide) G_lbits_24 b21 k21 (PySem.W.mg_of X G a21) (by decide) (PySem.W.mg_none_of X G z_isinstance) (PySem.W.mg_none_of X G z_int)
  have G_trI_29 : FnOk l.prog w K mg base CX0 6 f26 _ ["self", "lengths"] _ := ok_trI (j := 5) (CT := C_Tree) TTr F26 G_words_21 b18 k18 (PySem.W.mg_of X G a18) (by decide) (PySem.W.mg_none_of X G z_range) (PySem.W.mg_none_of X G z_len)
  have G_hdI_30 : FnOk l.prog w K mg base CX0 1 f27 _ ["self"] _ := ok_hdI (j := 0) (CH := C_Heard) THd F27
  have G_hdH_31 : FnOk l.prog w K mg base CX0 1 f28 _ ["self", "piece"] _ := ok_hdH (j := 0) (CH := C_Heard) THd F28
  have G_hdB_32 : FnOk l.prog w K mg base CX0 1 f29 _ ["self"] _ := ok_hdB (j := 0) (CH := C_Heard) THd F29 (PySem.W.mg_none_of X G z_len)
  have G_hdR_33 : FnOk l.prog w K mg base CX0 1 f30 _ ["self"] _ := ok_hdR (j := 0) (CH := C_Heard) THd F30
  have G_hdN_34 : FnOk l.prog w K mg base (L2N.CX l.prog w) 1 f31 _ ["self", "many"] _ := ok_hdN (j := 0) (CH := C_Heard) (CW := CWa) THd TWa F31 (PySem.W.mg_none_of X G z_len) (PySem.W.mg_none_of X G z_int)
  have G_hdL_35 : FnOk l.prog w K mg base (L2N.CX l.prog w) 1 f32 _ ["self", "tree"] _ := ok_hdL (j := 0) (CH := C_Heard) (CT := C_Tree) (CW := CWa) THd TWa TTr F32 (PySem.W.mg_none_of X G z_range) (PySem.W.mg_none_of X G z_len)
  have G_rgE_36 : FnOk l.prog w K mg base CX0 1 f33 _ ["self"] _ := ok_rgE (j := 0) (CH := C_Heard) (CT := C_Tree) (CR := C_Reading) TRg F33 (PySem.W.mg_of X G v_NEXT_REST) (PySem.W.mg_of X G v_NEXT_BLOCK)
  have G_rgM_37 : FnOk l.prog w K mg base CX0 1 f34 _ ["self", "many"] _ := ok_rgM (j := 0) (CH := C_Heard) (CT := C_Tree) (CR := C_Reading) TRg F34
  have G_rgC_38 : FnOk l.prog w K mg base (L2N.CX l.prog w) 2 f35 _ ["self"] _ := ok_rgC (j := 1) (CH := C_Heard) (CT := C_Tree) (CR := C_Reading) (CW := CWa) TRg THd F35 G_hdN_34 b31 (by decide) (PySem.W.mg_of X G v_PLAIN_BITS) (PySem.W.mg_of X G v_MOST_BYTES) (PySem.W.mg_of X G v_NEXT_PLAIN)
  have G_rgTr_39 : FnOk l.prog w K mg base CX0 8 f36 _ ["self"] _ := ok_rgTr (j := 7) (CH := C_Heard) (CT := C_Tree) (CR := C_Reading) TRg TTr TPr F36 G_toldP_20 b17 k17 (PySem.W.mg_of X G a17) (by decide) G_trI_29 b26 (by decide) G_pLet_17 b14 (by decide) G_pBk_18 b15 (by decide)
  have G_rgP_40 : FnOk l.prog w K mg base (L2N.CX l.prog w) 2 f37 _ ["self"] _ := ok_rgP (j := 1) (CH := C_Heard) (CT := C_Tree) (CR := C_Reading) (CW := CWa) TRg THd F37 G_hdN_34 b31 (by decide) G_rgE_36 b33 (by decide)
  have G_rgB_41 : FnOk l.prog w K mg base (L2N.CX l.prog w) 9 f38 _ ["self"] _ := ok_rgB (j := 8) (CH := C_Heard) (CT := C_Tree) (CR := C_Reading) (CW := CWa) TRg THd F38 G_hdN_34 b31 (by decide) G_rgTr_39 b36 (by decide) (PySem.W.mg_of X G v_LAST_BITS) (PySem.W.mg_of X G v_SORT_BITS) (PySem.W.mg_of X G v_OWN_WORDS) (PySem.W.mg_of X G v_MOST_BYTES) (PySem.W.mg_of X G v_PLAIN) (PySem.W.mg_of X G v_NEXT_COUNT) (PySem.W.mg_of X G v_TOLD_WORDS) (PySem.W.mg_of X G v_NEXT_ITEM) (PySem.W.mg_of X G v_NEXT_RUN)
  have G_lown_42 : FnOk l.prog w K mg base CX0 2 f39 _ ["_law_row"] _ := ok_lown (j := 1) F39 G_back_12 b9 k9 (PySem.W.mg_of X G a9) (by decide) G_ll_7 b4 k4 (PySem.W.mg_of X G a4) (by decide) (PySem.W.mg_none_of X G z_isinstance) (PySem.W.mg_none_of X G z_int)
  have G_rgK_43 : FnOk l.prog w K mg base CX0 8 f40 _ ["self", "letters", "backs"] _ := ok_rgK (j := 7) (CH := C_Heard) (CT := C_Tree) (CR := C_Reading) TRg TTr F40 G_areGood_14 b11 k11 (PySem.W.mg_of X G a11) (by decide) G_trI_29 b26 (by decide) (PySem.W.mg_of X G v_END) (PySem.W.mg_of X G v_NEXT_ITEM)
  have G_rgR_44 : FnOk l.prog w K mg base (L2N.CX l.prog w) 9 f41 _ ["self"] _ := ok_rgR (j := 8) (CH := C_Heard) (CT := C_Tree) (CR := C_Reading) (CW := CWa) TRg THd F41 G_hdN_34 b31 (by decide) G_rgK_43 b40 (by decide) (PySem.W.mg_of X G v_LENGTH_BITS) (PySem.W.mg_of X G v_LONGEST) (PySem.W.mg_of X G v_RUN_BITS) (PySem.W.mg_of X G v_LETTERS) (PySem.W.mg_of X G v_BACKS) (PySem.W.mg_none_of X G z_len)
  have G_rgI_45 : FnOk l.prog w K mg base (L2N.CX l.prog w) 2 f42 _ ["self"] _ := ok_rgI (j := 1) (CH := C_Heard) (CT := C_Tree) (CR := C_Reading) (CW := CWa) TRg THd F42 G_hdN_34 b31 (by decide) G_hdL_35 b32 (by decide) G_rgE_36 b33 (by decide) G_rgM_37 b34 (by decide) G_copyB_26 b23 k23 (PySem.W.mg_of X G a23) (by decide) (PySem.W.mg_of X G v_END) (PySem.W.mg_of X G v_AHEAD_OF_COPIES) (PySem.W.mg_of X G v_FARTHEST) (PySem.W.mg_none_of X G z_len)
  have G_rgS_46 : FnOk l.prog w K mg base (L2N.CX l.prog w) 2 f43 _ ["self"] _ := ok_rgS (j := 1) (CH := C_Heard) (CT := C_Tree) (CR := C_Reading) (CW := CWa) TRg THd F43 G_hdN_34 b31 (by decide) G_hdR_33 b30 (by decide)
  have G_rgN_47 : FnOk l.prog w K mg base (L2N.CX l.prog w) 10 f44 _ ["self"] _ := ok_rgN (j := 9) (CH := C_Heard) (CT := C_Tree) (CR := C_Reading) (CW := CWa) TRg F44 G_rgB_41 b38 (by decide) G_rgC_38 b35 (by decide) G_rgP_40 b37 (by decide) G_rgR_44 b41 (by decide) G_rgI_45 b42 (by decide) G_rgS_46 b43 (by decide) (PySem.W.mg_of X G v_NEXT_ITEM) (PySem.W.mg_of X G v_NEXT_PLAIN) (PySem.W.mg_of X G v_NEXT_RUN) (PySem.W.mg_of X G v_NEXT_BLOCK) (PySem.W.mg_of X G v_NEXT_COUNT)
  have G_HhdG_48 : L2H.FnH l.prog w K mg base CX0 1 f45 _ ["self", "many"] _ := okh_hdG (j := 0) (CH := C_Heard) THd F45
  have G_rgG_49 : FnOk l.prog w K mg base CX0 11 f46 _ ["self"] _ := ok_rgG (j := 10) (CH := C_Heard) (CT := C_Tree) (CR := C_Reading) (CW := CWa) TRg THd TWa (exm_own wa3 wa5 wa4 wa6) F46 G_hdR_33 b30 (by decide) G_rgN_47 b44 (by decide) G_HhdG_48 b45 (by decide)
  have G_rgA_50 : FnOk l.prog w K mg base CX0 3 f47 _ ["self", "ahead"] _ := ok_rgA (j := 2) (CH := C_Heard) (CT := C_Tree) (CR := C_Reading) TRg THd F47 G_hdI_30 b27 (by decide) (PySem.W.mg_of X G v_NEXT_BLOCK) (PySem.W.mg_none_of X G z_len) (PySem.W.mg_none_of X G z_list)
  have G_rgH_51 : FnOk l.prog w K mg base CX0 12 f48 _ ["self", "piece"] _ := ok_rgH (j := 11) (CH := C_Heard) (CT := C_Tree) (CR := C_Reading) TRg THd F48 G_hdH_31 b28 (by decide) G_rgG_49 b46 (by decide)
  have G_rgTo_52 : FnOk l.prog w K mg base CX0 1 f49 _ ["self"] _ := ok_rgTo (j := 0) (CH := C_Heard) (CT := C_Tree) (CR := C_Reading) TRg F49 (PySem.W.mg_none_of X G z_bytes)
  have G_rgMa_53 : FnOk l.prog w K mg base CX0 1 f50 _ ["self"] _ := ok_rgMa (j := 0) (CH := C_Heard) (CT := C_Tree) (CR := C_Reading) TRg F50 (PySem.W.mg_none_of X G z_len)
  have G_rgOv_54 : FnOk l.prog w K mg base CX0 1 f51 _ ["self"] _ := ok_rgOv (j := 0) (CH := C_Heard) (CT := C_Tree) (CR := C_Reading) TRg F51
  have G_rgBi_55 : FnOk l.prog w K mg base CX0 2 f52 _ ["self"] _ := ok_rgBi (j := 1) (CH := C_Heard) (CT := C_Tree) (CR := C_Reading) TRg THd F52 G_hdB_32 b29 (by decide)
  have G_op_56 : FnOk l.prog w K mg base CX0 13 f53 _ ["stream", "ahead"] _ := ok_op (j := 12) (CH := C_Heard) (CT := C_Tree) (CR := C_Reading) TRg F53 G_areBytes_27 b24 k24 (PySem.W.mg_of X G a24) (by decide) G_rgA_50 b47 (by decide) G_rgH_51 b48 (by decide) G_rgOv_54 b51 (by decide) G_rgTo_52 b49 (by decide) (PySem.W.mg_of X G v_MOST_AHEAD) (PySem.W.mg_of X G v_PIECE_BYTES) (PySem.W.mg_none_of X G z_isinstance) (PySem.W.mg_none_of X G z_bytes) (PySem.W.mg_none_of X G z_range) (PySem.W.mg_none_of X G z_len)
  have G_rdI_57 : FnOk l.prog w K mg base CX0 5 f54 _ ["self", "ahead"] _ := ok_rdI (j := 4) (CH := C_Heard) (CT := C_Tree) (CR := C_Reading) (CD := C_Reader) TRg TRd F54 G_areBytes_27 b24 k24 (PySem.W.mg_of X G a24) (by decide) G_rgA_50 b47 (by decide) (PySem.W.mg_of X G v_MOST_AHEAD)
  have G_rdH_58 : FnOk l.prog w K mg base CX0 13 f55 _ ["self", "told"] _ := ok_rdH (j := 12) (CH := C_Heard) (CT := C_Tree) (CR := C_Reading) (CD := C_Reader) TRg TRd F55 G_rgMa_53 b50 (by decide) G_rgH_51 b48 (by decide) (PySem.W.mg_none_of X G z_isinstance) (PySem.W.mg_none_of X G z_bytes)
  have G_rdK_59 : FnOk l.prog w K mg base CX0 2 f56 _ ["self"] _ := ok_rdK (j := 1) (CH := C_Heard) (CT := C_Tree) (CR := C_Reading) (CD := C_Reader) TRg TRd F56 G_rgTo_52 b49 (by decide)
  have G_rdO_60 : FnOk l.prog w K mg base CX0 2 f57 _ ["self"] _ := ok_rdO (j := 1) (CH := C_Heard) (CT := C_Tree) (CR := C_Reading) (CD := C_Reader) TRg TRd F57 G_rgOv_54 b51 (by decide)
  have G_rdB_61 : FnOk l.prog w K mg base CX0 3 f58 _ ["self"] _ := ok_rdB (j := 2) (CH := C_Heard) (CT := C_Tree) (CR := C_Reading) (CD := C_Reader) TRg TRd F58 G_rgBi_55 b52 (by decide)
  have G_ar_62 : FnOk l.prog w K mg base CX0 2 f59 _ ["_law_script", "_law_at", "_law_every", "_law_begin", "_law_end"] _ := ok_ar (j := 1) F59 G_items_23 b20 k20 (PySem.W.mg_of X G a20) (by decide) G_cell_8 b5 k5 (PySem.W.mg_of X G a5) (by decide) (PySem.W.mg_none_of X G z_int) (PySem.W.mg_none_of X G z_len) (PySem.W.mg_none_of X G z_isinstance)
  have G_ah_63 : FnOk l.prog w K mg base CX0 2 f60 _ ["_law_script", "_law_at", "_law_lengths"] _ := ok_ah (j := 1) F60 G_lbits_24 b21 k21 (PySem.W.mg_of X G a21) (by decide) G_cell_8 b5 k5 (PySem.W.mg_of X G a5) (by decide) (PySem.W.mg_none_of X G z_int) (PySem.W.mg_none_of X G z_len) (PySem.W.mg_none_of X G z_max)
  have G_st_64 : FnOk l.prog w K mg base CX0 4 f61 _ ["_law_script", "_law_at", "_law_lead", "_law_numbers_here"] _ := ok_st (j := 3) F61 G_cell_8 b5 k5 (PySem.W.mg_of X G a5) (by decide) G_ar_62 b59 k59 (PySem.W.mg_of X G a59) (by decide) G_lbits_24 b21 k21 (PySem.W.mg_of X G a21) (by decide) G_told_13 b10 k10 (PySem.W.mg_of X G a10) (by decide) G_lrowB_28 b25 k25 (PySem.W.mg_of X G a25) (by decide) G_lown_42 b39 k39 (PySem.W.mg_of X G a39) (by decide) G_ah_63 b60 k60 (PySem.W.mg_of X G a60) (by decide) (PySem.W.mg_none_of X G z_int) (PySem.W.mg_none_of X G z_len) (PySem.W.mg_none_of X G z_range)
  have G_al_65 : FnOk l.prog w K mg base CX0 14 f62 _ ["_law_script"] _ := ok_al (j := 13) (CH := C_Heard) (CT := C_Tree) (CR := C_Reading) (CD := C_Reader) TRd F62 G_data_22 b19 k19 (PySem.W.mg_of X G a19) (by decide) G_cell_8 b5 k5 (PySem.W.mg_of X G a5) (by decide) G_st_64 b61 k61 (PySem.W.mg_of X G a61) (by decide) G_ofHex_10 b7 k7 (PySem.W.mg_of X G a7) (by decide) G_hex_11 b8 k8 (PySem.W.mg_of X G a8) (by decide) F53 G_op_56 (PySem.W.mg_of X G a53) (by decide) F54 G_rdI_57 (by decide) G_rdH_58 b55 (by decide) G_rdK_59 b56 (by decide) G_rdO_60 b57 (by decide) G_rdB_61 b58 (by decide) (PySem.W.mg_none_of X G z_int) (PySem.W.mg_none_of X G z_len) (PySem.W.mg_none_of X G z_range) (PySem.W.mg_none_of X G z_sum) (PySem.W.mg_none_of X G z_list) (PySem.W.mg_none_of X G z_min)
  have G_law_66 : FnOk l.prog w K mg base CX0 15 fa _ ["_law_script"] _ := ok_law (j := 14) F63 G_al_65 b62 k62 (PySem.W.mg_of X G a62) (by decide)
  exact G_law_66
end K7

open PySem PySem.W PyProof.Rows
set_option maxHeartbeats 0 in
theorem PySem.Challenge.cw_presshouse_k07_whole_read_holds : PySem.Challenge.rw_presshouse_k07_whole_read.Holds := by
  w_on; o_law; k_head; (case hw => w_witness2)
  k_fill
  refine L2.walk_ofK (l := PySem.Challenge.rw_presshouse_k07_whole_read) (n := 63) (k := 15) (x := "_law_script") (CX := L2.CX0) (sp := K7.spAl) rfl (by decide) rfl ⟨rfl, by decide, by decide⟩ (fun w h Y => PySem.W.kIn_of Y) ?F (fun K H a ns hl hO hS => ⟨a, ns, rfl, hS, fun _ => rfl⟩) (fun _ _ _ _ z => z)
  case F =>
    intro w mg fa h KX G hmg
    refine' K7.all_mk KX G hmg ?a0 ?l0 ?c0 ?k0 ?a1 ?l1 ?c1 ?k1 ?a2 ?l2 ?c2 ?k2 ?a3 ?l3 ?c3 ?k3 ?a4 ?l4 ?c4 ?k4 ?a5 ?l5 ?c5 ?k5 ?a6 ?l6 ?c6 ?k6 ?a7 ?l7 ?c7 ?k7 ?a8 ?l8 ?c8 ?k8 ?a9 ?l9 ?c9 ?k9 ?a10 ?l10 ?c10 ?k10 ?a11 ?l11 ?c11 ?k11 ?a12 ?l12 ?c12 ?k12 ?m13 ?n13 ?l13 ?c13 ?k13 ?m14 ?n14 ?l14 ?c14 ?k14 ?m15 ?n15 ?l15 ?c15 ?k15 ?a16 ?l16 ?c16 ?k16 ?a17 ?l17 ?c17 ?k17 ?a18 ?l18 ?c18 ?k18 ?a19 ?l19 ?c19 ?k19 ?a20 ?l20 ?c20 ?k20 ?a21 ?l21 ?c21 ?k21 ?a22 ?l22 ?c22 ?k22 ?a23 ?l23 ?c23 ?k23 ?a24 ?l24 ?c24 ?k24 ?a25 ?l25 ?c25 ?k25 ?m26 ?n26 ?l26 ?c26 ?k26 ?m27 ?n27 ?l27 ?c27 ?k27 ?m28 ?n28 ?l28 ?c28 ?k28 ?m29 ?n29 ?l29 ?c29 ?k29 ?m30 ?n30 ?l30 ?c30 ?k30 ?m31 ?n31 ?l31 ?c31 ?k31 ?m32 ?n32 ?l32 ?c32 ?k32 ?m33 ?n33 ?l33 ?c33 ?k33 ?m34 ?n34 ?l34 ?c34 ?k34 ?m35 ?n35 ?l35 ?c35 ?k35 ?m36 ?n36 ?l36 ?c36 ?k36 ?m37 ?n37 ?l37 ?c37 ?k37 ?m38 ?n38 ?l38 ?c38 ?k38 ?a39 ?l39 ?c39 ?k39 ?m40 ?n40 ?l40 ?c40 ?k40 ?m41 ?n41 ?l41 ?c41 ?k41 ?m42 ?n42 ?l42 ?c42 ?k42 ?m43 ?n43 ?l43 ?c43 ?k43 ?m44 ?n44 ?l44 ?c44 ?k44 ?m45 ?n45 ?l45 ?c45 ?k45 ?m46 ?n46 ?l46 ?c46 ?k46 ?m47 ?n47 ?l47 ?c47 ?k47 ?m48 ?n48 ?l48 ?c48 ?k48 ?m49 ?n49 ?l49 ?c49 ?k49 ?m50 ?n50 ?l50 ?c50 ?k50 ?m51 ?n51 ?l51 ?c51 ?k51 ?m52 ?n52 ?l52 ?c52 ?k52 ?a53 ?l53 ?c53 ?k53 ?m54 ?n54 ?l54 ?c54 ?k54 ?m55 ?n55 ?l55 ?c55 ?k55 ?m56 ?n56 ?l56 ?c56 ?k56 ?m57 ?n57 ?l57 ?c57 ?k57 ?m58 ?n58 ?l58 ?c58 ?k58 ?a59 ?l59 ?c59 ?k59 ?a60 ?l60 ?c60 ?k60 ?a61 ?l61 ?c61 ?k61 ?a62 ?l62 ?c62 ?k62 ?a63 ?l63 ?c63 ?k63 ?aC_Prices ?pg_Prices ?hd_Prices ?po_Prices ?sa_Prices ?mk_Prices ?kp_Prices ?at__letters_Prices ?at__backs_Prices ?cc_Prices ?mr_Prices ?ki_Prices ?aC_Tree ?pg_Tree ?hd_Tree ?po_Tree ?sa_Tree ?mk_Tree ?kp_Tree ?at_by_word_Tree ?at_begun_Tree ?aC_Heard ?pg_Heard ?hd_Heard ?po_Heard ?sa_Heard ?mk_Heard ?kp_Heard ?at__left_out_Heard ?at__text_Heard ?at__at_Heard ?aC_Reading ?pg_Reading ?hd_Reading ?po_Reading ?sa_Reading ?mk_Reading ?kp_Reading ?at__heard_Reading ?at__ahead_Reading ?at__whole_Reading ?at__next_Reading ?at__is_last_Reading ?at__left_Reading ?at__lengths_Reading ?at__letters_Reading ?at__backs_Reading ?at__told_Reading ?at__over_Reading ?at__slip_Reading ?aC_Reader ?pg_Reader ?hd_Reader ?po_Reader ?sa_Reader ?mk_Reader ?kp_Reader ?at__reading_Reader ?s0 ?sp9 ?sp10 ?wa0 ?wa1 ?wa2 ?wa3 ?wa4 ?wa5 ?wa6 ?r0 ?r1 ?r2 ?r3 ?q0 ?q1 ?q2 ?q3 ?z_isinstance ?z_bool ?z_int ?z_list ?z_all ?z_len ?z_enumerate ?z_range ?z_sorted ?z_str ?z_bytes ?z_sum ?z_min ?z_max ?v_FEWEST_LETTERS ?v_MOST_LETTERS ?v_LONGEST ?v_LETTERS ?v_BACKS ?v_NEXT_REST ?v_NEXT_BLOCK ?v_PLAIN_BITS ?v_MOST_BYTES ?v_NEXT_PLAIN ?v_LAST_BITS ?v_SORT_BITS ?v_OWN_WORDS ?v_PLAIN ?v_NEXT_COUNT ?v_TOLD_WORDS ?v_NEXT_ITEM ?v_NEXT_RUN ?v_END ?v_LENGTH_BITS ?v_RUN_BITS ?v_AHEAD_OF_COPIES ?v_FARTHEST ?v_MOST_AHEAD ?v_PIECE_BYTES
    (case aC_Prices => first | k_is | kernel_rfl | rfl | decide +kernel)
    (case aC_Tree => first | k_is | kernel_rfl | rfl | decide +kernel)
    (case aC_Heard => first | k_is | kernel_rfl | rfl | decide +kernel)
    (case aC_Reading => first | k_is | kernel_rfl | rfl | decide +kernel)
    (case aC_Reader => first | k_is | kernel_rfl | rfl | decide +kernel)
    (case a0 => first | k_is | kernel_rfl | rfl | decide +kernel)
    (case l0 => first | k_is | kernel_rfl | rfl | decide +kernel)
    (case c0 => first | k_is | kernel_rfl | rfl | decide +kernel)
    (case k0 => first | k_is | kernel_rfl | rfl | decide +kernel)
    (case a1 => first | k_is | kernel_rfl | rfl | decide +kernel)
    (case l1 => first | k_is | kernel_rfl | rfl | decide +kernel)
    (case c1 => first | k_is | kernel_rfl | rfl | decide +kernel)
    (case k1 => first | k_is | kernel_rfl | rfl | decide +kernel)
    (case a2 => first | k_is | kernel_rfl | rfl | decide +kernel)
    (case l2 => first | k_is | kernel_rfl | rfl | decide +kernel)
    (case c2 => first | k_is | kernel_rfl | rfl | decide +kernel)
    (case k2 => first | k_is | kernel_rfl | rfl | decide +kernel)
    (case a3 => first | k_is | kernel_rfl | rfl | decide +kernel)
    (case l3 => first | k_is | kernel_rfl | rfl | decide +kernel)
    (case c3 => first | k_is | kernel_rfl | rfl | decide +kernel)
    (case k3 => first | k_is | kernel_rfl | rfl | decide +kernel)
    (case a4 => first | k_is | kernel_rfl | rfl | decide +kernel)
    (case l4 => first | k_is | kernel_rfl | rfl | decide +kernel)
    (case c4 => first | k_is | kernel_rfl | rfl | decide +kernel)
    (case k4 => first | k_is | kernel_rfl | rfl | decide +kernel)
    (case a5 => first | k_is | kernel_rfl | rfl | decide +kernel)
    (case l5 => first | k_is | kernel_rfl | rfl | decide +kernel)
    (case c5 => first | k_is | kernel_rfl | rfl | decide +kernel)
    (case k5 => first | k_is | kernel_rfl | rfl | decide +kernel)
    (case a6 => first | k_is | kernel_rfl | rfl | decide +kernel)
    (case l6 => first | k_is | kernel_rfl | rfl | decide +kernel)
    (case c6 => first | k_is | kernel_rfl | rfl | decide +kernel)
    (case k6 => first | k_is | kernel_rfl | rfl | decide +kernel)
    (case a7 => first | k_is | kernel_rfl | rfl | decide +kernel)
    (case l7 => first | k_is | kernel_rfl | rfl | decide +kernel)
    (case c7 => first | k_is | kernel_rfl | rfl | decide +kernel)
    (case k7 => first | k_is | kernel_rfl | rfl | decide +kernel)
    (case a8 => first | k_is | kernel_rfl | rfl | decide +kernel)
    (case l8 => first | k_is | kernel_rfl | rfl | decide +kernel)
    (case c8 => first | k_is | kernel_rfl | rfl | decide +kernel)
    (case k8 => first | k_is | kernel_rfl | rfl | decide +kernel)
    (case a9 => first | k_is | kernel_rfl | rfl | decide +kernel)
    (case l9 => first | k_is | kernel_rfl | rfl | decide +kernel)
    (case c9 => first | k_is | kernel_rfl | rfl | decide +kernel)
    (case k9 => first | k_is | kernel_rfl | rfl | decide +kernel)
    (case a10 => first | k_is | kernel_rfl | rfl | decide +kernel)
    (case l10 => first | k_is | kernel_rfl | rfl | decide +kernel)
    (case c10 => first | k_is | kernel_rfl | rfl | decide +kernel)
    (case k10 => first | k_is | kernel_rfl | rfl | decide +kernel)
    (case a11 => first | k_is | kernel_rfl | rfl | decide +kernel)
    (case l11 => first | k_is | kernel_rfl | rfl | decide +kernel)
    (case c11 => first | k_is | kernel_rfl | rfl | decide +kernel)
    (case k11 => first | k_is | kernel_rfl | rfl | decide +kernel)
    (case a12 => first | k_is | kernel_rfl | rfl | decide +kernel)
    (case l12 => first | k_is | kernel_rfl | rfl | decide +kernel)
    (case c12 => first | k_is | kernel_rfl | rfl | decide +kernel)
    (case k12 => first | k_is | kernel_rfl | rfl | decide +kernel)
    (case a16 => first | k_is | kernel_rfl | rfl | decide +kernel)
    (case l16 => first | k_is | kernel_rfl | rfl | decide +kernel)
    (case c16 => first | k_is | kernel_rfl | rfl | decide +kernel)
    (case k16 => first | k_is | kernel_rfl | rfl | decide +kernel)
    (case a17 => first | k_is | kernel_rfl | rfl | decide +kernel)
    (case l17 => first | k_is | kernel_rfl | rfl | decide +kernel)
    (case c17 => first | k_is | kernel_rfl | rfl | decide +kernel)
    (case k17 => first | k_is | kernel_rfl | rfl | decide +kernel)
    (case a18 => first | k_is | kernel_rfl | rfl | decide +kernel)
    (case l18 => first | k_is | kernel_rfl | rfl | decide +kernel)
    (case c18 => first | k_is | kernel_rfl | rfl | decide +kernel)
    (case k18 => first | k_is | kernel_rfl | rfl | decide +kernel)
    (case a19 => first | k_is | kernel_rfl | rfl | decide +kernel)
    (case l19 => first | k_is | kernel_rfl | rfl | decide +kernel)
    (case c19 => first | k_is | kernel_rfl | rfl | decide +kernel)
    (case k19 => first | k_is | kernel_rfl | rfl | decide +kernel)
    (case a20 => first | k_is | kernel_rfl | rfl | decide +kernel)
    (case l20 => first | k_is | kernel_rfl | rfl | decide +kernel)
    (case c20 => first | k_is | kernel_rfl | rfl | decide +kernel)
    (case k20 => first | k_is | kernel_rfl | rfl | decide +kernel)
    (case a21 => first | k_is | kernel_rfl | rfl | decide +kernel)
    (case l21 => first | k_is | kernel_rfl | rfl | decide +kernel)
    (case c21 => first | k_is | kernel_rfl | rfl | decide +kernel)
    (case k21 => first | k_is | kernel_rfl | rfl | decide +kernel)
    (case a22 => first | k_is | kernel_rfl | rfl | decide +kernel)
    (case l22 => first | k_is | kernel_rfl | rfl | decide +kernel)
    (case c22 => first | k_is | kernel_rfl | rfl | decide +kernel)
    (case k22 => first | k_is | kernel_rfl | rfl | decide +kernel)
    (case a23 => first | k_is | kernel_rfl | rfl | decide +kernel)
    (case l23 => first | k_is | kernel_rfl | rfl | decide +kernel)
    (case c23 => first | k_is | kernel_rfl | rfl | decide +kernel)
    (case k23 => first | k_is | kernel_rfl | rfl | decide +kernel)
    (case a24 => first | k_is | kernel_rfl | rfl | decide +kernel)
    (case l24 => first | k_is | kernel_rfl | rfl | decide +kernel)
    (case c24 => first | k_is | kernel_rfl | rfl | decide +kernel)
    (case k24 => first | k_is | kernel_rfl | rfl | decide +kernel)
    (case a25 => first | k_is | kernel_rfl | rfl | decide +kernel)
    (case l25 => first | k_is | kernel_rfl | rfl | decide +kernel)
    (case c25 => first | k_is | kernel_rfl | rfl | decide +kernel)
    (case k25 => first | k_is | kernel_rfl | rfl | decide +kernel)
    (case a39 => first | k_is | kernel_rfl | rfl | decide +kernel)
    (case l39 => first | k_is | kernel_rfl | rfl | decide +kernel)
    (case c39 => first | k_is | kernel_rfl | rfl | decide +kernel)
    (case k39 => first | k_is | kernel_rfl | rfl | decide +kernel)
    (case a53 => first | k_is | kernel_rfl | rfl | decide +kernel)
    (case l53 => first | k_is | kernel_rfl | rfl | decide +kernel)
    (case c53 => first | k_is | kernel_rfl | rfl | decide +kernel)
    (case k53 => first | k_is | kernel_rfl | rfl | decide +kernel)
    (case a59 => first | k_is | kernel_rfl | rfl | decide +kernel)
    (case l59 => first | k_is | kernel_rfl | rfl | decide +kernel)
    (case c59 => first | k_is | kernel_rfl | rfl | decide +kernel)
    (case k59 => first | k_is | kernel_rfl | rfl | decide +kernel)
    (case a60 => first | k_is | kernel_rfl | rfl | decide +kernel)
    (case l60 => first | k_is | kernel_rfl | rfl | decide +kernel)
    (case c60 => first | k_is | kernel_rfl | rfl | decide +kernel)
    (case k60 => first | k_is | kernel_rfl | rfl | decide +kernel)
    (case a61 => first | k_is | kernel_rfl | rfl | decide +kernel)
    (case l61 => first | k_is | kernel_rfl | rfl | decide +kernel)
    (case c61 => first | k_is | kernel_rfl | rfl | decide +kernel)
    (case k61 => first | k_is | kernel_rfl | rfl | decide +kernel)
    (case a62 => first | k_is | kernel_rfl | rfl | decide +kernel)
    (case l62 => first | k_is | kernel_rfl | rfl | decide +kernel)
    (case c62 => first | k_is | kernel_rfl | rfl | decide +kernel)
    (case k62 => first | k_is | kernel_rfl | rfl | decide +kernel)
    (case a63 => first | k_is | kernel_rfl | rfl | decide +kernel)
    (case l63 => first | k_is | kernel_rfl | rfl | decide +kernel)
    (case c63 => first | k_is | kernel_rfl | rfl | decide +kernel)
    (case k63 => first | k_is | kernel_rfl | rfl | decide +kernel)
    (case pg_Prices => first | k_is | kernel_rfl | rfl | decide +kernel)
    (case hd_Prices => first | k_is | kernel_rfl | rfl | decide +kernel)
    (case po_Prices => first | k_is | kernel_rfl | rfl | decide +kernel)
    (case sa_Prices => first | k_is | kernel_rfl | rfl | decide +kernel)
    (case mk_Prices => first | k_is | kernel_rfl | rfl | decide +kernel)
    (case kp_Prices => first | k_is | kernel_rfl | rfl | decide +kernel)
    (case at__letters_Prices => first | k_is | kernel_rfl | rfl | decide +kernel)
    (case at__backs_Prices => first | k_is | kernel_rfl | rfl | decide +kernel)
    (case cc_Prices => first | k_is | kernel_rfl | rfl | decide +kernel)
    (case mr_Prices => first | k_is | kernel_rfl | rfl | decide +kernel)
    (case ki_Prices => first | k_is | kernel_rfl | rfl | decide +kernel)
    (case pg_Tree => first | k_is | kernel_rfl | rfl | decide +kernel)
    (case hd_Tree => first | k_is | kernel_rfl | rfl | decide +kernel)
    (case po_Tree => first | k_is | kernel_rfl | rfl | decide +kernel)
    (case sa_Tree => first | k_is | kernel_rfl | rfl | decide +kernel)
    (case mk_Tree => first | k_is | kernel_rfl | rfl | decide +kernel)
    (case kp_Tree => first | k_is | kernel_rfl | rfl | decide +kernel)
    (case at_by_word_Tree => first | k_is | kernel_rfl | rfl | decide +kernel)
    (case at_begun_Tree => first | k_is | kernel_rfl | rfl | decide +kernel)
    (case pg_Heard => first | k_is | kernel_rfl | rfl | decide +kernel)
    (case hd_Heard => first | k_is | kernel_rfl | rfl | decide +kernel)
    (case po_Heard => first | k_is | kernel_rfl | rfl | decide +kernel)
    (case sa_Heard => first | k_is | kernel_rfl | rfl | decide +kernel)
    (case mk_Heard => first | k_is | kernel_rfl | rfl | decide +kernel)
    (case kp_Heard => first | k_is | kernel_rfl | rfl | decide +kernel)
    (case at__left_out_Heard => first | k_is | kernel_rfl | rfl | decide +kernel)
    (case at__text_Heard => first | k_is | kernel_rfl | rfl | decide +kernel)
    (case at__at_Heard => first | k_is | kernel_rfl | rfl | decide +kernel)
    (case pg_Reading => first | k_is | kernel_rfl | rfl | decide +kernel)
    (case hd_Reading => first | k_is | kernel_rfl | rfl | decide +kernel)
    (case po_Reading => first | k_is | kernel_rfl | rfl | decide +kernel)
    (case sa_Reading => first | k_is | kernel_rfl | rfl | decide +kernel)
    (case mk_Reading => first | k_is | kernel_rfl | rfl | decide +kernel)
    (case kp_Reading => first | k_is | kernel_rfl | rfl | decide +kernel)
    (case at__heard_Reading => first | k_is | kernel_rfl | rfl | decide +kernel)
    (case at__ahead_Reading => first | k_is | kernel_rfl | rfl | decide +kernel)
    (case at__whole_Reading => first | k_is | kernel_rfl | rfl | decide +kernel)
    (case at__next_Reading => first | k_is | kernel_rfl | rfl | decide +kernel)
    (case at__is_last_Reading => first | k_is | kernel_rfl | rfl | decide +kernel)
    (case at__left_Reading => first | k_is | kernel_rfl | rfl | decide +kernel)
    (case at__lengths_Reading => first | k_is | kernel_rfl | rfl | decide +kernel)
    (case at__letters_Reading => first | k_is | kernel_rfl | rfl | decide +kernel)
    (case at__backs_Reading => first | k_is | kernel_rfl | rfl | decide +kernel)
    (case at__told_Reading => first | k_is | kernel_rfl | rfl | decide +kernel)
    (case at__over_Reading => first | k_is | kernel_rfl | rfl | decide +kernel)
    (case at__slip_Reading => first | k_is | kernel_rfl | rfl | decide +kernel)
    (case pg_Reader => first | k_is | kernel_rfl | rfl | decide +kernel)
    (case hd_Reader => first | k_is | kernel_rfl | rfl | decide +kernel)
    (case po_Reader => first | k_is | kernel_rfl | rfl | decide +kernel)
    (case sa_Reader => first | k_is | kernel_rfl | rfl | decide +kernel)
    (case mk_Reader => first | k_is | kernel_rfl | rfl | decide +kernel)
    (case kp_Reader => first | k_is | kernel_rfl | rfl | decide +kernel)
    (case at__reading_Reader => first | k_is | kernel_rfl | rfl | decide +kernel)
    (case m13 => first | k_is | kernel_rfl | rfl | decide +kernel)
    (case n13 => first | k_is | kernel_rfl | rfl | decide +kernel)
    (case l13 => first | k_is | kernel_rfl | rfl | decide +kernel)
    (case c13 => first | k_is | kernel_rfl | rfl | decide +kernel)
    (case k13 => first | k_is | kernel_rfl | rfl | decide +kernel)
    (case m14 => first | k_is | kernel_rfl | rfl | decide +kernel)
    (case n14 => first | k_is | kernel_rfl | rfl | decide +kernel)
    (case l14 => first | k_is | kernel_rfl | rfl | decide +kernel)
    (case c14 => first | k_is | kernel_rfl | rfl | decide +kernel)
    (case k14 => first | k_is | kernel_rfl | rfl | decide +kernel)
    (case m15 => first | k_is | kernel_rfl | rfl | decide +kernel)
    (case n15 => first | k_is | kernel_rfl | rfl | decide +kernel)
    (case l15 => first | k_is | kernel_rfl | rfl | decide +kernel)
    (case c15 => first | k_is | kernel_rfl | rfl | decide +kernel)
    (case k15 => first | k_is | kernel_rfl | rfl | decide +kernel)
    (case m26 => first | k_is | kernel_rfl | rfl | decide +kernel)
    (case n26 => first | k_is | kernel_rfl | rfl | decide +kernel)
    (case l26 => first | k_is | kernel_rfl | rfl | decide +kernel)
    (case c26 => first | k_is | kernel_rfl | rfl | decide +kernel)
    (case k26 => first | k_is | kernel_rfl | rfl | decide +kernel)
    (case m27 => first | k_is | kernel_rfl | rfl | decide +kernel)
    (case n27 => first | k_is | kernel_rfl | rfl | decide +kernel)
    (case l27 => first | k_is | kernel_rfl | rfl | decide +kernel)
    (case c27 => first | k_is | kernel_rfl | rfl | decide +kernel)
    (case k27 => first | k_is | kernel_rfl | rfl | decide +kernel)
    (case m28 => first | k_is | kernel_rfl | rfl | decide +kernel)
    (case n28 => first | k_is | kernel_rfl | rfl | decide +kernel)
    (case l28 => first | k_is | kernel_rfl | rfl | decide +kernel)
    (case c28 => first | k_is | kernel_rfl | rfl | decide +kernel)
    (case k28 => first | k_is | kernel_rfl | rfl | decide +kernel)
    (case m29 => first | k_is | kernel_rfl | rfl | decide +kernel)
    (case n29 => first | k_is | kernel_rfl | rfl | decide +kernel)
    (case l29 => first | k_is | kernel_rfl | rfl | decide +kernel)
    (case c29 => first | k_is | kernel_rfl | rfl | decide +kernel)
    (case k29 => first | k_is | kernel_rfl | rfl | decide +kernel)
    (case m30 => first | k_is | kernel_rfl | rfl | decide +kernel)
    (case n30 => first | k_is | kernel_rfl | rfl | decide +kernel)
    (case l30 => first | k_is | kernel_rfl | rfl | decide +kernel)
    (case c30 => first | k_is | kernel_rfl | rfl | decide +kernel)
    (case k30 => first | k_is | kernel_rfl | rfl | decide +kernel)
    (case m31 => first | k_is | kernel_rfl | rfl | decide +kernel)
    (case n31 => first | k_is | kernel_rfl | rfl | decide +kernel)
    (case l31 => first | k_is | kernel_rfl | rfl | decide +kernel)
    (case c31 => first | k_is | kernel_rfl | rfl | decide +kernel)
    (case k31 => first | k_is | kernel_rfl | rfl | decide +kernel)
    (case m32 => first | k_is | kernel_rfl | rfl | decide +kernel)
    (case n32 => first | k_is | kernel_rfl | rfl | decide +kernel)
    (case l32 => first | k_is | kernel_rfl | rfl | decide +kernel)
    (case c32 => first | k_is | kernel_rfl | rfl | decide +kernel)
    (case k32 => first | k_is | kernel_rfl | rfl | decide +kernel)
    (case m33 => first | k_is | kernel_rfl | rfl | decide +kernel)
    (case n33 => first | k_is | kernel_rfl | rfl | decide +kernel)
    (case l33 => first | k_is | kernel_rfl | rfl | decide +kernel)
    (case c33 => first | k_is | kernel_rfl | rfl | decide +kernel)
    (case k33 => first | k_is | kernel_rfl | rfl | decide +kernel)
    (case m34 => first | k_is | kernel_rfl | rfl | decide +kernel)
    (case n34 => first | k_is | kernel_rfl | rfl | decide +kernel)
    (case l34 => first | k_is | kernel_rfl | rfl | decide +kernel)
    (case c34 => first | k_is | kernel_rfl | rfl | decide +kernel)
    (case k34 => first | k_is | kernel_rfl | rfl | decide +kernel)
    (case m35 => first | k_is | kernel_rfl | rfl | decide +kernel)
    (case n35 => first | k_is | kernel_rfl | rfl | decide +kernel)
    (case l35 => first | k_is | kernel_rfl | rfl | decide +kernel)
    (case c35 => first | k_is | kernel_rfl | rfl | decide +kernel)
    (case k35 => first | k_is | kernel_rfl | rfl | decide +kernel)
    (case m36 => first | k_is | kernel_rfl | rfl | decide +kernel)
    (case n36 => first | k_is | kernel_rfl | rfl | decide +kernel)
    (case l36 => first | k_is | kernel_rfl | rfl | decide +kernel)
    (case c36 => first | k_is | kernel_rfl | rfl | decide +kernel)
    (case k36 => first | k_is | kernel_rfl | rfl | decide +kernel)
    (case m37 => first | k_is | kernel_rfl | rfl | decide +kernel)
    (case n37 => first | k_is | kernel_rfl | rfl | decide +kernel)
    (case l37 => first | k_is | kernel_rfl | rfl | decide +kernel)
    (case c37 => first | k_is | kernel_rfl | rfl | decide +kernel)
    (case k37 => first | k_is | kernel_rfl | rfl | decide +kernel)
    (case m38 => first | k_is | kernel_rfl | rfl | decide +kernel)
    (case n38 => first | k_is | kernel_rfl | rfl | decide +kernel)
    (case l38 => first | k_is | kernel_rfl | rfl | decide +kernel)
    (case c38 => first | k_is | kernel_rfl | rfl | decide +kernel)
    (case k38 => first | k_is | kernel_rfl | rfl | decide +kernel)
    (case m40 => first | k_is | kernel_rfl | rfl | decide +kernel)
    (case n40 => first | k_is | kernel_rfl | rfl | decide +kernel)
    (case l40 => first | k_is | kernel_rfl | rfl | decide +kernel)
    (case c40 => first | k_is | kernel_rfl | rfl | decide +kernel)
    (case k40 => first | k_is | kernel_rfl | rfl | decide +kernel)
    (case m41 => first | k_is | kernel_rfl | rfl | decide +kernel)
    (case n41 => first | k_is | kernel_rfl | rfl | decide +kernel)
    (case l41 => first | k_is | kernel_rfl | rfl | decide +kernel)
    (case c41 => first | k_is | kernel_rfl | rfl | decide +kernel)
    (case k41 => first | k_is | kernel_rfl | rfl | decide +kernel)
    (case m42 => first | k_is | kernel_rfl | rfl | decide +kernel)
    (case n42 => first | k_is | kernel_rfl | rfl | decide +kernel)
    (case l42 => first | k_is | kernel_rfl | rfl | decide +kernel)
    (case c42 => first | k_is | kernel_rfl | rfl | decide +kernel)
    (case k42 => first | k_is | kernel_rfl | rfl | decide +kernel)
    (case m43 => first | k_is | kernel_rfl | rfl | decide +kernel)
    (case n43 => first | k_is | kernel_rfl | rfl | decide +kernel)
    (case l43 => first | k_is | kernel_rfl | rfl | decide +kernel)
    (case c43 => first | k_is | kernel_rfl | rfl | decide +kernel)
    (case k43 => first | k_is | kernel_rfl | rfl | decide +kernel)
    (case m44 => first | k_is | kernel_rfl | rfl | decide +kernel)
    (case n44 => first | k_is | kernel_rfl | rfl | decide +kernel)
    (case l44 => first | k_is | kernel_rfl | rfl | decide +kernel)
    (case c44 => first | k_is | kernel_rfl | rfl | decide +kernel)
    (case k44 => first | k_is | kernel_rfl | rfl | decide +kernel)
    (case m45 => first | k_is | kernel_rfl | rfl | decide +kernel)
    (case n45 => first | k_is | kernel_rfl | rfl | decide +kernel)
    (case l45 => first | k_is | kernel_rfl | rfl | decide +kernel)
    (case c45 => first | k_is | kernel_rfl | rfl | decide +kernel)
    (case k45 => first | k_is | kernel_rfl | rfl | decide +kernel)
    (case m46 => first | k_is | kernel_rfl | rfl | decide +kernel)
    (case n46 => first | k_is | kernel_rfl | rfl | decide +kernel)
    (case l46 => first | k_is | kernel_rfl | rfl | decide +kernel)
    (case c46 => first | k_is | kernel_rfl | rfl | decide +kernel)
    (case k46 => first | k_is | kernel_rfl | rfl | decide +kernel)
    (case m47 => first | k_is | kernel_rfl | rfl | decide +kernel)
    (case n47 => first | k_is | kernel_rfl | rfl | decide +kernel)
    (case l47 => first | k_is | kernel_rfl | rfl | decide +kernel)
    (case c47 => first | k_is | kernel_rfl | rfl | decide +kernel)
    (case k47 => first | k_is | kernel_rfl | rfl | decide +kernel)
    (case m48 => first | k_is | kernel_rfl | rfl | decide +kernel)
    (case n48 => first | k_is | kernel_rfl | rfl | decide +kernel)
    (case l48 => first | k_is | kernel_rfl | rfl | decide +kernel)
    (case c48 => first | k_is | kernel_rfl | rfl | decide +kernel)
    (case k48 => first | k_is | kernel_rfl | rfl | decide +kernel)
    (case m49 => first | k_is | kernel_rfl | rfl | decide +kernel)
    (case n49 => first | k_is | kernel_rfl | rfl | decide +kernel)
    (case l49 => first | k_is | kernel_rfl | rfl | decide +kernel)
    (case c49 => first | k_is | kernel_rfl | rfl | decide +kernel)
    (case k49 => first | k_is | kernel_rfl | rfl | decide +kernel)
    (case m50 => first | k_is | kernel_rfl | rfl | decide +kernel)
    (case n50 => first | k_is | kernel_rfl | rfl | decide +kernel)
    (case l50 => first | k_is | kernel_rfl | rfl | decide +kernel)
    (case c50 => first | k_is | kernel_rfl | rfl | decide +kernel)
    (case k50 => first | k_is | kernel_rfl | rfl | decide +kernel)
    (case m51 => first | k_is | kernel_rfl | rfl | decide +kernel)
    (case n51 => first | k_is | kernel_rfl | rfl | decide +kernel)
    (case l51 => first | k_is | kernel_rfl | rfl | decide +kernel)
    (case c51 => first | k_is | kernel_rfl | rfl | decide +kernel)
    (case k51 => first | k_is | kernel_rfl | rfl | decide +kernel)
    (case m52 => first | k_is | kernel_rfl | rfl | decide +kernel)
    (case n52 => first | k_is | kernel_rfl | rfl | decide +kernel)
    (case l52 => first | k_is | kernel_rfl | rfl | decide +kernel)
    (case c52 => first | k_is | kernel_rfl | rfl | decide +kernel)
    (case k52 => first | k_is | kernel_rfl | rfl | decide +kernel)
    (case m54 => first | k_is | kernel_rfl | rfl | decide +kernel)
    (case n54 => first | k_is | kernel_rfl | rfl | decide +kernel)
    (case l54 => first | k_is | kernel_rfl | rfl | decide +kernel)
    (case c54 => first | k_is | kernel_rfl | rfl | decide +kernel)
    (case k54 => first | k_is | kernel_rfl | rfl | decide +kernel)
    (case m55 => first | k_is | kernel_rfl | rfl | decide +kernel)
    (case n55 => first | k_is | kernel_rfl | rfl | decide +kernel)
    (case l55 => first | k_is | kernel_rfl | rfl | decide +kernel)
    (case c55 => first | k_is | kernel_rfl | rfl | decide +kernel)
    (case k55 => first | k_is | kernel_rfl | rfl | decide +kernel)
    (case m56 => first | k_is | kernel_rfl | rfl | decide +kernel)
    (case n56 => first | k_is | kernel_rfl | rfl | decide +kernel)
    (case l56 => first | k_is | kernel_rfl | rfl | decide +kernel)
    (case c56 => first | k_is | kernel_rfl | rfl | decide +kernel)
    (case k56 => first | k_is | kernel_rfl | rfl | decide +kernel)
    (case m57 => first | k_is | kernel_rfl | rfl | decide +kernel)
    (case n57 => first | k_is | kernel_rfl | rfl | decide +kernel)
    (case l57 => first | k_is | kernel_rfl | rfl | decide +kernel)
    (case c57 => first | k_is | kernel_rfl | rfl | decide +kernel)
    (case k57 => first | k_is | kernel_rfl | rfl | decide +kernel)
    (case m58 => first | k_is | kernel_rfl | rfl | decide +kernel)
    (case n58 => first | k_is | kernel_rfl | rfl | decide +kernel)
    (case l58 => first | k_is | kernel_rfl | rfl | decide +kernel)
    (case c58 => first | k_is | kernel_rfl | rfl | decide +kernel)
    (case k58 => first | k_is | kernel_rfl | rfl | decide +kernel)
    (case s0 => first | k_is | kernel_rfl | rfl | decide +kernel)
    (case sp9 => first | k_is | kernel_rfl | rfl | decide +kernel)
    (case sp10 => first | k_is | kernel_rfl | rfl | decide +kernel)
    (case wa0 => first | k_is | kernel_rfl | rfl | decide +kernel)
    (case wa1 => first | k_is | kernel_rfl | rfl | decide +kernel)
    (case wa2 => first | k_is | kernel_rfl | rfl | decide +kernel)
    (case wa3 => first | k_is | kernel_rfl | rfl | decide +kernel)
    (case wa4 => first | k_is | kernel_rfl | rfl | decide +kernel)
    (case wa5 => first | k_is | kernel_rfl | rfl | decide +kernel)
    (case wa6 => first | k_is | kernel_rfl | rfl | decide +kernel)
    (case r0 => first | k_is | kernel_rfl | rfl | decide +kernel)
    (case r1 => first | k_is | kernel_rfl | rfl | decide +kernel)
    (case r2 => first | k_is | kernel_rfl | rfl | decide +kernel)
    (case r3 => first | k_is | kernel_rfl | rfl | decide +kernel)
    (case q0 => first | k_is | kernel_rfl | rfl | decide +kernel)
    (case q1 => first | k_is | kernel_rfl | rfl | decide +kernel)
    (case q2 => first | k_is | kernel_rfl | rfl | decide +kernel)
    (case q3 => first | k_is | kernel_rfl | rfl | decide +kernel)
    (case z_isinstance => first | k_is | kernel_rfl | rfl | decide +kernel)
    (case z_bool => first | k_is | kernel_rfl | rfl | decide +kernel)
    (case z_int => first | k_is | kernel_rfl | rfl | decide +kernel)
    (case z_list => first | k_is | kernel_rfl | rfl | decide +kernel)
    (case z_all => first | k_is | kernel_rfl | rfl | decide +kernel)
    (case z_len => first | k_is | kernel_rfl | rfl | decide +kernel)
    (case z_enumerate => first | k_is | kernel_rfl | rfl | decide +kernel)
    (case z_range => first | k_is | kernel_rfl | rfl | decide +kernel)
    (case z_sorted => first | k_is | kernel_rfl | rfl | decide +kernel)
    (case z_str => first | k_is | kernel_rfl | rfl | decide +kernel)
    (case z_bytes => first | k_is | kernel_rfl | rfl | decide +kernel)
    (case z_sum => first | k_is | kernel_rfl | rfl | decide +kernel)
    (case z_min => first | k_is | kernel_rfl | rfl | decide +kernel)
    (case z_max => first | k_is | kernel_rfl | rfl | decide +kernel)
    (case v_FEWEST_LETTERS => first | k_is | kernel_rfl | rfl | decide +kernel)
    (case v_MOST_LETTERS => first | k_is | kernel_rfl | rfl | decide +kernel)
    (case v_LONGEST => first | k_is | kernel_rfl | rfl | decide +kernel)
    (case v_LETTERS => first | k_is | kernel_rfl | rfl | decide +kernel)
    (case v_BACKS => first | k_is | kernel_rfl | rfl | decide +kernel)
    (case v_NEXT_REST => first | k_is | kernel_rfl | rfl | decide +kernel)
    (case v_NEXT_BLOCK => first | k_is | kernel_rfl | rfl | decide +kernel)
    (case v_PLAIN_BITS => first | k_is | kernel_rfl | rfl | decide +kernel)
    (case v_MOST_BYTES => first | k_is | kernel_rfl | rfl | decide +kernel)
    (case v_NEXT_PLAIN => first | k_is | kernel_rfl | rfl | decide +kernel)
    (case v_LAST_BITS => first | k_is | kernel_rfl | rfl | decide +kernel)
    (case v_SORT_BITS => first | k_is | kernel_rfl | rfl | decide +kernel)
    (case v_OWN_WORDS => first | k_is | kernel_rfl | rfl | decide +kernel)
    (case v_PLAIN => first | k_is | kernel_rfl | rfl | decide +kernel)
    (case v_NEXT_COUNT => first | k_is | kernel_rfl | rfl | decide +kernel)
    (case v_TOLD_WORDS => first | k_is | kernel_rfl | rfl | decide +kernel)
    (case v_NEXT_ITEM => first | k_is | kernel_rfl | rfl | decide +kernel)
    (case v_NEXT_RUN => first | k_is | kernel_rfl | rfl | decide +kernel)
    (case v_END => first | k_is | kernel_rfl | rfl | decide +kernel)
    (case v_LENGTH_BITS => first | k_is | kernel_rfl | rfl | decide +kernel)
    (case v_RUN_BITS => first | k_is | kernel_rfl | rfl | decide +kernel)
    (case v_AHEAD_OF_COPIES => first | k_is | kernel_rfl | rfl | decide +kernel)
    (case v_FARTHEST => first | k_is | kernel_rfl | rfl | decide +kernel)
    (case v_MOST_AHEAD => first | k_is | kernel_rfl | rfl | decide +kernel)
    (case v_PIECE_BYTES => first | k_is | kernel_rfl | rfl | decide +kernel)

