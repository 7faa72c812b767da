import PyProof.Rows.All
import Wide.All
import OpenK.AllK
import Wide.FinOn
import PyProof.EqAt
import PyProof.EqKinds
import PyProof.TupleCall
import HandS.ForMost
import HandS.ForExc
import HandS.IsInst
import HandS.SortKw
import HandS.SortRule
import HandS.SetFor
import HandS.Flow
import HandS.Zip
import HandS.Lambda
import HandS.EndTab
import KE.SortKeyHeap
import KE.KSortTup
import KE.KDictWalk
import HandS.DictTup
import KE.KDictDisplayH
import HandS.Walk
import PySem.Challenge.RW_presshouse_k02_whole_lightest
set_option Elab.async false
set_option linter.all false
set_option maxRecDepth 100000
set_option maxHeartbeats 4100000
namespace K2
/-! sums, prefixes -/
abbrev Sum (l : List Int) : Int := l.sum
def Nonneg (l : List Int) : Prop := ∀ x ∈ l, 0 ≤ x
abbrev Srt (l : List Int) : Prop := l.Pairwise (· ≤ ·)
theorem sum_nonneg : ∀ {l : List Int}, Nonneg l → 0 ≤ l.sum
  | [], _ => by simp
  | x :: l, h => by
    have h1 := h x (by simp)
    have h2 := sum_nonneg (l := l) (fun y hy => h y (by simp [hy]))
    rw [List.sum_cons]; omega
theorem take_mono : ∀ {l : List Int} {a b : Nat}, Nonneg l → a ≤ b → (l.take a).sum ≤ (l.take b).sum
  | [], a, b, _, _ => by simp
  | x :: l, 0, b, h, _ => by
    rw [List.take_zero, List.sum_nil]
    exact sum_nonneg (fun y hy => h y (List.mem_of_mem_take hy))
  | x :: l, a + 1, 0, h, hab => by omega
  | x :: l, a + 1, b + 1, h, hab => by
    have := take_mono (l := l) (a := a) (b := b) (fun y hy => h y (by simp [hy])) (by omega)
    simp only [List.take_succ_cons, List.sum_cons]; omega
theorem take_last : ∀ {l : List Int} {b : Nat}, 1 ≤ b → b ≤ l.length → (l.take b).sum = (l.take (b - 1)).sum + l.getD (b - 1) 0
  | [], b, h1, h2 => by simp at h2; omega
  | x :: l, 0, h1, h2 => by omega
  | x :: l, 1, h1, h2 => by simp
  | x :: l, b + 2, h1, h2 => by
    have := take_last (l := l) (b := b + 1) (by omega) (by simpa using h2)
    simp only [List.take_succ_cons, List.sum_cons, show b + 2 - 1 = b + 1 from rfl, List.getD_cons_succ] at *
    simp only [Nat.add_sub_cancel] at this
    omega
theorem srt_get {l : List Int} (h : Srt l) {i j : Nat} (hij : i ≤ j) (hj : j < l.length) : l.getD i 0 ≤ l.getD j 0 := by
  have hi : l.length > i := by omega
  simp only [List.getD_eq_getElem?_getD, List.getElem?_eq_getElem hi, List.getElem?_eq_getElem hj, Option.getD_some]
  by_cases e : i = j
  · subst e; exact Int.le_refl _
  · exact List.pairwise_iff_getElem.mp h i j hi hj (by omega)

/-! the merge of weights -/
abbrev le' (a b : Int) : Bool := decide (a ≤ b)
abbrev mw (C P : List Int) : List Int := List.merge C P le'
def cutc : List Int → List Int → Nat → Nat
  | _, _, 0 => 0
  | [], _, _ + 1 => 0
  | _ :: C, [], m + 1 => 1 + cutc C [] m
  | c :: C, p :: P, m + 1 => if c ≤ p then 1 + cutc C (p :: P) m else cutc (c :: C) P m
theorem mw_nil (P : List Int) : mw [] P = P := by simp [mw]
theorem mw_nil2 (C : List Int) : mw C [] = C := by cases C <;> simp [mw]
theorem mw_pos {c p : Int} {C P : List Int} (h : c ≤ p) : mw (c :: C) (p :: P) = c :: mw C (p :: P) := by
  simp [mw, List.merge, h]
theorem mw_neg {c p : Int} {C P : List Int} (h : ¬ c ≤ p) : mw (c :: C) (p :: P) = p :: mw (c :: C) P := by
  simp [mw, List.merge, h]
theorem mw_len (C P : List Int) : (mw C P).length = C.length + P.length := by
  simp [mw, List.length_merge]
theorem mw_mem {C P : List Int} {x : Int} : x ∈ mw C P ↔ x ∈ C ∨ x ∈ P := by
  simp [mw, List.mem_merge]
theorem mw_srt {C P : List Int} (hc : Srt C) (hp : Srt P) : Srt (mw C P) := by
  have := List.pairwise_merge (le := le') (l₁ := C) (l₂ := P) (fun a b c h1 h2 => by simp [le'] at *; omega) (fun a b => by simp [le']; omega) (by simpa [le'] using hc) (by simpa [le'] using hp)
  simpa [le'] using this
theorem mw_nonneg {C P : List Int} (hc : Nonneg C) (hp : Nonneg P) : Nonneg (mw C P) := fun x hx => by
  rcases mw_mem.mp hx with h | h
  · exact hc x h
  · exact hp x h

theorem cutc_le : ∀ (C P : List Int) (m : Nat), cutc C P m ≤ C.length ∧ cutc C P m ≤ m ∧ (m ≤ C.length + P.length → m - cutc C P m ≤ P.length)
  | C, P, 0 => by simp [cutc]
  | [], P, m + 1 => by simp [cutc]
  | c :: C, [], m + 1 => by
    have := cutc_le C [] m
    simp only [cutc, List.length_cons, List.length_nil] at *; omega
  | c :: C, p :: P, m + 1 => by
    have h1 := cutc_le C (p :: P) m
    have h2 := cutc_le (c :: C) P m
    simp only [cutc, List.length_cons] at *
    split <;> omega
theorem cutc_nil : ∀ (C : List Int) (m : Nat), m ≤ C.length → cutc C [] m = m
  | C, 0, _ => by simp [cutc]
  | [], m + 1, h => by simp at h
  | c :: C, m + 1, h => by
    have := cutc_nil C m (by simpa using h)
    simp only [cutc]; omega
theorem mw_sum : ∀ (C P : List Int) (m : Nat), m ≤ C.length + P.length → ((mw C P).take m).sum = (C.take (cutc C P m)).sum + (P.take (m - cutc C P m)).sum
  | C, P, 0, _ => by simp [cutc]
  | [], P, m + 1, _ => by simp [cutc, mw_nil]
  | c :: C, [], m + 1, h => by
    rw [cutc_nil (c :: C) (m + 1) (by simpa using h), mw_nil2]
    simp
  | c :: C, p :: P, m + 1, h => by
    by_cases e : c ≤ p
    · have ih := mw_sum C (p :: P) m (by simp at *; omega)
      rw [mw_pos e]
      simp only [cutc, if_pos e, Nat.add_comm 1, List.take_succ_cons, List.sum_cons, Nat.add_sub_add_right] at *
      omega
    · have ih := mw_sum (c :: C) P m (by simp at *; omega)
      have hl := cutc_le (c :: C) P m
      rw [mw_neg e]
      simp only [cutc, if_neg e]
      rw [show m + 1 - cutc (c :: C) P m = (m - cutc (c :: C) P m) + 1 by omega]
      simp only [List.take_succ_cons, List.sum_cons] at *
      omega
/-- the first m of the merge weigh least -/
theorem mw_least : ∀ (C P : List Int) (m a b : Nat), Srt C → Srt P → Nonneg C → Nonneg P → a ≤ C.length → b ≤ P.length → m ≤ a + b →
    (C.take (cutc C P m)).sum + (P.take (m - cutc C P m)).sum ≤ (C.take a).sum + (P.take b).sum
  | C, P, 0, a, b, _, _, nc, np, _, _, _ => by
    have h1 := sum_nonneg (l := C.take a) (fun y hy => nc y (List.mem_of_mem_take hy))
    have h2 := sum_nonneg (l := P.take b) (fun y hy => np y (List.mem_of_mem_take hy))
    simp only [cutc, List.take_zero, List.sum_nil, Nat.sub_zero]; omega
  | [], P, m + 1, a, b, _, _, nc, np, ha, hb, h => by
    have := take_mono (l := P) (a := m + 1) (b := b) np (by simp at ha; omega)
    simp [cutc]; simpa using this
  | c :: C, [], m + 1, a, b, _, _, nc, np, ha, hb, h => by
    simp only [List.length_nil] at hb
    rw [cutc_nil (c :: C) (m + 1) (by omega)]
    have := take_mono (l := c :: C) (a := m + 1) (b := a) nc (by omega)
    simp only [List.take_nil, List.sum_nil]; omega
  | c :: C, p :: P, m + 1, a, b, sc, sp, nc, np, ha, hb, h => by
    have sc' := (List.pairwise_cons.mp sc).2
    have sp' := (List.pairwise_cons.mp sp).2
    have nc' : Nonneg C := fun y hy => nc y (by simp [hy])
    have np' : Nonneg P := fun y hy => np y (by simp [hy])
    by_cases e : c ≤ p
    · simp only [cutc, if_pos e, Nat.add_comm 1, List.take_succ_cons, List.sum_cons, Nat.add_sub_add_right]
      cases a with
      | succ a =>
        have ih := mw_least C (p :: P) m a b sc' sp nc' np (by simpa using ha) hb (by omega)
        simp only [List.take_succ_cons, List.sum_cons]; omega
      | zero =>
        have ih := mw_least C (p :: P) m 0 (b - 1) sc' sp nc' np (by omega) (by omega) (by omega)
        have hl := take_last (l := p :: P) (b := b) (by omega) hb
        have hg := srt_get sp (i := 0) (j := b - 1) (by omega) (by omega)
        simp only [List.getD_cons_zero] at hg
        simp only [List.take_zero, List.sum_nil] at *
        omega
    · have hc := cutc_le (c :: C) P m
      simp only [cutc, if_neg e]
      rw [show m + 1 - cutc (c :: C) P m = (m - cutc (c :: C) P m) + 1 by omega]
      simp only [List.take_succ_cons, List.sum_cons]
      cases b with
      | succ b =>
        have ih := mw_least (c :: C) P m a b sc sp' nc np' ha (by simpa using hb) (by omega)
        simp only [List.take_succ_cons, List.sum_cons] at *; omega
      | zero =>
        have ih := mw_least (c :: C) P m (a - 1) 0 sc sp' nc np' (by omega) (by omega) (by omega)
        have hl := take_last (l := c :: C) (b := a) (by omega) ha
        have hg := srt_get sc (i := 0) (j := a - 1) (by omega) (by omega)
        simp only [List.getD_cons_zero] at hg
        simp only [List.take_zero, List.sum_nil] at *
        omega
/-- a coin among the first m is at most the last of these -/
theorem mw_last : ∀ (C P : List Int) (m j : Nat), Srt C → Srt P → 1 ≤ m → m ≤ C.length + P.length → j < cutc C P m → C.getD j 0 ≤ (mw C P).getD (m - 1) 0
  | C, P, 0, j, _, _, h, _, _ => by omega
  | [], P, m + 1, j, _, _, _, _, h => by simp [cutc] at h
  | c :: C, [], m + 1, j, sc, _, _, hm, h => by
    have := cutc_le (c :: C) [] (m + 1)
    rw [mw_nil2]
    simp only [List.length_nil, Nat.add_zero] at hm
    exact srt_get sc (by omega) (by omega)
  | c :: C, p :: P, m + 1, j, sc, sp, _, hm, h => by
    have sc' := List.pairwise_cons.mp sc
    have sp' := List.pairwise_cons.mp sp
    simp only [List.length_cons] at hm
    by_cases e : c ≤ p
    · rw [mw_pos e]
      simp only [cutc, if_pos e] at h
      cases m with
      | zero => 
        simp only [cutc] at h
        have : j = 0 := by omega
        subst this; simp
      | succ m =>
        simp only [Nat.add_sub_cancel, List.getD_cons_succ]
        cases j with
        | zero =>
          simp only [List.getD_cons_zero]
          have hl : m < (mw C (p :: P)).length := by rw [mw_len, List.length_cons]; omega
          rw [List.getD_eq_getElem?_getD, List.getElem?_eq_getElem hl, Option.getD_some]
          have hmem := List.getElem_mem hl
          rcases mw_mem.mp hmem with q | q
          · exact sc'.1 _ q
          · rcases (List.mem_cons.mp q) with (q | q)
            · omega
            · have := sp'.1 _ q; omega
        | succ j =>
          have := mw_last C (p :: P) (m + 1) j sc'.2 sp (by omega) (by rw [List.length_cons]; omega) (by omega)
          simpa using this
    · rw [mw_neg e]
      simp only [cutc, if_neg e] at h
      cases m with
      | zero => simp [cutc] at h
      | succ m =>
        have := mw_last (c :: C) P (m + 1) j sc sp'.2 (by omega) (by rw [List.length_cons]; omega) h
        simpa using this
/-- a coin that weighs at most the last package taken is taken -/
theorem cutc_in : ∀ (C P : List Int) (m j : Nat), Srt C → m ≤ C.length + P.length → cutc C P m < m → j < C.length → C.getD j 0 ≤ P.getD (m - cutc C P m - 1) 0 → j < cutc C P m
  | C, P, 0, j, _, _, h, _, _ => by omega
  | [], P, m + 1, j, _, _, _, h, _ => by simp at h
  | c :: C, [], m + 1, j, _, hm, h, _, _ => by
    rw [cutc_nil (c :: C) (m + 1) (by simpa using hm)] at h; omega
  | c :: C, p :: P, m + 1, j, sc, hm, h, hj, hle => by
    have sc' := List.pairwise_cons.mp sc
    simp only [List.length_cons] at hm hj
    by_cases e : c ≤ p
    · simp only [cutc, if_pos e] at *
      cases j with
      | zero => omega
      | succ j =>
        have := cutc_in C (p :: P) m j sc'.2 (by rw [List.length_cons]; omega) (by omega) (by omega)
          (by simp only [List.getD_cons_succ] at hle; rw [show m + 1 - (1 + cutc C (p :: P) m) - 1 = m - cutc C (p :: P) m - 1 by omega] at hle; exact hle)
        omega
    · simp only [cutc, if_neg e] at *
      have hc := cutc_le (c :: C) P m
      by_cases q : cutc (c :: C) P m < m
      · refine cutc_in (c :: C) P m j sc (by rw [List.length_cons]; omega) q (by rw [List.length_cons]; omega) ?_
        rw [show m + 1 - cutc (c :: C) P m - 1 = (m - cutc (c :: C) P m - 1) + 1 by omega, List.getD_cons_succ] at hle
        exact hle
      · rw [show m + 1 - cutc (c :: C) P m - 1 = 0 by omega, List.getD_cons_zero] at hle
        have := srt_get sc (i := 0) (j := j) (by omega) (by rw [List.length_cons]; omega)
        simp only [List.getD_cons_zero] at this
        omega
/-! packages -/
def packw : List Int → List Int
  | a :: b :: l => (a + b) :: packw l
  | _ => []
theorem packw_len : ∀ l : List Int, (packw l).length = l.length / 2
  | [] => by simp [packw]
  | [_] => by simp [packw]
  | a :: b :: l => by
    have := packw_len l
    simp only [packw, List.length_cons]; omega
theorem packw_mem : ∀ {l : List Int} {x : Int}, x ∈ packw l → ∃ a ∈ l, ∃ b ∈ l, x = a + b
  | [], _, h => by simp [packw] at h
  | [_], _, h => by simp [packw] at h
  | a :: b :: l, x, h => by
    rcases List.mem_cons.mp h with h | h
    · exact ⟨a, by simp, b, by simp, h⟩
    · obtain ⟨u, hu, v, hv, e⟩ := packw_mem h
      exact ⟨u, by simp [hu], v, by simp [hv], e⟩
theorem packw_nonneg {l : List Int} (h : Nonneg l) : Nonneg (packw l) := fun x hx => by
  obtain ⟨a, ha, b, hb, e⟩ := packw_mem hx
  have := h a ha
  have := h b hb
  omega
theorem packw_srt : ∀ {l : List Int}, Srt l → Srt (packw l)
  | [], _ => by simp [packw]
  | [_], _ => by simp [packw]
  | a :: b :: l, h => by
    obtain ⟨h1, h2⟩ := (List.pairwise_cons.mp h)
    obtain ⟨h3, h4⟩ := List.pairwise_cons.mp h2
    refine List.pairwise_cons.mpr ⟨fun x hx => ?_, packw_srt h4⟩
    obtain ⟨u, hu, v, hv, e⟩ := packw_mem hx
    have := h1 u (by simp [hu])
    have := h3 v hv
    omega
theorem packw_sum : ∀ (l : List Int) (p : Nat), 2 * p ≤ l.length → ((packw l).take p).sum = (l.take (2 * p)).sum
  | l, 0, _ => by simp
  | [], p + 1, h => by simp at h
  | [_], p + 1, h => by simp at h; omega
  | a :: b :: l, p + 1, h => by
    have := packw_sum l p (by simp only [List.length_cons] at h; omega)
    rw [show 2 * (p + 1) = 2 * p + 1 + 1 by omega]
    simp only [packw, List.take_succ_cons, List.sum_cons]; omega
theorem packw_get : ∀ (l : List Int) (p : Nat), Nonneg l → 2 * (p + 1) ≤ l.length → l.getD (2 * p + 1) 0 ≤ (packw l).getD p 0
  | [], p, _, h => by simp at h
  | [_], p, _, h => by simp at h; omega
  | a :: b :: l, 0, hn, h => by
    have := hn a (by simp)
    simp [packw]; omega
  | a :: b :: l, p + 1, hn, h => by
    have := packw_get l p (fun y hy => hn y (by simp [hy])) (by simp only [List.length_cons] at h; omega)
    rw [show 2 * (p + 1) + 1 = 2 * p + 1 + 1 + 1 by omega]
    simp only [packw, List.getD_cons_succ]; exact this
/-! levels -/
def W (C : List Int) : Nat → List Int
  | 0 => []
  | k + 1 => mw C (packw (W C k))
def F (C : List Int) (k m : Nat) : Int := ((W C k).take m).sum
def S (C : List Int) (c : Nat) : Int := (C.take c).sum
/-- how many coins among the first m of a level -/
def cc (C : List Int) : Nat → Nat → Nat
  | 0, _ => 0
  | k + 1, m => cutc C (packw (W C k)) m
theorem W_nonneg {C : List Int} (h : Nonneg C) : ∀ k, Nonneg (W C k)
  | 0 => fun x hx => by simp [W] at hx
  | k + 1 => mw_nonneg h (packw_nonneg (W_nonneg h k))
theorem W_srt {C : List Int} (h : Srt C) : ∀ k, Srt (W C k)
  | 0 => by simp [W]
  | k + 1 => mw_srt h (packw_srt (W_srt h k))
theorem W_len (C : List Int) (k : Nat) : (W C (k + 1)).length = C.length + (W C k).length / 2 := by
  rw [W, mw_len, packw_len]
theorem W_len_le {C : List Int} (h : 1 ≤ C.length) : ∀ k, (W C k).length + 1 ≤ 2 * C.length
  | 0 => by simp [W]; omega
  | k + 1 => by
    have := W_len_le h k
    rw [W_len]; omega
theorem W_len_ge {C : List Int} (h : 1 ≤ C.length) : ∀ k, 2 ^ k * (2 * C.length - (W C k).length - 1) ≤ 2 * C.length - 1
  | 0 => by simp [W]
  | k + 1 => by
    have h1 := W_len_ge h k
    have h2 := W_len_le h k
    rw [W_len, Nat.pow_succ, Nat.mul_assoc]
    refine Nat.le_trans (Nat.mul_le_mul_left _ ?_) h1
    omega
theorem W_enough {C : List Int} {k : Nat} (h : 1 ≤ C.length) (hk : C.length ≤ 2 ^ k) : 2 * C.length - 2 ≤ (W C k).length := by
  have h1 := W_len_ge h k
  have h2 := W_len_le h k
  have h3 : C.length * (2 * C.length - (W C k).length - 1) ≤ 2 * C.length - 1 := Nat.le_trans (Nat.mul_le_mul_right _ hk) h1
  refine Nat.not_lt.mp fun q => ?_
  have h4 : C.length * 2 ≤ C.length * (2 * C.length - (W C k).length - 1) := Nat.mul_le_mul_left _ (by omega)
  omega
theorem cc_le (C : List Int) (k m : Nat) (h : m ≤ (W C k).length) : cc C k m ≤ C.length ∧ cc C k m ≤ m ∧ 2 * (m - cc C k m) ≤ (W C (k - 1)).length := by
  cases k with
  | zero => simp [W] at h; simp [cc, h]
  | succ k =>
    have := cutc_le C (packw (W C k)) m
    rw [W, mw_len] at h
    have h2 := packw_len (W C k)
    simp only [cc, Nat.add_sub_cancel]
    omega
theorem F_step {C : List Int} {k m : Nat} (h : m ≤ (W C (k + 1)).length) : F C (k + 1) m = S C (cc C (k + 1) m) + F C k (2 * (m - cc C (k + 1) m)) := by
  have h1 := cc_le C (k + 1) m h
  rw [F, W, mw_sum _ _ _ (by rw [W, mw_len] at h; exact h)]
  show _ + ((packw (W C k)).take (m - cutc C (packw (W C k)) m)).sum = _
  rw [packw_sum _ _ (by simpa [cc] using h1.2.2)]
  rfl
/-- what any choice of c coins and 2p of the level below weighs -/
theorem F_least {C : List Int} {k m c p : Nat} (sc : Srt C) (nc : Nonneg C) (hc : c ≤ C.length) (hp : 2 * p ≤ (W C k).length) (hm : m ≤ c + p) : F C (k + 1) m ≤ S C c + F C k (2 * p) := by
  have hl : p ≤ (packw (W C k)).length := by rw [packw_len]; omega
  have h1 := mw_least C (packw (W C k)) m c p sc (packw_srt (W_srt sc k)) nc (packw_nonneg (W_nonneg nc k)) hc hl hm
  rw [F, W, mw_sum _ _ _ (by omega)]
  rw [packw_sum _ _ hp] at h1
  exact h1
theorem F_mono {C : List Int} {k a b : Nat} (nc : Nonneg C) (h : a ≤ b) : F C k a ≤ F C k b := take_mono (W_nonneg nc k) h
/-- coins become no more further down -/
theorem cc_down {C : List Int} {k m : Nat} (sc : Srt C) (nc : Nonneg C) (h : m ≤ (W C (k + 1)).length) : cc C k (2 * (m - cc C (k + 1) m)) ≤ cc C (k + 1) m := by
  have h1 := cc_le C (k + 1) m h
  simp only [Nat.add_sub_cancel] at h1
  have h2 := cc_le C k _ h1.2.2
  by_cases p0 : m - cc C (k + 1) m = 0
  · rw [p0] at h2 ⊢; omega
  · cases k with
    | zero => simp [cc]
    | succ k =>
      refine Nat.not_lt.mp fun q => ?_
      have hj : cc C (k + 1 + 1) m < cc C (k + 1) (2 * (m - cc C (k + 1 + 1) m)) := q
      have a1 := mw_last C (packw (W C k)) (2 * (m - cc C (k + 1 + 1) m)) (cc C (k + 1 + 1) m) sc (packw_srt (W_srt sc k)) (by omega) (by rw [← mw_len]; exact h1.2.2) hj
      have a2 := packw_get (W C (k + 1)) (m - cc C (k + 1 + 1) m - 1) (W_nonneg nc _) (by omega)
      have a3 := cutc_in C (packw (W C (k + 1))) m (cc C (k + 1 + 1) m) sc (by rw [← mw_len]; exact h) (by show cc C (k + 1 + 1) m < m; omega) (by omega)
      refine absurd (a3 ?_) (Nat.lt_irrefl _)
      refine Int.le_trans a1 ?_
      show (W C (k + 1)).getD _ 0 ≤ _
      rw [show 2 * (m - cc C (k + 1 + 1) m) - 1 = 2 * (m - cc C (k + 1 + 1) m - 1) + 1 by omega]
      exact a2
/-- more coins than packages -/
theorem cc_more {C : List Int} (sc : Srt C) (nc : Nonneg C) (hn : 1 ≤ C.length) : ∀ (k m : Nat), 1 ≤ m → m ≤ (W C k).length → m - cc C k m + 1 ≤ cc C k m
  | 0, m, h1, h2 => by simp [W] at h2; omega
  | k + 1, m, h1, h2 => by
    have h3 := cc_le C (k + 1) m h2
    simp only [Nat.add_sub_cancel] at h3
    by_cases p0 : m - cc C (k + 1) m = 0
    · omega
    · have ih := cc_more sc nc hn k (2 * (m - cc C (k + 1) m)) (by omega) h3.2.2
      have hd := cc_down sc nc h2
      omega
end K2

namespace K2
variable {C : List Int}
theorem S_zero : S C 0 = 0 := by simp [S]
theorem F_zero {k : Nat} : F C k 0 = 0 := by simp [F]
/-! what the search may not go below -/
def Low (C : List Int) (L d dn fr : Nat) (cost : Int) : Prop :=
  dn ≤ C.length ∧ (2 * (C.length - dn) - 2 * fr ≤ (W C (L - d)).length → F C L (2 * C.length - 2) ≤ cost + d * S C (C.length - dn) + F C (L - d) (2 * (C.length - dn) - 2 * fr))
theorem low_start (L : Nat) : Low C L 0 0 1 0 := ⟨by omega, fun _ => by simp⟩
theorem low_step {L d dn fr many : Nat} {cost : Int} (sc : Srt C) (nc : Nonneg C) (hd : d < L) (h : Low C L d dn fr cost) (h1 : many ≤ min (2 * fr) (2 * C.length)) (h2 : many ≤ C.length - dn) :
    Low C L (d + 1) (dn + many) (min (2 * fr) (2 * C.length) - many) (cost + (d + 1 : Int) * (S C (C.length - dn) - S C (C.length - (dn + many)))) := by
  obtain ⟨a, b⟩ := h
  refine ⟨by omega, fun q => ?_⟩
  obtain ⟨k, hk⟩ : ∃ k, L - d = k + 1 := ⟨L - d - 1, by omega⟩
  have hk2 : L - (d + 1) = k := by omega
  rw [hk] at b
  rw [hk2] at q ⊢
  have e1 : 2 * (C.length - dn - 2 * fr) ≤ 2 * (C.length - (dn + many)) - 2 * (min (2 * fr) (2 * C.length) - many) := by omega
  have f1 := F_least (k := k) (m := 2 * (C.length - dn) - 2 * fr) (c := C.length - dn) (p := C.length - dn - 2 * fr) sc nc (by omega) (by omega) (by omega)
  have f2 := F_mono (C := C) (k := k) nc e1
  have f3 := b (by rw [W_len]; omega)
  have e2 : (((d + 1 : Nat) : Int)) = (d : Int) + 1 := by omega
  rw [e2]
  have e3 : ((d : Int) + 1) * (S C (C.length - dn) - S C (C.length - (dn + many))) = (d : Int) * S C (C.length - dn) + S C (C.length - dn) - ((d : Int) + 1) * S C (C.length - (dn + many)) := by
    rw [Int.mul_sub, Int.add_mul, Int.one_mul]
  rw [e3]
  omega
theorem low_stay {L d fr : Nat} {cost : Int} (h : Low C L d C.length fr cost) : Low C L (d + 1) C.length fr cost := by
  obtain ⟨a, b⟩ := h
  refine ⟨a, fun _ => ?_⟩
  have := b (by omega)
  simp only [Nat.sub_self, Nat.mul_zero, Nat.zero_sub, S_zero, F_zero, Int.mul_zero] at *
  exact this
theorem low_end {L fr : Nat} {cost : Int} (h : Low C L L C.length fr cost) : F C L (2 * C.length - 2) ≤ cost := by
  have := h.2 (by omega)
  simpa [S_zero, F_zero] using this
/-! the way that packages go -/
def md (C : List Int) (L : Nat) : Nat → Nat
  | 0 => 2 * C.length - 2
  | d + 1 => 2 * (md C L d - cc C (L - d) (md C L d))
def cd (C : List Int) (L d : Nat) : Nat := cc C (L - d) (md C L d)
structure Good (C : List Int) (L : Nat) : Prop where
  srt : Srt C
  nn : Nonneg C
  two : 2 ≤ C.length
  room : C.length ≤ 2 ^ L
variable {L : Nat}
theorem md_even (d : Nat) : 2 * (md C L d / 2) = md C L d := by
  cases d with
  | zero => simp only [md]; omega
  | succ d => simp only [md]; omega
theorem md_le (G : Good C L) : ∀ d, d ≤ L → md C L d ≤ (W C (L - d)).length
  | 0, _ => W_enough (by have := G.two; omega) G.room
  | d + 1, h => by
    have h1 := md_le G d (by omega)
    have h2 := cc_le C _ _ h1
    rw [show L - d - 1 = L - (d + 1) by omega] at h2
    exact h2.2.2
theorem cd_le (G : Good C L) {d : Nat} (h : d ≤ L) : cd C L d ≤ C.length := (cc_le C _ _ (md_le G d h)).1
theorem cd_le_md (G : Good C L) {d : Nat} (h : d ≤ L) : cd C L d ≤ md C L d := (cc_le C _ _ (md_le G d h)).2.1
theorem cd_more (G : Good C L) {d : Nat} (h : d ≤ L) (h1 : 1 ≤ md C L d) : md C L d + 1 ≤ 2 * cd C L d := by
  have := cc_more G.srt G.nn (by have := G.two; omega) (L - d) (md C L d) h1 (md_le G d h)
  have := cd_le_md G h
  unfold cd at *
  omega
theorem cd_half (G : Good C L) {d : Nat} (h : d ≤ L) : md C L d ≤ 2 * cd C L d := by
  by_cases q : 1 ≤ md C L d
  · have := cd_more G h q; omega
  · omega
theorem cd_zero (G : Good C L) : cd C L 0 = C.length := by
  have h1 := cd_le G (d := 0) (by omega)
  have h2 := cd_more G (d := 0) (by omega) (by have := G.two; simp only [md]; omega)
  simp only [md] at h2
  omega
theorem cd_down (G : Good C L) {d : Nat} (h : d < L) : cd C L (d + 1) ≤ cd C L d := by
  obtain ⟨k, hk⟩ : ∃ k, L - d = k + 1 := ⟨L - d - 1, by omega⟩
  have h1 := md_le G d (by omega)
  have := cc_down (k := k) G.srt G.nn (by rw [← hk]; exact h1)
  unfold cd
  rw [show L - (d + 1) = k by omega, hk]
  simp only [md]
  rw [hk]
  exact this
theorem md_end (G : Good C L) : md C L L = 0 := by
  have := md_le G L (by omega)
  simpa [W] using this
theorem cd_end (G : Good C L) : cd C L L = 0 := by
  have := cd_le_md G (d := L) (by omega)
  rw [md_end G] at this
  omega
theorem md_next (d : Nat) : md C L (d + 1) = 2 * (md C L d - cd C L d) := rfl
theorem F_way (G : Good C L) {d : Nat} (h : d < L) : F C (L - d) (md C L d) = S C (cd C L d) + F C (L - (d + 1)) (md C L (d + 1)) := by
  obtain ⟨k, hk⟩ : ∃ k, L - d = k + 1 := ⟨L - d - 1, by omega⟩
  have h1 := md_le G d (by omega)
  rw [hk] at h1
  rw [md_next, cd, hk, F_step h1, show L - (d + 1) = k by omega]
/-- where the search stands on that way -/
def dn (C : List Int) (L d : Nat) : Nat := C.length - cd C L d
def fr (C : List Int) (L d : Nat) : Nat := cd C L d - md C L d / 2
def mn (C : List Int) (L d : Nat) : Nat := cd C L d - cd C L (d + 1)
def Up (C : List Int) (L d : Nat) (cost : Int) : Prop := cost + d * S C (cd C L d) + F C (L - d) (md C L d) ≤ F C L (2 * C.length - 2)
theorem dn_zero (G : Good C L) : dn C L 0 = 0 := by simp [dn, cd_zero G]
theorem fr_zero (G : Good C L) : fr C L 0 = 1 := by
  have := G.two
  simp only [fr, cd_zero G, md]; omega
theorem up_zero : Up C L 0 0 := by simp [Up, md]
theorem way_step (G : Good C L) {d : Nat} (h : d < L) : mn C L d ≤ min (min (2 * fr C L d) (2 * C.length)) (C.length - dn C L d) ∧ dn C L (d + 1) = dn C L d + mn C L d ∧ fr C L (d + 1) = min (2 * fr C L d) (2 * C.length) - mn C L d := by
  have h1 := cd_le G (d := d) (by omega)
  have h2 := cd_half G (d := d) (by omega)
  have h3 := cd_down G h
  have h4 := cd_half G (d := d + 1) (by omega)
  have h5 := md_even (C := C) (L := L) d
  have h6 := md_next (C := C) (L := L) d
  have h7 := cd_le_md G (d := d) (by omega)
  unfold mn fr dn
  omega
theorem up_step (G : Good C L) {d : Nat} {cost : Int} (h : d < L) (u : Up C L d cost) : Up C L (d + 1) (cost + (d + 1 : Int) * (S C (C.length - dn C L d) - S C (C.length - (dn C L d + mn C L d)))) := by
  have h1 := cd_le G (d := d) (by omega)
  have h3 := cd_down G h
  have e1 : C.length - dn C L d = cd C L d := by unfold dn; omega
  have e2 : C.length - (dn C L d + mn C L d) = cd C L (d + 1) := by unfold dn mn; omega
  have e3 := F_way G h
  rw [e1, e2]
  unfold Up at *
  rw [e3] at u
  have e4 : (((d + 1 : Nat) : Int)) = (d : Int) + 1 := by omega
  have e5 : ((d : Int) + 1) * (S C (cd C L d) - S C (cd C L (d + 1))) = (d : Int) * S C (cd C L d) + S C (cd C L d) - ((d : Int) + 1) * S C (cd C L (d + 1)) := by
    rw [Int.mul_sub, Int.add_mul, Int.one_mul]
  rw [e4, e5]
  omega
theorem up_end (G : Good C L) {cost : Int} (u : Up C L L cost) : cost ≤ F C L (2 * C.length - 2) := by
  have := u
  simpa [Up, cd_end G, md_end G, S_zero, F_zero] using this
theorem dn_end (G : Good C L) : dn C L L = C.length := by simp [dn, cd_end G]
/-! lengths by turn -/
def ln (C : List Int) (L : Nat) : Nat → Nat → Nat → Nat
  | _, 0, _ => 0
  | d, k + 1, i => (if i < cd C L d then 1 else 0) + ln C L (d + 1) k i
theorem ln_le : ∀ (k d i : Nat), ln C L d k i ≤ k
  | 0, _, _ => by simp [ln]
  | k + 1, d, i => by
    have := ln_le k (d + 1) i
    simp only [ln]; split <;> omega
theorem ln_none (G : Good C L) : ∀ (k d i : Nat), d + k ≤ L → cd C L d ≤ i → ln C L d k i = 0
  | 0, _, _, _, _ => by simp [ln]
  | k + 1, d, i, h, hi => by
    have h2 := cd_down G (d := d) (by omega)
    have := ln_none G k (d + 1) i (by omega) (by omega)
    simp only [ln, this]
    rw [if_neg (by omega)]
def sumR (f : Nat → Nat) : Nat → Nat
  | 0 => 0
  | c + 1 => sumR f c + f c
theorem sumR_congr {f g : Nat → Nat} : ∀ {c : Nat}, (∀ i, i < c → f i = g i) → sumR f c = sumR g c
  | 0, _ => rfl
  | c + 1, h => by
    simp only [sumR]
    rw [sumR_congr (c := c) (fun i hi => h i (by omega)), h c (by omega)]
theorem sumR_const {f : Nat → Nat} {v c : Nat} : ∀ {k : Nat}, (∀ i, c ≤ i → i < c + k → f i = v) → sumR f (c + k) = sumR f c + k * v
  | 0, _ => by simp
  | k + 1, h => by
    show sumR f (c + k) + f (c + k) = _
    rw [sumR_const (k := k) (fun i h1 h2 => h i h1 (by omega)), h (c + k) (by omega) (by omega), Nat.add_mul]
    omega
theorem kraft (G : Good C L) : ∀ (k d B : Nat), d + k = L → k ≤ B → sumR (fun i => 2 ^ (B - ln C L d k i)) (cd C L d) = fr C L d * 2 ^ B
  | 0, d, B, h, _ => by
    have e : d = L := by omega
    subst e
    simp [fr, cd_end G, sumR]
  | k + 1, d, B, h, hB => by
    obtain ⟨B, rfl⟩ : ∃ b, B = b + 1 := ⟨B - 1, by omega⟩
    have hd := cd_down G (d := d) (by omega)
    have ih := kraft G k (d + 1) B (by omega) (by omega)
    obtain ⟨w1, w2, w3⟩ := way_step G (d := d) (by omega)
    have e1 : sumR (fun i => 2 ^ (B + 1 - ln C L d (k + 1) i)) (cd C L d) = sumR (fun i => 2 ^ (B - ln C L (d + 1) k i)) (cd C L d) := by
      refine sumR_congr fun i hi => ?_
      simp only [ln, if_pos hi]
      have : B + 1 - (1 + ln C L (d + 1) k i) = B - ln C L (d + 1) k i := by omega
      rw [this]
    have e2 : sumR (fun i => 2 ^ (B - ln C L (d + 1) k i)) (cd C L (d + 1) + (cd C L d - cd C L (d + 1))) = sumR (fun i => 2 ^ (B - ln C L (d + 1) k i)) (cd C L (d + 1)) + (cd C L d - cd C L (d + 1)) * 2 ^ B := by
      refine sumR_const fun i h1 h2 => ?_
      rw [ln_none G k (d + 1) i (by omega) h1, Nat.sub_zero]
    rw [show cd C L (d + 1) + (cd C L d - cd C L (d + 1)) = cd C L d by omega] at e2
    rw [e1, e2, ih, ← Nat.add_mul, Nat.pow_succ, Nat.mul_comm (2 ^ B) 2, ← Nat.mul_assoc]
    congr 1
    have h1 := cd_le G (d := d) (by omega)
    have h5 := md_even (C := C) (L := L) d
    unfold fr mn at *
    omega
theorem kraft_all (G : Good C L) {B : Nat} (h : L ≤ B) : sumR (fun i => 2 ^ (B - ln C L 0 L i)) C.length = 2 ^ B := by
  have := kraft G L 0 B (by omega) h
  rw [cd_zero G, fr_zero G, Nat.one_mul] at this
  exact this
/-! letters -/
def tl (C : List Int) (L : Nat) (lets : List Nat) : Nat → Nat → List Nat
  | _, 0 => []
  | d, k + 1 => lets.take (cd C L d) ++ tl C L lets (d + 1) k
theorem count_take : ∀ {lets : List Nat} {i c : Nat} {x : Nat}, lets.Nodup → lets[i]? = some x → (lets.take c).count x = if i < c then 1 else 0
  | [], i, c, x, _, h => by simp at h
  | y :: l, i, 0, x, _, h => by simp
  | y :: l, 0, c + 1, x, nd, h => by
    have e : y = x := by simpa using h
    subst e
    have n1 := (List.nodup_cons.mp nd).1
    have : (l.take c).count y = 0 := List.count_eq_zero.mpr fun q => n1 (List.mem_of_mem_take q)
    simp [this]
  | y :: l, i + 1, c + 1, x, nd, h => by
    have h' : l[i]? = some x := by simpa using h
    have n1 := List.nodup_cons.mp nd
    have ih := count_take (c := c) n1.2 h'
    have hx : x ∈ l := List.mem_of_getElem? h'
    have : y ≠ x := fun e => n1.1 (e ▸ hx)
    simp only [List.take_succ_cons, List.count_cons, ih]
    simp [this]
theorem count_tl {lets : List Nat} (nd : lets.Nodup) {i x : Nat} (h : lets[i]? = some x) : ∀ k d, (tl C L lets d k).count x = ln C L d k i
  | 0, d => by simp [tl, ln]
  | k + 1, d => by simp only [tl, ln, List.count_append, count_take nd h, count_tl nd h k (d + 1)]
theorem tl_mem {lets : List Nat} {x : Nat} : ∀ k d, x ∈ tl C L lets d k → x ∈ lets
  | 0, d, h => by simp [tl] at h
  | k + 1, d, h => by
    rcases (List.mem_append.mp h) with (q | q)
    · exact List.mem_of_mem_take q
    · exact tl_mem k (d + 1) q
theorem tl_sum (G : Good C L) {lets : List Nat} {f : Nat → Int} (hf : lets.map f = C) : ∀ k d, d + k = L → ((tl C L lets d k).map f).sum = F C (L - d) (md C L d)
  | 0, d, h => by
    have e : d = L := by omega
    subst e
    simp [tl, F, W]
  | k + 1, d, h => by
    have ih := tl_sum G hf k (d + 1) (by omega)
    rw [F_way G (by omega), tl, List.map_append, List.sum_append, ih, List.map_take, hf]
    rfl
/-- how often each letter below n is told -/
def cnts (n : Nat) (T : List Nat) : List Int := (List.range n).map fun l => (T.count l : Int)
theorem cnts_len {n : Nat} {T : List Nat} : (cnts n T).length = n := by simp [cnts]
theorem cnts_get {n l : Nat} {T : List Nat} (h : l < n) : (cnts n T)[l]? = some (T.count l : Int) := by
  simp [cnts, h]
theorem cnts_nil {n : Nat} : cnts n [] = List.replicate n 0 := by
  refine List.ext_getElem? fun i => ?_
  by_cases h : i < n
  · simp [cnts, h]
  · simp [cnts, h]
theorem cnts_bump {n l : Nat} {T : List Nat} (h : l < n) : (cnts n T).set l ((T.count l : Int) + 1) = cnts n (T ++ [l]) := by
  refine List.ext_getElem? fun i => ?_
  by_cases e : i < n
  · rw [cnts_get e]
    by_cases q : l = i
    · subst q
      rw [List.getElem?_set_self (by simp [cnts_len, h])]
      simp
    · rw [List.getElem?_set_ne q, cnts_get e]
      simp [List.count_append, List.count_singleton, q]
  · rw [List.getElem?_eq_none (by simp [cnts_len]; omega), List.getElem?_eq_none (by simp [cnts_len]; omega)]
theorem cnts_perm {n : Nat} {T U : List Nat} (h : T.Perm U) : cnts n T = cnts n U := by
  unfold cnts
  refine List.map_congr_left fun l _ => ?_
  rw [h.count_eq]
theorem sum_map_add {α : Type} {f g : α → Int} : ∀ l : List α, (l.map fun x => f x + g x).sum = (l.map f).sum + (l.map g).sum
  | [] => by simp
  | x :: l => by
    have := sum_map_add (f := f) (g := g) l
    simp only [List.map_cons, List.sum_cons]; omega
theorem sum_zero {α : Type} : ∀ l : List α, (l.map fun _ => (0 : Int)).sum = 0
  | [] => rfl
  | _ :: l => by rw [List.map_cons, List.sum_cons, sum_zero l]; rfl
theorem sum_one {g : Nat → Int} {x : Nat} : ∀ {l : List Nat}, l.Nodup → x ∈ l → (l.map fun y => if y = x then g y else 0).sum = g x
  | [], _, h => by simp at h
  | y :: l, nd, h => by
    have n1 := List.nodup_cons.mp nd
    by_cases e : y = x
    · subst e
      have : (l.map fun z => if z = y then g z else 0).sum = 0 := by
        have e : (l.map fun z => if z = y then g z else 0) = l.map fun _ => (0 : Int) := List.map_congr_left fun z hz => if_neg fun (q : z = y) => n1.1 (q ▸ hz)
        rw [e, sum_zero]
      simp [this]
    · rcases List.mem_cons.mp h with q | q
      · exact absurd q.symm e
      · have := sum_one (g := g) n1.2 q
        simp [e, this]
theorem cnts_sum {n : Nat} {g : Nat → Int} : ∀ {T : List Nat}, (∀ x ∈ T, x < n) → ((List.range n).map fun l => (T.count l : Int) * g l).sum = (T.map g).sum
  | [], _ => by simp [sum_zero]
  | x :: T, h => by
    have ih := cnts_sum (g := g) (T := T) (fun y hy => h y (by simp [hy]))
    have e : ((List.range n).map fun l => ((x :: T).count l : Int) * g l) = (List.range n).map fun l => (T.count l : Int) * g l + (if l = x then g l else 0) := by
      refine List.map_congr_left fun l _ => ?_
      rw [List.count_cons]
      by_cases q : l = x
      · subst q; simp [Int.add_mul]
      · have : ¬ x = l := fun z => q z.symm
        simp [q, this]
    rw [e, sum_map_add, ih, sum_one List.nodup_range (by simp; exact h x (by simp)), List.map_cons, List.sum_cons]
    omega
theorem sumR_list {f : Nat → Nat} : ∀ {lets : List Nat} {g : Nat → Nat}, (∀ (i x : Nat), lets[i]? = some x → f i = g x) → sumR f lets.length = (lets.map g).sum
  | lets, g, h => by
    have key : ∀ c, c ≤ lets.length → sumR f c = ((lets.take c).map g).sum := by
      intro c
      induction c with
      | zero => intro _; simp [sumR]
      | succ c ih =>
        intro hc
        have hx : c < lets.length := by omega
        rw [sumR, ih (by omega), List.take_add_one, List.getElem?_eq_getElem hx]
        simp only [Option.toList_some, List.map_append, List.sum_append, List.map_cons, List.map_nil, List.sum_cons, List.sum_nil]
        rw [h c _ (List.getElem?_eq_getElem hx)]
        omega
    have := key lets.length (Nat.le_refl _)
    rw [List.take_length] at this
    exact this
end K2

namespace K2
open PySem PySem.Spec PyProof.Rows L2
def topS (i : Nat) : Stmt := PySem.Challenge.pw_presshouse_k02_whole_lightest.main.body.getD i (.Pass ⟨0, 0, 0, 0⟩)
abbrev sWhole : Stmt := topS 5
abbrev sIsNum : Stmt := topS 6
abbrev sAreNum : Stmt := topS 7
abbrev sByLet : Stmt := topS 14
abbrev sLeast : Stmt := topS 15
abbrev sLevels : Stmt := topS 16
abbrev sPacks : Stmt := topS 17
abbrev sTaken : Stmt := topS 18
abbrev sCell : Stmt := topS 20
abbrev sNums : Stmt := topS 21
abbrev sGood : Stmt := topS 22
abbrev sLLeast : Stmt := topS 23
abbrev sLSum : Stmt := topS 24
abbrev sWts : Stmt := topS 25
abbrev sAll : Stmt := topS 26
abbrev sLaw : Stmt := topS 27
theorem scIsNum : FnScope ["told", "least", "most"] ["told", "least", "most"] (defScope sIsNum) := ⟨rfl, rfl, rfl, by decide +kernel, rfl, by decide +kernel, by decide +kernel⟩
theorem scAreNum : FnScope ["told", "least", "most", "one"] ["told", "least", "most"] (defScope sAreNum) := ⟨rfl, rfl, rfl, by decide +kernel, rfl, by decide +kernel, by decide +kernel⟩
theorem scByLet : FnScope ["told", "most"] ["told", "most"] (defScope sByLet) := ⟨rfl, rfl, rfl, by decide +kernel, rfl, by decide +kernel, by decide +kernel⟩
theorem same_upd {H : Hp} {p : Addr} {o : HO} (h : H p = none) : Same H (upd H p o) := fun b x e => by
  rw [upd_ne (ne_of_none e h)]
  exact e
theorem same_put {H H' : Hp} {D : Addr} {o : HO} (h : Same H H') (n : H D = none) : Same H (upd H' D o) := fun b x e => by
  rw [upd_ne (ne_of_none e n)]
  exact h _ _ e
theorem int_of {xs : List Int} {i : Nat} {v : V} (h : (xs.map V.int)[i]? = some v) : ∃ x, v = .int x ∧ xs[i]? = some x := by
  rw [List.getElem?_map] at h
  cases e : xs[i]? with
  | none => (rw [e] at h); (cases h)
  | some y => rw [e] at h; exact ⟨y, (Option.some.inj h).symm, rfl⟩
theorem yes {σ : L2.St} {H : Hp} {A B : Hp → Prop} (h : A H) : tYes σ H fun b H3 => if b = true then A H3 else B H3 := by simpa [tYes] using h
section
variable {P : Program} {w : World} {K : PySem.W.Frag} {mg : Str → Option Value} {base : Heap}
def spIsNum : Sp := fun vs H Q _ => ∃ x a b : Int, vs = [.int x, .int a, .int b] ∧ Q (.bl (decide (a ≤ x ∧ x ≤ b))) H
theorem scWhole : FnScope ["told"] ["told"] (defScope sWhole) := ⟨rfl, rfl, rfl, by decide +kernel, rfl, by decide +kernel, by decide +kernel⟩
def spWhole : Sp := fun vs H Q _ => ∃ x : Int, vs = [.int x] ∧ Q (.bl true) H
theorem ok_whole {f : Addr} {fd : FuncData} {k : Nat} (F : Fun K "is_whole" "is_whole" sWhole f fd) (m1 : mg "isinstance" = none) (m2 : mg "bool" = none) (m3 : mg "int" = none) : FnOk P w K mg base CX0 (k + 1) f fd ["told"] spWhole := by
  refine F.ok scWhole (fun vs H Q E h => ?_) (fun cdv A outer s H vs Q E hr h => ?_)
  · obtain ⟨x, rfl, _⟩ := h
    rfl
  · obtain ⟨x, rfl, q⟩ := h
    refine ⟨_, pss_one (ps_ret (pe_and (pe_callB call_isi (by rfl) m1 (by decide +kernel) (pa_cons (pv 0) (pa_cons (pe_bltn (v := .ty "int") (by rfl) m3 (by decide +kernel) rfl) pa_nil)))
      (pe_one (pe_not (pe_callB call_isi (by rfl) m1 (by decide +kernel) (pa_cons (pv 0) (pa_cons (pe_bltn (v := .ty "bool") (by rfl) m2 (by decide +kernel) rfl) pa_nil))))))), ?_⟩
    refine ⟨_, rfl, _, _, _, _, _, rfl, .ty "int", .base (.int _), kit_ty (a := "int") (r := true) (by decide +kernel), _, rfl, iteT ?_⟩
    exact ⟨_, rfl, _, _, _, _, _, rfl, .ty "bool", .base (.int _), kit_ty (a := "int") (r := false) (by decide +kernel), _, rfl, q⟩
theorem ok_isNum {f f0 : Addr} {fd fd0 : FuncData} {k : Nat} (F : Fun K "is_number" "is_number" sIsNum f fd) (F0 : Fun K "is_whole" "is_whole" sWhole f0 fd0) (G0 : FnOk P w K mg base CX0 (k + 1) f0 fd0 ["told"] spWhole) (b0 : Binds K fd0 ["told"] []) (g0 : mg "is_whole" = some (.ref f0)) :
    FnOk P w K mg base CX0 (k + 2) f fd ["told", "least", "most"] spIsNum := by
  refine F.ok scIsNum (fun vs H Q E h => ?_) (fun cdv A outer s H vs Q E hr h => ?_)
  · obtain ⟨x, a, b, rfl, _⟩ := h
    rfl
  · obtain ⟨x, a, b, rfl, q⟩ := h
    refine ⟨_, pss_one (ps_ret (pe_and (pe_call G0 hr (by rfl) g0 F0.kp b0 .nil pass0 (pa_cons (pv 0) pa_nil)) (pe_one (pe_chain op_le op_le (pv 1) (pv 0) (pv 2))))), ?_⟩
    refine ⟨_, rfl, x, rfl, _, rfl, iteT ⟨_, rfl, _, rfl, _, _, rfl, rfl, _, rfl, ?_⟩⟩
    by_cases h1 : a ≤ x
    · rw [if_pos (decide_eq_true h1)]
      refine ⟨_, rfl, _, _, rfl, rfl, ?_⟩
      simpa [h1] using q
    · rw [if_neg (by simpa using h1)]
      simpa [h1] using q
/-- a list that is made beside all that was there -/
def spAreNum : Sp := fun vs H Q _ => ∃ (p : Addr) (xs : List Int) (a b : Int), vs = [.ref p, .int a, .int b] ∧ H p = some (.lst (xs.map V.int)) ∧ xs.length ≤ 1000 ∧ ∀ H', Same H H' → Q (.bl (xs.all fun x => decide (a ≤ x ∧ x ≤ b))) H'
theorem ok_areNum {f f1 : Addr} {fd fd1 : FuncData} {k : Nat} (F : Fun K "are_numbers" "are_numbers" sAreNum f fd) (F1 : Fun K "is_number" "is_number" sIsNum f1 fd1) (G1 : FnOk P w K mg base CX0 (k + 2) f1 fd1 ["told", "least", "most"] spIsNum)
    (b1 : Binds K fd1 ["told", "least", "most"] []) (g1 : mg "is_number" = some (.ref f1)) (m1 : mg "isinstance" = none) (m2 : mg "list" = none) (m3 : mg "all" = none) : FnOk P w K mg base CX0 (k + 3) f fd ["told", "least", "most"] spAreNum := by
  refine F.ok scAreNum (fun vs H Q E h => ?_) (fun cdv A outer s H vs Q E hr h => ?_)
  · obtain ⟨p, xs, a, b, rfl, _⟩ := h
    rfl
  · obtain ⟨p, xs, a, b, rfl, hp, hl, q⟩ := h
    refine ⟨_, pss_one (ps_ret (pe_and (pe_callB call_isi (by rfl) m1 (by decide +kernel) (pa_cons (pv 0) (pa_cons (pe_bltn (v := .ty "list") (by rfl) m2 (by decide +kernel) rfl) pa_nil)))
      (pe_one (pe_callB (cr_all rfl) (by rfl) m3 (by decide +kernel) (pa_cons (pe_lc (own := [("one", 3)]) (g := gName 3) (tt := tYes) rfl scAreNum.nd (pi_list (pv 0)) (blkOk_by (N := ["told", "least", "most", "one"]) (sc := defScope sAreNum) (by decide +kernel))
        (fun _ _ _ _ _ => pg_name (i := 3) scAreNum.nd rfl (Or.inl rfl)) (fun _ _ _ _ _ => pts_nil)
        (fun _ _ _ _ _ => pe_call G1 hr (by rfl) g1 F1.kp b1 .nil pass0 (pa_cons (pv 3) (pa_cons (pv 1) (pa_cons (pv 2) pa_nil))))) pa_nil))))), ?_⟩
    refine ⟨_, rfl, _, _, _, _, _, rfl, .ty "list", .base (.lst hp), kit_ty (a := "list") (r := true) (by decide +kernel), _, rfl, iteT ?_⟩
    refine ⟨_, rfl, p, rfl, ⟨_, .inl (.inl hp)⟩, fun D nD => ?_⟩
    refine lc_list (K := K) (a := p) (xs := xs.map V.int) (fun i H' => Same H H' ∧ H' D = some (.lst ((xs.take i).map fun x => .bl (decide (a ≤ x ∧ x ≤ b))))) ⟨same_upd nD, upd_same⟩ (fun i H' _ h => .inl (.inl (h.1 _ _ hp))) (fun i x H' hx h => ?_) (fun H' h => ?_)
    · obtain ⟨x, rfl, hx'⟩ := int_of hx
      refine ⟨rfl, yes ?_⟩
      refine ⟨_, rfl, _, rfl, _, rfl, x, a, b, rfl, _, h.2, ?_, same_put h.1 nD, ?_⟩
      · rw [List.length_map, List.length_take]
        exact small1000 (by omega)
      · rw [upd_same, List.take_add_one, hx']
        simp
    · have e : (xs.take (xs.map V.int).length) = xs := by rw [List.length_map, List.take_length]
      rw [e] at h
      refine ⟨D, (xs.map fun x => decide (a ≤ x ∧ x ≤ b)), rfl, .inl (.inl ?_), ?_⟩
      · rw [h.2, List.map_map]
        rfl
      · have q' := q H' h.1
        rw [List.all_map]
        exact q'
def spByLet : Sp := fun vs H Q _ => ∃ (p : Addr) (xs : List Int) (b : Int), vs = [.ref p, .int b] ∧ H p = some (.lst (xs.map V.int)) ∧ xs.length ≤ 1000 ∧ ∀ H', Same H H' → Q (.bl ((xs.all fun x => decide (0 ≤ x ∧ x ≤ b)) && decide (2 ≤ xs.length ∧ xs.length ≤ 300))) H'
theorem ok_byLet {f f1 : Addr} {fd fd1 : FuncData} {k : Nat} {t2 t3 : Tok} (F : Fun K "are_by_letters" "are_by_letters" sByLet f fd) (F1 : Fun K "are_numbers" "are_numbers" sAreNum f1 fd1) (G1 : FnOk P w K mg base CX0 (k + 3) f1 fd1 ["told", "least", "most"] spAreNum)
    (b1 : Binds K fd1 ["told", "least", "most"] []) (g1 : mg "are_numbers" = some (.ref f1)) (m1 : mg "len" = none) (c2 : mg "FEWEST_LETTERS" = some (.int 2 t2)) (c3 : mg "MOST_LETTERS" = some (.int 300 t3)) : FnOk P w K mg base CX0 (k + 4) f fd ["told", "most"] spByLet := by
  refine F.ok scByLet (fun vs H Q E h => ?_) (fun cdv A outer s H vs Q E hr h => ?_)
  · obtain ⟨p, xs, b, rfl, _⟩ := h
    rfl
  · obtain ⟨p, xs, b, rfl, hp, hl, q⟩ := h
    refine ⟨_, pss_one (ps_ret (pe_and (pe_call G1 hr (by rfl) g1 F1.kp b1 .nil pass0 (pa_cons (pv 0) (pa_cons pe_int (pa_cons (pv 1) pa_nil))))
      (pe_one (pe_chain op_le op_le (pe_glob (v := .int 2) rfl c2 ⟨_, rfl⟩) (pe_callB call_len_seq (by rfl) m1 PySem.boot_len (pa_cons (pv 0) pa_nil)) (pe_glob (v := .int 300) rfl c3 ⟨_, rfl⟩))))), ?_⟩
    refine ⟨_, rfl, _, rfl, p, xs, 0, b, rfl, hp, hl, fun H' sm => ⟨_, rfl, ite2 (fun e => ?_) (fun e => ?_)⟩⟩
    · rw [e] at q
      refine ⟨_, rfl, p, _, rfl, .inl (.inl (.inl (sm _ _ hp))), _, _, rfl, rfl, _, rfl, ite2 (fun e2 => ?_) (fun e2 => ?_)⟩
      · refine ⟨_, _, rfl, rfl, ?_⟩
        have q' := q H' sm
        rw [List.length_map] at e2 ⊢
        have e3 : (2 : Int) ≤ (xs.length : Int) := of_decide_eq_true e2
        have : (true && decide (2 ≤ xs.length ∧ xs.length ≤ 300)) = decide ((xs.length : Int) ≤ 300) := by
          rw [Bool.true_and, decide_eq_decide]
          omega
        rw [this] at q'
        exact q'
      · have q' := q H' sm
        rw [List.length_map] at e2
        have e3 : ¬ (2 : Nat) ≤ xs.length := fun z => e2 (decide_eq_true (by omega))
        have : (true && decide (2 ≤ xs.length ∧ xs.length ≤ 300)) = false := by simp [e3]
        rw [this] at q'
        exact q'
    · have e' : (xs.all fun x => decide (0 ≤ x ∧ x ≤ b)) = false := by simpa using e
      rw [e'] at q
      exact q H' sm
end
end K2

namespace K2
open PySem PySem.Spec PyProof.Rows L2
/-! ### lists of pairs of ints -/
def Tups (H : Hp) (ts : List Addr) (l : List (Int × Int)) : Prop := ts.length = l.length ∧ ∀ (i : Nat) (t : Addr) (x : Int × Int), ts[i]? = some t → l[i]? = some x → H t = some (.tup [.int x.1, .int x.2])
theorem Tups.ext {H H' : Hp} {ts : List Addr} {l : List (Int × Int)} (h : Tups H ts l) (e : ∀ b xs, H b = some (.tup xs) → H' b = some (.tup xs)) : Tups H' ts l := ⟨h.1, fun i t x h1 h2 => e _ _ (h.2 i t x h1 h2)⟩
theorem Tups.same {H H' : Hp} {ts : List Addr} {l : List (Int × Int)} (h : Tups H ts l) (e : Same H H') : Tups H' ts l := h.ext fun b xs q => e _ _ q
theorem Tups.extN {H H' : Hp} {ts : List Addr} {l : List (Int × Int)} (h : Tups H ts l) (e : LamX.ExtN H H') : Tups H' ts l := h.ext fun b xs q => e _ _ q fun ps z => by cases z
/-! ### sorted(e, key=lambda one: one[0]) -/
abbrev lamP (p : Pos) : Arguments := { posonlyargs := [], args := [{ arg := "one", annotation := none, pos := p }], vararg := none, kwonlyargs := [], kw_defaults := [], kwarg := none, defaults := [] }
abbrev lamB (p1 p2 p3 : Pos) : Expr := .Subscript (.Name "one" p1) (.Constant (.int 0) 0 p2) p3
abbrev lamC : Scope := { kind := .function, names := [(PySem.Str.ofString "one", .local)], isGenerator := false, isCoroutine := false, more := [] }
section
variable {prog : Program} {w : World} {s : Shared} {A : Around}
theorem call_lam {f c' t : Addr} {qual : Str} {pm ctv : Value} {pA p1 p2 p3 : Pos} {its : Array Value} {x : Int} {tk : Tok} (ho : s.heap.get? f = some (PySem.W.kla_obj "<lambda>" qual (lamP pA) (lamB p1 p2 p3) lamC [] pm c' ctv))
    (hcd : s.heap.CodeRec (.ref c') qual) (hlim : s.heap.NoLimit) (hroom : A.depth < recursionLimit) (pl : IsTup s.heap t its) (h0 : its[0]? = some (.int x tk)) :
    wpAny (model prog w) A (call (.ref f) [.ref t]) (PySem.W.KeyPure (.int x) s) (fun _ _ => False) s := by
  refine wpAny_call ?_
  refine PySem.W.kla_callFunE hroom ho rfl rfl rfl rfl hcd ?_
  have hb : bindArgs (PySem.W.kla_fn "<lambda>" qual (lamP pA) (lamB p1 p2 p3) lamC [] pm (.ref c') ctv) ⟨[.ref t], []⟩ = pure [(("one" : Str), Value.ref t)] := by first | rfl | with_unfolding_all rfl
  rw [hb]
  refine wpAny_pure (wpAny_newFunctionEnv (fun y hy => by
    have : y = (PySem.Str.ofString "one", NameKind.local) := by simpa using hy
    rw [this]; exact fun z => by cases z) (fun y hy => by
    have : y = (("one" : Str), Value.ref t) := by simpa using hy
    rw [this]; rfl) (fun h₁ hns hsb => ⟨hlim.fresh _ hsb, ?_⟩) rfl)
  have hk₁ : ∀ c oc, s.heap.get? c = some oc → h₁.get? c = some oc := by
    intro c oc was
    exact hsb.extBut c oc (Nat.ne_of_lt (Heap.lt_size was)) (Heap.get?_push_of_some _ was)
  show codeAny _ _ (.expr (lamB p1 p2 p3) (PySem.W.envX qual lamC s.heap.objs.size f (.ref c') [])) _ _
  refine PySem.W.kla_codeExpr ?_
  refine Subscript_ (wpAny_Name (wpAny_loadName_local (v := .ref t) rfl rfl hns rfl (wpAny_Constant_int ?_)))
  obtain ⟨o, ho1, hc1, n1, hd1⟩ := pl
  have pl' : IsTup h₁ t its := ⟨o, hk₁ _ _ ho1, hc1, n1, hd1⟩
  have hsz : 0 < its.size := by
    rcases Nat.lt_or_ge 0 its.size with q | q
    · exact q
    · rw [Array.getElem?_eq_none (by omega)] at h0; cases h0
  refine subscriptTail_builtinR (x := .int x tk) pl'.typeIs slot_tuple_getitem.lookup
    (getItem_tuple (j := 0) (Q := fun r s' => r = Value.int x tk ∧ PySem.W.KeyPure (.int x) s r s') pl' (by omega) (by omega) ?_ h0 ⟨rfl, ?_⟩) rfl
  · unfold seqIndex?
    simp
    exact fun z => by rw [z] at hsz; exact absurd hsz (by simp)
  · exact ⟨h₁, _, rfl, hk₁, .int x tk⟩
end
def keyLe (x y : Int × Int) : Bool := decide (x.1 ≤ y.1)
def tSK (T : List (Addr × Str)) (t : TA) : TE := fun σ H Q => t σ H fun vs H1 => ∃ (a : Addr) (ts : List Addr) (l : List (Int × Int)), vs = [.ref a] ∧ H1 a = some (.lst (ts.map V.ref)) ∧ Tups H1 ts l ∧ LamX.Tabs T H1 ∧
  ∀ (H2 : Hp) (p : Addr) (us : List Addr), LamX.ExtN H1 H2 → LamX.Tabs T H2 → H2 p = none → Tups H2 us (l.mergeSort keyLe) → Q (.ref p) (upd H2 p (.lst (us.map V.ref)))
theorem vals_refs : ∀ {ts : List Addr} {us : List Value}, Vals (ts.map V.ref) us → us = ts.map Value.ref
  | [], _, h => by cases h; rfl
  | t :: ts, _, h => by
    cases h with
    | cons r h =>
      have e := vals_refs h
      rw [e]
      have : _ = Value.ref t := r
      rw [this]; rfl
theorem refs_vals : ∀ (ts : List Addr), Vals (ts.map V.ref) (ts.map Value.ref)
  | [] => .nil
  | t :: ts => .cons rfl (refs_vals ts)
theorem each_zip : ∀ {ts : List Addr} {l : List (Int × Int)}, ts.length = l.length → PySem.W.EachIs (fun (v : Value) (b : Addr × Int × Int) => v = .ref b.1) (ts.map Value.ref) (ts.zip l)
  | [], [], _ => .nil
  | [], _ :: _, h => by (simp at h)
  | _ :: _, [], h => by (simp at h)
  | t :: ts, x :: l, h => .cons rfl (each_zip (by simpa using h))
theorem each_out : ∀ {out : List Value} {bs : List (Addr × Int × Int)}, PySem.W.EachIs (fun (v : Value) (b : Addr × Int × Int) => v = .ref b.1) out bs → out = (bs.map (·.1)).map Value.ref
  | _, _, .nil => rfl
  | _, _, .cons h t => by rw [h, each_out t]; rfl
theorem mem_zip_at {α β : Type} {ts : List α} {l : List β} {b : α × β} (h : b ∈ ts.zip l) : ∃ i : Nat, ts[i]? = some b.1 ∧ l[i]? = some b.2 := by
  obtain ⟨i, hi⟩ := List.mem_iff_getElem?.mp h
  obtain ⟨h1, h2⟩ := List.getElem?_zip_eq_some.mp hi
  exact ⟨i, h1, h2⟩
section
variable {X : Cx}
theorem pe_sortedKey {T : List (Addr × Str)} {t : TA} {k : Nat} {e : Expr} {p pos kp pA p1 p2 p3 lpos : Pos} {c P : Addr} (hr : Room k X.A) (ha : PA X [e] t) (hg : Gl X "sorted") (hm : X.mg "sorted" = none) (TB : LamX.TabB X.base X.mg c P) (hcode : X.env.code = .ref c)
    (hmT : (P, X.env.qual ++ "<lambda>") ∈ T) (hu : ∀ p ∈ T, p.1 = P → p.2 = X.env.qual ++ "<lambda>")
    (he : backTo pos (starEach [e] X.env) = (false, eval e X.env) :: backTo pos (starEach [] X.env) := by rfl) (hpl : (backTo pos (starEach [e] X.env)).any (·.1) = false := by rfl) :
    PE X (.Call (.Name "sorted" p) [e] [⟨some "key", .Lambda (lamP pA) (lamB p1 p2 p3) lamC lpos, kp⟩] pos) (tSK T t) := by
  refine ⟨fun pins s σ H Q I h => ?_⟩
  refine wpAny_Call_Name_kw (ld_blt (u := .builtin "sorted") I hg hm (by decide +kernel) ?_ (by decide) (by decide))
  refine PyProof.Rows.callWith_kw (thn (ha.run pos pins s σ H _ I h) fun us s1 hh => ?_) he hpl rfl rfl
  obtain ⟨vs, H1, I1, r1, a, ts, l, rfl, ha, ht, hT, q⟩ := hh
  obtain rfl := Vals.ref1 r1
  show wpAny _ _ (evalAll ((do let v ← eval (.Lambda (lamP pA) (lamB p1 p2 p3) lamC lpos) X.env; standAt pos; pure v) :: [])) _ _ s1
  refine wpAny_evalAll_cons (wpAny_bind (LamX.lam_make2 I1 TB hcode hmT hu hT rfl (fun y hy z => by
    have : y = (PySem.Str.ofString "one", NameKind.local) := by simpa using hy
    rw [this] at z; cases z) fun f c' pm ctv H2 s2 I2 eN T2 hf hfn hfr hco => wpAny_bind (wpAny_standAt (wpAny_pure (wpAny_evalAll_nil ?_)))))
  have ha2 : H2 a = some (.lst (ts.map V.ref)) := eN _ _ ha fun ps z => by cases z
  have ht2 := ht.extN eN
  obtain ⟨its, rv, hl, hz⟩ := I2.list (show SqL X.K H2 a _ from .inl (.inl ha2))
  have hits := vals_refs rv
  subst hits
  obtain ⟨⟨oc, cvs, ctk, hoc, hdc, hvc⟩, _, _⟩ := I2.hok c' _ hco
  rw [List.length_map] at hz
  have hpr : ∀ b ∈ ts.zip l, H2 b.1 = some (.tup [.int b.2.1, .int b.2.2]) := fun b hb => by
    obtain ⟨i, h1, h2⟩ := mem_zip_at hb
    exact ht2.2 i _ _ h1 h2
  show wpAny _ _ (call (.builtin "sorted") [.ref a] [(Str.ofString "key", .ref f)]) _ _ _
  refine PySem.W.sorted_key_data (b := false) (f := .ref f) (β := Addr × Int × Int) (R := fun v b => v = .ref b.1) (bs := ts.zip l) (fun b => .int b.2.1) hl.isList (each_zip ht2.1) (PySem.W.AllAlike.of fun _ _ => rfl) (PySem.W.Sortable.others (enc := fun b : Addr × Int × Int => PyData.int b.2.1) fun _ => ⟨(by intro z; cases z), (by intro _ z; cases z)⟩) (by rw [List.length_zip, ← ht2.1]; omega)
    (fun x _ => ?_) (PyProof.Rows.ksk_s1 _ _) (fun _ => PyProof.Rows.ksk_l1 _ _) (fun _ => PyProof.Rows.ksk_t1 _ _) (fun v x hR hx h tk kp' => ?_) (fun out cc h' tk kp' fr hD hlen ho => ?_)
  · have := hr.un
    show X.A.units + 2 + 0 < cLine
    omega
  · subst hR
    obtain ⟨_, its2, r2, pl⟩ := I2.hok _ _ (hpr x hx)
    obtain ⟨u1, u2, rfl, ⟨t1, rfl⟩, ⟨t2, rfl⟩⟩ := vals2 r2
    obtain ⟨o, ho1, hc1, n1, hd1⟩ := pl
    exact call_lam (s := { s2 with heap := h, toks := tk }) (kp' _ _ hf) ⟨c', oc, cvs, ctk, rfl, kp' _ _ hoc, hdc, hvc⟩ (I2.nolimit.keeps kp') hr.depth ⟨o, kp' _ _ ho1, hc1, n1, hd1⟩ rfl
  · have eo := each_out ho
    rw [PySem.W.dataLe_int] at eo
    have hz2 : (((ts.zip l).mergeSort fun a b => decide (a.2.1 ≤ b.2.1)).map fun b => V.ref b.1).length ≤ sizeLine := by
      rw [List.length_map, (List.mergeSort_perm _ _).length_eq, List.length_zip, ← ht2.1]
      omega
    have I3 : Inv X pins σ (upd H2 (s2.heap.objs.size + 1) (.lst (((ts.zip l).mergeSort fun a b => decide (a.2.1 ≤ b.2.1)).map fun b => V.ref b.1))) { s2 with heap := h', toks := tk } := by
      refine I2.laid (t' := tk) kp' (Nat.le_succ _) ⟨hz2, out, cc, ?_, hD⟩
      rw [eo]
      have := refs_vals (((ts.zip l).mergeSort fun a b => decide (a.2.1 ≤ b.2.1)).map (·.1))
      rw [List.map_map] at this
      exact this
    refine ⟨.ref (s2.heap.objs.size + 1), _, I3, rfl, ?_⟩
    have em : (((ts.zip l).mergeSort fun a b => decide (a.2.1 ≤ b.2.1)).map fun b => V.ref b.1) = (((ts.zip l).mergeSort fun a b => decide (a.2.1 ≤ b.2.1)).map (·.1)).map V.ref := by rw [List.map_map]; rfl
    rw [em]
    refine q H2 _ _ eN T2 (I2.hok.fresh (Nat.le_succ _)) ?_
    have e2 : ((ts.zip l).mergeSort fun a b => decide (a.2.1 ≤ b.2.1)).map (·.2) = l.mergeSort keyLe := by
      have e3 := List.map_mergeSort (r := fun (a b : Addr × Int × Int) => decide (a.2.1 ≤ b.2.1)) (s := keyLe) (f := Prod.snd) (l := ts.zip l) (fun _ _ _ _ => rfl)
      refine e3.trans ?_
      rw [List.map_snd_zip (by rw [ht2.1]; exact Nat.le_refl _)]
    rw [← e2]
    refine ⟨by rw [List.length_map, List.length_map], fun i t x h1 h2 => ?_⟩
    rw [List.getElem?_map] at h1 h2
    cases e : ((ts.zip l).mergeSort fun a b => decide (a.2.1 ≤ b.2.1))[i]? with
    | none => rw [e] at h1; cases h1
    | some b =>
      rw [e] at h1 h2
      cases h1
      cases h2
      exact hpr b ((List.mergeSort_perm _ _).mem_iff.mp (List.mem_of_getElem? e))
end
end K2

namespace K2
open PySem PySem.Spec PyProof.Rows L2
section
variable {X : Cx} {pins : List (Addr × Obj)} {σ : L2.St} {H : Hp} {s : Shared} {d : Addr} {o : Obj}
theorem frzT2 {kvs : List (List Key × V)} (I : Inv X pins σ H s) (h : H d = some (.frz o (.dT kvs))) :
    ((d == sysModules) = false ∧ s.heap.get? d = some o ∧ o.ExactDict) ∧ ∃ (es : Array DictEntry) (ep : Nat), o.data = .dict es ep ∧ es.size = kvs.length ∧
      ∀ (i : Nat) (k : List Key) (v : V), kvs[i]? = some (k, v) → ∃ (en : DictEntry) (q : Addr), es[i]? = some en ∧ en.key = .ref q ∧ H q = some (.tup (k.map kV)) ∧ RelV v en.val := by
  obtain ⟨same, _, notSys, xs, pr, o', es, ep, at0, exact0, hdt, lay, _⟩ := I.hok d _ h
  rw [same] at at0
  cases at0
  refine ⟨⟨notSys, same, exact0⟩, es, ep, hdt, ?_, fun i k v e => ?_⟩
  · have l1 := size_of_entries lay
    have l2 := Paired.length pr
    omega
  · obtain ⟨b, hb, e1, e2, e3⟩ := paired_get pr e
    have q := entry_at lay i
    rw [hb] at q
    exact ⟨_, b.2.1, q, rfl, e2, e3⟩
end
/-- the pairs of a dict with tuple keys, each a new tuple -/
def Itit (d : Addr) (o : Obj) (kvs : List (List Key × V)) : It :=
  ⟨fun i H => H d = some (.frz o (.dT kvs)) ∧ i < kvs.length, fun i H x H' => ∃ T q k v, kvs[i]? = some (k, v) ∧ x = .ref T ∧ H T = none ∧ H q = some (.tup (k.map kV)) ∧ H' = upd H T (.tup [.ref q, v]), fun i H => H d = some (.frz o (.dT kvs)) ∧ kvs.length ≤ i⟩
def iItemsT (td : TE) : TI := fun σ H R => td σ H fun x H1 => ∃ d o kvs, x = .ref d ∧ H1 d = some (.frz o (.dT kvs)) ∧ R (Itit d o kvs) H1
section
variable {P : Program} {w : World} {K : PySem.W.Frag} {d : Addr} {o : Obj} {es : Array DictEntry} {ep : Nat}
theorem turn_itemsT {kvs : List (List Key × V)} {elts : List Expr} {kk : Nat} {tpos : Pos} (it : Addr) (hod : o.data = .dict es ep) :
    Turn P w K (.Tuple elts kk tpos) (Itit d o kvs) [it] it (fun i h => ∃ ok ov, IsItemIter h it d i kvs.length ep ok ov) where
  mem := by simp
  obj := fun i h st b hb => by
    obtain rfl : b = it := by simpa using hb
    obtain ⟨ok, ov, e⟩ := st
    exact ⟨_, e, fun _ no => nomatch no⟩
  keep := by
    rintro i h h' ⟨ok, ov, was⟩ kept
    exact ⟨ok, ov, kept it (by simp) _ was⟩
  item := by
    intro X hP hw hK hcl i pins s σ H E I hf st hg
    subst hP hw hK
    obtain ⟨hd, hi⟩ := hg
    obtain ⟨⟨hs, hgd, hx⟩, es', ep', hdt, hsz, ent⟩ := frzT2 I hd
    obtain ⟨rfl, rfl⟩ := (dict_ep hod hdt)
    obtain ⟨⟨k, v⟩, hkv⟩ : ∃ kv, kvs[i]? = some kv := ⟨_, List.getElem?_eq_getElem hi⟩
    obtain ⟨en, q, hen, hkey, hq, rv⟩ := ent i k v hkv
    obtain ⟨ok, ov, he⟩ := st
    rw [← hsz] at he
    have hlt := Heap.lt_size he
    have hi' : i < es'.size := by omega
    have een : es'[i] = en := by
      rw [Array.getElem?_eq_getElem hi'] at hen
      exact Option.some.inj hen
    refine wpAny_pyNext_items_item_raw he ⟨o, hgd, hx, hdt⟩ hi' fun h' ho hT hz hk => ?_
    rw [een] at ho hT
    refine ⟨_, rfl, ?_⟩
    refine wpAny_letOwnedTupleGo_items (s := { s with heap := h' }) ho fun h'' he' sb => ?_
    have hT2 : h''.get? s.heap.objs.size = some { cls := .type "tuple", data := .seq #[en.key, en.val] } := (sb.2 _ (Nat.ne_of_gt hlt)).trans hT
    have new : ObjOk X.prog X.w (upd H s.heap.objs.size (.tup [.ref q, v])) h'' s.heap.objs.size (.tup [.ref q, v]) :=
      ⟨by show 2 ≤ sizeLine; decide, [en.key, en.val], .cons hkey (.cons rv .nil), ⟨_, hT2, rfl, _, rfl⟩⟩
    have I1 : Inv X pins σ (upd H s.heap.objs.size (.tup [.ref q, v])) { s with heap := h'' } :=
      I.turnedNew (t' := s.toks) (ch := [it]) (fun c oc far was => (sb.2 c (by simpa using far)).trans (hk c oc (by simpa using far) was)) hf (Nat.le_refl _) new
    refine ⟨.ref s.heap.objs.size, _, I1, rfl, ⟨_, q, k, v, hkv, rfl, I.hok.fresh (Nat.le_refl _), hq, rfl⟩, ⟨en.key, en.val, ?_⟩, fun b hb => ?_⟩
    · rw [← hsz]; exact he'
    · obtain rfl : b = it := by simpa using hb
      rw [upd_ne (Nat.ne_of_lt (hlt))]
      exact (hf _ (by simp)).1
  done := by
    intro X hP hw hK hcl i pins s σ H E I hf st hg
    subst hP hw hK
    obtain ⟨hd, hi⟩ := hg
    obtain ⟨f0, f1, _, f3, f4, f5⟩ := hf it (List.mem_singleton.mpr rfl)
    obtain ⟨⟨hs, hgd, hx⟩, es', ep', hdt, hsz, ent⟩ := frzT2 I hd
    obtain ⟨rfl, rfl⟩ := (dict_ep hod hdt)
    obtain ⟨ok, ov, he⟩ := st
    rw [← hsz] at he
    exact wpAny_pyNext_items_end_raw (I.ok.hd hcl) he ⟨o, hgd, hx, hdt⟩ (by omega) fun h' eb => ⟨rfl, I.turned (t' := s.toks) (fun b ob hb e => eb b ob hb e) f0 f1 f3 f4 f5⟩
  self := by
    rintro A i s Q E ⟨_, _, here⟩ h
    exact PySem.W.kcp_self here h
end
section
variable {X : Cx} {td : TE} {e : Expr} {apos cpos : Pos}
theorem pi_itemsT {elts : List Expr} {kk : Nat} {tpos : Pos} (he : PE X e td) (hbase : attributeBase e "items" X.env (eval e X.env) = eval e X.env := by rfl) (hline : (apos.endLine == cpos.line) = true := by rfl) :
    PI X (.Tuple elts kk tpos) (.Call (.Attribute e "items" apos) [] [] cpos) (iItemsT td) := by
  constructor; intro pins s σ H R I h
  refine wpAny_Call_method (T := "dict") (id := "dict.items") hbase rfl hline F.plainAttrs_dict F.slot_dict_items F.type_dict_items ?_
  refine thn (he.run pins s σ H _ I h) fun u s1 ⟨x, H1, I1, rx, d, o, kvs, ex, hd, q⟩ => ?_
  subst ex
  obtain rfl : u = Value.ref d := (rx)
  obtain ⟨⟨hs, hgd, hx⟩, es, ep, hdt, hsz, ent⟩ := frzT2 I1 hd
  have raw : DT.Raw s1.heap d es ep := ⟨o, hgd, hx, hdt⟩
  have rawW : s1.heap.DictRaw d es ep := ⟨o, hgd, hx, hdt⟩
  refine ⟨raw.typeIs, ?_, ?_⟩
  · intro b e; cases e; exact ⟨o, hgd, hx.2.1⟩
  have I2 : Inv X pins σ H1 { s1 with heap := s1.heap.push { cls := .type "dict_items", data := .fields #[.ref d] } } := by
    refine I1.kept (t' := s1.toks) fun c oc was => ?_
    exact Heap.get?_push_of_some _ was
  have fin : wpAny (model X.prog X.w) X.A (pyIter (.ref s1.heap.objs.size)) (PIE X pins σ (.Tuple elts kk tpos) R) X.xe
      { s1 with heap := s1.heap.push { cls := .type "dict_items", data := .fields #[.ref d] } } := by
    refine DT.iterI (d := d) ⟨_, Heap.get?_push_size _ rfl, rfl, rfl⟩ (raw.push _) (pi_one (tk := s1.toks) I2 _ (turn_itemsT _ hdt) ⟨.none, .none, ?_⟩ q)
    rw [← hsz]
    exact (Heap.get?_push_size _ rfl)
  show wpAny _ X.A (callWith cpos (.builtin "dict.items") [.ref d] [] []) _ X.xe s1
  exact method_meetsIn F.slot_dict_items F.entry_dict_items rfl (PySem.evalArgs_none ⟨rfl, raw.typeIs, F.args_dict_items_1 _, _, DT.meetsItems (es := es) (ep := ep) hs, ⟨raw, fin⟩⟩)
end
/-- {k: v}, k a tuple -/
def tDispT (tk tv : TE) : TE := fun σ H Q => ∀ p, H p = none → tk σ (upd H p (.dT [])) fun x H1 => tv σ H1 fun y H2 => H2 p = some (.dT []) ∧ ∃ (b : Addr) (k : List Key), x = .ref b ∧ H2 b = some (.tup (k.map kV)) ∧ Q (.ref p) (upd H2 p (.dT [(k, y)]))
section
variable {X : Cx} {tk tv : TE} {k v : Expr} {pos : Pos}
theorem pe_dispT {j : Nat} (hr : Room j X.A) (hk : PE X k tk) (hv : PE X v tv) : PE X (.Dict [some k] [v] pos) (tDispT tk tv) := by
  constructor; intro pins s σ H Q I q
  have hn := I.hok.fresh (Nat.le_refl (s.heap.objs.size))
  have I1 := I.laid (a := s.heap.objs.size) (o := .dT []) (h' := s.heap.push { cls := .type "dict", data := .dict #[] }) (t' := s.toks) (fun _ _ q => Heap.get?_push_of_some _ q) (Nat.le_refl _) (dt_empty s.heap I.big)
  have hu : (tupleKind (mixKind X.prog X.w)).room X.A := by
    have := hr.un
    show _ < cLine
    omega
  have hsh : (evalEachOpt [some k] X.env).zip ((evalEach [v] X.env).map fun v => do let x ← v; standAt pos; pure x) = (pairTrees [some k] [v] X.env pos).map fun p => (some p.1, p.2) := zip_pairTrees _ _ _ _ rfl rfl
  rw [arm_eval_Dict, hsh, dictDisplay_pairs (pairTrees [some k] [v] X.env pos) (by intro z; cases z) (show 1 < 17 by decide)]
  refine wpAny_bind (wpAny_standAt (wpAny_bind (wpAny_subDictH (knd := tupleKind (mixKind X.prog X.w)) (Q := fun d s' => wpAny (model X.prog X.w) X.A (pure (Value.ref d)) (EP X pins σ Q) X.xe s') hu (show 1 ≤ 15 by decide) ?_)))
  refine pairTrees_cons_walk (thn (hk.run pins _ σ _ _ I1 (q _ hn)) fun u s1 ⟨x, H1, I1, rx, q1⟩ => thn (hv.run pins s1 σ H1 _ I1 q1) fun w2 s2 ⟨y, H2, I2, ry, e, b, kk, ex, eb, q2⟩ => pairTrees_nil_walk ?_)
  subst ex
  obtain rfl : u = Value.ref b := rx
  obtain ⟨z, hd, xs, rel, dd⟩ := dt_of I2.hok e
  cases rel
  refine ⟨[(kk, b, w2)], ⟨rfl, rfl, key_of I2.hok eb, trivial⟩, dd, fun h' tk2 dd' hs => wpAny_pure ?_⟩
  have es : storedAllH (K := List Key) [] [(kk, b, w2)] = [(kk, b, w2)] := by
    simp [storedAllH, storedH, atKey]
  rw [es] at dd'
  obtain ⟨q, es, ep, hq, h2, h3, h4, _, h5⟩ := (dd')
  have nb : b ≠ s.heap.objs.size := ne_of eb e (fun z => nomatch z)
  refine ⟨.ref s.heap.objs.size, upd H2 s.heap.objs.size (.dT [(kk, y)]), d_write (t' := tk2) (ob := .dT [(kk, y)]) I2 (by rw [e]; exact True.intro) hs ⟨q, hq⟩ ⟨(by show 1 ≤ sizeLine; decide), hd, _, .cons ⟨rfl, ?_, ry⟩ .nil, q, es, ep, hq, h2, h3, h4, h5⟩, rfl, q2⟩
  rw [upd_ne nb]
  exact eb
end
end K2

namespace K2
open PySem PySem.Spec PyProof.Rows L2 SrtO
/-! ### xs[j] read by value -/
section
variable {X : Cx}
def rGetL (K : PySem.W.Frag) : V → V → Hp → VK → Prop := fun o i H Q => ∃ (p : Addr) (xs : List V) (j : Nat) (v : V), o = .ref p ∧ i = .int (j : Int) ∧ SqL K H p xs ∧ xs[j]? = some v ∧ Q v H
theorem get_list : PGet X (rGetL X.K) := by
  intro pins s σ H o i ov iv Q I ro ri h
  obtain ⟨p, xs, j, v, rfl, rfl, hq, he, q⟩ := h
  cases ro
  obtain ⟨t, rfl⟩ := ri
  obtain ⟨its, r, pl, hz⟩ := (I.list hq)
  obtain ⟨w, ew, rw'⟩ := r.get he
  have hj : j < xs.length := (List.getElem?_eq_some_iff.mp he).1
  have hn := line63
  exact wpAny_getItem_list pl.isList (by omega) (by omega) (by simpa using ew) ⟨v, H, I, rw', q⟩
end
/-! ### sorted of tuples whose first three are ints, no two alike -/
def lexT (p q : Int × Int × Int) : Bool := if p.1 = q.1 then lexB p.2 q.2 else decide (p.1 < q.1)
theorem lexT_iff {p q : Int × Int × Int} : lexT p q = true ↔ p.1 < q.1 ∨ (p.1 = q.1 ∧ (p.2.1 < q.2.1 ∨ (p.2.1 = q.2.1 ∧ p.2.2 < q.2.2))) := by
  unfold lexT
  by_cases e : p.1 = q.1
  · rw [if_pos e, lexB_iff]
    omega
  · rw [if_neg e]; rw [decide_eq_true_eq]
    omega
theorem lexT_no {p q : Int × Int × Int} : lexT p q = false ↔ ¬ (p.1 < q.1 ∨ (p.1 = q.1 ∧ (p.2.1 < q.2.1 ∨ (p.2.1 = q.2.1 ∧ p.2.2 < q.2.2)))) := by
  rw [← lexT_iff]
  cases lexT p q <;> simp
theorem swo_lexT {α : Type} (k : α → Int × Int × Int) : Swo fun v u => lexT (k v) (k u) := by
  refine ⟨fun u v h => ?_, fun u v z h1 h2 => ?_⟩
  · have a := lexT_iff.mp h
    refine lexT_no.mpr ?_
    omega
  · have a := lexT_no.mp h1
    have b := lexT_no.mp h2
    refine lexT_no.mpr ?_
    omega
def IsQ (h : Heap) (v : Value) (x : Int × Int × Int) : Prop := ∃ a o t u r n l, v = .ref a ∧ h.get? a = some o ∧ o.cls = .type "tuple" ∧ o.data = .seq #[.int x.1 t, .int x.2.1 u, .int x.2.2 r, .ref l] n
theorem IsQ.keeps {h h' : Heap} {v : Value} {x : Int × Int × Int} (p : IsQ h v x) (k : ∀ b o, h.get? b = some o → o.cls = .type "tuple" → h'.get? b = some o) : IsQ h' v x := by
  obtain ⟨a, o, t, u, r, n, l, e, ho, hc, hd⟩ := p
  exact ⟨a, o, t, u, r, n, l, e, k _ _ ho hc, hc, hd⟩
theorem firstsQ {h : Heap} : ∀ {vs : List Value}, (∀ v ∈ vs, ∃ x, IsQ h v x) → ∃ fs : List Value, PySem.W.KatTups h vs fs ∧ fs.length = vs.length ∧ ∀ f ∈ fs, ∃ x t, f = Value.int x t
  | [], _ => ⟨[], .nil, rfl, fun _ none => by simp at none⟩
  | v :: vs, hp => by
    obtain ⟨fs, h1, h2, h3⟩ := firstsQ (vs := vs) fun v' hm => hp v' (List.mem_cons_of_mem _ hm)
    obtain ⟨x, a, o, t, u, r, n, l, rfl, ho, hc, hd⟩ := hp v List.mem_cons_self
    refine ⟨.int x.1 t :: fs, PySem.W.KatTups.cons ho hc hd rfl h1, by rw [List.length_cons, List.length_cons, h2], fun f hf => ?_⟩
    rcases (List.mem_cons.mp hf) with (rfl | hf)
    · exact ⟨_, _, rfl⟩
    · exact h3 f hf
section
variable {prog : Program} {w : World} {A : Around} {E : Value → Shared → Prop} {s : Shared}
theorem eqBool_self {v : Value} {Q : Bool → Shared → Prop} (hv : (v == v) = true) (h : Q true s) : wpAny (model prog w) A (eqBool v v) Q E s := by
  unfold eqBool
  refine wpAny_holding ?_
  rw [if_pos hv]
  exact (wpAny_bind (wpAny_rule (wpAny_pure h)))
theorem q_cmp {vs : List Value} {k : Value → Int × Int × Int} (hp : ∀ v ∈ vs, IsQ s.heap v (k v)) (hu : ∀ v ∈ vs, ∀ u ∈ vs, k v = k u → v = u) : SrtO.Cmp prog w A s (tuples' true) (fun p => p.1 ∈ vs) (lt2 fun v u => lexT (k v) (k u)) := by
  intro p q hm hm'
  have h1 := hp _ hm
  have h2 := hp _ hm'
  have hu' := hu _ hm _ hm'
  show wpAny (model prog w) A (keyLt' (tuples' true) p.1 q.1) (fun r s' => s' = s ∧ r = lexT (k p.1) (k q.1)) (fun _ _ => False) s
  generalize k p.1 = x at h1 hu' ⊢
  generalize k q.1 = y at h2 hu' ⊢
  obtain ⟨x1, x2, x3⟩ := x
  obtain ⟨y1, y2, y3⟩ := y
  obtain ⟨a, o, t, u, r, n, l, e, ho, hc, hd⟩ := h1
  obtain ⟨a', o', t', u', r', n', l', e', ho', hc', hd'⟩ := h2
  rw [e, e'] at hu' ⊢
  refine (PySem.W.kat_lt ho hd ho' hd' ?_)
  show PySem.W.KatLex prog w A true (decide (4 < 4)) _ [(.int x1 t, .int y1 t'), (.int x2 u, .int y2 u'), (.int x3 r, .int y3 r'), (.ref l, .ref l')] 0 s
  refine PySem.W.kat_cons (SeqAt.EqAt.int_int x1 t y1 t' prog w _ _ ?_)
  refine PySem.W.kat_go (fun eq1 => ?_) (fun ne1 => ?_)
  · have ex : x1 = y1 := by simpa using eq1
    refine PySem.W.kat_yes (PySem.W.kat_cons (SeqAt.EqAt.int_int x2 u y2 u' prog w _ _ ?_))
    refine PySem.W.kat_go (fun eq2 => ?_) (fun ne2 => ?_)
    · have ey : x2 = y2 := by simpa using eq2
      refine PySem.W.kat_yes (PySem.W.kat_cons (SeqAt.EqAt.int_int x3 r y3 r' prog w _ _ ?_))
      refine PySem.W.kat_go (fun e3 => ?_) (fun e3 => ?_)
      · have ez : x3 = y3 := by simpa using e3
        have ea := hu' (by rw [ex, ey, ez])
        cases ea
        rw [ho] at ho'
        cases ho'
        rw [hd] at hd'
        have el : l = l' := by
          injection hd' with h1 h2
          have := congrArg Array.toList h1
          simp at this
          exact this.2.2.2
        subst el
        refine PySem.W.kat_yes (PySem.W.kat_cons (eqBool_self (by simp) (PySem.W.kat_yes (PySem.W.kat_nil ⟨rfl, ?_⟩))))
        have : lexT (x1, x2, x3) (y1, y2, y3) = false := lexT_no.mpr (by show ¬ (x1 < y1 ∨ (x1 = y1 ∧ (x2 < y2 ∨ (x2 = y2 ∧ x3 < y3)))); omega)
        rw [this]
        exact decide_eq_false (Nat.lt_irrefl _)
      · have ez : ¬ x3 = y3 := by simpa using e3
        refine PySem.W.kat_no (PySem.W.kat_one _ _ (lt_int ?_))
        refine (show s = s ∧ decide (x3 < y3) = lexT (x1, x2, x3) (y1, y2, y3) from ⟨rfl, ?_⟩)
        simp [lexT, lexB, ex, ey]
    · have ey : ¬ x2 = y2 := by simpa using ne2
      refine PySem.W.kat_no (PySem.W.kat_one _ _ (lt_int ?_))
      refine (show s = s ∧ decide (x2 < y2) = lexT (x1, x2, x3) (y1, y2, y3) from ⟨rfl, ?_⟩)
      simp [lexT, lexB, ex, ey]
  · have ex : ¬ x1 = y1 := by simpa using ne1
    have e3 : lexT (x1, x2, x3) (y1, y2, y3) = decide (x1 < y1) := if_neg ex
    exact PySem.W.kat_no (oneLt_int ⟨rfl, (e3.symm)⟩)
theorem q_sortable {a : Addr} {vs : List Value} {k : Value → Int × Int × Int} (h0 : 0 < vs.length) (hp : ∀ v ∈ vs, IsQ s.heap v (k v)) (hu : ∀ v ∈ vs, ∀ u ∈ vs, k v = k u → v = u) (ha : ∀ o, s.heap.get? a = some o → o.cls ≠ .type "tuple") : SortableO prog w A s a vs fun v u => lexT (k v) (k u) := by
  intro h' keep
  have hp' : ∀ v ∈ vs, IsQ h' v (k v) := fun v hm => (hp v hm).keeps fun b o e c => keep b o (fun z => by subst z; exact ha o e c) e
  obtain ⟨fs, h1, h2, h3⟩ := firstsQ fun v hm => ⟨_, hp' v hm⟩
  refine ⟨tuples' true, fun Q E hq => ?_, q_cmp hp' hu⟩
  refine PySem.W.kat_kind (T := .type "int") h1 (by omega) (fun f fm => ?_) (by rfl) ?_
  · obtain ⟨x, t, rfl⟩ := (h3 f fm)
    exact PySem.W.Looks.now
  · have e : (Value.type "int" != Value.type "tuple") = true := by decide +kernel
    rw [e]
    exact hq
end
abbrev ltQ (k : V → Int × Int × Int) (x y : V) : Bool := lexT (k x) (k y)
def rSortQ (K : PySem.W.Frag) : List V → Hp → VK → Prop := fun vs H Q => ∃ (a : Addr) (xs : List V) (k : V → Int × Int × Int), vs = [V.ref a] ∧ SqL K H a xs ∧ (∀ x ∈ xs, ∃ t l, x = V.ref t ∧ H t = some (.tup [.int (k x).1, .int (k x).2.1, .int (k x).2.2, .ref l])) ∧ (∀ x ∈ xs, ∀ y ∈ xs, k x = k y → x = y) ∧
  ∀ ys p, SrtO.Srtd (ltQ k) ys → ys.Perm xs → H p = none → Q (.ref p) (upd H p (.lst ys))
section
variable {X : Cx}
theorem cr_sortedQ : CallR X (.builtin "sorted") (rSortQ X.K) := by
  intro pins s σ H vs us Q I r hh
  obtain ⟨a, xs, k, rfl, hs, hx, huq, q⟩ := hh
  obtain ⟨its, rv, hl, hz⟩ := (I.list hs)
  obtain ⟨u, rfl, ru⟩ := (vals1 r)
  obtain rfl : u = Value.ref a := (ru)
  obtain ⟨e1, e2⟩ := refs_back rv fun x xm => by
    obtain ⟨t, l, e, _⟩ := hx x xm
    exact ⟨t, e⟩
  have memv : ∀ {v : Value} {t : Addr}, v ∈ its → v = .ref t → V.ref t ∈ xs := fun {v t} hv e => by rw [e1]; subst e; exact List.mem_map.mpr ⟨_, hv, rfl⟩
  have hq : ∀ v ∈ its, IsQ s.heap v (k (backV v)) := fun v hv => by
    obtain ⟨t, rfl⟩ := e2 v hv
    obtain ⟨t', l, e, ht⟩ := hx _ (memv hv rfl)
    cases e
    obtain ⟨_, its2, r2, o, ho, hc, n, hd⟩ := (I.hok _ _ ht)
    cases r2 with
    | cons ri r2 => cases r2 with
      | cons rj r2 => cases r2 with
        | cons rk r2 => cases r2 with
          | cons rl r2 =>
            cases r2
            obtain ⟨t1, rfl⟩ := ri
            obtain ⟨t2, rfl⟩ := rj
            obtain ⟨t3, rfl⟩ := rk
            obtain rfl : _ = Value.ref l := rl
            exact ⟨t, o, t1, t2, t3, n, l, rfl, ho, hc, hd⟩
  have hun : ∀ v ∈ its, ∀ u ∈ its, k (backV v) = k (backV u) → v = u := fun v hv u hu e => by
    obtain ⟨t, rfl⟩ := e2 v hv
    obtain ⟨t', rfl⟩ := e2 u hu
    have := huq _ (memv hv rfl) _ (memv hu rfl) e
    cases this
    rfl
  refine SrtO.sorted_ord (swo_lexT fun u => k (backV u)) hl.isList (by rw [← rv.length]; exact hz) (fun h2 h₁ a' ha kk => ?_) fun out h1 h2 => ?_
  · refine q_sortable (s := { s with heap := h₁ }) (by omega) (fun v hm => (hq v hm).keeps fun b o e _ => (kk b o e).2) hun fun o e => ?_
    have e' : some o = some (seqObj "list" its.toArray 0) := e.symm.trans ha
    cases e'
    intro c
    exact (absurd (Value.type.inj c) (by decide))
  · have h3 : ∀ u ∈ out, ∃ a, u = Value.ref a := fun u uin => e2 u (h2.perm.mem_iff.mp uin)
    obtain ⟨n, hn⟩ := sortedAll_at s.heap its out.toArray
    have hb : (out.map backV).Perm xs := by
      rw [e1]
      exact h2.perm.map backV
    refine ⟨.ref (s.heap.objs.size + 1), upd H (s.heap.objs.size + 1) (.lst (out.map backV)), I.laid (t' := s.toks) (fun b o e => sortedAll_old e) (Nat.le_succ _) ⟨?_, out, n, vals_back h3, hn⟩, rfl, q _ _ (SrtO.srtd_map h1) hb (I.hok.fresh (Nat.le_succ _))⟩
    rw [hb.length_eq]
    exact hz
end
end K2

namespace K2
open PySem PySem.Spec PyProof.Rows L2
theorem Tups.len {H : Hp} {ts : List Addr} {l : List (Int × Int)} (h : Tups H ts l) : ts.length = l.length := h.1
theorem Tups.nil {H : Hp} : Tups H [] [] := ⟨rfl, fun i t x h => by simp at h⟩
theorem Tups.snoc {H : Hp} {ts : List Addr} {l : List (Int × Int)} {T : Addr} {x : Int × Int} (h : Tups H ts l) (hT : H T = some (.tup [.int x.1, .int x.2])) : Tups H (ts ++ [T]) (l ++ [x]) := by
  refine ⟨by simp [h.1], fun i t y h1 h2 => ?_⟩
  by_cases q : i < ts.length
  · rw [List.getElem?_append_left q] at h1
    rw [List.getElem?_append_left (by rw [← h.1]; exact q)] at h2
    exact h.2 i t y h1 h2
  · have e : i = ts.length := by
      have := (List.getElem?_eq_some_iff.mp h1).1
      simp at this
      omega
    subst e
    rw [List.getElem?_append_right (Nat.le_refl _)] at h1
    rw [h.1, List.getElem?_append_right (Nat.le_refl _)] at h2
    simp at h1 h2
    rw [← h1, ← h2]
    exact hT
theorem Tups.put {H : Hp} {ts : List Addr} {l : List (Int × Int)} {D : Addr} {xs : List V} {o : HO} (h : Tups H ts l) (hD : H D = some (.lst xs)) : Tups (upd H D o) ts l := h.ext fun b ys q => by
  rw [upd_ne (fun z => by rw [z, hD] at q; cases q)]
  exact q
theorem Tups.fresh {H : Hp} {ts : List Addr} {l : List (Int × Int)} {D : Addr} {o : HO} (h : Tups H ts l) (hD : H D = none) : Tups (upd H D o) ts l := h.same (same_upd hD)
theorem Tups.get {H : Hp} {ts : List Addr} {l : List (Int × Int)} (h : Tups H ts l) {i : Nat} {x : Int × Int} (hx : l[i]? = some x) : ∃ t, ts[i]? = some t ∧ (ts.map V.ref)[i]? = some (.ref t) ∧ H t = some (.tup [.int x.1, .int x.2]) := by
  have hi : i < ts.length := by rw [h.1]; exact (List.getElem?_eq_some_iff.mp hx).1
  exact ⟨ts[i], List.getElem?_eq_getElem hi, by rw [List.getElem?_map, List.getElem?_eq_getElem hi]; rfl, h.2 i _ x (List.getElem?_eq_getElem hi) hx⟩
theorem ixL {X : Cx} (K : PySem.W.Frag) (h : X.K = K := by rfl) : IxR X (rIxL K) := by subst h; exact ix_list
theorem ixT {X : Cx} (K : PySem.W.Frag) (h : X.K = K := by rfl) : IxR X (rIxT K) := by subst h; exact ix_tup
/-! ### packages_of -/
def packI : List (Int × Int) → List (Int × Int)
  | a :: b :: l => (a.1 + b.1, -1) :: packI l
  | _ => []
theorem packI_len : ∀ l : List (Int × Int), (packI l).length = l.length / 2
  | [] => by simp [packI]
  | [_] => by simp [packI]
  | a :: b :: l => by
    have := packI_len l
    simp only [packI, List.length_cons]; omega
theorem packI_get : ∀ (l : List (Int × Int)) (i : Nat) (x y : Int × Int), l[2 * i]? = some x → l[2 * i + 1]? = some y → (packI l)[i]? = some (x.1 + y.1, -1)
  | [], i, x, y, h, _ => by simp at h
  | [_], i, x, y, _, h => by simp at h
  | a :: b :: l, 0, x, y, h, h2 => by
    simp at h h2
    rw [← h, ← h2]; rfl
  | a :: b :: l, i + 1, x, y, h, h2 => by
    have := packI_get l i x y (by simpa [show 2 * (i + 1) = 2 * i + 1 + 1 by omega] using h) (by simpa [show 2 * (i + 1) + 1 = 2 * i + 1 + 1 + 1 by omega] using h2)
    simpa [packI] using this
theorem rg_two {n : Nat} (h : n ≤ 100000) : RgC 0 ((n : Int) - 1) 2 (n / 2) := by
  have e : Builtin.Range.rangeSize 0 ((n : Int) - 1) 2 = ((n / 2 : Nat) : Int) := by
    unfold Builtin.Range.rangeSize at *
    simp
    split <;> omega
  refine ⟨by decide, by decide, ?_, e⟩
  unfold Builtin.Range.small
  rw [e]
  simp [Builtin.Range.rangeFitsLong]
  omega
theorem scPacks : FnScope ["level", "at"] ["level"] (defScope sPacks) := ⟨rfl, rfl, rfl, by decide +kernel, rfl, by decide +kernel, by decide +kernel⟩
section
variable {P : Program} {w : World} {K : PySem.W.Frag} {mg : Str → Option Value} {base : Heap}
def spPacks : Sp := fun vs H Q _ => ∃ (p : Addr) (ts : List Addr) (l : List (Int × Int)), vs = [.ref p] ∧ H p = some (.lst (ts.map V.ref)) ∧ Tups H ts l ∧ l.length ≤ 100000 ∧
  ∀ H' q us, Same H H' → H q = none → H' q = some (.lst (us.map V.ref)) → Tups H' us (packI l) → Q (.ref q) H'
theorem ok_packs {f : Addr} {fd : FuncData} {k : Nat} {t1 : Tok} (F : Fun K "packages_of" "packages_of" sPacks f fd) (m1 : mg "len" = none) (m2 : mg "range" = none) (c1 : mg "PACKAGE" = some (.int (-1) t1)) : FnOk P w K mg base CX0 (k + 1) f fd ["level"] spPacks := by
  refine F.ok scPacks (fun vs H Q E h => ?_) (fun cdv A outer s H vs Q E hr h => ?_)
  · obtain ⟨p, ts, l, rfl, _⟩ := h
    rfl
  · obtain ⟨p, ts, l, rfl, hp, ht, hl, q⟩ := h
    refine ⟨_, pss_one (ps_ret (pe_lc (own := [("at", 1)]) (g := gName 1) (tt := tYes) rfl scPacks.nd
      (pi_range3 rfl m2 (pa_cons pe_int (pa_cons (pe_op op_sub (pe_callB call_len_seq (by rfl) m1 PySem.boot_len (pa_cons (pv 0) pa_nil)) pe_int) (pa_cons pe_int pa_nil)))) (blkOk_by (N := ["level", "at"]) (sc := defScope sPacks) (by decide +kernel))
        (fun _ _ _ _ _ => pg_name (i := 1) scPacks.nd rfl (Or.inl rfl)) (fun _ _ _ _ _ => pts_nil)
        (fun _ _ _ _ _ => pe_tup (pa_cons (pe_op op_add (pe_ix (ixT K) (pe_ix (ixL K) (pv 0) (pv 1) (fun _ _ => rfl)) pe_int (fun _ _ => rfl)) (pe_ix (ixT K) (pe_ix (ixL K) (pv 0) (pe_op op_add (pv 1) pe_int) (fun _ _ => rfl)) pe_int (fun _ _ => rfl))) (pa_cons (pe_glob (v := .int (-1)) rfl c1 ⟨_, rfl⟩) pa_nil))))), ?_⟩
    refine ⟨_, rfl, p, _, rfl, .inl (.inl (.inl hp)), _, _, rfl, rfl, 0, _, 2, l.length / 2, rfl, ?_, fun D nD => ?_⟩
    · rw [List.length_map, ht.1]
      exact rg_two hl
    refine lc_it walk_rangeC (fun i H' => Same H H' ∧ ∃ us, H' D = some (.lst (us.map V.ref)) ∧ Tups H' us ((packI l).take i)) ⟨same_upd nD, [], upd_same, Tups.nil⟩ (fun i H' _ h => trivial) (fun i x H1 H2 hi h y => ?_) (fun H' h => ?_)
    · obtain ⟨rfl, rfl⟩ := y
      obtain ⟨sm, us, hD, hu⟩ := h
      have h1 : 2 * i < l.length := by omega
      have h2 : 2 * i + 1 < l.length := by omega
      obtain ⟨t1, a1, a2, a3⟩ := ht.get (List.getElem?_eq_getElem h1)
      obtain ⟨t2, b1, b2, b3⟩ := ht.get (List.getElem?_eq_getElem h2)
      have hp1 : SqL K H2 p (ts.map V.ref) := .inl (.inl (sm _ _ hp))
      refine ⟨rfl, yes ?_⟩
      refine ⟨_, rfl, _, rfl, p, _, _, _, rfl, rfl, hp1, (show atI _ (0 + (i : Int) * 2) = some (.ref t1) by rw [show (0 + (i : Int) * 2) = ((2 * i : Nat) : Int) by omega]; exact atI_nat a2), t1, _, 0, _, rfl, rfl, .inl (.inl (sm _ _ a3)), rfl, ?_⟩
      refine ⟨_, rfl, _, rfl, _, _, rfl, rfl, p, _, _, _, rfl, rfl, hp1, (show atI _ (0 + (i : Int) * 2 + 1) = some (.ref t2) by rw [show (0 + (i : Int) * 2 + 1) = ((2 * i + 1 : Nat) : Int) by omega]; exact atI_nat b2), t2, _, 0, _, rfl, rfl, .inl (.inl (sm _ _ b3)), rfl, ?_⟩
      refine ⟨_, _, rfl, rfl, (by show 2 ≤ sizeLine; decide), fun T nT => ?_⟩
      have hDT : (upd H2 T (.tup [.int (l[2 * i].1 + l[2 * i + 1].1), .int (-1)])) D = some (.lst (us.map V.ref)) := by rw [upd_ne (ne_of_none hD nT)]; exact hD
      refine ⟨_, hDT, ?_, same_put (sm.trans (same_upd nT)) nD, us ++ [T], ?_, ?_⟩
      · rw [List.length_map, hu.1, List.length_take, packI_len]
        exact Nat.lt_of_le_of_lt (show _ ≤ 50000 by omega) (by decide)
      · rw [upd_same, List.map_append]
        rfl
      · rw [List.take_add_one, packI_get l i _ _ (List.getElem?_eq_getElem h1) (List.getElem?_eq_getElem h2)]
        exact ((hu.fresh nT).snoc upd_same).put hDT
    · obtain ⟨sm, us, hD, hu⟩ := h
      rw [List.take_of_length_le (by rw [packI_len]; exact Nat.le_refl _)] at hu
      exact q H' D us sm nD hD hu
end
end K2

namespace K2
open PySem PySem.Spec PyProof.Rows L2
/-! ### levels_of -/
/-- the levels as the program makes them -/
def lev (C : List (Int × Int)) : Nat → List (Int × Int)
  | 0 => C
  | k + 1 => (C ++ packI (lev C k)).mergeSort keyLe
theorem lev_len_le (C : List (Int × Int)) : ∀ k, (lev C k).length ≤ 2 * C.length
  | 0 => by simp only [lev]; omega
  | k + 1 => by
    have := lev_len_le C k
    rw [lev, (List.mergeSort_perm _ _).length_eq, List.length_append, packI_len]
    omega
/-- a list of lists of pairs -/
def Levs (H : Hp) (as : List Addr) (ls : List (List (Int × Int))) : Prop := as.length = ls.length ∧ ∀ (i : Nat) (a : Addr) (l : List (Int × Int)), as[i]? = some a → ls[i]? = some l → ∃ ts, H a = some (.lst (ts.map V.ref)) ∧ Tups H ts l
theorem Levs.ext {H H' : Hp} {as : List Addr} {ls : List (List (Int × Int))} (h : Levs H as ls) (e : ∀ a, a ∈ as → ∀ o, H a = some o → H' a = some o) (e2 : ∀ b xs, H b = some (.tup xs) → H' b = some (.tup xs)) : Levs H' as ls := ⟨h.1, fun i a l h1 h2 => by
  obtain ⟨ts, q1, q2⟩ := h.2 i a l h1 h2
  exact ⟨ts, e a (List.mem_of_getElem? h1) _ q1, q2.ext e2⟩⟩
theorem Levs.extN {H H' : Hp} {as : List Addr} {ls : List (List (Int × Int))} (h : Levs H as ls) (e : LamX.ExtN H H') : Levs H' as ls := ⟨h.1, fun i a l h1 h2 => by
  obtain ⟨ts, q1, q2⟩ := h.2 i a l h1 h2
  exact ⟨ts, e _ _ q1 (fun _ z => by cases z), q2.extN e⟩⟩
theorem Levs.snoc {H : Hp} {as : List Addr} {ls : List (List (Int × Int))} {a : Addr} {l : List (Int × Int)} {ts : List Addr} (h : Levs H as ls) (ha : H a = some (.lst (ts.map V.ref))) (ht : Tups H ts l) : Levs H (as ++ [a]) (ls ++ [l]) := by
  refine ⟨by simp [h.1], fun i t y h1 h2 => ?_⟩
  by_cases q : i < as.length
  · rw [List.getElem?_append_left q] at h1
    rw [List.getElem?_append_left (by rw [← h.1]; exact q)] at h2
    exact h.2 i t y h1 h2
  · have e : i = as.length := by
      have := (List.getElem?_eq_some_iff.mp h1).1
      simp at this
      omega
    subst e
    rw [List.getElem?_append_right (Nat.le_refl _)] at h1
    rw [h.1, List.getElem?_append_right (Nat.le_refl _)] at h2
    simp at h1 h2
    rw [← h1, ← h2]
    exact ⟨ts, ha, ht⟩
def levL (C : List (Int × Int)) (n : Nat) : List (List (Int × Int)) := (List.range n).map (lev C)
theorem levL_len {C : List (Int × Int)} {n : Nat} : (levL C n).length = n := by simp [levL]
theorem levL_succ {C : List (Int × Int)} {n : Nat} : levL C (n + 1) = levL C n ++ [lev C n] := by simp [levL, List.range_succ]
theorem levL_get {C : List (Int × Int)} {n i : Nat} (h : i < n) : (levL C n)[i]? = some (lev C i) := by simp [levL, h]
theorem scLevels : FnScope ["coins", "bound", "levels"] ["coins", "bound"] (defScope sLevels) := ⟨rfl, rfl, rfl, by decide +kernel, rfl, by decide +kernel, by decide +kernel⟩
section
variable {P : Program} {w : World} {K : PySem.W.Frag} {mg : Str → Option Value} {base : Heap}
def spLevels (T : List (Addr × Str)) : Sp := fun vs H Q _ => ∃ (p : Addr) (ts : List Addr) (C : List (Int × Int)) (n : Nat), vs = [.ref p, .int (n : Int)] ∧ H p = some (.lst (ts.map V.ref)) ∧ Tups H ts C ∧ C.length ≤ 1000 ∧ 1 ≤ n ∧ n ≤ 12 ∧ LamX.Tabs T H ∧
  ∀ H' q as, LamX.ExtN H H' → LamX.Tabs T H' → H' q = some (.lst (as.map V.ref)) → Levs H' as (levL C n) → Q (.ref q) H'
theorem extN_put {H H' : Hp} {D : Addr} {o : HO} (h : LamX.ExtN H H') (n : H D = none) : LamX.ExtN H (upd H' D o) := fun b x e nt => by
  rw [upd_ne (ne_of_none e n)]
  exact h _ _ e nt
theorem tabs_put {T : List (Addr × Str)} {H : Hp} {D : Addr} {xs : List V} {o : HO} (h : LamX.Tabs T H) (hD : H D = some (.lst xs)) : LamX.Tabs T (upd H D o) := fun p hp => by
  obtain ⟨ps, h1, h2, h3⟩ := h p hp
  refine ⟨ps, by rw [upd_ne (fun z => by rw [z, hD] at h1; cases h1)]; exact h1, h2, fun pos cv hc => ?_⟩
  obtain ⟨c, e1, e2⟩ := (h3 pos cv hc)
  exact ⟨c, e1, by rw [upd_ne (fun z => by rw [z, hD] at e2; unfold LamX.CodeO at e2; cases e2)]; exact e2⟩
theorem tabs_same {T : List (Addr × Str)} {H H' : Hp} (h : LamX.Tabs T H) (e : Same H H') : LamX.Tabs T H' := h.ext e
theorem extN_same {H H' : Hp} (e : Same H H') : LamX.ExtN H H' := LamX.ExtN.of e
theorem ok_levels {f fP c PT : Addr} {fdP : FuncData} {k : Nat} {oc kV doc pm ct : Value} {od an : Option Addr} {osl : Array (Option Value)} (lk : K.lookup f = some ⟨oc, od, .func (PySem.W.fnOf "levels_of" "levels_of" (defArgs sLevels) (defBody sLevels) (defScope sLevels) .none kV doc pm an (.ref c) ct), osl⟩)
    (hcd : PySem.W.codeIn K (.ref c) "levels_of" = true) (TB : LamX.TabB base mg c PT) (FP : Fun K "packages_of" "packages_of" sPacks fP fdP) (GP : FnOk P w K mg base CX0 (k + 1) fP fdP ["level"] spPacks) (bP : Binds K fdP ["level"] []) (gP : mg "packages_of" = some (.ref fP))
    (m1 : mg "len" = none) (m2 : mg "sorted" = none) : FnOk P w K mg base CX0 (k + 2) f (PySem.W.fnOf "levels_of" "levels_of" (defArgs sLevels) (defBody sLevels) (defScope sLevels) .none kV doc pm an (.ref c) ct) ["coins", "bound"] (spLevels [(PT, "levels_of.<locals>.<lambda>")]) := by
  refine fn_of (N := ["coins", "bound", "levels"]) lk hcd scLevels (fun vs H Q E h => ?_) (fun A outer s H vs Q E hr h => ?_)
  · obtain ⟨p, ts, C, n, rfl, _⟩ := h
    rfl
  · obtain ⟨p, ts, C, n, rfl, hp, ht, hC, h1, h12, hT, q⟩ := h
    suffices hh : ∃ t, PSs (cxOf CX0 P w K mg base ["coins", "bound", "levels"] "levels_of" (defScope sLevels) f (.ref c) A outer s H E).nox (defBody sLevels) t ∧ t { nx := fun _ H' => Q .non H', rt := Q } (start ["coins", "bound", "levels"] [.ref p, .int (n : Int)]) H by
      obtain ⟨t, a, b⟩ := hh
      exact ⟨t, a.nox, b⟩
    refine ⟨_, pss_cons (ps_set (i := 2) scLevels.nd rfl (.inl rfl) (pe_lst (pa_cons (pv 0) pa_nil)))
      (pss_cons (ps_while PassesOwn.never (pt_cmpR op_lt (pe_callB call_len_seq (by rfl) m1 PySem.boot_len (pa_cons (pv 2) pa_nil)) (pv 1) (nomark _))
        (pss_one (ps_expr (pe_bm PySem.F.plainAttrs_list PySem.F.slot_list_append PySem.F.type_list_append mt_append (pv 2)
          (pa_cons (pe_sortedKey (T := [(PT, "levels_of.<locals>.<lambda>")]) hr (pa_cons (pe_op op_cat (pv 0) (pe_call GP hr (by rfl) gP FP.kp bP .nil pass0 (pa_cons (pe_ix ix_list (pv 2) (pe_un un_neg pe_int) (fun _ _ => rfl)) pa_nil))) pa_nil) (by rfl) m2 TB rfl (List.mem_singleton.mpr (by rfl)) (fun x hx _ => by rw [List.mem_singleton.mp hx]; rfl)) pa_nil)))))
      (pss_one (ps_ret (pv 2)))), ?_⟩
    refine ⟨_, rfl, (by show 1 ≤ sizeLine; decide), fun q0 nq => ?_⟩
    refine ⟨fun m σ H' => ∃ (i : Nat) (as : List Addr), m = n - i ∧ 1 ≤ i ∧ i ≤ n ∧ σ = [some (.ref p), some (.int (n : Int)), some (.ref q0)] ∧ H' q0 = some (.lst (as.map V.ref)) ∧ Levs H' as (levL C i) ∧ LamX.ExtN H H' ∧ LamX.Tabs [(PT, "levels_of.<locals>.<lambda>")] H' ∧ (∀ a ∈ as, a ≠ q0),
      ⟨n - 1, 1, [p], rfl, Nat.le_refl _, h1, rfl, upd_same, ?_, extN_same (same_upd nq), tabs_same hT (same_upd nq), fun a ha z => by rw [List.mem_singleton.mp ha] at z; exact ne_of_none hp nq z⟩, fun m σ H' hW => ?_⟩
    · exact Levs.snoc (as := []) (ls := []) ⟨rfl, fun i a l h => by simp at h⟩ (same_upd nq _ _ hp) (ht.same (same_upd nq))
    · obtain ⟨i, as, rfl, hi1, hi2, rfl, hq, hL, eN, hTT, hnq⟩ := hW
      have hal : as.length = i := by rw [hL.1, levL_len]
      refine ⟨.ref q0, rfl, q0, _, rfl, .inl (.inl (.inl hq)), .int (n : Int), rfl, _, _, rfl, rfl, _, rfl, ite2 (fun e => ?_) (fun e => ?_)⟩
      · have hlt : i < n := by
          have := of_decide_eq_true e
          rw [List.length_map, hal] at this
          omega
        refine ⟨fun σ' H'' => ∃ m', m' < n - i ∧ ∃ (i : Nat) (as : List Addr), m' = n - i ∧ 1 ≤ i ∧ i ≤ n ∧ σ' = [some (.ref p), some (.int (n : Int)), some (.ref q0)] ∧ H'' q0 = some (.lst (as.map V.ref)) ∧ Levs H'' as (levL C i) ∧ LamX.ExtN H H'' ∧ LamX.Tabs [(PT, "levels_of.<locals>.<lambda>")] H'' ∧ (∀ a ∈ as, a ≠ q0), fun σ' H'' h => h, ?_⟩
        have hp' : H' p = some (.lst (ts.map V.ref)) := eN _ _ hp fun _ z => by cases z
        have ht' := ht.extN eN
        -- levels[-1]
        have hlast : as[i - 1]? = some (as[i - 1]'(by omega)) := List.getElem?_eq_getElem (by omega)
        obtain ⟨tl, hla, hlt2⟩ := hL.2 (i - 1) _ _ hlast (levL_get (by omega))
        have hll := lev_len_le C (i - 1)
        refine ⟨.ref q0, rfl, .inl ⟨rfl, _, .inl (.inl hq)⟩, .ref p, rfl, .ref q0, rfl, 1, rfl, q0, _, -1, .ref (as[i - 1]'(by omega)), rfl, rfl, .inl (.inl hq), ?_, ?_⟩
        · have hne : as ≠ [] := fun z => by rw [z] at hal; simp at hal; omega
          have e3 : as.map V.ref = (as.dropLast.map V.ref) ++ [.ref (as[i - 1]'(by omega))] := by
            have : as = as.dropLast ++ [as[i - 1]'(by omega)] := by
              have e4 := (List.dropLast_concat_getLast hne).symm
              have e5 : as.getLast hne = as[i - 1]'(by omega) := by
                rw [List.getLast_eq_getElem]
                congr 1
                omega
              rw [← e5]; exact e4
            conv => lhs; rw [this]
            simp
          rw [e3]
          exact atI_last _ _
        · refine ⟨_, tl, lev C (i - 1), rfl, hla, hlt2, by omega, fun H3 r us sm3 nr hr3 hu3 => ?_⟩
          -- coins + packages
          have hp3 : H3 p = some (.lst (ts.map V.ref)) := sm3 _ _ hp'
          have ht3 := ht'.same sm3
          refine ⟨p, r, _, _, rfl, rfl, hp3, hr3, ?_, fun z nz => ?_⟩
          · rw [List.length_map, List.length_map, ht.1, hu3.1, packI_len]
            exact Nat.le_trans (show _ ≤ 10000 by omega) (by decide)
          · have sm4 : Same H3 (upd H3 z (.lst (ts.map V.ref ++ us.map V.ref))) := same_upd nz
            have hcat : Tups (upd H3 z (.lst (ts.map V.ref ++ us.map V.ref))) (ts ++ us) (C ++ packI (lev C (i - 1))) := by
              have a1 := ht3.same sm4
              have a2 := hu3.same sm4
              refine ⟨by simp [a1.1, a2.1], fun j t x h1 h2 => ?_⟩
              by_cases qj : j < ts.length
              · rw [List.getElem?_append_left qj] at h1
                rw [List.getElem?_append_left (by rw [← a1.1]; exact qj)] at h2
                exact a1.2 j t x h1 h2
              · rw [List.getElem?_append_right (by omega)] at h1
                rw [List.getElem?_append_right (by rw [← a1.1]; omega)] at h2
                rw [a1.1] at h1
                exact a2.2 _ t x h1 h2
            have hTT4 := tabs_same (tabs_same hTT sm3) sm4
            refine ⟨z, ts ++ us, _, rfl, ?_, hcat, hTT4, fun H5 y vs' eN5 hT5 ny hv5 => ?_⟩
            · rw [upd_same, List.map_append]
            · have eN45 : LamX.ExtN H' H5 := ((extN_same sm3).trans (extN_same sm4)).trans eN5
              have hq5 : H5 q0 = some (.lst (as.map V.ref)) := eN45 _ _ hq fun _ z => by cases z
              have nyq : q0 ≠ y := ne_of_none hq5 ny
              have hq6 : (upd H5 y (.lst (vs'.map V.ref))) q0 = some (.lst (as.map V.ref)) := by rw [upd_ne nyq]; exact hq5
              have sm6 : Same H5 (upd H5 y (.lst (vs'.map V.ref))) := same_upd ny
              refine ⟨q0, _, _, rfl, rfl, hq6, ?_, ?_⟩
              · rw [List.length_map, hal]
                exact small1000 (by omega)
              · refine ⟨n - (i + 1), by omega, i + 1, as ++ [y], rfl, by omega, by omega, rfl, ?_, ?_, ?_, ?_, fun a ha => ?_⟩
                · rw [upd_same, List.map_append]
                  rfl
                · rw [levL_succ]
                  have e6 : lev C i = (C ++ packI (lev C (i - 1))).mergeSort keyLe := by
                    obtain ⟨j, rfl⟩ : ∃ j, i = j + 1 := ⟨i - 1, by omega⟩
                    rfl
                  have L5 := (hL.extN eN45).extN (extN_same sm6)
                  have L6 : Levs (upd (upd H5 y (.lst (vs'.map V.ref))) q0 (.lst (as.map V.ref ++ [.ref y]))) as (levL C i) := by
                    refine L5.ext (fun a ha o ho => ?_) fun b xs hb => ?_
                    · rw [upd_ne (hnq a ha)]
                      exact ho
                    · rw [upd_ne (fun z => by rw [z, hq6] at hb; cases hb)]
                      exact hb
                  refine L6.snoc (ts := vs') ?_ ?_
                  · rw [upd_ne nyq.symm, upd_same]
                  · rw [e6]
                    exact (hv5.same sm6).put hq6
                · exact extN_put (eN.trans (eN45.trans (extN_same sm6))) nq
                · exact tabs_put (tabs_same hT5 sm6) hq6
                · rcases List.mem_append.mp ha with z | z
                  · exact hnq a z
                  · rw [(List.mem_singleton.mp z)]
                    exact nyq.symm
      · have hin : i = n := by
          have : ¬ ((as.map V.ref).length : Int) < n := fun z => e (decide_eq_true z)
          rw [List.length_map, hal] at this
          omega
        subst hin
        exact ⟨.ref q0, rfl, q H' q0 as eN hTT hq hL⟩
end
end K2

namespace K2
open PySem PySem.Spec PyProof.Rows L2
theorem cut_to {xs : List V} {m : Nat} : cutV xs none (some (m : Int)) = xs.take m := by
  unfold cutV
  rw [HT.sIx_none, show HT.sIx xs.length xs.length (some (m : Int)) = min m xs.length from HT.sIx_nat xs.length xs.length m]
  show List.take (min m xs.length - 0) (xs.drop 0) = _
  rw [List.drop_zero, Nat.sub_zero]
  by_cases h : m ≤ xs.length
  · rw [Nat.min_eq_left h]
  · rw [Nat.min_eq_right (by omega), List.take_length, List.take_of_length_le (by omega)]
theorem Tups.take {H : Hp} {ts : List Addr} {l : List (Int × Int)} (h : Tups H ts l) (m : Nat) : Tups H (ts.take m) (l.take m) := by
  refine ⟨by rw [List.length_take, List.length_take, h.1], fun i t x h1 h2 => ?_⟩
  rw [List.getElem?_take] at h1 h2
  split at h1
  · rename_i q
    rw [if_pos q] at h2
    exact h.2 i t x h1 h2
  · cases h1
/-! ### taken_coins -/
def coinsOf (t : List (Int × Int)) : List Int := (t.filter fun x => decide (x.2 ≠ -1)).map (·.2)
theorem coinsOf_le (t : List (Int × Int)) : (coinsOf t).length ≤ t.length := by
  rw [coinsOf, List.length_map]
  exact List.length_filter_le _ _
def tkS (R : List (List (Int × Int))) (m0 : Nat) : Nat → Nat × List Int
  | 0 => (m0, [])
  | i + 1 => (2 * (((R.getD i []).take (tkS R m0 i).1).length - (coinsOf ((R.getD i []).take (tkS R m0 i).1)).length), (tkS R m0 i).2 ++ coinsOf ((R.getD i []).take (tkS R m0 i).1))
theorem tkS_len (R : List (List (Int × Int))) (m0 n : Nat) (h : ∀ l ∈ R, l.length ≤ n) : ∀ i, (tkS R m0 i).2.length ≤ i * n
  | 0 => by simp [tkS]
  | i + 1 => by
    have ih := tkS_len R m0 n h i
    have h1 := coinsOf_le ((R.getD i []).take (tkS R m0 i).1)
    have h2 : (R.getD i []).length ≤ n := by
      by_cases q : i < R.length
      · rw [List.getD_eq_getElem?_getD, List.getElem?_eq_getElem q]
        exact h _ (List.getElem_mem q)
      · rw [List.getD_eq_getElem?_getD, List.getElem?_eq_none (by omega)]
        simp
    rw [List.length_take] at h1
    rw [tkS, List.length_append, Nat.add_mul]
    omega
theorem scTaken : FnScope ["levels", "letters", "many", "level", "coins", "_", "letter"] ["levels"] (defScope sTaken) := ⟨rfl, rfl, rfl, by decide +kernel, rfl, by decide +kernel, by decide +kernel⟩
section
variable {P : Program} {w : World} {K : PySem.W.Frag} {mg : Str → Option Value} {base : Heap}
def spTaken : Sp := fun vs H Q _ => ∃ (p : Addr) (as : List Addr) (ls : List (List (Int × Int))) (l0 : List (Int × Int)), vs = [.ref p] ∧ H p = some (.lst (as.map V.ref)) ∧ Levs H as ls ∧ ls[0]? = some l0 ∧ 1 ≤ l0.length ∧ ls.length ≤ 12 ∧ (∀ l ∈ ls, l.length ≤ 2000) ∧
  ∀ H' q, Same H H' → H q = none → H' q = some (.lst ((tkS ls.reverse (2 * l0.length - 2) ls.length).2.map V.int)) → Q (.ref q) H'
theorem ok_taken {f : Addr} {fd : FuncData} {k : Nat} {t1 : Tok} (F : Fun K "taken_coins" "taken_coins" sTaken f fd) (m1 : mg "len" = none) (m2 : mg "reversed" = none) (c1 : mg "PACKAGE" = some (.int (-1) t1)) : FnOk P w K mg base CX0 (k + 1) f fd ["levels"] spTaken := by
  refine F.ok scTaken (fun vs H Q E h => ?_) (fun cdv A outer s H vs Q E hr h => ?_)
  · obtain ⟨p, as, ls, l0, rfl, _⟩ := h
    rfl
  · obtain ⟨p, as, ls, l0, rfl, hp, hL, h0, hl0, hls, hle, q⟩ := h
    refine ⟨_, pss_cons (ps_set (i := 1) scTaken.nd rfl (.inl rfl) (pe_lst pa_nil))
      (pss_cons (ps_set (i := 2) scTaken.nd rfl (.inl rfl) (pe_op op_sub (pe_op op_mul pe_int (pe_callB call_len_seq (by rfl) m1 PySem.boot_len (pa_cons (pe_ix ix_list (pv 0) pe_int (fun _ _ => rfl)) pa_nil))) pe_int))
      (pss_cons (ps_for PassesOwn.never rfl (pi_reversed (by rfl) m2 (pa_cons (pv 0) pa_nil)) (pg_name (i := 3) scTaken.nd rfl (.inl rfl))
        (pss_cons (ps_setLc (i := 4) (own := [("_", 5), ("letter", 6)]) (g := gTup K 2 (gCons (gName 5) (gCons (gName 6) gNil))) rfl scTaken.nd rfl rfl (sw_true rfl rfl rfl (by decide +kernel))
          (pi_list (pe_slice sl_list (pv 3) po_none (po_some (pv 2)))) (blkOk_by (N := ["levels", "letters", "many", "level", "coins", "_", "letter"]) (sc := defScope sTaken) (by decide +kernel))
          (fun _ _ _ _ _ => pg_tup rfl (pgs_cons (pg_name (i := 5) scTaken.nd rfl (.inl rfl)) (pgs_cons (pg_name (i := 6) scTaken.nd rfl (.inl rfl)) pgs_nil)))
          (fun _ _ _ _ _ => pts_one (pt_cmpR op_ne (pv 6) (pe_glob (v := .int (-1)) rfl c1 ⟨_, rfl⟩) (nomark _)))
          (fun _ _ _ _ _ => pv 6))
        (pss_cons (ps_expr (pe_bm PySem.F.plainAttrs_list PySem.F.slot_list_extend PySem.F.type_list_extend mt_extend (pv 1) (pa_cons (pv 4) pa_nil)))
        (pss_one (ps_set (i := 2) scTaken.nd rfl (.inl rfl) (pe_op op_mul pe_int (pe_op op_sub (pe_callB call_len_seq (by rfl) m1 PySem.boot_len (pa_cons (pe_slice sl_list (pv 3) po_none (po_some (pv 2))) pa_nil)) (pe_callB call_len_seq (by rfl) m1 PySem.boot_len (pa_cons (pv 4) pa_nil)))))))))
      (pss_one (ps_ret (pv 1))))), ?_⟩
    refine ⟨Nat.zero_le _, fun q0 nq => ?_⟩
    have sm0 : Same H (upd H q0 (.lst [])) := same_upd nq
    obtain ⟨a0, ha0, ha0'⟩ : ∃ a0, as[0]? = some a0 ∧ (as.map V.ref)[0]? = some (.ref a0) := by
      have h1 : 0 < as.length := by rw [hL.1]; exact (List.getElem?_eq_some_iff.mp h0).1
      exact ⟨as[0], List.getElem?_eq_getElem h1, by rw [List.getElem?_map, List.getElem?_eq_getElem h1]; rfl⟩
    obtain ⟨ts0, hts0, ht0⟩ := hL.2 0 a0 l0 ha0 h0
    refine ⟨.ref p, rfl, p, _, 0, _, rfl, rfl, .inl (.inl (sm0 _ _ hp)), atI_nat (j := 0) ha0', a0, _, rfl, .inl (.inl (.inl (sm0 _ _ hts0))), 2, _, rfl, rfl, .inl ⟨by decide, by decide⟩, _, 2, rfl, rfl, ?_⟩
    have em : (2 * ((ts0.map V.ref).length : Int) - 2) = ((2 * l0.length - 2 : Nat) : Int) := by
      rw [List.length_map, ht0.1]; omega
    have hal : (as.map V.ref).length = ls.length := by rw [List.length_map, hL.1]
    refine ⟨.ref p, rfl, p, as.map V.ref, rfl, .inl (.inl (sm0 _ _ hp)), ?_⟩
    refine for_it (walk_rev (K := K) (a := p) (xs := as.map V.ref)) (fun i σ H' => ∃ y3 y4, σ = [some (.ref p), some (.ref q0), some (.int ((tkS ls.reverse (2 * l0.length - 2) i).1 : Nat)), y3, y4, none, none] ∧ Same H H' ∧ H' q0 = some (.lst ((tkS ls.reverse (2 * l0.length - 2) i).2.map V.int)))
      ⟨none, none, (by show [some (V.ref p), some (V.ref q0), some (V.int (2 * ((ts0.map V.ref).length : Int) - 2)), none, none, none, none] = _; rw [em]; rfl), sm0, upd_same⟩ (fun i σ H' _ h => ?_) (fun i x σ H1 H2 hi h y => ?_) (fun σ H' h => ?_)
    · obtain ⟨y3, y4, _, sm, _⟩ := h
      exact .inl (.inl (sm _ _ hp))
    · obtain ⟨y3, y4, rfl, sm, hq⟩ := h
      obtain ⟨rfl, hx⟩ := y
      rw [hal] at hi hx
      have hj : ls.length - 1 - i < as.length := by rw [hL.1]; omega
      have hj2 : ls.length - 1 - i < ls.length := by omega
      rw [List.getElem?_map, List.getElem?_eq_getElem hj] at hx
      obtain rfl : _ = x := Option.some.inj hx
      obtain ⟨ts, hts, ht⟩ := hL.2 _ _ _ (List.getElem?_eq_getElem hj) (List.getElem?_eq_getElem hj2)
      have hR : ls.reverse.getD i [] = ls[ls.length - 1 - i] := by
        rw [List.getD_eq_getElem?_getD, List.getElem?_reverse (by omega), List.getElem?_eq_getElem hj2]
        rfl
      generalize hl : ls[ls.length - 1 - i] = l at ht hR
      have hl2 : l.length ≤ 2000 := hle l (by rw [← hl]; exact List.getElem_mem hj2)
      generalize hlev : as[ls.length - 1 - i] = lv at hts
      have hstep : tkS ls.reverse (2 * l0.length - 2) (i + 1) = (2 * ((l.take (tkS ls.reverse (2 * l0.length - 2) i).1).length - (coinsOf (l.take (tkS ls.reverse (2 * l0.length - 2) i).1)).length), (tkS ls.reverse (2 * l0.length - 2) i).2 ++ coinsOf (l.take (tkS ls.reverse (2 * l0.length - 2) i).1)) := by
        rw [tkS, hR]
      have hlen2 := tkS_len ls.reverse (2 * l0.length - 2) 2000 (fun l h => hle l (List.mem_reverse.mp h)) i
      rw [hstep]
      generalize (tkS ls.reverse (2 * l0.length - 2) i).1 = m at *
      generalize (tkS ls.reverse (2 * l0.length - 2) i).2 = lt at *
      -- coins = [.. level[:many] ..]
      refine ⟨.ref lv, rfl, .int (m : Int), rfl, m, rfl, lv, _, rfl, .inl (.inl (sm _ _ hts)), fun c1 nc1 => ?_⟩
      have hc1 : (upd H2 c1 (.lst (cutV (ts.map V.ref) none (some (m : Int))))) c1 = some (.lst ((ts.take m).map V.ref)) := by rw [upd_same, cut_to, List.map_take]
      have sm1 : Same H2 (upd H2 c1 (.lst (cutV (ts.map V.ref) none (some (m : Int))))) := same_upd nc1
      have htk : Tups (upd H2 c1 (.lst (cutV (ts.map V.ref) none (some (m : Int))))) (ts.take m) (l.take m) := ((ht.same sm).same sm1).take m
      generalize upd H2 c1 (.lst (cutV (ts.map V.ref) none (some (m : Int)))) = H3 at *
      refine ⟨c1, rfl, ⟨_, .inl (.inl hc1)⟩, fun D nD => ?_⟩
      have hnq : q0 ≠ D := ne_of_none (sm1 _ _ hq) nD
      refine lc_list (K := K) (a := c1) (xs := (ts.take m).map V.ref) (fun j H' => Same H3 H' ∧ H' D = some (.lst ((coinsOf ((l.take m).take j)).map V.int))) ⟨same_upd nD, upd_same⟩ (fun j H' _ h => .inl (.inl (h.1 _ _ hc1))) (fun j x H4 hx h => ?_) (fun H4 h => ?_)
      · obtain ⟨t, rfl, ht4⟩ : ∃ t, x = .ref t ∧ (ts.take m)[j]? = some t := by
          rw [List.getElem?_map] at hx
          cases e : (ts.take m)[j]? with
          | none => rw [e] at hx; cases hx
          | some t => rw [e] at hx; exact ⟨t, (Option.some.inj hx).symm, rfl⟩
        have hj5 : j < (l.take m).length := by rw [← htk.1]; exact (List.getElem?_eq_some_iff.mp ht4).1
        have hpt := htk.2 j t _ ht4 (List.getElem?_eq_getElem hj5)
        have hco : coinsOf ((l.take m).take (j + 1)) = coinsOf ((l.take m).take j) ++ (if (l.take m)[j].2 ≠ -1 then [(l.take m)[j].2] else []) := by
          rw [List.take_add_one, List.getElem?_eq_getElem hj5]
          unfold coinsOf
          rw [List.filter_append, List.map_append]
          congr 1
          simp only [Option.toList_some]
          generalize (l.take m)[j] = z
          by_cases q : z.2 = -1 <;> simp [q]
        generalize (l.take m)[j] = z at hpt hco
        refine ⟨t, [.int z.1, .int z.2], rfl, .inl (.inl (h.1 _ _ hpt)), rfl, .int z.1, [.int z.2], rfl, .int z.2, [], rfl, rfl, rfl, ?_⟩
        refine ⟨_, rfl, rfl, _, rfl, ?_⟩
        rw [hco]
        refine ite2 (fun e => ?_) (fun e => ?_)
        · have hne : z.2 ≠ -1 := fun q => by rw [q] at e; exact absurd e (by decide)
          rw [if_pos hne]
          refine ⟨_, rfl, _, h.2, ?_, same_put h.1 nD, ?_⟩
          · rw [List.length_map]
            have := coinsOf_le ((l.take m).take j)
            rw [List.length_take, List.length_take] at this
            exact Nat.lt_of_le_of_lt (show _ ≤ 2000 by omega) (by decide)
          · rw [upd_same, List.map_append]
            rfl
        · have he : z.2 = -1 := by
            refine Decidable.byContradiction fun q => e ?_
            have : (V.int z.2 = V.int (-1)) = False := by
              refine eq_false fun z => q (V.int.inj z)
            simp [this]
          rw [if_neg (fun q => q he), List.append_nil]
          exact h
      · have hlen : ((ts.take m).map V.ref).length = (l.take m).length := by rw [List.length_map, htk.1]
        rw [hlen, List.take_length] at h
        obtain ⟨sm4, hD⟩ := h
        have hq4 : H4 q0 = some (.lst (lt.map V.int)) := sm4 _ _ (sm1 _ _ hq)
        have hcl := coinsOf_le (l.take m)
        have hlt : (l.take m).length ≤ 2000 := by rw [List.length_take]; omega
        generalize coinsOf (l.take m) = cs at *
        -- letters.extend(coins)
        refine ⟨.ref q0, rfl, .inl ⟨rfl, _, .inl (.inl hq4)⟩, .ref D, rfl, q0, D, _, _, rfl, rfl, hq4, hD, ?_, ?_⟩
        · rw [List.length_map, List.length_map]
          exact Nat.le_trans (show _ ≤ 12 * 2000 + 2000 by have := Nat.mul_le_mul_right 2000 (show i ≤ 12 by omega); omega) (by decide)
        · have hD5 : (upd H4 q0 (.lst (lt.map V.int ++ cs.map V.int))) D = some (.lst (cs.map V.int)) := by rw [upd_ne hnq.symm]; exact hD
          have hlv5 : (upd H4 q0 (.lst (lt.map V.int ++ cs.map V.int))) lv = some (.lst (ts.map V.ref)) := by
            rw [upd_ne (ne_of_none hts nq)]
            exact sm4 _ _ (sm1 _ _ (sm _ _ hts))
          have sm5 : Same H (upd H4 q0 (.lst (lt.map V.int ++ cs.map V.int))) := same_put ((sm.trans sm1).trans sm4) nq
          have hq5 : (upd H4 q0 (.lst (lt.map V.int ++ cs.map V.int))) q0 = some (.lst ((lt ++ cs).map V.int)) := by rw [upd_same, List.map_append]
          generalize upd H4 q0 (.lst (lt.map V.int ++ cs.map V.int)) = H5 at *
          refine ⟨.ref lv, rfl, .int (m : Int), rfl, m, rfl, lv, _, rfl, .inl (.inl hlv5), fun c2 nc2 => ?_⟩
          refine ⟨c2, _, rfl, .inl (.inl (.inl upd_same)), .ref D, rfl, D, _, rfl, .inl (.inl (.inl (same_upd nc2 _ _ hD5))), _, _, rfl, rfl, 2, _, rfl, rfl, .inl ⟨by decide, by decide⟩, ?_⟩
          refine ⟨some (.ref lv), some (.ref D), ?_, sm5.trans (same_upd nc2), same_upd nc2 _ _ hq5⟩
          show [some (V.ref p), some (V.ref q0), some (V.int (2 * (((cutV (ts.map V.ref) none (some (m : Int))).length : Int) - ((cs.map V.int).length : Int)))), some (V.ref lv), some (V.ref D), none, none] = _
          have e7 : 2 * (((cutV (ts.map V.ref) none (some (m : Int))).length : Int) - ((cs.map V.int).length : Int)) = ((2 * ((l.take m).length - cs.length) : Nat) : Int) := by
            rw [cut_to, ← List.map_take, List.length_map, List.length_map, htk.1]
            omega
          rw [e7]
    · obtain ⟨y3, y4, rfl, sm, hq⟩ := h
      rw [hal] at hq
      exact ⟨.ref q0, rfl, q H' q0 sm nq hq⟩
end
end K2

namespace K2
open SrtO
/-! the program's levels against the weights' -/
def kLt (x y : Int × Int) : Bool := decide (x.1 < y.1)
theorem swo_k : Swo kLt := ⟨fun x y h => by simp [kLt] at *; omega, fun x y z h1 h2 => by simp [kLt] at *; omega⟩
abbrev mI (C P : List (Int × Int)) : List (Int × Int) := List.merge C P keyLe
theorem mI_nil (P : List (Int × Int)) : mI [] P = P := by simp [mI]
theorem mI_nil2 (C : List (Int × Int)) : mI C [] = C := by cases C <;> simp [mI]
theorem mI_pos {c p : Int × Int} {C P : List (Int × Int)} (h : c.1 ≤ p.1) : mI (c :: C) (p :: P) = c :: mI C (p :: P) := by simp [mI, keyLe, h]
theorem mI_neg {c p : Int × Int} {C P : List (Int × Int)} (h : ¬ c.1 ≤ p.1) : mI (c :: C) (p :: P) = p :: mI (c :: C) P := by simp [mI, keyLe, h]
theorem mI_fst : ∀ (C P : List (Int × Int)), (mI C P).map (·.1) = mw (C.map (·.1)) (P.map (·.1))
  | [], P => by rw [mI_nil, List.map_nil, mw_nil]
  | c :: C, [] => by rw [mI_nil2, List.map_nil, mw_nil2]
  | c :: C, p :: P => by
    by_cases e : c.1 ≤ p.1
    · rw [mI_pos e, List.map_cons, mI_fst C (p :: P), List.map_cons, List.map_cons, mw_pos e]
    · rw [mI_neg e, List.map_cons, mI_fst (c :: C) P, List.map_cons, List.map_cons, mw_neg e]
theorem mI_filter {x : Int × Int} : ∀ (C P : List (Int × Int)), Srtd kLt C → (mI C P).filter (eqv kLt x) = C.filter (eqv kLt x) ++ P.filter (eqv kLt x)
  | [], P, _ => by rw [mI_nil]; simp
  | c :: C, [], _ => by rw [mI_nil2]; simp
  | c :: C, p :: P, sc => by
    have sc' := (List.pairwise_cons.mp sc)
    by_cases e : c.1 ≤ p.1
    · rw [mI_pos e, List.filter_cons, List.filter_cons (x := c), mI_filter C (p :: P) sc'.2]
      split <;> simp
    · rw [mI_neg e, List.filter_cons, mI_filter (c :: C) P sc, List.filter_cons (x := p)]
      by_cases q : eqv kLt x p = true
      · rw [if_pos q, if_pos q]
        have : (c :: C).filter (eqv kLt x) = [] := by
          refine List.filter_eq_nil_iff.mpr fun y hy => ?_
          have h1 : c.1 ≤ y.1 := by
            rcases List.mem_cons.mp hy with r | r
            · rw [r]; exact Int.le_refl _
            · have := sc'.1 y r
              simp [kLt] at this; omega
          simp [eqv, kLt] at q ⊢
          omega
        rw [this]; rfl
      · rw [if_neg q, if_neg q]
theorem mI_perm (C P : List (Int × Int)) : (mI C P).Perm (C ++ P) := List.merge_perm_append _
theorem mI_srt {C P : List (Int × Int)} (hc : Srtd kLt C) (hp : Srtd kLt P) : Srtd kLt (mI C P) := by
  have := List.pairwise_merge (le := keyLe) (l₁ := C) (l₂ := P) (fun a b c h1 h2 => by simp [keyLe] at *; omega) (fun a b => by simp [keyLe]; omega) (hc.imp fun {a b} h => by simp [kLt, keyLe] at *; omega) (hp.imp fun {a b} h => by simp [kLt, keyLe] at *; omega)
  exact this.imp fun {a b} h => by simp [kLt, keyLe] at *; omega
theorem ms_eq {C P : List (Int × Int)} (hc : Srtd kLt C) (hp : Srtd kLt P) : (C ++ P).mergeSort keyLe = mI C P := by
  have tr : ∀ a b c : Int × Int, keyLe a b = true → keyLe b c = true → keyLe a c = true := fun a b c h1 h2 => by simp [keyLe] at *; omega
  have to : ∀ a b : Int × Int, (keyLe a b || keyLe b a) = true := fun a b => by simp [keyLe]; omega
  refine stb_uniq swo_k ?_ (mI_srt hc hp) ?_
  · exact (List.pairwise_mergeSort tr to _).imp fun {a b} h => by simp [kLt, keyLe] at *; omega
  · refine ⟨(List.mergeSort_perm _ _).trans (mI_perm C P).symm, fun x => ?_⟩
    rw [mI_filter C P hc, ← List.filter_append]
    have h1 : ((C ++ P).filter (eqv kLt x)).Pairwise (fun a b => keyLe a b = true) := by
      refine List.pairwise_of_forall_mem_list fun a ha b hb => ?_
      have h2 := (List.mem_filter.mp ha).2
      have h3 := (List.mem_filter.mp hb).2
      simp [eqv, kLt, keyLe] at *
      omega
    have h2 := List.sublist_mergeSort tr to h1 List.filter_sublist
    have h3 := h2.filter (eqv kLt x)
    rw [List.filter_filter] at h3
    simp only [Bool.and_self] at h3
    refine (h3.eq_of_length ?_).symm
    exact ((List.mergeSort_perm (C ++ P) keyLe).filter _).length_eq.symm
theorem packI_fst : ∀ l : List (Int × Int), (packI l).map (·.1) = packw (l.map (·.1))
  | [] => by simp [packI, packw]
  | [_] => by simp [packI, packw]
  | a :: b :: l => by simp [packI, packw, packI_fst l]
theorem packI_snd : ∀ (l : List (Int × Int)) (x : Int × Int), x ∈ packI l → x.2 = -1
  | [], x, h => by simp [packI] at h
  | [_], x, h => by simp [packI] at h
  | a :: b :: l, x, h => by
    rcases List.mem_cons.mp h with h | h
    · rw [h]
    · exact packI_snd l x h
theorem srtd_fst {l : List (Int × Int)} : Srtd kLt l ↔ Srt (l.map (·.1)) := by
  unfold Srtd Srt
  rw [List.pairwise_map]
  constructor
  · intro h; exact h.imp fun {a b} q => by simp [kLt] at q; exact q
  · intro h; exact h.imp fun {a b} q => by simp [kLt]; exact q
theorem lev_fst {C : List (Int × Int)} (sc : Srt (C.map (·.1))) : ∀ k, (lev C k).map (·.1) = W (C.map (·.1)) (k + 1)
  | 0 => by simp [lev, W, packw, mw_nil2]
  | k + 1 => by
    have ih := lev_fst sc k
    have hp : Srtd kLt (packI (lev C k)) := by
      rw [srtd_fst, packI_fst, ih]
      exact packw_srt (W_srt sc _)
    rw [lev, ms_eq (srtd_fst.mpr sc) hp, mI_fst, packI_fst, ih]
    rfl
theorem lev_eq {C : List (Int × Int)} (sc : Srt (C.map (·.1))) (k : Nat) : lev C (k + 1) = mI C (packI (lev C k)) := by
  have hp : Srtd kLt (packI (lev C k)) := by
    rw [srtd_fst, packI_fst, lev_fst sc k]
    exact packw_srt (W_srt sc _)
  rw [lev, ms_eq (srtd_fst.mpr sc) hp]
theorem mI_coins : ∀ (C P : List (Int × Int)) (m : Nat), (∀ x ∈ C, x.2 ≠ -1) → (∀ x ∈ P, x.2 = -1) → coinsOf ((mI C P).take m) = (C.take (cutc (C.map (·.1)) (P.map (·.1)) m)).map (·.2)
  | C, P, 0, _, _ => by simp [cutc, coinsOf]
  | [], P, m + 1, _, hp => by
    rw [mI_nil]
    have : (P.take (m + 1)).filter (fun x => decide (x.2 ≠ -1)) = [] := List.filter_eq_nil_iff.mpr fun y hy => by
      have := hp y (List.mem_of_mem_take hy)
      simp [this]
    simp only [coinsOf, this, List.map_nil, cutc, List.take_zero]
  | c :: C, [], m + 1, hc, hp => by
    rw [mI_nil2]
    have ih := mI_coins C [] m (fun x hx => hc x (by simp [hx])) hp
    rw [mI_nil2] at ih
    have h1 := hc c (by simp)
    simp only [List.map_cons, List.map_nil, cutc, Nat.add_comm 1, List.take_succ_cons] at *
    unfold coinsOf at *
    rw [List.filter_cons_of_pos (by simp [h1]), List.map_cons, ih]
  | c :: C, p :: P, m + 1, hc, hp => by
    have h1 := hc c (by simp)
    have h2 := hp p (by simp)
    by_cases e : c.1 ≤ p.1
    · have ih := mI_coins C (p :: P) m (fun x hx => hc x (by simp [hx])) hp
      rw [mI_pos e]
      simp only [List.map_cons, cutc, if_pos e, Nat.add_comm 1, List.take_succ_cons] at *
      unfold coinsOf at *
      rw [List.filter_cons_of_pos (by simp [h1]), List.map_cons, ih]
    · have ih := mI_coins (c :: C) P m hc (fun x hx => hp x (by simp [hx]))
      rw [mI_neg e]
      simp only [List.map_cons, cutc, if_neg e, List.take_succ_cons] at *
      unfold coinsOf at *
      rw [List.filter_cons_of_neg (by simp [h2]), ih]
theorem lev_coins {C : List (Int × Int)} (sc : Srt (C.map (·.1))) (hc : ∀ x ∈ C, x.2 ≠ -1) (k m : Nat) : coinsOf ((lev C k).take m) = (C.take (cc (C.map (·.1)) (k + 1) m)).map (·.2) := by
  cases k with
  | zero =>
    have := mI_coins C [] m hc (by simp)
    rw [mI_nil2] at this
    simpa [lev, cc, W, packw] using this
  | succ k =>
    rw [lev_eq sc, mI_coins C _ m hc (packI_snd _), packI_fst, lev_fst sc]
    rfl
/-- what the program takes is the way of the weights -/
theorem tkS_way {C : List (Int × Int)} {L : Nat} (hc : ∀ x ∈ C, x.2 ≠ -1) (G : Good (C.map (·.1)) L) : ∀ i, i ≤ L →
    (tkS (levL C L).reverse (2 * C.length - 2) i).1 = md (C.map (·.1)) L i ∧ ∀ k, i + k = L → (tkS (levL C L).reverse (2 * C.length - 2) i).2.map Int.toNat ++ tl (C.map (·.1)) L (C.map fun x => x.2.toNat) i k = tl (C.map (·.1)) L (C.map fun x => x.2.toNat) 0 L
  | 0, _ => by
    refine ⟨by simp [tkS, md], fun k h => ?_⟩
    have : k = L := by omega
    subst this
    simp [tkS]
  | i + 1, hi => by
    obtain ⟨h1, h2⟩ := tkS_way hc G i (by omega)
    have hR : (levL C L).reverse.getD i [] = lev C (L - 1 - i) := by
      rw [List.getD_eq_getElem?_getD, List.getElem?_reverse (by rw [levL_len]; omega), levL_len, levL_get (by omega)]
      rfl
    have hco := lev_coins G.srt hc (L - 1 - i) (md (C.map (·.1)) L i)
    rw [show L - 1 - i + 1 = L - i by omega] at hco
    have hml := md_le G i (by omega)
    have hlen : (lev C (L - 1 - i)).length = (W (C.map (·.1)) (L - i)).length := by
      rw [← List.length_map (f := (·.1)), lev_fst G.srt, show L - 1 - i + 1 = L - i by omega]
    have hcl := cd_le G (d := i) (by omega)
    rw [List.length_map] at hcl
    constructor
    · rw [tkS, h1, hR, hco, List.length_map, List.length_take, List.length_take, hlen]
      show 2 * (min (md _ L i) _ - min (cd (C.map (·.1)) L i) C.length) = 2 * (md _ L i - cd (C.map (·.1)) L i)
      rw [Nat.min_eq_left hml, Nat.min_eq_left hcl]
    · intro k hk
      have := h2 (k + 1) (by omega)
      rw [tkS, h1, hR, hco]
      rw [tl] at this
      rw [List.map_append, List.append_assoc, ← this]
      congr 2
      rw [List.map_map, List.map_take]
      rfl
end K2

namespace K2
open PySem PySem.Spec PyProof.Rows L2
/-! ### least_lengths -/
def wAt (ws : List Int) (l : Nat) : Int := ws.getD l 0
def rawU (ws : List Int) (i : Nat) : List (Int × Int) := ((List.range i).filter fun l => decide (0 < wAt ws l)).map fun l => (wAt ws l, (l : Int))
def rawL (ws : List Int) : List (Int × Int) := rawU ws ws.length
theorem rawU_succ (ws : List Int) (i : Nat) : rawU ws (i + 1) = rawU ws i ++ (if 0 < wAt ws i then [(wAt ws i, (i : Int))] else []) := by
  unfold rawU
  rw [List.range_succ, List.filter_append, List.map_append]
  congr 1
  by_cases q : 0 < wAt ws i <;> simp [q]
theorem rawU_len (ws : List Int) (i : Nat) : (rawU ws i).length ≤ i := by
  unfold rawU
  rw [List.length_map]
  exact Nat.le_trans (List.length_filter_le _ _) (by simp)
def lexLe (a b : Int × Int) : Bool := !SrtO.lexB b a
def coinsL (ws : List Int) : List (Int × Int) := (rawL ws).mergeSort lexLe
def ansL (ws : List Int) (n : Nat) : List Int :=
  if (coinsL ws).length = 1 then ws.map fun w => if 0 < w then 1 else 0
  else cnts ws.length ((tkS (levL (coinsL ws) n).reverse (2 * (coinsL ws).length - 2) n).2.map Int.toNat)
theorem lexLe_tr (a b c : Int × Int) (h1 : lexLe a b = true) (h2 : lexLe b c = true) : lexLe a c = true := by
  simp only [lexLe, Bool.not_eq_true', SrtO.lexB_no] at *
  omega
theorem lexLe_to (a b : Int × Int) : (lexLe a b || lexLe b a) = true := by
  rcases SrtO.bcase (SrtO.lexB b a) with h | h
  · have : SrtO.lexB a b = false := by
      rw [SrtO.lexB_no]
      rw [SrtO.lexB_iff] at h
      omega
    simp [lexLe, this]
  · simp [lexLe, h]
theorem lexLe_anti {a b : Int × Int} (h1 : lexLe a b = true) (h2 : lexLe b a = true) : a = b := by
  simp only [lexLe, Bool.not_eq_true', SrtO.lexB_no] at *
  obtain ⟨a1, a2⟩ := a
  obtain ⟨b1, b2⟩ := b
  simp only [Prod.mk.injEq] at *
  omega
theorem coinsL_perm (ws : List Int) : (coinsL ws).Perm (rawL ws) := List.mergeSort_perm _ _
theorem coinsL_srt (ws : List Int) : (coinsL ws).Pairwise fun a b => lexLe a b = true := List.pairwise_mergeSort lexLe_tr lexLe_to _
theorem coinsL_uniq {ws : List Int} {l : List (Int × Int)} (hp : l.Perm (rawL ws)) (hs : l.Pairwise fun a b => lexLe a b = true) : l = coinsL ws :=
  List.Perm.eq_of_pairwise (fun a b _ _ h1 h2 => lexLe_anti h1 h2) hs (coinsL_srt ws) (hp.trans (coinsL_perm ws).symm)
theorem raw_mem {ws : List Int} {x : Int × Int} (h : x ∈ rawL ws) : ∃ l : Nat, l < ws.length ∧ 0 < wAt ws l ∧ x = (wAt ws l, (l : Int)) := by
  obtain ⟨l, h1, h2⟩ := List.mem_map.mp h
  obtain ⟨h3, h4⟩ := List.mem_filter.mp h1
  exact ⟨l, by simpa using h3, of_decide_eq_true h4, h2.symm⟩
theorem coins_mem {ws : List Int} {x : Int × Int} (h : x ∈ coinsL ws) : ∃ l : Nat, l < ws.length ∧ 0 < wAt ws l ∧ x = (wAt ws l, (l : Int)) := raw_mem ((coinsL_perm ws).mem_iff.mp h)
theorem coins_len (ws : List Int) : (coinsL ws).length ≤ ws.length := by
  rw [(coinsL_perm ws).length_eq]
  exact rawU_len ws _
/-- the pairs that a heap holds at refs -/
def kOf (H : Hp) : V → Int × Int
  | .ref t => match H t with
    | some (.tup [.int a, .int b]) => (a, b)
    | _ => (0, 0)
  | _ => (0, 0)
theorem kOf_at {H : Hp} {t : Addr} {x : Int × Int} (h : H t = some (.tup [.int x.1, .int x.2])) : kOf H (.ref t) = x := by
  simp [kOf, h]
theorem Tups.kOf {H : Hp} {ts : List Addr} {l : List (Int × Int)} (h : Tups H ts l) : (ts.map V.ref).map (K2.kOf H) = l := by
  refine List.ext_getElem? fun i => ?_
  repeat rw [List.getElem?_map]
  by_cases q : i < ts.length
  · have q2 : i < l.length := by rw [← h.1]; exact q
    rw [List.getElem?_eq_getElem q, List.getElem?_eq_getElem q2]
    exact congrArg some (kOf_at (h.2 i _ _ (List.getElem?_eq_getElem q) (List.getElem?_eq_getElem q2)))
  · rw [List.getElem?_eq_none (by omega), List.getElem?_eq_none (by rw [← h.1]; omega)]
    rfl
theorem Tups.of_mem {H : Hp} {ts : List Addr} {l : List (Int × Int)} (h : Tups H ts l) {v : V} (hv : v ∈ ts.map V.ref) : ∃ t, v = .ref t ∧ H t = some (.tup [.int (K2.kOf H v).1, .int (K2.kOf H v).2]) := by
  obtain ⟨i, hi⟩ := List.mem_iff_getElem?.mp hv
  rw [List.getElem?_map] at hi
  cases e : ts[i]? with
  | none => rw [e] at hi; cases hi
  | some t =>
    rw [e] at hi
    obtain rfl : V.ref t = v := Option.some.inj hi
    have q2 : i < l.length := by rw [← h.1]; exact (List.getElem?_eq_some_iff.mp e).1
    have := h.2 i t _ e (List.getElem?_eq_getElem q2)
    refine ⟨t, rfl, ?_⟩
    rw [kOf_at this]
    exact this
theorem Tups.of_perm {H : Hp} {ts : List Addr} {l : List (Int × Int)} (h : Tups H ts l) {ys : List V} (hp : ys.Perm (ts.map V.ref)) : ∃ us, ys = us.map V.ref ∧ Tups H us (ys.map (K2.kOf H)) := by
  have e : ∀ y ∈ ys, ∃ t, y = .ref t ∧ H t = some (.tup [.int (K2.kOf H y).1, .int (K2.kOf H y).2]) := fun y hy => h.of_mem (hp.mem_iff.mp hy)
  clear hp
  induction ys with
  | nil => exact ⟨[], rfl, Tups.nil⟩
  | cons y ys ih =>
    obtain ⟨us, e1, e2⟩ := ih fun z hz => e z (List.mem_cons_of_mem _ hz)
    obtain ⟨t, rfl, ht⟩ := e y List.mem_cons_self
    refine ⟨t :: us, by rw [e1]; rfl, by rw [List.length_cons, List.map_cons, List.length_cons, e2.1], fun i t' x h1 h2 => ?_⟩
    cases i with
    | zero =>
      simp at h1 h2
      rw [← h1, ← h2]
      exact ht
    | succ i => exact e2.2 i t' x (by simpa using h1) (by simpa using h2)
theorem scLeast : FnScope ["weights", "bound", "coins", "lengths", "letter", "weight"] ["weights", "bound"] (defScope sLeast) := ⟨rfl, rfl, rfl, by decide +kernel, rfl, by decide +kernel, by decide +kernel⟩
/-- what may be asked -/
structure AskOk (ws : List Int) (n : Nat) : Prop where
  lo : ∀ w ∈ ws, 0 ≤ w ∧ w ≤ 1000000
  len : 2 ≤ ws.length ∧ ws.length ≤ 300
  some : 1 ≤ (coinsL ws).length
  room : (coinsL ws).length ≤ 2 ^ n
  n1 : 1 ≤ n
  n12 : n ≤ 12
theorem AskOk.good {ws : List Int} {n : Nat} (a : AskOk ws n) (h : (coinsL ws).length ≠ 1) : Good ((coinsL ws).map (·.1)) n := by
  refine ⟨?_, fun x hx => ?_, by rw [List.length_map]; have := a.some; omega, by rw [List.length_map]; exact a.room⟩
  · show Srt _
    rw [← srtd_fst]
    refine (coinsL_srt ws).imp fun {x y} h => ?_
    simp only [lexLe, Bool.not_eq_true', SrtO.lexB_no, kLt, decide_eq_false_iff_not] at *
    omega
  · obtain ⟨y, hy, rfl⟩ := List.mem_map.mp hx
    obtain ⟨l, _, h2, rfl⟩ := coins_mem hy
    exact Int.le_of_lt h2
theorem AskOk.letters {ws : List Int} {n : Nat} (a : AskOk ws n) (h : (coinsL ws).length ≠ 1) : (tkS (levL (coinsL ws) n).reverse (2 * (coinsL ws).length - 2) n).2.map Int.toNat = tl ((coinsL ws).map (·.1)) n ((coinsL ws).map fun x => x.2.toNat) 0 n := by
  have := (tkS_way (C := coinsL ws) (L := n) (fun x hx => by
    obtain ⟨l, _, _, rfl⟩ := coins_mem hx
    show (l : Int) ≠ -1
    omega) (a.good h) n (Nat.le_refl _)).2 0 (by omega)
  simpa [tl] using this
end K2

namespace K2
open PySem PySem.Spec PyProof.Rows L2
theorem tkS_mem {R : List (List (Int × Int))} {m0 : Nat} {y : Int} : ∀ i, y ∈ (tkS R m0 i).2 → ∃ l ∈ R, ∃ x ∈ l, x.2 = y ∧ y ≠ -1
  | 0, h => by simp [tkS] at h
  | i + 1, h => by
    rw [tkS] at h
    rcases (List.mem_append.mp h) with (q | q)
    · exact tkS_mem i q
    · obtain ⟨x, hx, rfl⟩ := List.mem_map.mp q
      obtain ⟨h1, h2⟩ := List.mem_filter.mp hx
      have h3 := List.mem_of_mem_take h1
      by_cases hi : i < R.length
      · rw [List.getD_eq_getElem?_getD, List.getElem?_eq_getElem hi] at h3
        exact ⟨R[i], List.getElem_mem hi, x, h3, rfl, of_decide_eq_true h2⟩
      · rw [List.getD_eq_getElem?_getD, List.getElem?_eq_none (by omega)] at h3
        simp at h3
theorem lev_mem {C : List (Int × Int)} {x : Int × Int} : ∀ k, x ∈ lev C k → x ∈ C ∨ x.2 = -1
  | 0, h => .inl h
  | k + 1, h => by
    rw [lev] at h
    rcases List.mem_append.mp ((List.mergeSort_perm _ _).mem_iff.mp h) with q | q
    · exact .inl q
    · exact .inr (packI_snd _ _ q)
theorem letters_ok {ws : List Int} {n m0 : Nat} {y : Int} (h : y ∈ (tkS (levL (coinsL ws) n).reverse m0 n).2) : ∃ l : Nat, y = (l : Int) ∧ l < ws.length := by
  obtain ⟨l, hl, x, hx, rfl, hne⟩ := tkS_mem n h
  obtain ⟨k, _, rfl⟩ := List.mem_map.mp (List.mem_reverse.mp hl)
  rcases lev_mem k hx with q | q
  · obtain ⟨j, h1, _, rfl⟩ := coins_mem q
    exact ⟨j, rfl, h1⟩
  · exact absurd q hne
section
variable {P : Program} {w : World} {K : PySem.W.Frag} {mg : Str → Option Value} {base : Heap}
def spLeast (T : List (Addr × Str)) : Sp := fun vs H Q _ => ∃ (p : Addr) (ws : List Int) (n : Nat), vs = [.ref p, .int (n : Int)] ∧ H p = some (.lst (ws.map V.int)) ∧ AskOk ws n ∧ LamX.Tabs T H ∧
  ∀ H' q, LamX.ExtN H H' → LamX.Tabs T H' → H' q = some (.lst ((ansL ws n).map V.int)) → Q (.ref q) H'
theorem enum_at {ws : List Int} {i : Nat} {y : V} (h : (fun i => (ws.map V.int)[i]?) i = some y) : y = .int (wAt ws i) ∧ i < ws.length := by
  obtain ⟨x, rfl, hx⟩ := int_of h
  refine ⟨?_, (List.getElem?_eq_some_iff.mp hx).1⟩
  unfold wAt
  rw [List.getD_eq_getElem?_getD, hx]
  rfl
theorem ok_least {f fB fN fL fT PT : Addr} {fd fdB fdN fdL fdT : FuncData} {k : Nat} {t1 t2 : Tok} (F : Fun K "least_lengths" "least_lengths" sLeast f fd)
    (GB : FnOk P w K mg base CX0 (k + 4) fB fdB ["told", "most"] spByLet) (bB : Binds K fdB ["told", "most"] []) (kB : PySem.W.keepIn K (.ref fB) = true) (gB : mg "are_by_letters" = some (.ref fB))
    (GN : FnOk P w K mg base CX0 (k + 2) fN fdN ["told", "least", "most"] spIsNum) (bN : Binds K fdN ["told", "least", "most"] []) (kN : PySem.W.keepIn K (.ref fN) = true) (gN : mg "is_number" = some (.ref fN))
    (GL : FnOk P w K mg base CX0 (k + 2) fL fdL ["coins", "bound"] (spLevels [(PT, "levels_of.<locals>.<lambda>")])) (bL : Binds K fdL ["coins", "bound"] []) (kL : PySem.W.keepIn K (.ref fL) = true) (gL : mg "levels_of" = some (.ref fL))
    (GT : FnOk P w K mg base CX0 (k + 1) fT fdT ["levels"] spTaken) (bT : Binds K fdT ["levels"] []) (kT : PySem.W.keepIn K (.ref fT) = true) (gT : mg "taken_coins" = some (.ref fT))
    (m1 : mg "len" = none) (m2 : mg "sorted" = none) (m3 : mg "enumerate" = none) (c1 : mg "HEAVIEST" = some (.int 1000000 t1)) (c2 : mg "LONGEST" = some (.int 12 t2)) :
    FnOk P w K mg base CX0 (k + 5) f fd ["weights", "bound"] (spLeast [(PT, "levels_of.<locals>.<lambda>")]) := by
  refine F.ok scLeast (fun vs H Q E h => ?_) (fun cdv A outer s H vs Q E hr h => ?_)
  · obtain ⟨p, ws, n, rfl, _⟩ := h
    rfl
  · obtain ⟨p, ws, n, rfl, hp, hk, hT, q⟩ := h
    refine ⟨_, pss_cons (ps_if (pt_not (pt_val (pe_call GB hr (by rfl) gB kB bB .nil pass0 (pa_cons (pv 0) (pa_cons (pe_glob (v := .int 1000000) rfl c1 ⟨_, rfl⟩) pa_nil))))) (pss_one ps_never) pss_nil)
      (pss_cons (ps_set (i := 2) scLeast.nd rfl (.inl rfl) (pe_callB cr_sortedPO (by rfl) m2 (by decide +kernel) (pa_cons (pe_lc (own := [("letter", 4), ("weight", 5)]) (g := gTup K 2 (gCons (gName 4) (gCons (gName 5) gNil))) rfl scLeast.nd
          (pi_enum (by rfl) m3 (pa_cons (pv 0) pa_nil)) (blkOk_by (N := ["weights", "bound", "coins", "lengths", "letter", "weight"]) (sc := defScope sLeast) (by decide +kernel))
          (fun _ _ _ _ _ => pg_tup rfl (pgs_cons (pg_name (i := 4) scLeast.nd rfl (.inl rfl)) (pgs_cons (pg_name (i := 5) scLeast.nd rfl (.inl rfl)) pgs_nil)))
          (fun _ _ _ _ _ => pts_one (pt_cmpR op_gt (pv 5) pe_int (nomark _)))
          (fun _ _ _ _ _ => pe_tup (pa_cons (pv 5) (pa_cons (pv 4) pa_nil)))) pa_nil)))
      (pss_cons (ps_if (pt_not (pt_truth (pv 2) (by intro _; rfl))) (pss_one ps_never) pss_nil)
      (pss_cons (ps_if (PW.pt (pw_or (pt_not (pt_val (pe_call GN (hr.mono (by omega)) (by rfl) gN kN bN .nil pass0 (pa_cons (pv 1) (pa_cons pe_int (pa_cons (pe_glob (v := .int 12) rfl c2 ⟨_, rfl⟩) pa_nil))))))
          (pw_or1 (pt_cmpR op_lt (pe_op op_shl pe_int (pv 1)) (pe_callB call_len_seq (by rfl) m1 PySem.boot_len (pa_cons (pv 2) pa_nil)) (nomark _))))) (pss_one ps_never) pss_nil)
      (pss_cons (ps_if (pt_cmpR op_eq (pe_callB call_len_seq (by rfl) m1 PySem.boot_len (pa_cons (pv 2) pa_nil)) pe_int (nomark _))
          (pss_one (ps_ret (pe_lc (own := [("weight", 5)]) (g := gName 5) (tt := tYes) rfl scLeast.nd (pi_list (pv 0)) (blkOk_by (N := ["weights", "bound", "coins", "lengths", "letter", "weight"]) (sc := defScope sLeast) (by decide +kernel))
            (fun _ _ _ _ _ => pg_name (i := 5) scLeast.nd rfl (.inl rfl)) (fun _ _ _ _ _ => pts_nil)
            (fun _ _ _ _ _ => pe_ifExp (pt_cmpR op_gt (pv 5) pe_int (nomark _)) pe_int pe_int)))) pss_nil)
      (pss_cons (ps_set (i := 3) scLeast.nd rfl (.inl rfl) (pe_op op_rep (pe_lst (pa_cons pe_int pa_nil)) (pe_callB call_len_seq (by rfl) m1 PySem.boot_len (pa_cons (pv 0) pa_nil))))
      (pss_cons (ps_for PassesOwn.never rfl (pi_list (pe_call GT (hr.mono (by omega)) (by rfl) gT kT bT .nil pass0 (pa_cons (pe_call GL (hr.mono (by omega)) (by rfl) gL kL bL .nil pass0 (pa_cons (pv 2) (pa_cons (pv 1) pa_nil))) pa_nil)))
          (pg_name (i := 4) scLeast.nd rfl (.inl rfl))
          (pss_one (ps_augS (pv 3) (pv 4) get_list pe_int ip_add set_list)))
      (pss_one (ps_ret (pv 3))))))))), ?_⟩
    have hb : ((ws.all fun x => decide (0 ≤ x ∧ x ≤ 1000000)) && decide (2 ≤ ws.length ∧ ws.length ≤ 300)) = true := by
      rw [Bool.and_eq_true, List.all_eq_true]
      exact ⟨fun x hx => decide_eq_true (hk.lo x hx), decide_eq_true hk.len⟩
    have hlen := hk.len
    refine ⟨_, rfl, p, ws, 1000000, rfl, hp, by omega, fun H1 sm1 => ?_⟩
    rw [hb]
    refine ⟨_, rfl, iteF ?_⟩
    have hp1 : H1 p = some (.lst (ws.map V.int)) := sm1 _ _ hp
    have hT1 := tabs_same hT sm1
    -- coins
    refine ⟨_, rfl, p, _, rfl, .inl (.inl hp1), fun D nD => ?_⟩
    refine lc_it (walk_enum (K := K) (a := p) (xs := ws.map V.int)) (fun i H' => Same H1 H' ∧ ∃ us, H' D = some (.lst (us.map V.ref)) ∧ Tups H' us (rawU ws i)) ⟨same_upd nD, [], upd_same, by rw [show rawU ws 0 = [] from rfl]; exact Tups.nil⟩ (fun i H' _ h => .inl (.inl (h.1 _ _ hp1))) (fun i x H2 H3 hi h y => ?_) (fun H2 h => ?_)
    · obtain ⟨sm, us, hD, hu⟩ := h
      obtain ⟨T0, x0, y0, rfl, nT0, rfl, e0, e1⟩ := y
      obtain rfl := Option.some.inj e0
      obtain ⟨rfl, hi2⟩ := enum_at e1
      have sm2 : Same H2 (upd H2 T0 (.tup [.int (i : Nat), .int (wAt ws i)])) := same_upd nT0
      refine ⟨T0, _, rfl, .inl (.inl upd_same), rfl, _, _, rfl, _, _, rfl, rfl, rfl, ?_⟩
      refine ⟨_, rfl, _, _, rfl, rfl, _, rfl, ?_⟩
      rw [rawU_succ]
      have hu2 := hu.same sm2
      have hD2 := sm2 _ _ hD
      generalize upd H2 T0 (.tup [.int (i : Nat), .int (wAt ws i)]) = H3 at *
      refine ite2 (fun e => ?_) (fun e => ?_)
      · have hw : 0 < wAt ws i := of_decide_eq_true e
        rw [if_pos hw]
        refine ⟨_, rfl, _, rfl, (by show 2 ≤ sizeLine; decide), fun T1 nT1 => ?_⟩
        have sm3 : Same H3 (upd H3 T1 (.tup [.int (wAt ws i), .int (i : Nat)])) := same_upd nT1
        refine ⟨_, sm3 _ _ hD2, ?_, same_put ((sm.trans sm2).trans sm3) nD, us ++ [T1], ?_, ?_⟩
        · rw [List.length_map, hu.1]
          exact Nat.lt_of_le_of_lt (Nat.le_trans (rawU_len ws i) (show i ≤ 300 by omega)) (by decide)
        · rw [upd_same, List.map_append]
          rfl
        · exact ((hu2.same sm3).snoc upd_same).put (sm3 _ _ hD2)
      · have hw : ¬ 0 < wAt ws i := fun z => e (decide_eq_true z)
        rw [if_neg hw, List.append_nil]
        exact ⟨sm.trans sm2, us, hD2, hu2⟩
    · obtain ⟨sm2, us, hD, hu⟩ := h
      rw [List.length_map] at hu
      have hu : Tups H2 us (rawL ws) := hu
      refine ⟨D, us.map V.ref, kOf H2, rfl, .inl (.inl hD), fun x hx => hu.of_mem hx, fun ys C0 hs hst nC0 => ?_⟩
      obtain ⟨cs, rfl, hcs⟩ := hu.of_perm hst.perm
      have hcl : (cs.map V.ref).map (kOf H2) = coinsL ws := by
        refine coinsL_uniq ?_ ?_
        · have := hst.perm.map (kOf H2)
          rw [hu.kOf] at this
          exact this
        · refine List.pairwise_map.mpr (hs.imp fun {a b} h => ?_)
          show (!SrtO.lexB (kOf H2 b) (kOf H2 a)) = true
          have h' : SrtO.lexB (kOf H2 b) (kOf H2 a) = false := h
          rw [h']
          rfl
      rw [hcl] at hcs
      have hC0 : (upd H2 C0 (.lst (cs.map V.ref))) C0 = some (.lst (cs.map V.ref)) := upd_same
      have sm3 : Same H1 (upd H2 C0 (.lst (cs.map V.ref))) := sm2.trans (same_upd nC0)
      have hcs3 := hcs.fresh (o := .lst (cs.map V.ref)) nC0
      generalize upd H2 C0 (.lst (cs.map V.ref)) = H3 at *
      have hclen : (cs.map V.ref).length = (coinsL ws).length := by rw [List.length_map, hcs3.1]
      have hsome := hk.some
      have hcl2 := coins_len ws
      -- if not coins
      have hne : (cs.map V.ref).isEmpty = false := by
        cases e : cs.map V.ref with
        | nil => rw [e] at hclen; simp at hclen; omega
        | cons a b => rfl
      refine ⟨.ref C0, rfl, true, .inl ⟨_, .inl (.inl hC0), by rw [hne]; rfl⟩, iteF ?_⟩
      -- the bound
      have hn1 := hk.n1
      have hn12 := hk.n12
      have hbn : decide ((1 : Int) ≤ (n : Int) ∧ (n : Int) ≤ 12) = true := decide_eq_true (by omega)
      refine ⟨_, rfl, (n : Int), 1, 12, rfl, ?_⟩
      rw [hbn]
      refine ⟨_, rfl, iteF ?_⟩
      refine ⟨_, rfl, 1, _, rfl, rfl, ⟨by omega, by omega, by decide⟩, .ref C0, rfl, C0, _, rfl, .inl (.inl (.inl hC0)), _, _, rfl, rfl, _, rfl, ?_⟩
      have hroom : ¬ ((1 : Int) * 2 ^ (n : Int).toNat < ((cs.map V.ref).length : Int)) := by
        rw [hclen, Int.one_mul, Int.toNat_natCast]
        have := hk.room
        have e : ((2 : Int) ^ n) = ((2 ^ n : Nat) : Int) := by rw [Int.natCast_pow]; rfl
        rw [e]
        omega
      rw [decide_eq_false hroom]
      refine iteF ?_
      -- one letter
      refine ⟨.ref C0, rfl, C0, _, rfl, .inl (.inl (.inl hC0)), rfl, _, rfl, ite2 (fun e => ?_) (fun e => ?_)⟩
      · have h1 : (coinsL ws).length = 1 := by
          have := V.int.inj (of_decide_eq_true e)
          rw [hclen] at this
          omega
        have hp3 : H3 p = some (.lst (ws.map V.int)) := sm3 _ _ hp1
        refine ⟨_, rfl, p, rfl, ⟨_, .inl (.inl hp3)⟩, fun D2 nD2 => ?_⟩
        refine lc_list (K := K) (a := p) (xs := ws.map V.int) (fun i H' => Same H3 H' ∧ H' D2 = some (.lst ((ws.take i).map fun w => .int (if 0 < w then 1 else 0)))) ⟨same_upd nD2, upd_same⟩ (fun i H' _ h => .inl (.inl (h.1 _ _ hp3))) (fun i x H' hx h => ?_) (fun H' h => ?_)
        · obtain ⟨x, rfl, hx'⟩ := int_of hx
          refine ⟨rfl, yes ?_⟩
          refine ⟨_, rfl, _, _, rfl, rfl, _, rfl, ?_⟩
          have fin : ∀ v : Int, v = (if 0 < x then 1 else 0) → ∃ acc, H' D2 = some (HO.lst acc) ∧ acc.length < sizeLine ∧ Same H3 (upd H' D2 (.lst (acc ++ [.int v]))) ∧ (upd H' D2 (.lst (acc ++ [.int v]))) D2 = some (.lst ((ws.take (i + 1)).map fun w => .int (if 0 < w then 1 else 0))) := fun v hv => by
            refine ⟨_, h.2, ?_, same_put h.1 nD2, ?_⟩
            · rw [List.length_map, List.length_take]
              exact small1000 (by omega)
            · rw [upd_same, List.take_add_one, hx', hv]
              simp
          refine ite2 (fun e => ?_) (fun e => ?_)
          · exact fin 1 (by rw [if_pos (of_decide_eq_true e)])
          · exact fin 0 (by rw [if_neg (fun z => e (decide_eq_true z))])
        · have e : (ws.take (ws.map V.int).length) = ws := by rw [List.length_map, List.take_length]
          rw [e] at h
          refine q H' D2 (extN_same ((sm1.trans sm3).trans h.1)) (tabs_same (tabs_same hT1 sm3) h.1) ?_
          rw [h.2, ansL, if_pos h1, List.map_map]
          rfl
      · have h1 : (coinsL ws).length ≠ 1 := fun z => e (decide_eq_true (by rw [hclen, z]; rfl))
        have hp3 : H3 p = some (.lst (ws.map V.int)) := sm3 _ _ hp1
        refine ⟨(by show 1 ≤ sizeLine; decide), fun z nz => ?_⟩
        have sm4 : Same H3 (upd H3 z (.lst [.int 0])) := same_upd nz
        have hz : (upd H3 z (.lst [.int 0])) z = some (.lst [.int 0]) := upd_same
        generalize upd H3 z (.lst [.int 0]) = H4 at *
        refine ⟨.ref p, rfl, p, _, rfl, .inl (.inl (.inl (sm4 _ _ hp3))), z, _, _, rfl, rfl, hz, ?_, ?_, ?_, fun D3 nD3 => ?_⟩
        · rw [List.length_map]; omega
        · rw [List.length_map]; omega
        · rw [List.length_map, Int.toNat_natCast]
          exact Nat.le_trans (show 1 * ws.length ≤ 300 by omega) (by decide)
        have sm5 : Same H4 (upd H4 D3 (.lst (List.replicate (((ws.map V.int).length : Int)).toNat [V.int 0]).flatten)) := same_upd nD3
        have hD3 : (upd H4 D3 (.lst (List.replicate (((ws.map V.int).length : Int)).toNat [V.int 0]).flatten)) D3 = some (.lst ((cnts ws.length []).map V.int)) := by
          rw [upd_same, cnts_nil, List.length_map, Int.toNat_natCast, List.flatten_replicate_singleton, List.map_replicate]
        generalize upd H4 D3 (.lst (List.replicate (((ws.map V.int).length : Int)).toNat [V.int 0]).flatten) = H5 at *
        have sm35 : Same H3 H5 := sm4.trans sm5
        have hT5 := tabs_same (tabs_same hT1 sm3) sm35
        refine ⟨.ref C0, rfl, .int (n : Int), rfl, C0, cs, coinsL ws, n, rfl, sm35 _ _ hC0, hcs3.same sm35, by omega, hn1, hn12, hT5, fun H6 ql as eN6 hT6 hql hL6 => ?_⟩
        refine ⟨ql, as, levL (coinsL ws) n, coinsL ws, rfl, hql, hL6, levL_get (by omega), hsome, by rw [levL_len]; exact hn12, fun l hl => ?_, fun H7 qt sm7 nqt hqt => ?_⟩
        · obtain ⟨k, _, rfl⟩ := List.mem_map.mp hl
          have := lev_len_le (coinsL ws) k
          omega
        rw [levL_len] at hqt
        have hTok : ∀ y ∈ (tkS (levL (coinsL ws) n).reverse (2 * (coinsL ws).length - 2) n).2, ∃ l : Nat, y = (l : Int) ∧ l < ws.length := fun y hy => letters_ok hy
        have hans : ansL ws n = cnts ws.length ((tkS (levL (coinsL ws) n).reverse (2 * (coinsL ws).length - 2) n).2.map Int.toNat) := by rw [ansL, if_neg h1]
        generalize (tkS (levL (coinsL ws) n).reverse (2 * (coinsL ws).length - 2) n).2 = T at *
        have eN57 : LamX.ExtN H5 H7 := eN6.trans (extN_same sm7)
        have hD7 : H7 D3 = some (.lst ((cnts ws.length []).map V.int)) := eN57 _ _ hD3 fun _ z => by cases z
        have hDq : D3 ≠ qt := fun z => by
          have h8 : H6 D3 = some (.lst ((cnts ws.length []).map V.int)) := eN6 _ _ hD3 fun _ z => by cases z
          rw [z, nqt] at h8
          cases h8
        have eN07 : LamX.ExtN H H7 := (extN_same ((sm1.trans sm3).trans sm35)).trans eN57
        have hHD : H D3 = none := by
          cases hh : H D3 with
          | none => rfl
          | some o =>
            have := ((sm1.trans sm3).trans sm4) _ _ hh
            rw [nD3] at this
            cases this
        refine ⟨qt, rfl, ⟨_, .inl (.inl hqt)⟩, ?_⟩
        refine for_list (K := K) (a := qt) (xs := T.map V.int) (fun i σ H' => ∃ y4, σ = [some (.ref p), some (.int (n : Int)), some (.ref C0), some (.ref D3), y4, none] ∧ LamX.ExtN H H' ∧ LamX.Tabs [(PT, "levels_of.<locals>.<lambda>")] H' ∧ H' qt = some (.lst (T.map V.int)) ∧ H' D3 = some (.lst ((cnts ws.length ((T.take i).map Int.toNat)).map V.int)))
          ⟨none, rfl, eN07, tabs_same hT6 sm7, hqt, hD7⟩ (fun i σ H' _ h => ?_) (fun i x σ H' hx h => ?_) (fun σ H' h => ?_)
        · obtain ⟨_, _, _, _, h4, _⟩ := h
          exact .inl (.inl h4)
        · obtain ⟨y4, rfl, eN8, hT8, hq8, hD8⟩ := h
          obtain ⟨x, rfl, hx'⟩ := int_of hx
          obtain ⟨l, rfl, hl⟩ := hTok x (List.mem_of_getElem? hx')
          have hget : ((cnts ws.length ((T.take i).map Int.toNat)).map V.int)[l]? = some (.int (((T.take i).map Int.toNat).count l : Nat)) := by
            rw [List.getElem?_map, cnts_get hl]
            rfl
          refine ⟨.ref D3, rfl, .int (l : Int), rfl, D3, _, l, _, rfl, rfl, .inl (.inl hD8), hget, _, _, rfl, rfl, D3, _, (l : Int), l, rfl, rfl, hD8, ?_, ?_⟩
          · rw [List.length_map, cnts_len]
            unfold ixN
            rw [if_pos (by omega), if_pos (by omega), Int.toNat_natCast]
          · refine ⟨some (.int (l : Int)), rfl, extN_put eN8 hHD, tabs_put hT8 hD8, ?_, ?_⟩
            · rw [upd_ne hDq.symm]
              exact hq8
            · have e9 := cnts_bump (T := (T.take i).map Int.toNat) hl
              rw [upd_same, List.take_add_one, hx', List.map_append]
              show some (HO.lst ((List.map V.int (cnts ws.length (List.map Int.toNat (List.take i T)))).set l (V.int ((((List.map Int.toNat (List.take i T)).count l : Nat) : Int) + 1)))) = some (HO.lst ((cnts ws.length (List.map Int.toNat (List.take i T) ++ [l])).map V.int))
              rw [← e9, List.map_set]
        · obtain ⟨y4, rfl, eN8, hT8, hq8, hD8⟩ := h
          have e : (T.take (T.map V.int).length) = T := by rw [List.length_map, List.take_length]
          rw [e, ← hans] at hD8
          exact ⟨.ref D3, rfl, q H' D3 eN8 hT8 hD8⟩
end
end K2

namespace K2
open PySem PySem.Spec PyProof.Rows L2
/-! ### equal lists -/
theorem dp_ints {K : PySem.W.Frag} {H : Hp} : ∀ xs : List Int, DpAll K H (xs.map V.int) (xs.map PyData.int)
  | [] => .nil
  | x :: xs => .cons (.int x) (dp_ints xs)
theorem dp_bools {K : PySem.W.Frag} {H : Hp} : ∀ xs : List Bool, DpAll K H (xs.map V.bl) (xs.map PyData.bool)
  | [] => .nil
  | x :: xs => .cons (.bl x) (dp_bools xs)
theorem eqvA_ints : ∀ xs ys : List Int, PyData.eqvAll (xs.map .int) (ys.map .int) = decide (xs = ys)
  | [], [] => by simp [PyData.eqvAll]
  | [], _ :: _ => by simp [PyData.eqvAll]
  | _ :: _, [] => by simp [PyData.eqvAll]
  | x :: xs, y :: ys => by
    simp only [List.map_cons, PyData.eqvAll, PyData.eqv, eqvA_ints xs ys]
    by_cases h : x = y <;> simp [h]
theorem eqvA_bools : ∀ xs ys : List Bool, PyData.eqvAll (xs.map .bool) (ys.map .bool) = decide (xs = ys)
  | [], [] => by simp [PyData.eqvAll]
  | [], _ :: _ => by simp [PyData.eqvAll]
  | _ :: _, [] => by simp [PyData.eqvAll]
  | x :: xs, y :: ys => by
    simp only [List.map_cons, PyData.eqvAll, PyData.eqv, eqvA_bools xs ys]
    by_cases h : x = y <;> simp [h]
theorem eqv_ints (xs ys : List Int) : PyData.eqv (.list (xs.map .int)) (.list (ys.map .int)) = decide (xs = ys) := by rw [PyData.eqv, eqvA_ints]
theorem eqv_bools (xs ys : List Bool) : PyData.eqv (.list (xs.map .bool)) (.list (ys.map .bool)) = decide (xs = ys) := by rw [PyData.eqv, eqvA_bools]
theorem clA_ints : ∀ ns : List Int, PyData.canLayAll0 (ns.map PyData.int) = true
  | [] => by (simp [PyData.canLayAll0])
  | _ :: r => by simp [PyData.canLayAll0, PyData.canLay0, clA_ints r]
theorem dA_ints : ∀ ns : List Int, PyData.depthAll (ns.map PyData.int) = 0
  | [] => rfl
  | _ :: r => by simp [PyData.depthAll, PyData.depth, dA_ints r]
theorem shaped_intsQ (ns : List Int) : SeqAt.shaped (.list (ns.map PyData.int)) = true := by
  simp [SeqAt.shaped, PyData.canLay0, PyData.depth, clA_ints, dA_ints]
theorem clA_bools : ∀ ns : List Bool, PyData.canLayAll0 (ns.map PyData.bool) = true
  | [] => by (simp [PyData.canLayAll0])
  | _ :: r => by simp [PyData.canLayAll0, PyData.canLay0, clA_bools r]
theorem dA_bools : ∀ ns : List Bool, PyData.depthAll (ns.map PyData.bool) = 0
  | [] => rfl
  | _ :: r => by simp [PyData.depthAll, PyData.depth, dA_bools r]
theorem shaped_bools (ns : List Bool) : SeqAt.shaped (.list (ns.map PyData.bool)) = true := by
  simp [SeqAt.shaped, PyData.canLay0, PyData.depth, clA_bools, dA_bools]
def cellAt (xs : List Int) (k : Nat) : Int := if k < xs.length then xs.getD k 0 else if xs = [] then (k : Int) * 48271 else ((xs.getD (k % xs.length) 0 + k) * 48271).fmod 2147483647
theorem scCell : FnScope ["_law_script", "_law_k"] ["_law_script", "_law_k"] (defScope sCell) := ⟨rfl, rfl, rfl, by decide +kernel, rfl, by decide +kernel, by decide +kernel⟩
section
variable {P : Program} {w : World} {K : PySem.W.Frag} {mg : Str → Option Value} {base : Heap}
def spCell (K : PySem.W.Frag) : Sp := fun vs H Q _ => ∃ (p : Addr) (xs : List Int) (k : Nat), vs = [.ref p, .int (k : Int)] ∧ SqL K H p (xs.map V.int) ∧ k ≤ 100000 ∧ ∀ H', Same H H' → Q (.int (cellAt xs k)) H'
theorem ok_cell {f : Addr} {fd : FuncData} {j : Nat} (F : Fun K "_law_cell_at" "_law_cell_at" sCell f fd) (m1 : mg "len" = none) : FnOk P w K mg base CX0 (j + 1) f fd ["_law_script", "_law_k"] (K2.spCell K) := by
  refine F.ok scCell (fun vs H Q E h => ?_) (fun cdv A outer s H vs Q E hr h => ?_)
  · obtain ⟨p, xs, k, rfl, _⟩ := h
    rfl
  · obtain ⟨p, xs, k, rfl, hp, hk, q⟩ := h
    refine ⟨_, pss_cons (ps_if (pt_cmpR op_lt (pv 1) (pe_callB call_len_seq (by rfl) m1 PySem.boot_len (pa_cons (pv 0) pa_nil)) (nomark _)) (pss_one (ps_ret (pe_ix ix_list (pv 0) (pv 1) (fun _ _ => rfl)))) pss_nil)
      (pss_cons (ps_if (pt_cmpR (op_eqD hr.units) (pv 0) (pe_lst pa_nil) (nomark _)) (pss_one (ps_ret (pe_op op_mul (pv 1) pe_int))) pss_nil)
      (pss_one (ps_ret (pe_op op_modN (pe_op op_mul (pe_op op_add (pe_ix ix_list (pv 0) (pe_op op_modN (pv 1) (pe_callB call_len_seq (by rfl) m1 PySem.boot_len (pa_cons (pv 0) pa_nil))) (fun _ _ => rfl)) (pv 1)) pe_int) pe_int)))), ?_⟩
    refine ⟨_, rfl, _, rfl, p, _, rfl, .inl hp, _, _, rfl, rfl, _, rfl, ite2 (fun e => ?_) (fun e => ?_)⟩
    · have hlt : k < xs.length := by
        have := of_decide_eq_true e
        rw [List.length_map] at this
        omega
      have q' := q H (Same.refl H)
      rw [cellAt, if_pos hlt] at q'
      refine ⟨_, rfl, _, rfl, p, _, _, .int (xs.getD k 0), rfl, rfl, hp, atI_nat ?_, q'⟩
      rw [List.getElem?_map, List.getElem?_eq_getElem hlt, List.getD_eq_getElem?_getD, List.getElem?_eq_getElem hlt]
      rfl
    · have hge : ¬ k < xs.length := fun z => e (decide_eq_true (by rw [List.length_map]; omega))
      refine ⟨_, rfl, Nat.zero_le _, fun z nz => ?_⟩
      have sm : Same H (upd H z (.lst [])) := same_upd nz
      have q' := q _ sm
      rw [cellAt, if_neg hge] at q'
      refine ⟨_, _, .lst (sm.seq hp) (dp_ints xs), .lst (ds := []) (.inl (.inl upd_same)) .nil, shaped_intsQ xs, shaped_intsQ [], ?_⟩
      have ee : PyData.eqv (.list (xs.map .int)) (.list []) = decide (xs = []) := eqv_ints xs []
      rw [ee]
      refine ⟨_, rfl, ite2 (fun e2 => ?_) (fun e2 => ?_)⟩
      · have : xs = [] := of_decide_eq_true e2
        rw [if_pos this] at q'
        exact ⟨_, rfl, _, _, rfl, rfl, .inl ⟨by omega, by omega⟩, q'⟩
      · have hne : ¬ xs = [] := fun z => e2 (decide_eq_true z)
        rw [if_neg hne] at q'
        have hpos : 0 < xs.length := List.length_pos_iff.mpr hne
        have hm : k % xs.length < xs.length := Nat.mod_lt _ hpos
        have em : (k : Int).fmod ((xs.map V.int).length : Int) = ((k % xs.length : Nat) : Int) := by
          rw [List.length_map, Int.fmod_eq_emod_of_nonneg _ (by omega)]
          rfl
        refine ⟨_, rfl, _, rfl, _, rfl, p, _, rfl, .inl (sm.seq hp), _, _, rfl, rfl, by rw [List.length_map]; omega, p, _, _, .int (xs.getD (k % xs.length) 0), rfl, rfl, sm.seq hp, (by rw [em]; exact atI_nat (by
          rw [List.getElem?_map, List.getElem?_eq_getElem hm, List.getD_eq_getElem?_getD, List.getElem?_eq_getElem hm]
          rfl)), _, rfl, _, _, rfl, rfl, _, _, rfl, rfl, .inr ⟨by decide, by decide⟩, _, _, rfl, rfl, (by show (2147483647 : Int) ≠ 0; decide), q'⟩
end
end K2

namespace K2
open PySem PySem.Spec PyProof.Rows L2
/-! ### _law_numbers -/
def InLims (ds lims : List Int) : Prop := ds.length ≤ lims.length ∧ ∀ (j : Nat) (d l : Int), ds[j]? = some d → lims[j]? = some l → 0 ≤ d ∧ d < l
theorem fmod_in {a l : Int} (h : 0 < l) : 0 ≤ a.fmod l ∧ a.fmod l < l := by
  rw [Int.fmod_eq_emod_of_nonneg _ (Int.le_of_lt h)]
  exact ⟨Int.emod_nonneg _ (by omega), Int.emod_lt_of_pos _ h⟩
theorem InLims.snoc {ds lims : List Int} {d l : Int} (h : InLims ds lims) (hl : lims[ds.length]? = some l) (hd : 0 ≤ d ∧ d < l) : InLims (ds ++ [d]) lims := by
  refine ⟨by have := (List.getElem?_eq_some_iff.mp hl).1; simp; omega, fun j d' l' h1 h2 => ?_⟩
  by_cases q : j < ds.length
  · rw [List.getElem?_append_left q] at h1
    exact h.2 j d' l' h1 h2
  · have e : j = ds.length := by
      have := (List.getElem?_eq_some_iff.mp h1).1
      simp at this
      omega
    subst e
    rw [List.getElem?_append_right (Nat.le_refl _)] at h1
    simp at h1
    rw [hl] at h2
    cases h2
    rw [← h1]
    exact hd
theorem scNums : FnScope ["_law_cell", "_law_limits", "_law_rest", "_law_found"] ["_law_cell", "_law_limits"] (defScope sNums) := ⟨rfl, rfl, rfl, by decide +kernel, rfl, by decide +kernel, by decide +kernel⟩
section
variable {P : Program} {w : World} {K : PySem.W.Frag} {mg : Str → Option Value} {base : Heap}
def spNums : Sp := fun vs H Q _ => ∃ (p : Addr) (c : Int) (lims : List Int), vs = [.int c, .ref p] ∧ H p = some (.lst (lims.map V.int)) ∧ lims.length ≤ 1000 ∧ (∀ l ∈ lims, 0 < l ∧ l < 1000000) ∧
  ∀ H' q ds, Same H H' → H q = none → H' q = some (.lst (ds.map V.int)) → ds.length = lims.length → InLims ds lims → Q (.ref q) H'
theorem ok_nums {f : Addr} {fd : FuncData} {j : Nat} (F : Fun K "_law_numbers" "_law_numbers" sNums f fd) (m1 : mg "int" = none) : FnOk P w K mg base CX0 (j + 1) f fd ["_law_cell", "_law_limits"] spNums := by
  refine F.ok scNums (fun vs H Q E h => ?_) (fun cdv A outer s H vs Q E hr h => ?_)
  · obtain ⟨p, c, lims, rfl, _⟩ := h
    rfl
  · obtain ⟨p, c, lims, rfl, hp, hl, hpos, q⟩ := h
    refine ⟨_, pss_cons (ps_set (i := 2) scNums.nd rfl (.inl rfl) (pv 0))
      (pss_cons (ps_if (pt_cmpR op_lt (pv 0) (pe_op op_pow pe_int pe_int) (nomark _))
        (pss_one (ps_set (i := 2) scNums.nd rfl (.inl rfl) (pe_op op_fdivN (pe_op op_pow (pe_op op_add (pe_op op_mul (pe_op op_modN (pv 0) pe_int) pe_int) pe_int) pe_int) pe_int))) pss_nil)
      (pss_cons (ps_set (i := 3) scNums.nd rfl (.inl rfl) (pe_lst pa_nil))
      (pss_cons (ps_for PassesOwn.never rfl (pi_list (pv 1)) (pg_name (i := 1) scNums.nd rfl (.inl rfl))
        (pss_cons (ps_expr (pe_bm PySem.F.plainAttrs_list PySem.F.slot_list_append PySem.F.type_list_append mt_append (pv 3) (pa_cons (pe_op op_modN (pe_callTy call_int1 (by rfl) m1 (by decide +kernel) (pa_cons (pv 2) pa_nil)) (pv 1)) pa_nil)))
        (pss_one (ps_set (i := 2) scNums.nd rfl (.inl rfl) (pe_op op_fdivN (pv 2) (pv 1))))))
      (pss_one (ps_ret (pv 3)))))), ?_⟩
    refine ⟨_, rfl, _, rfl, _, _, rfl, rfl, ⟨by decide, by decide, by decide⟩, _, _, rfl, rfl, _, rfl, ite2 (fun e => ?_) (fun e => ?_)⟩
    · have hm := fmod_in (a := c) (l := 2147483647) (by decide)
      refine ⟨_, rfl, _, _, rfl, rfl, (by show (2147483647 : Int) ≠ 0; decide), _, _, rfl, rfl, .inr ⟨by decide, by decide⟩, _, _, rfl, rfl, _, _, rfl, rfl, ⟨by decide, by decide, by omega⟩, _, _, rfl, rfl, ⟨by decide, by decide⟩, ?_⟩
      refine ⟨Nat.zero_le _, fun D nD => ?_⟩
      have hpD : (upd H D (.lst [])) p = some (.lst (lims.map V.int)) := same_upd nD _ _ hp
      refine ⟨_, rfl, p, rfl, ⟨_, .inl (.inl hpD)⟩, ?_⟩
      refine for_list (K := K) (a := p) (xs := lims.map V.int) (fun i σ H' => ∃ (y1 : Option V) (r : Int) (ds : List Int), σ = [some (.int c), y1, some (.int r), some (.ref D)] ∧ Same H H' ∧ H' D = some (.lst (ds.map V.int)) ∧ ds.length = i ∧ InLims ds lims)
        ⟨_, _, [], rfl, same_upd nD, upd_same, rfl, Nat.zero_le _, fun j d l h => by simp at h⟩ (fun i σ H' _ h => ?_) (fun i x σ H' hx h => ?_) (fun σ H' h => ?_)
      · obtain ⟨_, _, _, _, sm, _⟩ := h
        exact .inl (.inl (sm _ _ hp))
      · obtain ⟨y1, r, ds, rfl, sm, hD, hdl, hin⟩ := h
        obtain ⟨x, rfl, hx'⟩ := int_of hx
        obtain ⟨hx0, hx1⟩ := hpos x (List.mem_of_getElem? hx')
        refine ⟨.ref D, rfl, .inl ⟨rfl, _, .inl (.inl hD)⟩, .int r, rfl, .inl ⟨r, rfl, .int x, rfl, _, _, rfl, rfl, (by omega), D, _, _, rfl, rfl, hD, ?_, ?_⟩⟩
        · rw [List.length_map]
          exact small1000 (by have := (List.getElem?_eq_some_iff.mp hx').1; omega)
        · refine ⟨.int r, rfl, .int x, rfl, _, _, rfl, rfl, ⟨(by omega), (by omega)⟩, some (.int x), r.fdiv x, ds ++ [r.fmod x], rfl, same_put sm nD, ?_, by simp [hdl], hin.snoc (by rw [hdl]; exact hx') (fmod_in hx0)⟩
          rw [upd_same, List.map_append]
          rfl
      · obtain ⟨y1, r, ds, rfl, sm, hD, hdl, hin⟩ := h
        rw [List.length_map] at hdl
        exact ⟨.ref D, rfl, q H' D ds sm nD hD hdl hin⟩
    · refine ⟨Nat.zero_le _, fun D nD => ?_⟩
      have hpD : (upd H D (.lst [])) p = some (.lst (lims.map V.int)) := same_upd nD _ _ hp
      refine ⟨_, rfl, p, rfl, ⟨_, .inl (.inl hpD)⟩, ?_⟩
      refine for_list (K := K) (a := p) (xs := lims.map V.int) (fun i σ H' => ∃ (y1 : Option V) (r : Int) (ds : List Int), σ = [some (.int c), y1, some (.int r), some (.ref D)] ∧ Same H H' ∧ H' D = some (.lst (ds.map V.int)) ∧ ds.length = i ∧ InLims ds lims)
        ⟨_, _, [], rfl, same_upd nD, upd_same, rfl, Nat.zero_le _, fun j d l h => by simp at h⟩ (fun i σ H' _ h => ?_) (fun i x σ H' hx h => ?_) (fun σ H' h => ?_)
      · obtain ⟨_, _, _, _, sm, _⟩ := h
        exact .inl (.inl (sm _ _ hp))
      · obtain ⟨y1, r, ds, rfl, sm, hD, hdl, hin⟩ := h
        obtain ⟨x, rfl, hx'⟩ := int_of hx
        obtain ⟨hx0, hx1⟩ := hpos x (List.mem_of_getElem? hx')
        refine ⟨.ref D, rfl, .inl ⟨rfl, _, .inl (.inl hD)⟩, .int r, rfl, .inl ⟨r, rfl, .int x, rfl, _, _, rfl, rfl, (by omega), D, _, _, rfl, rfl, hD, ?_, ?_⟩⟩
        · rw [List.length_map]
          exact small1000 (by have := (List.getElem?_eq_some_iff.mp hx').1; omega)
        · refine ⟨.int r, rfl, .int x, rfl, _, _, rfl, rfl, ⟨(by omega), (by omega)⟩, some (.int x), r.fdiv x, ds ++ [r.fmod x], rfl, same_put sm nD, ?_, by simp [hdl], hin.snoc (by rw [hdl]; exact hx') (fmod_in hx0)⟩
          rw [upd_same, List.map_append]
          rfl
      · obtain ⟨y1, r, ds, rfl, sm, hD, hdl, hin⟩ := h
        rw [List.length_map] at hdl
        exact ⟨.ref D, rfl, q H' D ds sm nD hD hdl hin⟩
end
end K2

namespace K2
open PySem PySem.Spec PyProof.Rows L2
/-! ### _law_good -/
def usedL (xs : List Int) : List Int := xs.filter fun x => decide (0 < x)
def goodB (xs : List Int) : Bool := decide (usedL xs = []) || (decide (usedL xs = [1]) || decide (((usedL xs).map fun x => (4096 : Int) / 2 ^ x.toNat).sum = 4096))
theorem used_succ {xs : List Int} {i : Nat} {x : Int} (h : xs[i]? = some x) : usedL (xs.take (i + 1)) = usedL (xs.take i) ++ (if 0 < x then [x] else []) := by
  rw [List.take_add_one, h]
  unfold usedL
  rw [List.filter_append]
  congr 1
  by_cases q : 0 < x <;> simp [q]
theorem used_le (xs : List Int) : (usedL xs).length ≤ xs.length := List.length_filter_le _ _
theorem scGood : FnScope ["_law_lengths", "_law_used", "_law_one"] ["_law_lengths"] (defScope sGood) := ⟨rfl, rfl, rfl, by decide +kernel, rfl, by decide +kernel, by decide +kernel⟩
section
variable {P : Program} {w : World} {K : PySem.W.Frag} {mg : Str → Option Value} {base : Heap}
def spGood : Sp := fun vs H Q _ => ∃ (p : Addr) (xs : List Int), vs = [.ref p] ∧ H p = some (.lst (xs.map V.int)) ∧ xs.length ≤ 1000 ∧ ∀ H', Same H H' → Q (.bl (goodB xs)) H'
theorem ok_good {f : Addr} {fd : FuncData} {j : Nat} (F : Fun K "_law_good" "_law_good" sGood f fd) (m1 : mg "sum" = none) : FnOk P w K mg base CX0 (j + 1) f fd ["_law_lengths"] spGood := by
  refine F.ok scGood (fun vs H Q E h => ?_) (fun cdv A outer s H vs Q E hr h => ?_)
  · obtain ⟨p, xs, rfl, _⟩ := h
    rfl
  · obtain ⟨p, xs, rfl, hp, hl, q⟩ := h
    refine ⟨_, pss_cons (ps_setLc (i := 1) (own := [("_law_one", 2)]) (g := gName 2) rfl scGood.nd rfl rfl (sw_true rfl rfl rfl (by decide +kernel))
          (pi_list (pv 0)) (blkOk_by (N := ["_law_lengths", "_law_used", "_law_one"]) (sc := defScope sGood) (by decide +kernel))
          (fun _ _ _ _ _ => pg_name (i := 2) scGood.nd rfl (.inl rfl)) (fun _ _ _ _ _ => pts_one (pt_cmpR op_gt (pv 2) pe_int (nomark _))) (fun _ _ _ _ _ => pv 2))
      (pss_one (ps_ret (pe_or (pe_cmpR (op_eqD hr.units) (pv 1) (pe_lst pa_nil) (nomark _)) (pe_or (pe_cmpR (op_eqD hr.units) (pv 1) (pe_lst (pa_cons pe_int pa_nil)) (nomark _))
        (pe_one (pe_cmpR op_eq (pe_callB (cr_sum rfl) (by rfl) m1 (by decide +kernel) (pa_cons (pe_lc (own := [("_law_one", 2)]) (g := gName 2) (tt := tYes) rfl scGood.nd (pi_list (pv 1)) (blkOk_by (N := ["_law_lengths", "_law_used", "_law_one"]) (sc := defScope sGood) (by decide +kernel))
          (fun _ _ _ _ _ => pg_name (i := 2) scGood.nd rfl (.inl rfl)) (fun _ _ _ _ _ => pts_nil) (fun _ _ _ _ _ => pe_op op_shr pe_int (pv 2))) pa_nil)) pe_int (nomark _))))))), ?_⟩
    refine ⟨_, rfl, p, rfl, ⟨_, .inl (.inl hp)⟩, fun D nD => ?_⟩
    refine lc_list (K := K) (a := p) (xs := xs.map V.int) (fun i H' => Same H H' ∧ H' D = some (.lst ((usedL (xs.take i)).map V.int))) ⟨same_upd nD, upd_same⟩ (fun i H' _ h => .inl (.inl (h.1 _ _ hp))) (fun i x H1 hx h => ?_) (fun H1 h => ?_)
    · obtain ⟨x, rfl, hx'⟩ := int_of hx
      refine ⟨rfl, _, rfl, _, _, rfl, rfl, _, rfl, ?_⟩
      rw [used_succ hx']
      refine ite2 (fun e => ?_) (fun e => ?_)
      · rw [if_pos (show 0 < x from of_decide_eq_true e)]
        refine ⟨_, rfl, _, h.2, ?_, same_put h.1 nD, ?_⟩
        · rw [List.length_map]
          have := used_le (xs.take i)
          rw [List.length_take] at this
          exact Nat.lt_of_le_of_lt (show _ ≤ 1000 by omega) (by decide)
        · rw [upd_same, List.map_append]
          rfl
      · rw [if_neg (show ¬ 0 < x from fun z => e (decide_eq_true z)), List.append_nil]
        exact h
    · have e : (xs.take (xs.map V.int).length) = xs := by rw [List.length_map, List.take_length]
      rw [e] at h
      obtain ⟨sm1, hD⟩ := h
      have hul := used_le xs
      have hq : ∀ H', Same H H' → ∀ b, b = goodB xs → Q (.bl b) H' := fun H' sm b hb => by rw [hb]; exact q H' sm
      unfold goodB at hq
      have hpos : ∀ x ∈ usedL xs, 0 < x := fun x hx => of_decide_eq_true (List.mem_filter.mp hx).2
      generalize usedL xs = us at *
      -- used == []
      refine ⟨_, rfl, Nat.zero_le _, fun z nz => ?_⟩
      have sm2 : Same H1 (upd H1 z (.lst [])) := same_upd nz
      have hz : (upd H1 z (.lst [])) z = some (.lst []) := upd_same
      generalize upd H1 z (.lst []) = H2 at *
      refine ⟨_, _, .lst (.inl (.inl (sm2 _ _ hD))) (dp_ints us), .lst (ds := []) (.inl (.inl hz)) .nil, shaped_intsQ us, shaped_intsQ [], _, rfl, ?_⟩
      rw [show PyData.eqv (.list (us.map .int)) (.list []) = decide (us = []) from eqv_ints us []]
      refine ite2 (fun e => ?_) (fun e => ?_)
      · exact hq _ (sm1.trans sm2) _ (by rw [e]; rfl)
      · have e0 : decide (us = []) = false := by simpa using e
        refine ⟨_, rfl, (by show 1 ≤ sizeLine; decide), fun z2 nz2 => ?_⟩
        have sm3 : Same H2 (upd H2 z2 (.lst [.int 1])) := same_upd nz2
        have hz2 : (upd H2 z2 (.lst [.int 1])) z2 = some (.lst [.int 1]) := upd_same
        generalize upd H2 z2 (.lst [.int 1]) = H3 at *
        refine ⟨_, _, .lst (.inl (.inl (sm3 _ _ (sm2 _ _ hD)))) (dp_ints us), .lst (ds := [.int 1]) (.inl (.inl hz2)) (.cons (.int 1) .nil), shaped_intsQ us, shaped_intsQ [1], _, rfl, ?_⟩
        rw [show PyData.eqv (.list (us.map .int)) (.list [.int 1]) = decide (us = [1]) from eqv_ints us [1]]
        have hD3 := sm3 _ _ (sm2 _ _ hD)
        have sm13 := (sm1.trans sm2).trans sm3
        refine ite2 (fun e => ?_) (fun e => ?_)
        · exact hq _ sm13 _ (by rw [e0, e]; rfl)
        · have e1 : decide (us = [1]) = false := by simpa using e
          refine ⟨_, rfl, D, rfl, ⟨_, .inl (.inl hD3)⟩, fun D2 nD2 => ?_⟩
          refine lc_list (K := K) (a := D) (xs := us.map V.int) (fun i H' => Same H3 H' ∧ H' D2 = some (.lst (((us.take i).map fun x => (4096 : Int) / 2 ^ x.toNat).map V.int))) ⟨same_upd nD2, upd_same⟩ (fun i H' _ h => .inl (.inl (h.1 _ _ hD3))) (fun i x H1 hx h => ?_) (fun H4 h => ?_)
          · obtain ⟨x, rfl, hx'⟩ := int_of hx
            refine ⟨rfl, yes ?_⟩
            refine ⟨_, rfl, _, _, rfl, rfl, ?_, _, h.2, ?_, same_put h.1 nD2, ?_⟩
            · have := hpos x (List.mem_of_getElem? hx')
              show 0 ≤ x
              omega
            · rw [List.length_map, List.length_map, List.length_take]
              exact small1000 (by omega)
            · rw [upd_same, List.take_add_one, hx', List.map_append, List.map_append]
              rfl
          · have e : (us.take (us.map V.int).length) = us := by rw [List.length_map, List.take_length]
            rw [e] at h
            refine ⟨D2, _, rfl, .inl (.inl h.2), rfl, ?_⟩
            refine hq _ (sm13.trans h.1) _ ?_
            rw [e0, e1, Bool.false_or, Bool.false_or, decide_eq_decide]
            exact ⟨fun h => V.int.inj h, fun h => congrArg V.int h⟩
end
end K2

namespace K2
open PySem PySem.Spec PyProof.Rows L2
/-! ### _law_weights -/
def lows (u i : Nat) : List Int := ((List.range i).filter fun b => decide (u ≤ 2 ^ (b + 1))).map fun b => ((b + 1 : Nat) : Int)
theorem lows_succ (u i : Nat) : lows u (i + 1) = lows u i ++ (if u ≤ 2 ^ (i + 1) then [((i + 1 : Nat) : Int)] else []) := by
  unfold lows
  rw [List.range_succ, List.filter_append, List.map_append]
  congr 1
  by_cases q : u ≤ 2 ^ (i + 1) <;> simp [q]
theorem lows_len (u i : Nat) : (lows u i).length ≤ i := by
  unfold lows
  rw [List.length_map]
  exact Nat.le_trans (List.length_filter_le _ _) (by simp)
theorem lows_first {u : Nat} (h : u ≤ 14) : ∃ b : Nat, (lows u 12)[0]? = some (b : Int) ∧ 1 ≤ b ∧ b ≤ 12 ∧ u ≤ 2 ^ b := by
  have : ∀ u : Fin 15, ∃ b : Fin 13, (lows u.1 12)[0]? = some (b.1 : Int) ∧ 1 ≤ b.1 ∧ u.1 ≤ 2 ^ b.1 := by decide +kernel
  obtain ⟨b, h1, h2, h3⟩ := this ⟨u, by omega⟩
  exact ⟨b.1, h1, h2, by omega, h3⟩
theorem coins_used (ws : List Int) : (coinsL ws).length = (usedL ws).length := by
  rw [(coinsL_perm ws).length_eq]
  have key : ∀ i, i ≤ ws.length → (rawU ws i).length = (usedL (ws.take i)).length := by
    intro i
    induction i with
    | zero => intro _; simp [rawU, usedL]
    | succ i ih =>
      intro hi
      have hx : ws[i]? = some (wAt ws i) := by
        unfold wAt
        rw [List.getD_eq_getElem?_getD, List.getElem?_eq_getElem (show i < ws.length by omega)]
        rfl
      rw [rawU_succ, used_succ hx, List.length_append, List.length_append, ih (by omega)]
      congr 1
      split <;> rfl
  have := key ws.length (Nat.le_refl _)
  rw [List.take_length] at this
  exact this
theorem scWts : FnScope ["_law_script", "_law_at", "_law_digits", "_law_found", "_law_k", "_law_cell", "_law_used", "_law_lowest", "_law_one", "_law_bound"] ["_law_script", "_law_at"] (defScope sWts) := ⟨rfl, rfl, rfl, by decide +kernel, rfl, by decide +kernel, by decide +kernel⟩
theorem cell_in (c d : Int) (h0 : 0 ≤ d) (h1 : d < 5) : ∃ v : Int, atI [V.int (c.fmod 4), V.int (c.fmod 1000), V.int (1 * 2 ^ (c.fmod 20).toNat), V.int (c.fmod 2 * 7), V.int (c.fmod 1000001)] d = some (.int v) ∧ 0 ≤ v ∧ v ≤ 1000000 := by
  have a1 := fmod_in (a := c) (l := 4) (by decide)
  have a2 := fmod_in (a := c) (l := 1000) (by decide)
  have a3 := fmod_in (a := c) (l := 20) (by decide)
  have a4 := fmod_in (a := c) (l := 2) (by decide)
  have a5 := fmod_in (a := c) (l := 1000001) (by decide)
  obtain ⟨n, rfl⟩ : ∃ n : Nat, d = (n : Int) := ⟨d.toNat, by omega⟩
  have hn : n = 0 ∨ n = 1 ∨ n = 2 ∨ n = 3 ∨ n = 4 := by omega
  have h3 : (1 : Int) * 2 ^ (c.fmod 20).toNat ≤ 1000000 ∧ 0 ≤ (1 : Int) * 2 ^ (c.fmod 20).toNat := by
    have e : (1 : Int) * 2 ^ (c.fmod 20).toNat = ((2 ^ (c.fmod 20).toNat : Nat) : Int) := by rw [Int.one_mul, Int.natCast_pow]; rfl
    rw [e]
    have : 2 ^ (c.fmod 20).toNat ≤ 2 ^ 19 := Nat.pow_le_pow_right (by decide) (by omega)
    exact ⟨Int.le_trans (Int.ofNat_le.mpr this) (by decide), Int.natCast_nonneg _⟩
  rcases hn with rfl | rfl | rfl | rfl | rfl
  · exact ⟨_, rfl, by omega, by omega⟩
  · exact ⟨_, rfl, by omega, by omega⟩
  · exact ⟨_, rfl, h3.2, h3.1⟩
  · exact ⟨_, rfl, by omega, by omega⟩
  · exact ⟨_, rfl, by omega, by omega⟩
section
variable {P : Program} {w : World} {K : PySem.W.Frag} {mg : Str → Option Value} {base : Heap}
def spWts (K : PySem.W.Frag) : Sp := fun vs H Q _ => ∃ (p : Addr) (xs : List Int) (k : Nat), vs = [.ref p, .int (k : Int)] ∧ SqL K H p (xs.map V.int) ∧ k ≤ 1000 ∧
  ∀ H' t pf ws (n : Nat), Same H H' → H' t = some (.tup [.ref pf, .int (n : Int)]) → H' pf = some (.lst (ws.map V.int)) → AskOk ws n → Q (.ref t) H'
theorem ok_wts {f fC fN : Addr} {fd fdC fdN : FuncData} {j : Nat} (F : Fun K "_law_weights" "_law_weights" sWts f fd) (GC : FnOk P w K mg base CX0 (j + 1) fC fdC ["_law_script", "_law_k"] (K2.spCell K)) (bC : Binds K fdC ["_law_script", "_law_k"] []) (kC : PySem.W.keepIn K (.ref fC) = true) (gC : mg "_law_cell_at" = some (.ref fC))
    (GN : FnOk P w K mg base CX0 (j + 1) fN fdN ["_law_cell", "_law_limits"] spNums) (bN : Binds K fdN ["_law_cell", "_law_limits"] []) (kN : PySem.W.keepIn K (.ref fN) = true) (gN : mg "_law_numbers" = some (.ref fN))
    (m1 : mg "len" = none) (m2 : mg "int" = none) (m3 : mg "range" = none) (m4 : mg "min" = none) : FnOk P w K mg base CX0 (j + 2) f fd ["_law_script", "_law_at"] (spWts K) := by
  refine F.ok scWts (fun vs H Q E h => ?_) (fun cdv A outer s H vs Q E hr h => ?_)
  · obtain ⟨p, xs, k, rfl, _⟩ := h
    rfl
  · obtain ⟨p, xs, k, rfl, hp, hk, q⟩ := h
    refine ⟨_, pss_cons (ps_set (i := 2) scWts.nd rfl (.inl rfl) (pe_call GN hr (by rfl) gN kN bN .nil pass0 (pa_cons (pe_call GC hr (by rfl) gC kC bC .nil pass0 (pa_cons (pv 0) (pa_cons (pv 1) pa_nil))) (pa_cons (pe_lst (pa_cons pe_int (pa_cons pe_int (pa_cons pe_int pa_nil)))) pa_nil))))
      (pss_cons (ps_set (i := 3) scWts.nd rfl (.inl rfl) (pe_lst pa_nil))
      (pss_cons (ps_for PassesOwn.never rfl (pi_range1 rfl m3 (pa_cons (pe_op op_add pe_int (pe_op op_modN (pe_callTy call_int1 (by rfl) m2 (by decide +kernel) (pa_cons (pe_ix ix_list (pv 2) pe_int (fun _ _ => rfl)) pa_nil)) pe_int)) pa_nil)) (pg_name (i := 4) scWts.nd rfl (.inl rfl))
        (pss_cons (ps_set (i := 5) scWts.nd rfl (.inl rfl) (pe_call GC hr (by rfl) gC kC bC .nil pass0 (pa_cons (pv 0) (pa_cons (pe_op op_add (pe_op op_add (pv 1) pe_int) (pv 4)) pa_nil))))
        (pss_one (ps_expr (pe_bm PySem.F.plainAttrs_list PySem.F.slot_list_append PySem.F.type_list_append mt_append (pv 3) (pa_cons (pe_ix ix_list (pe_lst (pa_cons (pe_op op_modN (pv 5) pe_int) (pa_cons (pe_op op_modN (pv 5) pe_int) (pa_cons (pe_op op_shl pe_int (pe_op op_modN (pv 5) pe_int)) (pa_cons (pe_op op_mul (pe_op op_modN (pv 5) pe_int) pe_int) (pa_cons (pe_op op_modN (pv 5) pe_int) pa_nil)))))) (pe_ix ix_list (pv 2) pe_int (fun _ _ => rfl)) (fun _ _ => rfl)) pa_nil))))))
      (pss_cons (ps_if (pt_cmpR op_eq (pe_bm PySem.F.plainAttrs_list PySem.F.slot_list_count PySem.F.type_list_count mt_lcount (pv 3) (pa_cons pe_int pa_nil)) (pe_callB call_len_seq (by rfl) m1 PySem.boot_len (pa_cons (pv 3) pa_nil)) (nomark _))
        (pss_one (ps_asg pe_int (pg_sub (pv 3) pe_int set_list))) pss_nil)
      (pss_cons (ps_set (i := 6) scWts.nd rfl (.inr rfl) (pe_callB call_len_seq (by rfl) m1 PySem.boot_len (pa_cons (pe_lc (own := [("_law_one", 8)]) (g := gName 8) rfl scWts.nd (pi_list (pv 3)) (blkOk_by (N := ["_law_script", "_law_at", "_law_digits", "_law_found", "_law_k", "_law_cell", "_law_used", "_law_lowest", "_law_one", "_law_bound"]) (sc := defScope sWts) (by decide +kernel))
          (fun _ _ _ _ _ => pg_name (i := 8) scWts.nd rfl (.inl rfl)) (fun _ _ _ _ _ => pts_one (pt_cmpR op_gt (pv 8) pe_int (nomark _))) (fun _ _ _ _ _ => pv 8)) pa_nil)))
      (pss_cons (ps_set (i := 7) scWts.nd rfl (.inl rfl) (pe_ix ix_list (pe_lc (own := [("_law_bound", 9)]) (g := gName 9) rfl scWts.nd (pi_range2 (by rfl) m3 (pa_cons pe_int (pa_cons pe_int pa_nil))) (blkOk_by (N := ["_law_script", "_law_at", "_law_digits", "_law_found", "_law_k", "_law_cell", "_law_used", "_law_lowest", "_law_one", "_law_bound"]) (sc := defScope sWts) (by decide +kernel))
          (fun _ _ _ _ _ => pg_name (i := 9) scWts.nd rfl (.inl rfl)) (fun _ _ _ _ _ => pts_one (pt_cmpR op_ge (pe_op op_shl pe_int (pv 9)) (pv 6) (nomark _))) (fun _ _ _ _ _ => pv 9)) pe_int (fun _ _ => rfl)))
      (pss_one (ps_ret (pe_tup (pa_cons (pv 3) (pa_cons (pe_callB (call_min2 rfl) (by rfl) m4 (by decide +kernel) (pa_cons pe_int (pa_cons (pe_op op_add (pv 7) (pe_op op_modN (pe_callTy call_int1 (by rfl) m2 (by decide +kernel) (pa_cons (pe_ix ix_list (pv 2) pe_int (fun _ _ => rfl)) pa_nil)) (pe_op op_sub pe_int (pv 7)))) pa_nil))) pa_nil)))))))))), ?_⟩
    refine ⟨_, rfl, _, rfl, p, xs, k, rfl, hp, by omega, fun H1 sm1 => ?_⟩
    refine ⟨(by show 3 ≤ sizeLine; decide), fun z nz => ?_⟩
    have sm1z : Same H (upd H1 z (.lst [.int 14, .int 5, .int 13])) := sm1.trans (same_upd nz)
    refine ⟨z, cellAt xs k, [14, 5, 13], rfl, upd_same, by decide, by decide, fun H2' dg ds sm2 nq hdg hdl hin => ?_⟩
    obtain ⟨d0, d1, d2, rfl⟩ : ∃ d0 d1 d2, ds = [d0, d1, d2] := by
      match ds, hdl with
      | [a, b, c], _ => exact ⟨a, b, c, rfl⟩
    have hd0 := hin.2 0 d0 14 rfl rfl
    have hd1 := hin.2 1 d1 5 rfl rfl
    have hd2 := hin.2 2 d2 13 rfl rfl
    have sm02 : Same H H2' := sm1z.trans sm2
    refine ⟨Nat.zero_le _, fun p3 n3 => ?_⟩
    have sm3 : Same H2' (upd H2' p3 (.lst [])) := same_upd n3
    have hm0 := fmod_in (a := d0) (l := 13) (by decide)
    refine ⟨.ref dg, rfl, dg, _, 0, .int d0, rfl, rfl, .inl (.inl (sm3 _ _ hdg)), rfl, .inl ⟨d0, rfl, _, _, rfl, rfl, (by show (13 : Int) ≠ 0; decide), _, _, rfl, rfl, _, rfl, (by omega), (by omega), ?_⟩⟩
    refine for_range (lo := 0) (n := (2 + d0.fmod 13).toNat) (fun i σ H' => ∃ (y4 y5 : Option V) (ws : List Int), σ = [some (.ref p), some (.int (k : Int)), some (.ref dg), some (.ref p3), y4, y5, none, none, none, none] ∧ Same H2' H' ∧ H' p3 = some (.lst (ws.map V.int)) ∧ ws.length = i ∧ ∀ w ∈ ws, 0 ≤ w ∧ w ≤ 1000000)
      ⟨none, none, [], rfl, sm3, upd_same, rfl, fun w h => by simp at h⟩ (fun i σ H' hi h => ?_) (fun σ H' h => ?_)
    · obtain ⟨y4, y5, ws, rfl, sm4, hf, hwl, hws⟩ := h
      refine ⟨_, rfl, _, rfl, _, _, rfl, rfl, _, rfl, _, _, rfl, rfl, p, xs, k + 1 + i, ?_, (sm02.trans sm4).seq hp, by omega, fun H5 sm5 => ?_⟩
      · show [V.ref p, V.int ((k : Int) + 1 + (0 + (i : Int)))] = _
        rw [show (k : Int) + 1 + (0 + (i : Int)) = ((k + 1 + i : Nat) : Int) by omega]
      · obtain ⟨v, hv, hv0, hv1⟩ := cell_in (cellAt xs (k + 1 + i)) d1 hd1.1 hd1.2
        generalize cellAt xs (k + 1 + i) = c at *
        have hm3 := fmod_in (a := c) (l := 20) (by decide)
        have hm4 := fmod_in (a := c) (l := 2) (by decide)
        refine ⟨.ref p3, rfl, .inl ⟨rfl, _, .inl (.inl (sm5 _ _ hf))⟩, ?_⟩
        refine ⟨_, rfl, _, _, rfl, rfl, (by show (4 : Int) ≠ 0; decide), _, rfl, _, _, rfl, rfl, (by show (1000 : Int) ≠ 0; decide), _, rfl, _, _, rfl, rfl, (by show (20 : Int) ≠ 0; decide), _, _, rfl, rfl, ⟨(by omega), (by omega), (by decide)⟩, _, rfl, _, _, rfl, rfl, (by show (2 : Int) ≠ 0; decide), _, _, rfl, rfl, .inr ⟨by decide, by decide⟩, _, rfl, _, _, rfl, rfl, (by show (1000001 : Int) ≠ 0; decide), (by show 5 ≤ sizeLine; decide), fun z6 nz6 => ?_⟩
        have sm6 : Same H5 (upd H5 z6 (.lst [V.int (c.fmod 4), V.int (c.fmod 1000), V.int (1 * 2 ^ (c.fmod 20).toNat), V.int (c.fmod 2 * 7), V.int (c.fmod 1000001)])) := same_upd nz6
        have hz6 : (upd H5 z6 (.lst [V.int (c.fmod 4), V.int (c.fmod 1000), V.int (1 * 2 ^ (c.fmod 20).toNat), V.int (c.fmod 2 * 7), V.int (c.fmod 1000001)])) z6 = some (.lst [V.int (c.fmod 4), V.int (c.fmod 1000), V.int (1 * 2 ^ (c.fmod 20).toNat), V.int (c.fmod 2 * 7), V.int (c.fmod 1000001)]) := upd_same
        have hf6 := sm6 _ _ (sm5 _ _ hf)
        refine ⟨.ref dg, rfl, dg, _, 1, .int d1, rfl, rfl, .inl (.inl (sm6 _ _ (sm5 _ _ (sm4 _ _ hdg)))), rfl, z6, _, d1, .int v, rfl, rfl, .inl (.inl hz6), hv, p3, _, _, rfl, rfl, hf6, ?_, ?_⟩
        · rw [List.length_map]
          exact small1000 (by omega)
        · refine ⟨some (.int (0 + (i : Int))), some (.int c), ws ++ [v], rfl, same_put ((sm4.trans sm5).trans sm6) n3, ?_, by simp [hwl], fun w hw => ?_⟩
          · rw [upd_same, List.map_append]
            rfl
          · rcases List.mem_append.mp hw with h | h
            · exact hws w h
            · rw [List.mem_singleton.mp h]
              exact ⟨hv0, hv1⟩
    · obtain ⟨y4, y5, ws0, rfl, sm4, hf0, hwl, hws⟩ := h
      have hwl2 : 2 ≤ ws0.length ∧ ws0.length ≤ 14 := by omega
      have hdg4 := sm4 _ _ hdg
      have sm04 : Same H H' := sm02.trans sm4
      have hp3H : H p3 = none := by
        cases hh : H p3 with
        | none => rfl
        | some o =>
          have := sm02 _ _ hh
          rw [n3] at this
          cases this
      have hdgne : dg ≠ p3 := ne_of_none hdg n3
      refine ⟨.ref p3, rfl, .inl ⟨rfl, _, .inl (.inl hf0)⟩, p3, ws0, 0, rfl, rfl, .inl (.inl hf0), .ref p3, rfl, p3, _, rfl, .inl (.inl (.inl hf0)), rfl, _, rfl, ite2 (fun e => ?_) (fun e => ?_)⟩
      · refine ⟨.ref p3, rfl, p3, _, 0, 0, rfl, rfl, hf0, ?_, ?_⟩
        · rw [List.length_map]
          unfold ixN
          rw [if_pos (by decide), if_pos (by omega)]
          rfl
        · have hf : (upd H' p3 (.lst ((ws0.map V.int).set 0 (.int 1)))) p3 = some (.lst ((ws0.set 0 1).map V.int)) := by rw [upd_same, List.map_set]
          have sm2 : Same H (upd H' p3 (.lst ((ws0.map V.int).set 0 (.int 1)))) := same_put sm04 hp3H
          have hdg2 : (upd H' p3 (.lst ((ws0.map V.int).set 0 (.int 1)))) dg = some (.lst [.int d0, .int d1, .int d2]) := by rw [upd_ne hdgne]; exact hdg4
          have hlo : ∀ w ∈ ws0.set 0 1, 0 ≤ w ∧ w ≤ 1000000 := fun w hw => by
            rcases List.mem_or_eq_of_mem_set hw with h | h
            · exact hws w h
            · rw [h]; decide
          have hsomeW : ∃ w ∈ ws0.set 0 1, 0 < w := ⟨1, List.mem_iff_getElem?.mpr ⟨0, by rw [List.getElem?_set_self (by omega)]⟩, by decide⟩
          have hwl3 : 2 ≤ (ws0.set 0 1).length ∧ (ws0.set 0 1).length ≤ 14 := by rw [List.length_set]; exact hwl2
          generalize upd H' p3 (.lst ((ws0.map V.int).set 0 (.int 1))) = H2 at *
          generalize ws0.set 0 1 = ws at *
          clear hwl hws hwl2 e hf0
          -- used
          refine ⟨_, rfl, p3, rfl, ⟨_, .inl (.inl hf)⟩, fun D nD => ?_⟩
          refine lc_list (K := K) (a := p3) (xs := ws.map V.int) (fun i H' => Same H2 H' ∧ H' D = some (.lst ((usedL (ws.take i)).map V.int))) ⟨same_upd nD, upd_same⟩ (fun i H' _ h => .inl (.inl (h.1 _ _ hf))) (fun i x H1 hx h => ?_) (fun H3 h => ?_)
          · obtain ⟨x, rfl, hx'⟩ := int_of hx
            refine ⟨rfl, _, rfl, _, _, rfl, rfl, _, rfl, ?_⟩
            rw [used_succ hx']
            refine ite2 (fun e => ?_) (fun e => ?_)
            · rw [if_pos (show 0 < x from of_decide_eq_true e)]
              refine ⟨_, rfl, _, h.2, ?_, same_put h.1 nD, ?_⟩
              · rw [List.length_map]
                have := used_le (ws.take i)
                rw [List.length_take] at this
                exact Nat.lt_of_le_of_lt (show _ ≤ 1000 by omega) (by decide)
              · rw [upd_same, List.map_append]
                rfl
            · rw [if_neg (show ¬ 0 < x from fun z => e (decide_eq_true z)), List.append_nil]
              exact h
          · have e : (ws.take (ws.map V.int).length) = ws := by rw [List.length_map, List.take_length]
            rw [e] at h
            obtain ⟨sm3, hD⟩ := h
            have hul := used_le ws
            refine ⟨D, _, rfl, .inl (.inl (.inl hD)), ?_⟩
            -- lowest
            refine ⟨1, 13, rfl, (by decide), fun D2 nD2 => ?_⟩
            refine lc_range (lo := 1) (n := ((13 : Int) - 1).toNat) (fun i H' => Same H3 H' ∧ H' D2 = some (.lst ((lows (usedL ws).length i).map V.int))) ⟨same_upd nD2, upd_same⟩ (fun i H1 hi h => ?_) (fun H4 h => ?_)
            · have hi : i < 12 := hi
              refine ⟨rfl, _, rfl, _, _, rfl, rfl, ⟨(by omega), (by omega), (by decide)⟩, _, rfl, _, _, rfl, rfl, _, rfl, ?_⟩
              rw [lows_succ]
              have ep : (1 : Int) * 2 ^ ((1 : Int) + (i : Int)).toNat = ((2 ^ (i + 1) : Nat) : Int) := by
                rw [Int.one_mul, show ((1 : Int) + (i : Int)).toNat = i + 1 by omega, Int.natCast_pow]
                rfl
              refine ite2 (fun e => ?_) (fun e => ?_)
              · have e' := of_decide_eq_true e
                rw [List.length_map, ep] at e'
                rw [if_pos (show (usedL ws).length ≤ 2 ^ (i + 1) by omega)]
                refine ⟨_, rfl, _, h.2, ?_, same_put h.1 nD2, ?_⟩
                · rw [List.length_map]
                  exact Nat.lt_of_le_of_lt (Nat.le_trans (lows_len _ _) (show i ≤ 1000 by omega)) (by decide)
                · rw [upd_same, List.map_append, show (1 : Int) + (i : Int) = ((i + 1 : Nat) : Int) by omega]
                  rfl
              · have e' : ¬ (usedL ws).length ≤ 2 ^ (i + 1) := fun z => e (decide_eq_true (by rw [List.length_map, ep]; omega))
                rw [if_neg e', List.append_nil]
                exact h
            · obtain ⟨sm4, hD2⟩ := h
              obtain ⟨b0, hb1, hb2, hb3, hb4⟩ := lows_first (u := (usedL ws).length) (by omega)
              have hsm : Same H2 H4 := sm3.trans sm4
              refine ⟨D2, _, 0, .int (b0 : Int), rfl, rfl, .inl (.inl hD2), atI_nat (j := 0) (by rw [List.getElem?_map, show ((13 : Int) - 1).toNat = 12 from rfl, hb1]; rfl), ?_⟩
              refine ⟨.ref p3, rfl, .int (b0 : Int), rfl, .ref dg, rfl, dg, _, 2, .int d2, rfl, rfl, .inl (.inl (hsm _ _ hdg2)), rfl, .inl ⟨d2, rfl, .int (b0 : Int), rfl, _, _, rfl, rfl, _, _, rfl, rfl, ?_, _, _, rfl, rfl, _, _, rfl, (by show 2 ≤ sizeLine; decide), fun t nt => ?_⟩⟩
              · show (14 : Int) - (b0 : Int) ≠ 0
                omega
              · have hm := fmod_in (a := d2) (l := 14 - (b0 : Int)) (by omega)
                have sm5 : Same H4 (upd H4 t (.tup [.ref p3, .int (if (b0 : Int) + d2.fmod (14 - (b0 : Int)) < 12 then (b0 : Int) + d2.fmod (14 - (b0 : Int)) else 12)])) := same_upd nt
                obtain ⟨n, hn, hn1, hn2⟩ : ∃ n : Nat, (if (b0 : Int) + d2.fmod (14 - (b0 : Int)) < 12 then (b0 : Int) + d2.fmod (14 - (b0 : Int)) else 12) = (n : Int) ∧ b0 ≤ n ∧ n ≤ 12 := by
                  by_cases c : (b0 : Int) + d2.fmod (14 - (b0 : Int)) < 12
                  · exact ⟨((b0 : Int) + d2.fmod (14 - (b0 : Int))).toNat, by rw [if_pos c]; omega, by omega, by omega⟩
                  · exact ⟨12, by rw [if_neg c]; rfl, by omega, by omega⟩
                refine q _ t p3 ws n ((sm2.trans hsm).trans sm5) ?_ (sm5 _ _ (hsm _ _ hf)) ⟨hlo, by omega, ?_, ?_, by omega, hn2⟩
                · rw [upd_same, ← hn]
                · obtain ⟨w, hw, hw0⟩ := hsomeW
                  rw [coins_used]
                  exact List.length_pos_iff.mpr (List.ne_nil_of_mem (List.mem_filter.mpr ⟨hw, decide_eq_true hw0⟩))
                · rw [coins_used]
                  exact Nat.le_trans hb4 (Nat.pow_le_pow_right (by decide) hn1)
      · have hsomeW : ∃ w ∈ ws0, 0 < w := by
          refine Decidable.byContradiction fun no => e ?_
          have : ws0.count 0 = ws0.length := List.count_eq_length.mpr fun b hb => by
            have h1 := hws b hb
            have h2 : ¬ 0 < b := fun z => no ⟨b, hb, z⟩
            omega
          show decide (V.int ((ws0.count 0 : Nat) : Int) = V.int (((ws0.map V.int).length : Nat) : Int)) = true
          rw [List.length_map, this]
          exact decide_eq_true rfl
        have hf := hf0
        have sm2 := sm04
        have hdg2 := hdg4
        have hlo := hws
        have hwl3 := hwl2
        generalize H' = H2 at *
        generalize ws0 = ws at *
        clear hwl hws hwl2 e hf0
        -- used
        refine ⟨_, rfl, p3, rfl, ⟨_, .inl (.inl hf)⟩, fun D nD => ?_⟩
        refine lc_list (K := K) (a := p3) (xs := ws.map V.int) (fun i H' => Same H2 H' ∧ H' D = some (.lst ((usedL (ws.take i)).map V.int))) ⟨same_upd nD, upd_same⟩ (fun i H' _ h => .inl (.inl (h.1 _ _ hf))) (fun i x H1 hx h => ?_) (fun H3 h => ?_)
        · obtain ⟨x, rfl, hx'⟩ := int_of hx
          refine ⟨rfl, _, rfl, _, _, rfl, rfl, _, rfl, ?_⟩
          rw [used_succ hx']
          refine ite2 (fun e => ?_) (fun e => ?_)
          · rw [if_pos (show 0 < x from of_decide_eq_true e)]
            refine ⟨_, rfl, _, h.2, ?_, same_put h.1 nD, ?_⟩
            · rw [List.length_map]
              have := used_le (ws.take i)
              rw [List.length_take] at this
              exact Nat.lt_of_le_of_lt (show _ ≤ 1000 by omega) (by decide)
            · rw [upd_same, List.map_append]
              rfl
          · rw [if_neg (show ¬ 0 < x from fun z => e (decide_eq_true z)), List.append_nil]
            exact h
        · have e : (ws.take (ws.map V.int).length) = ws := by rw [List.length_map, List.take_length]
          rw [e] at h
          obtain ⟨sm3, hD⟩ := h
          have hul := used_le ws
          refine ⟨D, _, rfl, .inl (.inl (.inl hD)), ?_⟩
          -- lowest
          refine ⟨1, 13, rfl, (by decide), fun D2 nD2 => ?_⟩
          refine lc_range (lo := 1) (n := ((13 : Int) - 1).toNat) (fun i H' => Same H3 H' ∧ H' D2 = some (.lst ((lows (usedL ws).length i).map V.int))) ⟨same_upd nD2, upd_same⟩ (fun i H1 hi h => ?_) (fun H4 h => ?_)
          · have hi : i < 12 := hi
            refine ⟨rfl, _, rfl, _, _, rfl, rfl, ⟨(by omega), (by omega), (by decide)⟩, _, rfl, _, _, rfl, rfl, _, rfl, ?_⟩
            rw [lows_succ]
            have ep : (1 : Int) * 2 ^ ((1 : Int) + (i : Int)).toNat = ((2 ^ (i + 1) : Nat) : Int) := by
              rw [Int.one_mul, show ((1 : Int) + (i : Int)).toNat = i + 1 by omega, Int.natCast_pow]
              rfl
            refine ite2 (fun e => ?_) (fun e => ?_)
            · have e' := of_decide_eq_true e
              rw [List.length_map, ep] at e'
              rw [if_pos (show (usedL ws).length ≤ 2 ^ (i + 1) by omega)]
              refine ⟨_, rfl, _, h.2, ?_, same_put h.1 nD2, ?_⟩
              · rw [List.length_map]
                exact Nat.lt_of_le_of_lt (Nat.le_trans (lows_len _ _) (show i ≤ 1000 by omega)) (by decide)
              · rw [upd_same, List.map_append, show (1 : Int) + (i : Int) = ((i + 1 : Nat) : Int) by omega]
                rfl
            · have e' : ¬ (usedL ws).length ≤ 2 ^ (i + 1) := fun z => e (decide_eq_true (by rw [List.length_map, ep]; omega))
              rw [if_neg e', List.append_nil]
              exact h
          · obtain ⟨sm4, hD2⟩ := h
            obtain ⟨b0, hb1, hb2, hb3, hb4⟩ := lows_first (u := (usedL ws).length) (by omega)
            have hsm : Same H2 H4 := sm3.trans sm4
            refine ⟨D2, _, 0, .int (b0 : Int), rfl, rfl, .inl (.inl hD2), atI_nat (j := 0) (by rw [List.getElem?_map, show ((13 : Int) - 1).toNat = 12 from rfl, hb1]; rfl), ?_⟩
            refine ⟨.ref p3, rfl, .int (b0 : Int), rfl, .ref dg, rfl, dg, _, 2, .int d2, rfl, rfl, .inl (.inl (hsm _ _ hdg2)), rfl, .inl ⟨d2, rfl, .int (b0 : Int), rfl, _, _, rfl, rfl, _, _, rfl, rfl, ?_, _, _, rfl, rfl, _, _, rfl, (by show 2 ≤ sizeLine; decide), fun t nt => ?_⟩⟩
            · show (14 : Int) - (b0 : Int) ≠ 0
              omega
            · have hm := fmod_in (a := d2) (l := 14 - (b0 : Int)) (by omega)
              have sm5 : Same H4 (upd H4 t (.tup [.ref p3, .int (if (b0 : Int) + d2.fmod (14 - (b0 : Int)) < 12 then (b0 : Int) + d2.fmod (14 - (b0 : Int)) else 12)])) := same_upd nt
              obtain ⟨n, hn, hn1, hn2⟩ : ∃ n : Nat, (if (b0 : Int) + d2.fmod (14 - (b0 : Int)) < 12 then (b0 : Int) + d2.fmod (14 - (b0 : Int)) else 12) = (n : Int) ∧ b0 ≤ n ∧ n ≤ 12 := by
                by_cases c : (b0 : Int) + d2.fmod (14 - (b0 : Int)) < 12
                · exact ⟨((b0 : Int) + d2.fmod (14 - (b0 : Int))).toNat, by rw [if_pos c]; omega, by omega, by omega⟩
                · exact ⟨12, by rw [if_neg c]; rfl, by omega, by omega⟩
              refine q _ t p3 ws n ((sm2.trans hsm).trans sm5) ?_ (sm5 _ _ (hsm _ _ hf)) ⟨hlo, by omega, ?_, ?_, by omega, hn2⟩
              · rw [upd_same, ← hn]
              · obtain ⟨w, hw, hw0⟩ := hsomeW
                rw [coins_used]
                exact List.length_pos_iff.mpr (List.ne_nil_of_mem (List.mem_filter.mpr ⟨hw, decide_eq_true hw0⟩))
              · rw [coins_used]
                exact Nat.le_trans hb4 (Nat.pow_le_pow_right (by decide) hn1)
end
end K2

namespace K2
open SrtO
/-! ### packages with their letters -/
abbrev Q4 := Int × Int × Int × List Int
abbrev kQ (q : Q4) : Int × Int × Int := (q.1, q.2.1, q.2.2.1)
def leQ (a b : Q4) : Bool := !lexT (kQ b) (kQ a)
theorem leQ_tr (a b c : Q4) (h1 : leQ a b = true) (h2 : leQ b c = true) : leQ a c = true := by
  simp only [leQ, Bool.not_eq_true', lexT_no] at *
  omega
theorem leQ_to (a b : Q4) : (leQ a b || leQ b a) = true := by
  rcases bcase (lexT (kQ b) (kQ a)) with h | h
  · have : lexT (kQ a) (kQ b) = false := by
      rw [lexT_no]
      rw [lexT_iff] at h
      omega
    simp [leQ, this]
  · simp [leQ, h]
def coinQ (x : Int × Int) : Q4 := (x.1, 0, x.2, [x.2])
def packQ : Nat → List Q4 → List Q4
  | j, a :: b :: l => (a.1 + b.1, 1, (j : Int), a.2.2.2 ++ b.2.2.2) :: packQ (j + 1) l
  | _, _ => []
abbrev mQ (C P : List Q4) : List Q4 := List.merge C P leQ
def levQ (C : List (Int × Int)) : Nat → List Q4
  | 0 => []
  | k + 1 => mQ (C.map coinQ) (packQ 0 (levQ C k))
def gQ (q : Q4) : Int × Int := (q.1, if q.2.1 = 0 then q.2.2.1 else -1)
theorem mQ_nil (P : List Q4) : mQ [] P = P := by simp [mQ]
theorem mQ_nil2 (C : List Q4) : mQ C [] = C := by cases C <;> simp [mQ]
theorem mQ_pos {c p : Q4} {C P : List Q4} (h : leQ c p = true) : mQ (c :: C) (p :: P) = c :: mQ C (p :: P) := by simp [mQ, h]
theorem mQ_neg {c p : Q4} {C P : List Q4} (h : ¬ leQ c p = true) : mQ (c :: C) (p :: P) = p :: mQ (c :: C) P := by simp [mQ, h]
theorem leQ_cp {c p : Q4} (hc : c.2.1 = 0) (hp : p.2.1 = 1) : leQ c p = true ↔ c.1 ≤ p.1 := by
  simp only [leQ, Bool.not_eq_true', lexT_no]
  omega
def IsC (C : List Q4) : Prop := ∀ q ∈ C, q.2.1 = 0
def IsP (P : List Q4) : Prop := ∀ q ∈ P, q.2.1 = 1
theorem packQ_isP : ∀ (l : List Q4) (j : Nat), IsP (packQ j l)
  | [], _ => fun q h => by simp [packQ] at h
  | [_], _ => fun q h => by simp [packQ] at h
  | a :: b :: l, j => fun q h => by
    rcases List.mem_cons.mp h with h | h
    · rw [h]
    · exact packQ_isP l (j + 1) q h
theorem coinQ_isC (C : List (Int × Int)) : IsC (C.map coinQ) := fun q h => by
  obtain ⟨x, _, rfl⟩ := List.mem_map.mp h
  rfl
theorem mQ_g : ∀ (C P : List Q4), IsC C → IsP P → (mQ C P).map gQ = mI (C.map gQ) (P.map gQ)
  | [], P, _, _ => by rw [mQ_nil, List.map_nil, mI_nil]
  | c :: C, [], _, _ => by rw [mQ_nil2, List.map_nil, mI_nil2]
  | c :: C, p :: P, hc, hp => by
    have h1 := hc c (by simp)
    have h2 := hp p (by simp)
    by_cases e : c.1 ≤ p.1
    · rw [mQ_pos ((leQ_cp h1 h2).mpr e), List.map_cons, mQ_g C (p :: P) (fun x hx => hc x (by simp [hx])) hp, List.map_cons, List.map_cons, mI_pos (show (gQ c).1 ≤ (gQ p).1 from e)]
    · rw [mQ_neg (fun z => e ((leQ_cp h1 h2).mp z)), List.map_cons, mQ_g (c :: C) P hc (fun x hx => hp x (by simp [hx])), List.map_cons, List.map_cons, mI_neg (show ¬ (gQ c).1 ≤ (gQ p).1 from e)]
theorem packQ_g : ∀ (l : List Q4) (j : Nat), (packQ j l).map gQ = packI (l.map gQ)
  | [], _ => by simp [packQ, packI]
  | [_], _ => by simp [packQ, packI]
  | a :: b :: l, j => by
    simp only [packQ, List.map_cons, packI, packQ_g l (j + 1)]
    simp [gQ]
theorem coinQ_g (C : List (Int × Int)) : (C.map coinQ).map gQ = C := by
  rw [List.map_map]
  have : gQ ∘ coinQ = id := funext fun x => by simp [gQ, coinQ]
  rw [this, List.map_id]
theorem levQ_g {C : List (Int × Int)} (sc : Srt (C.map (·.1))) : ∀ k, (levQ C (k + 1)).map gQ = lev C k
  | 0 => by
    rw [levQ, mQ_g _ _ (coinQ_isC C) (packQ_isP _ _), coinQ_g]
    simp [levQ, packQ, lev, mI_nil2]
  | k + 1 => by
    rw [levQ, mQ_g _ _ (coinQ_isC C) (packQ_isP _ _), coinQ_g, packQ_g, levQ_g sc k, lev_eq sc]
theorem levQ_w {C : List (Int × Int)} (sc : Srt (C.map (·.1))) (k : Nat) : (levQ C k).map (·.1) = W (C.map (·.1)) k := by
  cases k with
  | zero => simp [levQ, W]
  | succ k =>
    rw [← lev_fst sc k, ← levQ_g sc k, List.map_map]
    rfl
/-! letters -/
def plQ (l : List Q4) : List Int := l.flatMap (·.2.2.2)
theorem plQ_app (a b : List Q4) : plQ (a ++ b) = plQ a ++ plQ b := by simp [plQ]
theorem plQ_cons (a : Q4) (b : List Q4) : plQ (a :: b) = a.2.2.2 ++ plQ b := by simp [plQ]
theorem mQ_pl : ∀ (C P : List Q4) (m : Nat), IsC C → IsP P → m ≤ C.length + P.length →
    (plQ ((mQ C P).take m)).Perm (plQ (C.take (cutc (C.map (·.1)) (P.map (·.1)) m)) ++ plQ (P.take (m - cutc (C.map (·.1)) (P.map (·.1)) m)))
  | C, P, 0, _, _, _ => by simp [plQ, cutc]
  | [], P, m + 1, _, _, _ => by rw [mQ_nil]; simp [cutc, plQ]
  | c :: C, [], m + 1, _, _, h => by
    rw [mQ_nil2, List.map_nil, cutc_nil _ _ (by simpa using h)]
    simp [plQ]
  | c :: C, p :: P, m + 1, hc, hp, h => by
    have h1 := hc c (by simp)
    have h2 := hp p (by simp)
    by_cases e : c.1 ≤ p.1
    · have ih := mQ_pl C (p :: P) m (fun x hx => hc x (by simp [hx])) hp (by simp at *; omega)
      rw [mQ_pos ((leQ_cp h1 h2).mpr e)]
      simp only [List.map_cons, cutc, if_pos e, Nat.add_comm 1, List.take_succ_cons, Nat.add_sub_add_right, plQ_cons] at *
      rw [List.append_assoc]
      exact ih.append_left _
    · have ih := mQ_pl (c :: C) P m hc (fun x hx => hp x (by simp [hx])) (by simp at *; omega)
      have hl := cutc_le ((c :: C).map (·.1)) (P.map (·.1)) m
      rw [mQ_neg (fun z => e ((leQ_cp h1 h2).mp z))]
      simp only [List.map_cons, cutc, if_neg e] at *
      rw [show m + 1 - cutc (c.1 :: List.map (·.1) C) (List.map (·.1) P) m = (m - cutc (c.1 :: List.map (·.1) C) (List.map (·.1) P) m) + 1 by omega]
      simp only [List.take_succ_cons, plQ_cons]
      refine (ih.append_left p.2.2.2).trans ?_
      rw [← List.append_assoc]; rw [← List.append_assoc]
      exact List.perm_append_comm.append_right _
theorem packQ_len : ∀ (l : List Q4) (j : Nat), (packQ j l).length = l.length / 2
  | [], _ => by simp [packQ]
  | [_], _ => by simp [packQ]
  | a :: b :: l, j => by
    have := packQ_len l (j + 1)
    simp only [packQ, List.length_cons]; omega
theorem packQ_fst : ∀ (l : List Q4) (j : Nat), (packQ j l).map (·.1) = packw (l.map (·.1))
  | [], _ => by simp [packQ, packw]
  | [_], _ => by simp [packQ, packw]
  | a :: b :: l, j => by simp [packQ, packw, packQ_fst l (j + 1)]
theorem packQ_pl : ∀ (l : List Q4) (j p : Nat), 2 * p ≤ l.length → plQ ((packQ j l).take p) = plQ (l.take (2 * p))
  | l, j, 0, _ => by simp [plQ]
  | [], j, p + 1, h => by simp at h
  | [_], j, p + 1, h => by simp at h; omega
  | a :: b :: l, j, p + 1, h => by
    have := packQ_pl l (j + 1) p (by simp only [List.length_cons] at h; omega)
    rw [show 2 * (p + 1) = 2 * p + 1 + 1 by omega]
    simp only [packQ, List.take_succ_cons, plQ_cons, this, List.append_assoc]
theorem coinQ_pl (C : List (Int × Int)) : plQ (C.map coinQ) = C.map (·.2) := by
  induction C with
  | nil => rfl
  | cons x C ih => rw [List.map_cons, plQ_cons, ih]; rfl
theorem levQ_len {C : List (Int × Int)} (sc : Srt (C.map (·.1))) (k : Nat) : (levQ C k).length = (W (C.map (·.1)) k).length := by
  rw [← levQ_w sc k, List.length_map]
theorem levQ_pl {C : List (Int × Int)} (sc : Srt (C.map (·.1))) {k m : Nat} (h : m ≤ (W (C.map (·.1)) (k + 1)).length) :
    (plQ ((levQ C (k + 1)).take m)).Perm ((C.take (cc (C.map (·.1)) (k + 1) m)).map (·.2) ++ plQ ((levQ C k).take (2 * (m - cc (C.map (·.1)) (k + 1) m)))) := by
  have h1 := cc_le (C.map (·.1)) (k + 1) m h
  have e1 : (C.map coinQ).map (·.1) = C.map (·.1) := by rw [List.map_map]; rfl
  have hl := levQ_len sc k
  have h2 := mQ_pl (C.map coinQ) (packQ 0 (levQ C k)) m (coinQ_isC C) (packQ_isP _ _) (by
    rw [List.length_map, packQ_len, hl]
    rw [W_len, List.length_map] at h
    exact h)
  rw [e1, packQ_fst, levQ_w sc, ← List.map_take, coinQ_pl] at h2
  have e2 : cutc (C.map (·.1)) (packw (W (C.map (·.1)) k)) m = cc (C.map (·.1)) (k + 1) m := rfl
  rw [e2, packQ_pl _ _ _ (by rw [hl]; exact h1.2.2)] at h2
  exact h2
theorem way_pl {C : List (Int × Int)} {L : Nat} (G : Good (C.map (·.1)) L) : ∀ k d, d + k = L →
    ((plQ ((levQ C k).take (md (C.map (·.1)) L d))).map Int.toNat).Perm (tl (C.map (·.1)) L (C.map fun x => x.2.toNat) d k)
  | 0, d, _ => by simp [levQ, plQ, tl]
  | k + 1, d, h => by
    have h1 := md_le G d (by omega)
    rw [show L - d = k + 1 by omega] at h1
    have h2 := (levQ_pl G.srt h1).map Int.toNat
    have ih := way_pl G k (d + 1) (by omega)
    refine h2.trans ?_
    rw [List.map_append, tl]
    have e1 : cc (C.map (·.1)) (k + 1) (md (C.map (·.1)) L d) = cd (C.map (·.1)) L d := by
      rw [cd, show L - d = k + 1 by omega]
    rw [e1]
    have e2 : ((C.take (cd (C.map (·.1)) L d)).map (·.2)).map Int.toNat = (C.map fun x => x.2.toNat).take (cd (C.map (·.1)) L d) := by
      rw [List.map_map, List.map_take]
      rfl
    rw [e2]
    exact ih.append_left _
/-- the sorted row is the merge -/
theorem srt_mQ {C P : List Q4} (hc : C.Pairwise fun a b => leQ a b = true) (hp : P.Pairwise fun a b => leQ a b = true) : (mQ C P).Pairwise fun a b => leQ a b = true :=
  List.pairwise_merge (le := leQ) (l₁ := C) (l₂ := P) leQ_tr leQ_to hc hp
theorem packQ_mem : ∀ (l : List Q4) (j : Nat) (q : Q4), q ∈ packQ j l → (j : Int) ≤ q.2.2.1 ∧ ∃ a ∈ l, ∃ b ∈ l, q.1 = a.1 + b.1
  | [], j, q, h => by simp [packQ] at h
  | [_], j, q, h => by simp [packQ] at h
  | a :: b :: l, j, q, h => by
    rcases List.mem_cons.mp h with h | h
    · rw [h]
      exact ⟨Int.le_refl _, a, by simp, b, by simp, rfl⟩
    · obtain ⟨h1, u, hu, v, hv, e⟩ := packQ_mem l (j + 1) q h
      exact ⟨by omega, u, by simp [hu], v, by simp [hv], e⟩
theorem packQ_srt : ∀ (l : List Q4) (j : Nat), Srt (l.map (·.1)) → (packQ j l).Pairwise fun a b => leQ a b = true
  | [], j, _ => by simp [packQ]
  | [_], j, _ => by simp [packQ]
  | a :: b :: l, j, h => by
    obtain ⟨h1, h2⟩ := (List.pairwise_cons.mp h)
    obtain ⟨h3, h4⟩ := List.pairwise_cons.mp h2
    refine List.pairwise_cons.mpr ⟨fun q hq => ?_, packQ_srt l (j + 1) h4⟩
    have hk := packQ_isP l (j + 1) q hq
    obtain ⟨g1, u, hu, v, hv, e⟩ := packQ_mem l (j + 1) q hq
    have g2 : a.1 ≤ u.1 := h1 u.1 (by simp; exact .inr ⟨_, _, _, hu⟩)
    have g3 : b.1 ≤ v.1 := h3 v.1 (by simp; exact ⟨_, _, _, hv⟩)
    simp only [leQ, Bool.not_eq_true', lexT_no]
    omega
theorem packQ_nodup : ∀ (l : List Q4) (j : Nat), ((packQ j l).map kQ).Nodup
  | [], j => by simp [packQ]
  | [_], j => by simp [packQ]
  | a :: b :: l, j => by
    simp only [packQ, List.map_cons]
    refine List.nodup_cons.mpr ⟨fun h => ?_, packQ_nodup l (j + 1)⟩
    obtain ⟨q, hq, e⟩ := List.mem_map.mp h
    have := (packQ_mem l (j + 1) q hq).1
    have e2 : q.2.2.1 = (j : Int) := congrArg (fun z : Int × Int × Int => z.2.2) e
    omega
theorem raw_nodup (ws : List Int) : ((rawL ws).map (·.2)).Nodup := by
  unfold rawL rawU
  rw [List.map_map]
  rw [List.Nodup, List.pairwise_map]
  refine (List.nodup_range.sublist List.filter_sublist).imp fun {a b} h z => h ?_
  have z : (a : Int) = (b : Int) := z
  omega
theorem coins_nodup (ws : List Int) : ((coinsL ws).map (·.2)).Nodup := ((coinsL_perm ws).map _).nodup_iff.mpr (raw_nodup ws)
theorem allQ_nodup (ws : List Int) (l : List Q4) : (((coinsL ws).map coinQ ++ packQ 0 l).map kQ).Nodup := by
  rw [List.map_append]; rw [List.nodup_append]
  refine ⟨?_, packQ_nodup l 0, fun a ha b hb e => ?_⟩
  · rw [List.map_map]
    have := coins_nodup ws
    rw [List.Nodup, List.pairwise_map] at this
    rw [List.Nodup, List.pairwise_map]
    exact this.imp fun {x y} h z => h (congrArg (fun z : Int × Int × Int => z.2.2) z)
  · obtain ⟨q, hq, rfl⟩ := List.mem_map.mp ha
    obtain ⟨r, hr, rfl⟩ := List.mem_map.mp hb
    have h1 := coinQ_isC _ q hq
    have h2 := packQ_isP _ _ r hr
    have e2 : q.2.1 = r.2.1 := congrArg (fun z : Int × Int × Int => z.2.1) e
    omega
theorem nodup_key {l : List Q4} (h : (l.map kQ).Nodup) {a b : Q4} (ha : a ∈ l) (hb : b ∈ l) (e : kQ a = kQ b) : a = b := by
  obtain ⟨i, hi⟩ := List.mem_iff_getElem?.mp ha
  obtain ⟨j, hj⟩ := (List.mem_iff_getElem?.mp hb)
  have h1 : (l.map kQ)[i]? = some (kQ a) := by rw [List.getElem?_map, hi]; rfl
  have h2 : (l.map kQ)[j]? = some (kQ a) := by rw [List.getElem?_map, hj, e]; rfl
  have := (List.getElem?_inj (List.getElem?_eq_some_iff.mp h1).1 h).mp (h1.trans h2.symm)
  subst this
  rw [hi] at hj
  exact Option.some.inj hj
theorem levQ_uniq {ws : List Int} {k : Nat} (sc : Srt ((coinsL ws).map (·.1))) {ys : List Q4} (hp : ys.Perm ((coinsL ws).map coinQ ++ packQ 0 (levQ (coinsL ws) k))) (hs : ys.Pairwise fun a b => leQ a b = true) : ys = levQ (coinsL ws) (k + 1) := by
  have hn := allQ_nodup ws (levQ (coinsL ws) k)
  have hm : (mQ ((coinsL ws).map coinQ) (packQ 0 (levQ (coinsL ws) k))).Perm ((coinsL ws).map coinQ ++ packQ 0 (levQ (coinsL ws) k)) := List.merge_perm_append _
  refine List.Perm.eq_of_pairwise (fun a b ha hb h1 h2 => nodup_key hn (hp.mem_iff.mp ha) (hm.mem_iff.mp hb) ?_) hs (srt_mQ ?_ ?_) (hp.trans hm.symm)
  · simp only [leQ, Bool.not_eq_true', lexT_no] at h1 h2
    obtain ⟨a1, a2, a3, a4⟩ := a
    obtain ⟨b1, b2, b3, b4⟩ := b
    simp only [kQ, Prod.mk.injEq] at *
    omega
  · refine List.pairwise_map.mpr ((coinsL_srt ws).imp fun {a b} h => ?_)
    simp only [leQ, lexLe, Bool.not_eq_true', lexT_no, lexB_no, coinQ] at *
    omega
  · refine packQ_srt _ _ ?_
    rw [levQ_w sc]
    exact W_srt sc _
end K2

namespace K2
open PySem PySem.Spec PyProof.Rows L2
/-! ### _law_least_lengths -/
def Quads (av : List Addr) (H : Hp) (ts : List Addr) (l : List Q4) : Prop := ts.length = l.length ∧ ∀ (i : Nat) (t : Addr) (q : Q4), ts[i]? = some t → l[i]? = some q → ∃ a : Addr, (∀ b ∈ av, a ≠ b) ∧ H t = some (.tup [.int q.1, .int q.2.1, .int q.2.2.1, .ref a]) ∧ H a = some (.lst (q.2.2.2.map V.int))
section
variable {av : List Addr} {H H' : Hp} {ts us : List Addr} {l m : List Q4} {D : Addr} {xs : List V} {o : HO}
theorem Quads.nil : Quads av H [] [] := ⟨rfl, fun i t x h => by simp at h⟩
theorem Quads.same (h : Quads av H ts l) (e : Same H H') : Quads av H' ts l := ⟨h.1, fun i t q h1 h2 => by
  obtain ⟨a, a0, a1, a2⟩ := h.2 i t q h1 h2
  exact ⟨a, a0, e _ _ a1, e _ _ a2⟩⟩
theorem Quads.put (h : Quads av H ts l) (hm : D ∈ av) (hD : H D = some (.lst xs)) : Quads av (upd H D o) ts l := ⟨h.1, fun i t q h1 h2 => by
  obtain ⟨a, a0, a1, a2⟩ := h.2 i t q h1 h2
  exact ⟨a, a0, by rw [upd_ne (fun z => by rw [z, hD] at a1; cases a1)]; exact a1, by rw [upd_ne (a0 D hm)]; exact a2⟩⟩
theorem Quads.more (h : Quads av H ts l) (hD : H D = none) : Quads (D :: av) H ts l := ⟨h.1, fun i t q h1 h2 => by
  obtain ⟨a, a0, a1, a2⟩ := h.2 i t q h1 h2
  refine ⟨a, fun b hb => ?_, a1, a2⟩
  rcases (List.mem_cons.mp hb) with (e | e)
  · rw [e]; exact ne_of_none a2 hD
  · exact a0 b e⟩
theorem Quads.less (h : Quads (D :: av) H ts l) : Quads av H ts l := ⟨h.1, fun i t q h1 h2 => by
  obtain ⟨a, a0, a1, a2⟩ := h.2 i t q h1 h2
  exact ⟨a, fun b hb => a0 b (List.mem_cons_of_mem _ hb), a1, a2⟩⟩
theorem Quads.snoc {t a : Addr} {q : Q4} (h : Quads av H ts l) (a0 : ∀ b ∈ av, a ≠ b) (a1 : H t = some (.tup [.int q.1, .int q.2.1, .int q.2.2.1, .ref a])) (a2 : H a = some (.lst (q.2.2.2.map V.int))) : Quads av H (ts ++ [t]) (l ++ [q]) := by
  refine ⟨by simp [h.1], fun i t' x h1 h2 => ?_⟩
  by_cases e : i < ts.length
  · rw [List.getElem?_append_left e] at h1
    rw [List.getElem?_append_left (by rw [← h.1]; exact e)] at h2
    exact h.2 i t' x h1 h2
  · have e : i = ts.length := by
      have := (List.getElem?_eq_some_iff.mp h1).1
      simp at this
      omega
    subst e
    rw [List.getElem?_append_right (Nat.le_refl _)] at h1
    rw [h.1, List.getElem?_append_right (Nat.le_refl _)] at h2
    simp at h1 h2
    rw [← h1, ← h2]
    exact ⟨a, a0, a1, a2⟩
theorem Quads.app (h : Quads av H ts l) (g : Quads av H us m) : Quads av H (ts ++ us) (l ++ m) := by
  refine ⟨by simp [h.1, g.1], fun i t x h1 h2 => ?_⟩
  by_cases e : i < ts.length
  · rw [List.getElem?_append_left e] at h1
    rw [List.getElem?_append_left (by rw [← h.1]; exact e)] at h2
    exact h.2 i t x h1 h2
  · rw [List.getElem?_append_right (by omega)] at h1
    rw [List.getElem?_append_right (by rw [← h.1]; omega), ← h.1] at h2
    exact g.2 _ t x h1 h2
theorem Quads.take (h : Quads av H ts l) (n : Nat) : Quads av H (ts.take n) (l.take n) := by
  refine ⟨by rw [List.length_take, List.length_take, h.1], fun i t x h1 h2 => ?_⟩
  rw [List.getElem?_take] at h1 h2
  split at h1
  · rename_i q
    rw [if_pos q] at h2
    exact h.2 i t x h1 h2
  · cases h1
theorem Quads.get (h : Quads av H ts l) {i : Nat} {q : Q4} (hx : l[i]? = some q) : ∃ t a, ts[i]? = some t ∧ (ts.map V.ref)[i]? = some (.ref t) ∧ (∀ b ∈ av, a ≠ b) ∧ H t = some (.tup [.int q.1, .int q.2.1, .int q.2.2.1, .ref a]) ∧ H a = some (.lst (q.2.2.2.map V.int)) := by
  have hi : i < ts.length := by rw [h.1]; exact (List.getElem?_eq_some_iff.mp hx).1
  obtain ⟨a, a0, a1, a2⟩ := h.2 i _ q (List.getElem?_eq_getElem hi) hx
  exact ⟨ts[i], a, List.getElem?_eq_getElem hi, by rw [List.getElem?_map, List.getElem?_eq_getElem hi]; rfl, a0, a1, a2⟩
theorem perm_lift {α β : Type} (f : α → β) : ∀ {a b : List β}, a.Perm b → ∀ l : List α, b = l.map f → ∃ l' : List α, l'.Perm l ∧ l'.map f = a := by
  intro a b h
  induction h with
  | nil => intro l e; exact ⟨[], by cases l with | nil => exact .nil | cons x l => simp at e, rfl⟩
  | cons x h ih =>
    intro l e
    cases l with
    | nil => simp at e
    | cons y l =>
      simp at e
      obtain ⟨l', p, e'⟩ := ih l e.2
      exact ⟨y :: l', p.cons y, by simp [e', e.1]⟩
  | swap x y l0 =>
    intro l e
    match l, e with
    | u :: v :: l, e =>
      simp at e
      exact ⟨v :: u :: l, .swap _ _ _, by simp [e]⟩
  | trans h1 h2 ih1 ih2 =>
    intro l e
    obtain ⟨l2, p2, e2⟩ := ih2 l e
    obtain ⟨l1, p1, e1⟩ := ih1 l2 e2.symm
    exact ⟨l1, p1.trans p2, e1⟩
theorem Quads.perm {ys : List V} (h : Quads av H ts l) (hp : ys.Perm (ts.map V.ref)) : ∃ us ls, ys = us.map V.ref ∧ ls.Perm l ∧ Quads av H us ls := by
  have e0 : ts.map V.ref = (ts.zip l).map fun z => V.ref z.1 := by
    have : (ts.zip l).map (fun z => V.ref z.1) = ((ts.zip l).map (·.1)).map V.ref := by rw [List.map_map]; rfl
    rw [this, List.map_fst_zip (by rw [h.1]; exact Nat.le_refl _)]
  obtain ⟨zs, p, e⟩ := perm_lift (fun z : Addr × Q4 => V.ref z.1) hp (ts.zip l) e0
  refine ⟨zs.map (·.1), zs.map (·.2), by rw [← e, List.map_map]; rfl, ?_, by rw [List.length_map, List.length_map], fun i t q h1 h2 => ?_⟩
  · have := p.map (·.2)
    rw [List.map_snd_zip (by rw [h.1]; exact Nat.le_refl _)] at this
    exact this
  · rw [List.getElem?_map] at h1 h2
    cases e : zs[i]? with
    | none => rw [e] at h1; cases h1
    | some z =>
      rw [e] at h1 h2
      cases h1
      cases h2
      obtain ⟨j, h3, h4⟩ := mem_zip_at (p.mem_iff.mp (List.mem_of_getElem? e))
      exact h.2 j _ _ h3 h4
end
def kOfQ (H : Hp) : V → Int × Int × Int
  | .ref t => match H t with
    | some (.tup [.int a, .int b, .int c, .ref _]) => (a, b, c)
    | _ => (0, 0, 0)
  | _ => (0, 0, 0)
theorem kOfQ_at {H : Hp} {t a : Addr} {q : Q4} (h : H t = some (.tup [.int q.1, .int q.2.1, .int q.2.2.1, .ref a])) : kOfQ H (.ref t) = kQ q := by
  simp [kOfQ, h]
theorem packQ_get : ∀ (l : List Q4) (j i : Nat) (x y : Q4), l[2 * i]? = some x → l[2 * i + 1]? = some y → (packQ j l)[i]? = some (x.1 + y.1, 1, ((j + i : Nat) : Int), x.2.2.2 ++ y.2.2.2)
  | [], j, i, x, y, h, _ => by simp at h
  | [_], j, i, x, y, _, h => by simp at h
  | a :: b :: l, j, 0, x, y, h, h2 => by
    simp at h h2
    rw [← h, ← h2]; rfl
  | a :: b :: l, j, i + 1, x, y, h, h2 => by
    have := packQ_get l (j + 1) i x y (by simpa [show 2 * (i + 1) = 2 * i + 1 + 1 by omega] using h) (by simpa [show 2 * (i + 1) + 1 = 2 * i + 1 + 1 + 1 by omega] using h2)
    rw [show j + (i + 1) = j + 1 + i by omega]
    simpa [packQ] using this
theorem packQ_sz : ∀ (l : List Q4) (j n : Nat), (∀ q ∈ l, q.2.2.2.length ≤ n) → ∀ q ∈ packQ j l, q.2.2.2.length ≤ 2 * n
  | [], j, n, _, q, h => by simp [packQ] at h
  | [_], j, n, _, q, h => by simp [packQ] at h
  | a :: b :: l, j, n, hs, q, h => by
    rcases List.mem_cons.mp h with h | h
    · have h1 := hs a (by simp)
      have h2 := hs b (by simp)
      rw [h]
      show (a.2.2.2 ++ b.2.2.2).length ≤ _
      rw [List.length_append]; omega
    · exact packQ_sz l (j + 1) n (fun x hx => hs x (by simp [hx])) q h
theorem levQ_mem {C : List (Int × Int)} {k : Nat} {q : Q4} (h : q ∈ levQ C (k + 1)) : q ∈ C.map coinQ ∨ q ∈ packQ 0 (levQ C k) := by
  have hm : (mQ (C.map coinQ) (packQ 0 (levQ C k))).Perm (C.map coinQ ++ packQ 0 (levQ C k)) := List.merge_perm_append _
  exact List.mem_append.mp (hm.mem_iff.mp h)
theorem levQ_sz (C : List (Int × Int)) : ∀ k, ∀ q ∈ levQ C k, q.2.2.2.length ≤ 2 ^ k
  | 0, q, h => by simp [levQ] at h
  | k + 1, q, h => by
    rcases levQ_mem h with h | h
    · obtain ⟨x, _, rfl⟩ := List.mem_map.mp h
      exact Nat.one_le_two_pow
    · have := packQ_sz _ _ _ (levQ_sz C k) q h
      rw [Nat.pow_succ]; omega
theorem packQ_let {A : List Int} : ∀ (l : List Q4) (j : Nat), (∀ q ∈ l, ∀ x ∈ q.2.2.2, x ∈ A) → ∀ q ∈ packQ j l, ∀ x ∈ q.2.2.2, x ∈ A
  | [], j, _, q, h => by simp [packQ] at h
  | [_], j, _, q, h => by simp [packQ] at h
  | a :: b :: l, j, hs, q, h => by
    rcases List.mem_cons.mp h with h | h
    · intro x hx
      rw [h] at hx
      rcases List.mem_append.mp hx with e | e
      · exact hs a (by simp) x e
      · exact hs b (by simp) x e
    · exact packQ_let l (j + 1) (fun x hx => hs x (by simp [hx])) q h
theorem levQ_let (C : List (Int × Int)) : ∀ k, ∀ q ∈ levQ C k, ∀ x ∈ q.2.2.2, x ∈ C.map (·.2)
  | 0, q, h => by simp [levQ] at h
  | k + 1, q, h => by
    rcases levQ_mem h with h | h
    · obtain ⟨x, hx, rfl⟩ := List.mem_map.mp h
      intro y hy
      have : y = x.2 := by simpa [coinQ] using hy
      rw [this]
      exact List.mem_map.mpr ⟨x, hx, rfl⟩
    · exact packQ_let _ _ (levQ_let C k) q h
theorem one_letter {ws : List Int} {l : Int} (h : (rawL ws).map (·.2) = [l]) : ∃ j : Nat, l = (j : Int) ∧ j < ws.length ∧ (List.replicate ws.length (0 : Int)).set j 1 = ws.map fun w => if 0 < w then 1 else 0 := by
  have hm : ∀ i : Nat, (i < ws.length ∧ 0 < wAt ws i) ↔ (i : Int) = l := fun i => by
    have h1 : (i : Int) ∈ (rawL ws).map (·.2) ↔ (i : Int) = l := by rw [h]; simp
    rw [← h1]
    constructor
    · intro ⟨a, b⟩
      exact List.mem_map.mpr ⟨(wAt ws i, (i : Int)), List.mem_map.mpr ⟨i, List.mem_filter.mpr ⟨by simpa using a, decide_eq_true b⟩, rfl⟩, rfl⟩
    · intro hx
      obtain ⟨y, hy, e⟩ := List.mem_map.mp hx
      obtain ⟨k, a, b, rfl⟩ := raw_mem hy
      have : k = i := by
        have e : (k : Int) = i := e
        omega
      rw [← this]
      exact ⟨a, b⟩
  have hl : l ∈ (rawL ws).map (·.2) := by rw [h]; simp
  obtain ⟨y, hy, e⟩ := List.mem_map.mp hl
  obtain ⟨k, a, b, rfl⟩ := raw_mem hy
  have e : (k : Int) = l := e
  refine ⟨k, e.symm, a, List.ext_getElem? fun i => ?_⟩
  by_cases hi : i < ws.length
  · have hw : wAt ws i = ws[i] := by
      unfold wAt
      rw [List.getD_eq_getElem?_getD]; rw [List.getElem?_eq_getElem hi]
      rfl
    have q := hm i
    rw [hw] at q
    by_cases ei : i = k
    · subst ei
      have q2 := (q.mpr e).2
      rw [List.getElem?_set_self (by simp [hi])]
      simp [hi, q2]
    · have q2 : ¬ 0 < ws[i] := fun z => ei (by have := q.mp ⟨hi, z⟩; omega)
      rw [List.getElem?_set_ne (fun z => ei z.symm)]
      simp [hi, q2]
  · rw [List.getElem?_eq_none (by simp; omega), List.getElem?_eq_none (by simp; omega)]
theorem ans_pl {ws : List Int} {n : Nat} (a : AskOk ws n) (h : (coinsL ws).length ≠ 1) : cnts ws.length ((plQ ((levQ (coinsL ws) n).take (2 * (coinsL ws).length - 2))).map Int.toNat) = ansL ws n := by
  have h1 := way_pl (a.good h) n 0 (by omega)
  have e : md ((coinsL ws).map (·.1)) n 0 = 2 * (coinsL ws).length - 2 := by simp [md]
  rw [e] at h1
  rw [ansL, if_neg h, a.letters h]
  exact cnts_perm h1
theorem bump_map {n l : Nat} {X : List Int} (h : l < n) : some (HO.lst ((List.map V.int (cnts n (X.map Int.toNat))).set l (V.int ((((X.map Int.toNat).count l : Nat) : Int) + 1)))) = some (HO.lst ((cnts n ((X ++ [(l : Int)]).map Int.toNat)).map V.int)) := by
  have e9 := cnts_bump (T := X.map Int.toNat) h
  rw [List.map_append]
  show _ = some (HO.lst ((cnts n (X.map Int.toNat ++ [l])).map V.int))
  rw [← e9, List.map_set]
abbrev NLL : List Str := ["_law_weights_here", "_law_bound", "_law_letter", "_law_letters", "_law_found", "_law_level", "_law_turn", "_law_pairs", "_law_one", "_law_weight", "_law_at", "_law_other"]
theorem scLL : FnScope NLL ["_law_weights_here", "_law_bound"] (defScope sLLeast) := ⟨rfl, rfl, rfl, by decide +kernel, rfl, by decide +kernel, by decide +kernel⟩
section
variable {P : Program} {w : World} {K : PySem.W.Frag} {mg : Str → Option Value} {base : Heap}
def spLL : Sp := fun vs H Q _ => ∃ (p : Addr) (ws : List Int) (n : Nat), vs = [.ref p, .int (n : Int)] ∧ H p = some (.lst (ws.map V.int)) ∧ AskOk ws n ∧
  ∀ H' q, Same H H' → H' q = some (.lst ((ansL ws n).map V.int)) → Q (.ref q) H'
theorem ok_ll {f : Addr} {fd : FuncData} {j : Nat} (F : Fun K "_law_least_lengths" "_law_least_lengths" sLLeast f fd) (m1 : mg "len" = none) (m2 : mg "enumerate" = none) (m3 : mg "range" = none) (m4 : mg "sorted" = none) : FnOk P w K mg base CX0 (j + 1) f fd ["_law_weights_here", "_law_bound"] spLL := by
  refine F.ok scLL (fun vs H Q E h => ?_) (fun cdv A outer s H vs Q E hr h => ?_)
  · obtain ⟨p, ws, n, rfl, _⟩ := h
    rfl
  · obtain ⟨p, ws, n, rfl, hp, hk, q⟩ := h
    refine ⟨_, pss_cons (ps_setLc (i := 3) (own := [("_law_letter", 2), ("_law_weight", 9)]) (g := gTup K 2 (gCons (gName 2) (gCons (gName 9) gNil))) rfl scLL.nd rfl rfl (sw_true rfl rfl rfl (by decide +kernel))
          (pi_enum (by rfl) m2 (pa_cons (pv 0) pa_nil)) (blkOk_by (N := NLL) (sc := defScope sLLeast) (by decide +kernel))
          (fun _ _ _ _ _ => pg_tup rfl (pgs_cons (pg_name (i := 2) scLL.nd rfl (.inl rfl)) (pgs_cons (pg_name (i := 9) scLL.nd rfl (.inl rfl)) pgs_nil)))
          (fun _ _ _ _ _ => pts_one (pt_cmpR op_gt (pv 9) pe_int (nomark _))) (fun _ _ _ _ _ => pv 2))
      (pss_cons (ps_set (i := 4) scLL.nd rfl (.inl rfl) (pe_op op_rep (pe_lst (pa_cons pe_int pa_nil)) (pe_callB call_len_seq (by rfl) m1 PySem.boot_len (pa_cons (pv 0) pa_nil))))
      (pss_cons (ps_if (pt_cmpR op_eq (pe_callB call_len_seq (by rfl) m1 PySem.boot_len (pa_cons (pv 3) pa_nil)) pe_int (nomark _))
        (pss_cons (ps_asg pe_int (pg_sub (pv 4) (pe_ix ix_list (pv 3) pe_int (fun _ _ => rfl)) set_list)) (pss_one (ps_ret (pv 4)))) pss_nil)
      (pss_cons (ps_set (i := 5) scLL.nd rfl (.inr rfl) (pe_lst pa_nil))
      (pss_cons (ps_for PassesOwn.never rfl (pi_range1 (by rfl) m3 (pa_cons (pv 1) pa_nil)) (pg_name (i := 6) scLL.nd rfl (.inl rfl))
        (pss_cons (ps_setLc (i := 7) (own := [("_law_at", 10)]) (g := gName 10) (tt := tYes) rfl scLL.nd rfl rfl (sw_true rfl rfl rfl (by decide +kernel))
          (pi_range3 (by rfl) m3 (pa_cons pe_int (pa_cons (pe_op op_sub (pe_callB call_len_seq (by rfl) m1 PySem.boot_len (pa_cons (pv 5) pa_nil)) pe_int) (pa_cons pe_int pa_nil)))) (blkOk_by (N := NLL) (sc := defScope sLLeast) (by decide +kernel))
          (fun _ _ _ _ _ => pg_name (i := 10) scLL.nd rfl (.inl rfl)) (fun _ _ _ _ _ => pts_nil)
          (fun _ _ _ _ _ => pe_tup (pa_cons (pe_ix (ixL K) (pv 5) (pv 10) (fun _ _ => rfl)) (pa_cons (pe_ix (ixL K) (pv 5) (pe_op op_add (pv 10) pe_int) (fun _ _ => rfl)) pa_nil))))
        (pss_cons (ps_setLc (i := 7) (own := [("_law_at", 10), ("_law_one", 8), ("_law_other", 11)]) (g := gTup K 2 (gCons (gName 10) (gCons (gTup K 2 (gCons (gName 8) (gCons (gName 11) gNil))) gNil))) (tt := tYes) rfl scLL.nd rfl rfl (sw_true rfl rfl rfl (by decide +kernel))
          (pi_enum (by rfl) m2 (pa_cons (pv 7) pa_nil)) (blkOk_by (N := NLL) (sc := defScope sLLeast) (by decide +kernel))
          (fun _ _ _ _ _ => pg_tup rfl (pgs_cons (pg_name (i := 10) scLL.nd rfl (.inl rfl)) (pgs_cons (pg_tup rfl (pgs_cons (pg_name (i := 8) scLL.nd rfl (.inl rfl)) (pgs_cons (pg_name (i := 11) scLL.nd rfl (.inl rfl)) pgs_nil))) pgs_nil))) (fun _ _ _ _ _ => pts_nil)
          (fun _ _ _ _ _ => pe_tup (pa_cons (pe_op op_add (pe_ix (ixT K) (pv 8) pe_int (fun _ _ => rfl)) (pe_ix (ixT K) (pv 11) pe_int (fun _ _ => rfl))) (pa_cons pe_int (pa_cons (pv 10) (pa_cons (pe_op op_cat (pe_ix (ixT K) (pv 8) pe_int (fun _ _ => rfl)) (pe_ix (ixT K) (pv 11) pe_int (fun _ _ => rfl))) pa_nil))))))
        (pss_one (ps_set (i := 5) scLL.nd rfl (.inr rfl) (pe_callB cr_sortedQ (by rfl) m4 (by decide +kernel) (pa_cons (pe_op op_cat (pe_lc (own := [("_law_letter", 2)]) (g := gName 2) (tt := tYes) rfl scLL.nd (pi_list (pv 3)) (blkOk_by (N := NLL) (sc := defScope sLLeast) (by decide +kernel))
          (fun _ _ _ _ _ => pg_name (i := 2) scLL.nd rfl (.inl rfl)) (fun _ _ _ _ _ => pts_nil)
          (fun _ _ _ _ _ => pe_tup (pa_cons (pe_ix (ixL K) (pv 0) (pv 2) (fun _ _ => rfl)) (pa_cons pe_int (pa_cons (pv 2) (pa_cons (pe_lst (pa_cons (pv 2) pa_nil)) pa_nil)))))) (pv 7)) pa_nil)))))))
      (pss_cons (ps_for PassesOwn.never rfl (pi_list (pe_slice sl_list (pv 5) po_none (po_some (pe_op op_sub (pe_op op_mul pe_int (pe_callB call_len_seq (by rfl) m1 PySem.boot_len (pa_cons (pv 3) pa_nil))) pe_int)))) (pg_name (i := 8) scLL.nd rfl (.inl rfl))
        (pss_one (ps_for PassesOwn.never rfl (pi_list (pe_ix ix_tup (pv 8) pe_int (fun _ _ => rfl))) (pg_name (i := 2) scLL.nd rfl (.inl rfl))
          (pss_one (ps_asg (pe_op op_add (pe_ix ix_list (pv 4) (pv 2) (fun _ _ => rfl)) pe_int) (pg_sub (pv 4) (pv 2) set_list))))))
      (pss_one (ps_ret (pv 4)))))))), ?_⟩
    have hlen := hk.len
    have hsome := hk.some
    have hn1 := hk.n1
    have hn12 := hk.n12
    have hll : ((rawL ws).map (·.2)).length = (coinsL ws).length := by rw [List.length_map, (coinsL_perm ws).length_eq]
    have hcl := coins_len ws
    -- letters
    refine ⟨_, rfl, p, _, rfl, .inl (.inl hp), fun lt nlt => ?_⟩
    refine lc_it (walk_enum (K := K) (a := p) (xs := ws.map V.int)) (fun i H' => Same H H' ∧ H' lt = some (.lst (((rawU ws i).map (·.2)).map V.int))) ⟨same_upd nlt, upd_same⟩ (fun i H' _ h => .inl (.inl (h.1 _ _ hp))) (fun i x H2 H3 hi h y => ?_) (fun H1 h => ?_)
    · obtain ⟨sm, hD⟩ := h
      obtain ⟨T0, x0, y0, rfl, nT0, rfl, e0, e1⟩ := y
      obtain rfl := Option.some.inj e0
      obtain ⟨rfl, hi2⟩ := enum_at e1
      refine ⟨T0, _, rfl, .inl (.inl upd_same), rfl, _, _, rfl, _, _, rfl, rfl, rfl, ?_⟩
      refine ⟨_, rfl, _, _, rfl, rfl, _, rfl, ?_⟩
      rw [rawU_succ]
      have sm2 : Same H2 (upd H2 T0 (.tup [.int (i : Nat), .int (wAt ws i)])) := same_upd nT0
      have hD2 := sm2 _ _ hD
      generalize upd H2 T0 (.tup [.int (i : Nat), .int (wAt ws i)]) = H3 at *
      refine ite2 (fun e => ?_) (fun e => ?_)
      · have hw : 0 < wAt ws i := of_decide_eq_true e
        rw [if_pos hw]
        refine ⟨_, rfl, _, hD2, ?_, same_put (sm.trans sm2) nlt, ?_⟩
        · rw [List.length_map, List.length_map]
          exact Nat.lt_of_le_of_lt (Nat.le_trans (rawU_len ws i) (show i ≤ 300 by omega)) (by decide)
        · rw [upd_same, List.map_append, List.map_append]
          rfl
      · have hw : ¬ 0 < wAt ws i := fun z => e (decide_eq_true z)
        rw [if_neg hw, List.append_nil]
        exact ⟨sm.trans sm2, hD2⟩
    obtain ⟨sm1, hlt⟩ := h
    rw [List.length_map] at hlt
    have hlt : H1 lt = some (.lst (((rawL ws).map (·.2)).map V.int)) := hlt
    have hp1 := sm1 _ _ hp
    -- found
    refine ⟨(by show 1 ≤ sizeLine; decide), fun z nz => ?_⟩
    have sm4 : Same H1 (upd H1 z (.lst [.int 0])) := same_upd nz
    have hz : (upd H1 z (.lst [.int 0])) z = some (.lst [.int 0]) := upd_same
    generalize upd H1 z (.lst [.int 0]) = H4 at *
    refine ⟨.ref p, rfl, p, _, rfl, .inl (.inl (.inl (sm4 _ _ hp1))), z, _, _, rfl, rfl, hz, ?_, ?_, ?_, fun fo nfo => ?_⟩
    · rw [List.length_map]; omega
    · rw [List.length_map]; omega
    · rw [List.length_map, Int.toNat_natCast]
      exact Nat.le_trans (show 1 * ws.length ≤ 300 by omega) (by decide)
    have sm5 : Same H4 (upd H4 fo (.lst (List.replicate (((ws.map V.int).length : Int)).toNat [V.int 0]).flatten)) := same_upd nfo
    have hfo : (upd H4 fo (.lst (List.replicate (((ws.map V.int).length : Int)).toNat [V.int 0]).flatten)) fo = some (.lst ((List.replicate ws.length (0 : Int)).map V.int)) := by
      rw [upd_same, List.length_map, Int.toNat_natCast, List.flatten_replicate_singleton, List.map_replicate]
    generalize upd H4 fo (.lst (List.replicate (((ws.map V.int).length : Int)).toNat [V.int 0]).flatten) = H5 at *
    have hHfo : H fo = none := by
      cases hh : H fo with
      | none => rfl
      | some o =>
        have := (sm1.trans sm4) _ _ hh
        rw [nfo] at this
        cases this
    have sm05 : Same H H5 := (sm1.trans sm4).trans sm5
    have hlt5 := sm5 _ _ (sm4 _ _ hlt)
    have hp5 := sm05 _ _ hp
    -- one letter
    refine ⟨.ref lt, rfl, lt, _, rfl, .inl (.inl (.inl hlt5)), rfl, _, rfl, ite2 (fun e => ?_) (fun e => ?_)⟩
    · have h1 : (coinsL ws).length = 1 := by
        have := V.int.inj (of_decide_eq_true e)
        rw [List.length_map, hll] at this
        omega
      obtain ⟨l, hl⟩ : ∃ l, (rawL ws).map (·.2) = [l] := List.length_eq_one_iff.mp (hll.trans h1)
      obtain ⟨j, rfl, hj, he⟩ := one_letter hl
      rw [hl] at hlt5
      refine ⟨.ref fo, rfl, .ref lt, rfl, lt, _, 0, .int (j : Int), rfl, rfl, .inl (.inl hlt5), rfl, fo, _, (j : Int), j, rfl, rfl, hfo, ?_, ?_⟩
      · rw [List.length_map, List.length_replicate]
        unfold ixN
        rw [if_pos (by omega), if_pos (by omega), Int.toNat_natCast]
      · refine ⟨.ref fo, rfl, q _ fo (same_put sm05 hHfo) ?_⟩
        rw [upd_same, ansL, if_pos h1, ← he, List.map_set]
    have h1 : (coinsL ws).length ≠ 1 := fun z => e (decide_eq_true (by rw [List.length_map, hll, z]; rfl))
    have hG := hk.good h1
    have hans := ans_pl hk h1
    -- level = []
    refine ⟨Nat.zero_le _, fun lv0 nlv0 => ?_⟩
    have sm6 : Same H5 (upd H5 lv0 (.lst [])) := same_upd nlv0
    have hlv0 : (upd H5 lv0 (.lst [])) lv0 = some (.lst []) := upd_same
    generalize upd H5 lv0 (.lst []) = H6 at *
    have hlt6 := sm6 _ _ hlt5
    have hfo6 := sm6 _ _ hfo
    have hp6 := sm6 _ _ hp5
    have sm06 := sm05.trans sm6
    refine ⟨_, rfl, n, rfl, (by omega), (by omega), ?_⟩
    refine for_range (lo := 0) (n := (n : Int).toNat) (fun i σ H' => ∃ (y6 y7 : Option V) (lv : Addr) (ts : List Addr), σ = [some (.ref p), some (.int (n : Int)), none, some (.ref lt), some (.ref fo), some (.ref lv), y6, y7, none, none, none, none] ∧ Same H6 H' ∧ H' lv = some (.lst (ts.map V.ref)) ∧ Quads [fo] H' ts (levQ (coinsL ws) i))
      ⟨none, none, lv0, [], rfl, Same.refl _, hlv0, Quads.nil⟩ (fun i σ H' hi h => ?_) (fun σ H' h => ?_)
    · obtain ⟨y6, y7, lv, ts, rfl, sm7, hlv, hts⟩ := h
      have hi12 : i < 12 := by omega
      have hw7 : (levQ (coinsL ws) i).length ≤ 2 * (coinsL ws).length := by
        rw [levQ_len hG.srt]
        have := W_len_le (C := (coinsL ws).map (·.1)) (by rw [List.length_map]; exact hsome) i
        rw [List.length_map] at this
        omega
      have hp7 := sm7 _ _ hp6
      have hlt7 := sm7 _ _ hlt6
      have hsz := levQ_sz (coinsL ws) i
      generalize hLQ : levQ (coinsL ws) i = L at *
      -- the pairs
      refine ⟨.ref lv, rfl, lv, _, rfl, .inl (.inl (.inl hlv)), _, _, rfl, rfl, 0, _, 2, L.length / 2, rfl, ?_, fun D nD => ?_⟩
      · rw [List.length_map, hts.1]
        exact rg_two (by omega)
      refine lc_it walk_rangeC (fun j H1 => Same H' H1 ∧ ∃ us : List Addr, H1 D = some (.lst (us.map V.ref)) ∧ us.length = j ∧ ∀ (k : Nat) (u : Addr), us[k]? = some u → ∃ t1 t2, ts[2 * k]? = some t1 ∧ ts[2 * k + 1]? = some t2 ∧ H1 u = some (.tup [.ref t1, .ref t2]))
        ⟨same_upd nD, [], upd_same, rfl, fun k u h => by simp at h⟩ (fun i H' _ h => trivial) (fun j x H1 H2 hj h y => ?_) (fun H8 h => ?_)
      · obtain ⟨rfl, rfl⟩ := y
        obtain ⟨sm, us, hD, hul, hu⟩ := h
        have g1 : 2 * j < ts.length := by rw [hts.1]; omega
        have g2 : 2 * j + 1 < ts.length := by rw [hts.1]; omega
        have a1 : (ts.map V.ref)[2 * j]? = some (.ref ts[2 * j]) := by rw [List.getElem?_map, List.getElem?_eq_getElem g1]; rfl
        have a2 : (ts.map V.ref)[2 * j + 1]? = some (.ref ts[2 * j + 1]) := by rw [List.getElem?_map, List.getElem?_eq_getElem g2]; rfl
        have hlvs : SqL K H2 lv (ts.map V.ref) := .inl (.inl (sm _ _ hlv))
        refine ⟨rfl, yes ?_⟩
        refine ⟨_, rfl, _, rfl, lv, _, _, _, rfl, rfl, hlvs, (show atI _ (0 + (j : Int) * 2) = some (.ref ts[2 * j]) by rw [show (0 + (j : Int) * 2) = ((2 * j : Nat) : Int) by omega]; exact atI_nat a1), ?_⟩
        refine ⟨_, rfl, _, rfl, _, _, rfl, rfl, lv, _, _, _, rfl, rfl, hlvs, (show atI _ (0 + (j : Int) * 2 + 1) = some (.ref ts[2 * j + 1]) by rw [show (0 + (j : Int) * 2 + 1) = ((2 * j + 1 : Nat) : Int) by omega]; exact atI_nat a2), (by show 2 ≤ sizeLine; decide), fun T nT => ?_⟩
        have smT : Same H2 (upd H2 T (.tup [.ref ts[2 * j], .ref ts[2 * j + 1]])) := same_upd nT
        have hDT := smT _ _ hD
        have hTT : (upd H2 T (.tup [.ref ts[2 * j], .ref ts[2 * j + 1]])) T = some (.tup [.ref ts[2 * j], .ref ts[2 * j + 1]]) := upd_same
        generalize upd H2 T (.tup [.ref ts[2 * j], .ref ts[2 * j + 1]]) = H3 at *
        refine ⟨_, hDT, ?_, same_put (sm.trans smT) nD, us ++ [T], ?_, by simp [hul], fun k u hk => ?_⟩
        · rw [List.length_map, hul]
          exact small1000 (by omega)
        · rw [upd_same, List.map_append]
          rfl
        · have keepT : ∀ b xs, H3 b = some (.tup xs) → (upd H3 D (.lst (us.map V.ref ++ [.ref T]))) b = some (.tup xs) := fun b xs hb => by
            rw [upd_ne (fun z => by rw [z, hDT] at hb; cases hb)]
            exact hb
          by_cases ek : k < us.length
          · rw [List.getElem?_append_left ek] at hk
            obtain ⟨t1, t2, b1, b2, b3⟩ := hu k u hk
            exact ⟨t1, t2, b1, b2, keepT _ _ (smT _ _ b3)⟩
          · have e : k = us.length := by
              have := (List.getElem?_eq_some_iff.mp hk).1
              simp at this
              omega
            rw [e, List.getElem?_append_right (Nat.le_refl _)] at hk
            simp at hk
            rw [e, hul]
            exact ⟨_, _, List.getElem?_eq_getElem g1, List.getElem?_eq_getElem g2, by rw [← hk]; exact keepT _ _ hTT⟩
      · obtain ⟨sm8, us, hD, hul, hu⟩ := h
        have hfo8 := sm8 _ _ (sm7 _ _ hfo6)
        have hts8 := hts.same sm8
        -- the packages
        refine ⟨_, rfl, D, _, rfl, .inl (.inl hD), fun D2 nD2 => ?_⟩
        have hD2fo : fo ≠ D2 := ne_of_none hfo8 nD2
        refine lc_it (walk_enum (K := K) (a := D) (xs := us.map V.ref)) (fun j H1 => Same H8 H1 ∧ ∃ vs : List Addr, H1 D2 = some (.lst (vs.map V.ref)) ∧ Quads [D2, fo] H1 vs ((packQ 0 L).take j))
          ⟨same_upd nD2, [], upd_same, by rw [List.take_zero]; exact Quads.nil⟩ (fun i H1 _ h => .inl (.inl (h.1 _ _ hD))) (fun j x H1 H2 hj h y => ?_) (fun H9 h => ?_)
        · obtain ⟨sm, vs', hD2, hv⟩ := h
          obtain ⟨T0, x0, y0, rfl, nT0, rfl, e0, e1⟩ := y
          obtain rfl := Option.some.inj e0
          rw [List.length_map, hul] at hj
          have hju : j < us.length := by omega
          have e1 : (us.map V.ref)[j]? = some y0 := e1
          rw [List.getElem?_map, List.getElem?_eq_getElem hju] at e1
          obtain rfl : V.ref us[j] = y0 := Option.some.inj e1
          obtain ⟨t1, t2, b1, b2, b3⟩ := hu j _ (List.getElem?_eq_getElem hju)
          have g1 : 2 * j < L.length := by omega
          have g2 : 2 * j + 1 < L.length := by omega
          obtain ⟨p1, pa1, c1, _, _, c2, c3⟩ := hts8.get (List.getElem?_eq_getElem g1)
          obtain ⟨p2, pa2, d1, _, _, d2, d3⟩ := hts8.get (List.getElem?_eq_getElem g2)
          rw [b1] at c1
          cases c1
          rw [b2] at d1
          cases d1
          have smT : Same H1 (upd H1 T0 (.tup [.int (j : Nat), .ref us[j]])) := same_upd nT0
          have hTT : (upd H1 T0 (.tup [.int (j : Nat), .ref us[j]])) T0 = some (.tup [.int (j : Nat), .ref us[j]]) := upd_same
          generalize upd H1 T0 (.tup [.int (j : Nat), .ref us[j]]) = H2 at *
          have smA := sm.trans smT
          have hs1 := hsz _ (List.getElem_mem g1)
          have hs2 := hsz _ (List.getElem_mem g2)
          have hpg := packQ_get L 0 j _ _ (List.getElem?_eq_getElem g1) (List.getElem?_eq_getElem g2)
          rw [Nat.zero_add] at hpg
          have hvl := hv.1
          rw [List.length_take, packQ_len] at hvl
          generalize L[2 * j] = q1 at *
          generalize L[2 * j + 1] = q2 at *
          refine ⟨T0, _, rfl, .inl (.inl hTT), rfl, _, _, rfl, _, _, rfl, ⟨us[j], _, rfl, .inl (.inl (smA _ _ b3)), rfl, _, _, rfl, _, _, rfl, rfl, rfl, rfl, yes ?_⟩⟩
          refine ⟨_, rfl, t1, _, 0, _, rfl, rfl, .inl (.inl (smA _ _ c2)), rfl, _, rfl, t2, _, 0, _, rfl, rfl, .inl (.inl (smA _ _ d2)), rfl, _, _, rfl, rfl, _, rfl, ?_⟩
          refine ⟨_, rfl, t1, _, 3, _, rfl, rfl, .inl (.inl (smA _ _ c2)), rfl, _, rfl, t2, _, 3, _, rfl, rfl, .inl (.inl (smA _ _ d2)), rfl, ?_⟩
          refine ⟨pa1, pa2, _, _, rfl, rfl, smA _ _ c3, smA _ _ d3, ?_, fun a na => ?_⟩
          · rw [List.length_map, List.length_map]
            have : 2 ^ i ≤ 2 ^ 12 := Nat.pow_le_pow_right (by decide) (by omega)
            exact Nat.le_trans (show _ ≤ 2 ^ 12 + 2 ^ 12 by omega) (by decide)
          · have smB : Same H2 (upd H2 a (.lst (q1.2.2.2.map V.int ++ q2.2.2.2.map V.int))) := same_upd na
            have haa : (upd H2 a (.lst (q1.2.2.2.map V.int ++ q2.2.2.2.map V.int))) a = some (.lst ((q1.2.2.2 ++ q2.2.2.2).map V.int)) := by rw [upd_same, List.map_append]
            have hD2B := smB _ _ (smT _ _ hD2)
            have hfoB := smB _ _ (smA _ _ hfo8)
            have n1 : a ≠ D2 := fun z => by have := smT _ _ hD2; rw [← z, na] at this; cases this
            have n2 : a ≠ fo := fun z => by have := smA _ _ hfo8; rw [← z, na] at this; cases this
            generalize upd H2 a (.lst (q1.2.2.2.map V.int ++ q2.2.2.2.map V.int)) = H3 at *
            refine ⟨(by show 4 ≤ sizeLine; decide), fun T1 nT1 => ?_⟩
            have smC : Same H3 (upd H3 T1 (.tup [.int (q1.1 + q2.1), .int 1, .int (j : Nat), .ref a])) := same_upd nT1
            have hT1 : (upd H3 T1 (.tup [.int (q1.1 + q2.1), .int 1, .int (j : Nat), .ref a])) T1 = some (.tup [.int (q1.1 + q2.1), .int 1, .int (j : Nat), .ref a]) := upd_same
            generalize upd H3 T1 (.tup [.int (q1.1 + q2.1), .int 1, .int (j : Nat), .ref a]) = H4' at *
            have hD2C := smC _ _ hD2B
            refine ⟨_, hD2C, ?_, same_put ((smA.trans smB).trans smC) nD2, vs' ++ [T1], ?_, ?_⟩
            · rw [List.length_map, hvl]
              exact small1000 (by omega)
            · rw [upd_same, List.map_append]
              rfl
            · rw [List.take_add_one, hpg]
              refine Quads.put (Quads.snoc (((hv.same smT).same smB).same smC) (a := a) (fun b hb => ?_) hT1 (smC _ _ haa)) (by simp) hD2C
              rcases (List.mem_cons.mp hb) with (e | e)
              · rw [e]; exact n1
              · rw [List.mem_singleton.mp e]; exact n2
        · obtain ⟨sm9, vs', hD2, hv⟩ := h
          rw [List.length_map, hul, List.take_of_length_le (by rw [packQ_len]; exact Nat.le_refl _)] at hv
          have hv9 := hv.less
          have hlt9 := sm9 _ _ (sm8 _ _ hlt7)
          have hp9 := sm9 _ _ (sm8 _ _ hp7)
          have hfo9 := sm9 _ _ hfo8
          -- the coins
          refine ⟨_, rfl, lt, rfl, ⟨_, .inl (.inl hlt9)⟩, fun D3 nD3 => ?_⟩
          have hD3fo : fo ≠ D3 := ne_of_none hfo9 nD3
          refine lc_list (K := K) (a := lt) (xs := ((rawL ws).map (·.2)).map V.int) (fun j H1 => Same H9 H1 ∧ ∃ vs : List Addr, H1 D3 = some (.lst (vs.map V.ref)) ∧ Quads [D3, fo] H1 vs (((rawL ws).take j).map coinQ))
            ⟨same_upd nD3, [], upd_same, by rw [List.take_zero]; exact Quads.nil⟩ (fun j H1 _ h => .inl (.inl (h.1 _ _ hlt9))) (fun j x H1 hx h => ?_) (fun H10 h => ?_)
          · obtain ⟨sm, vs3, hD3, hv3⟩ := h
            obtain ⟨x, rfl, hx'⟩ := int_of hx
            rw [List.getElem?_map] at hx'
            obtain ⟨y, hy, rfl⟩ : ∃ y, (rawL ws)[j]? = some y ∧ y.2 = x := by
              cases e : (rawL ws)[j]? with
              | none => rw [e] at hx'; cases hx'
              | some y => rw [e] at hx'; exact ⟨y, rfl, Option.some.inj hx'⟩
            obtain ⟨l, hl, _, rfl⟩ := raw_mem (List.mem_of_getElem? hy)
            have hgl : (ws.map V.int)[l]? = some (.int (wAt ws l)) := by
              unfold wAt
              rw [List.getElem?_map, List.getElem?_eq_getElem hl, List.getD_eq_getElem?_getD, List.getElem?_eq_getElem hl]
              rfl
            refine ⟨rfl, yes ?_⟩
            refine ⟨_, rfl, _, rfl, p, _, _, _, rfl, rfl, .inl (.inl (sm _ _ hp9)), atI_nat hgl, _, rfl, _, rfl, (by show 1 ≤ sizeLine; decide), fun a na => ?_⟩
            have smB : Same H1 (upd H1 a (.lst [.int (l : Int)])) := same_upd na
            have haa : (upd H1 a (.lst [.int (l : Int)])) a = some (.lst ([(l : Int)].map V.int)) := upd_same
            have n1 : a ≠ D3 := fun z => by rw [← z, na] at hD3; cases hD3
            have n2 : a ≠ fo := fun z => by have := sm _ _ hfo9; rw [← z, na] at this; cases this
            have hD3B := smB _ _ hD3
            generalize upd H1 a (.lst [.int (l : Int)]) = H3 at *
            refine ⟨(by show 4 ≤ sizeLine; decide), fun T1 nT1 => ?_⟩
            have smC : Same H3 (upd H3 T1 (.tup [.int (wAt ws l), .int 0, .int (l : Int), .ref a])) := same_upd nT1
            have hT1 : (upd H3 T1 (.tup [.int (wAt ws l), .int 0, .int (l : Int), .ref a])) T1 = some (.tup [.int (wAt ws l), .int 0, .int (l : Int), .ref a]) := upd_same
            generalize upd H3 T1 (.tup [.int (wAt ws l), .int 0, .int (l : Int), .ref a]) = H4' at *
            have hD3C := smC _ _ hD3B
            refine ⟨_, hD3C, ?_, same_put ((sm.trans smB).trans smC) nD3, vs3 ++ [T1], ?_, ?_⟩
            · rw [List.length_map, hv3.1, List.length_map, List.length_take]
              exact small1000 (by have := rawU_len ws ws.length; unfold rawL; omega)
            · rw [upd_same, List.map_append]
              rfl
            · rw [List.take_add_one, hy, List.map_append]
              refine Quads.put (Quads.snoc ((hv3.same smB).same smC) (a := a) (q := coinQ (wAt ws l, (l : Int))) (fun b hb => ?_) hT1 (smC _ _ haa)) (by simp) hD3C
              rcases (List.mem_cons.mp hb) with (e | e)
              · rw [e]; exact n1
              · rw [List.mem_singleton.mp e]; exact n2
          · obtain ⟨sm10, vs3, hD3, hv3⟩ := h
            rw [List.length_map, List.length_map, List.take_length] at hv3
            have hv10 := hv3.less.app (hv9.same sm10)
            have hD210 := sm10 _ _ hD2
            refine ⟨_, rfl, D3, D2, _, _, rfl, rfl, hD3, hD210, ?_, fun D4 nD4 => ?_⟩
            · rw [List.length_map, List.length_map, hv3.1, hv9.1, List.length_map, packQ_len]
              have := rawU_len ws ws.length
              exact Nat.le_trans (show _ ≤ 10000 by unfold rawL; omega) (by decide)
            · have hD4 : (upd H10 D4 (.lst (vs3.map V.ref ++ vs'.map V.ref))) D4 = some (.lst ((vs3 ++ vs').map V.ref)) := by rw [upd_same, List.map_append]
              have sm11 : Same H10 (upd H10 D4 (.lst (vs3.map V.ref ++ vs'.map V.ref))) := same_upd nD4
              have hv11 := hv10.same sm11
              generalize upd H10 D4 (.lst (vs3.map V.ref ++ vs'.map V.ref)) = H11 at *
              have hperm : ((rawL ws).map coinQ ++ packQ 0 L).Perm ((coinsL ws).map coinQ ++ packQ 0 L) := (((coinsL_perm ws).symm.map coinQ)).append_right _
              have hnd : (((rawL ws).map coinQ ++ packQ 0 L).map kQ).Nodup := (hperm.map kQ).nodup_iff.mpr (allQ_nodup ws L)
              have hat : ∀ v ∈ (vs3 ++ vs').map V.ref, ∃ (i : Nat) (t a : Addr) (q : Q4), v = .ref t ∧ (vs3 ++ vs')[i]? = some t ∧ ((rawL ws).map coinQ ++ packQ 0 L)[i]? = some q ∧ H11 t = some (.tup [.int q.1, .int q.2.1, .int q.2.2.1, .ref a]) := fun v hv => by
                obtain ⟨t, ht, rfl⟩ := List.mem_map.mp hv
                obtain ⟨i, hi⟩ := List.mem_iff_getElem?.mp ht
                have hi2 : i < ((rawL ws).map coinQ ++ packQ 0 L).length := by rw [← hv11.1]; exact (List.getElem?_eq_some_iff.mp hi).1
                obtain ⟨a, _, a1, _⟩ := hv11.2 i t _ hi (List.getElem?_eq_getElem hi2)
                exact ⟨i, t, a, _, rfl, hi, List.getElem?_eq_getElem hi2, a1⟩
              refine ⟨D4, _, kOfQ H11, rfl, .inl (.inl hD4), fun v hv => ?_, fun v hv u hu e => ?_, fun ys D5 hys hpm nD5 => ?_⟩
              · obtain ⟨i, t, a, q, rfl, _, _, h4⟩ := hat v hv
                refine ⟨t, a, rfl, ?_⟩
                rw [kOfQ_at h4]
                exact h4
              · obtain ⟨i, t, a, q, rfl, h2, h3, h4⟩ := hat v hv
                obtain ⟨i', t', a', q', rfl, h2', h3', h4'⟩ := hat u hu
                rw [kOfQ_at h4, kOfQ_at h4'] at e
                have g1 : (((rawL ws).map coinQ ++ packQ 0 L).map kQ)[i]? = some (kQ q) := by rw [List.getElem?_map, h3]; rfl
                have g2 : (((rawL ws).map coinQ ++ packQ 0 L).map kQ)[i']? = some (kQ q) := by rw [List.getElem?_map, h3', e]; rfl
                have := (List.getElem?_inj (List.getElem?_eq_some_iff.mp g1).1 hnd).mp (g1.trans g2.symm)
                subst this
                rw [h2] at h2'
                cases h2'
                rfl
              · obtain ⟨us5, ls5, rfl, hpl, hq5⟩ := hv11.perm hpm
                have hs5 : ls5.Pairwise fun a b => leQ a b = true := by
                  have hys' : (us5.map V.ref).Pairwise fun x y => ltQ (kOfQ H11) y x = false := hys
                  rw [List.pairwise_iff_getElem] at hys' ⊢
                  intro i1 i2 h1 h2 h12
                  have e1 : i1 < us5.length := by rw [hq5.1]; exact h1
                  have e2 : i2 < us5.length := by rw [hq5.1]; exact h2
                  have := hys' i1 i2 (by rw [List.length_map]; exact e1) (by rw [List.length_map]; exact e2) h12
                  obtain ⟨a1, _, b1, _⟩ := hq5.2 i1 _ _ (List.getElem?_eq_getElem e1) (List.getElem?_eq_getElem h1)
                  obtain ⟨a2, _, b2, _⟩ := hq5.2 i2 _ _ (List.getElem?_eq_getElem e2) (List.getElem?_eq_getElem h2)
                  rw [List.getElem_map, List.getElem_map] at this
                  simp only [ltQ] at this
                  rw [kOfQ_at b1, kOfQ_at b2] at this
                  simp only [leQ, this]
                  rfl
                have hfin : ls5 = levQ (coinsL ws) (i + 1) := by
                  refine levQ_uniq hG.srt ?_ hs5
                  rw [hLQ]
                  exact hpl.trans hperm
                rw [hfin] at hq5
                refine ⟨_, _, D5, us5, rfl, ?_, upd_same, hq5.same (same_upd nD5)⟩
                exact ((((sm7.trans sm8).trans sm9).trans sm10).trans sm11).trans (same_upd nD5)
    · obtain ⟨y6, y7, lv, ts, rfl, sm7, hlv, hts⟩ := h
      rw [Int.toNat_natCast] at hts
      have hlt7 := sm7 _ _ hlt6
      have hfo7 := sm7 _ _ hfo6
      have hlet := levQ_let (coinsL ws) n
      have hsz := levQ_sz (coinsL ws) n
      have hw7 : (levQ (coinsL ws) n).length ≤ 2 * (coinsL ws).length := by
        rw [levQ_len hG.srt]
        have := W_len_le (C := (coinsL ws).map (·.1)) (by rw [List.length_map]; exact hsome) n
        rw [List.length_map] at this
        omega
      have hlok : ∀ q ∈ levQ (coinsL ws) n, ∀ x ∈ q.2.2.2, ∃ l : Nat, x = (l : Int) ∧ l < ws.length := fun q hq x hx => by
        obtain ⟨y, hy, rfl⟩ := List.mem_map.mp (hlet q hq x hx)
        obtain ⟨l, h1, _, rfl⟩ := coins_mem hy
        exact ⟨l, rfl, h1⟩
      generalize levQ (coinsL ws) n = L at *
      -- level[: ..]
      refine ⟨.ref lv, rfl, .ref lt, rfl, lt, _, rfl, .inl (.inl (.inl hlt7)), _, _, rfl, rfl, .inl ⟨by decide, by decide⟩, _, _, rfl, rfl, _, rfl, lv, _, rfl, .inl (.inl hlv), fun sl nsl => ?_⟩
      have em : (2 * ((((rawL ws).map (·.2)).map V.int).length : Int) - 2) = ((2 * (coinsL ws).length - 2 : Nat) : Int) := by
        rw [List.length_map, hll]; omega
      have hsl : (upd H' sl (.lst (cutV (ts.map V.ref) none (some (2 * ((((rawL ws).map (·.2)).map V.int).length : Int) - 2))))) sl = some (.lst ((ts.take (2 * (coinsL ws).length - 2)).map V.ref)) := by
        rw [upd_same, em, cut_to, List.map_take]
      have smS : Same H' (upd H' sl (.lst (cutV (ts.map V.ref) none (some (2 * ((((rawL ws).map (·.2)).map V.int).length : Int) - 2))))) := same_upd nsl
      have hq8 := (hts.same smS).take (2 * (coinsL ws).length - 2)
      have hfo8 := smS _ _ hfo7
      have nslfo : sl ≠ fo := fun z => by rw [← z, nsl] at hfo7; cases hfo7
      generalize upd H' sl (.lst (cutV (ts.map V.ref) none (some (2 * ((((rawL ws).map (·.2)).map V.int).length : Int) - 2)))) = H8 at *
      have hq9 : ∀ q ∈ L.take (2 * (coinsL ws).length - 2), q ∈ L := fun q hq => List.mem_of_mem_take hq
      generalize L.take (2 * (coinsL ws).length - 2) = M at *
      generalize ts.take (2 * (coinsL ws).length - 2) = us at *
      have sm08 : Same H H8 := (sm06.trans sm7).trans smS
      refine ⟨sl, rfl, ⟨_, .inl (.inl hsl)⟩, ?_⟩
      refine for_list (K := K) (a := sl) (xs := us.map V.ref) (fun i σ H1 => ∃ (y2 y8 : Option V), σ = [some (.ref p), some (.int (n : Int)), y2, some (.ref lt), some (.ref fo), some (.ref lv), y6, y7, y8, none, none, none] ∧ Same H H1 ∧ H1 sl = some (.lst (us.map V.ref)) ∧ Quads [fo] H1 us M ∧ H1 fo = some (.lst ((cnts ws.length ((plQ (M.take i)).map Int.toNat)).map V.int)))
        ⟨none, none, rfl, sm08, hsl, hq8, by rw [hfo8, List.take_zero]; show _ = some (HO.lst ((cnts ws.length []).map V.int)); rw [cnts_nil]⟩ (fun i σ H1 _ h => ?_) (fun i x σ H1 hx h => ?_) (fun σ H1 h => ?_)
      · obtain ⟨_, _, _, _, h, _⟩ := h
        exact .inl (.inl h)
      · obtain ⟨y2, y8, rfl, sm, hs, hq, hf⟩ := h
        have hi : i < us.length := by
          have := (List.getElem?_eq_some_iff.mp hx).1
          rwa [List.length_map] at this
        rw [List.getElem?_map, List.getElem?_eq_getElem hi] at hx
        obtain rfl : V.ref us[i] = x := Option.some.inj hx
        have hi2 : i < M.length := by rw [← hq.1]; exact hi
        obtain ⟨a, a0, a1, a2⟩ := hq.2 i _ _ (List.getElem?_eq_getElem hi) (List.getElem?_eq_getElem hi2)
        have hok := hlok M[i] (hq9 _ (List.getElem_mem hi2))
        have hpl : plQ (M.take (i + 1)) = plQ (M.take i) ++ M[i].2.2.2 := by
          rw [List.take_add_one, List.getElem?_eq_getElem hi2, plQ_app]
          simp [plQ]
        rw [hpl]
        generalize M[i] = qd at *
        refine ⟨_, rfl, us[i], _, 3, _, rfl, rfl, .inl (.inl a1), rfl, a, rfl, ⟨_, .inl (.inl a2)⟩, ?_⟩
        refine for_list (K := K) (a := a) (xs := qd.2.2.2.map V.int) (fun j σ H2 => ∃ (y2 : Option V), σ = [some (.ref p), some (.int (n : Int)), y2, some (.ref lt), some (.ref fo), some (.ref lv), y6, y7, some (.ref us[i]), none, none, none] ∧ Same H H2 ∧ H2 sl = some (.lst (us.map V.ref)) ∧ Quads [fo] H2 us M ∧ H2 a = some (.lst (qd.2.2.2.map V.int)) ∧ H2 fo = some (.lst ((cnts ws.length ((plQ (M.take i) ++ qd.2.2.2.take j).map Int.toNat)).map V.int)))
          ⟨y2, rfl, sm, hs, hq, a2, by rw [List.take_zero, List.append_nil]; exact hf⟩ (fun j σ H2 _ h => ?_) (fun j x σ H2 hx h => ?_) (fun σ H2 h => ?_)
        · obtain ⟨_, _, _, _, _, h, _⟩ := h
          exact .inl (.inl h)
        · obtain ⟨y2', rfl, sm', hs', hq', ha', hf'⟩ := h
          obtain ⟨x, rfl, hx'⟩ := int_of hx
          obtain ⟨l, rfl, hl⟩ := hok x (List.mem_of_getElem? hx')
          have hget : ((cnts ws.length ((plQ (M.take i) ++ qd.2.2.2.take j).map Int.toNat)).map V.int)[l]? = some (.int (((plQ (M.take i) ++ qd.2.2.2.take j).map Int.toNat).count l : Nat)) := by
            rw [List.getElem?_map, cnts_get hl]
            rfl
          refine ⟨.ref fo, rfl, .int (l : Int), rfl, fo, _, _, _, rfl, rfl, .inl (.inl hf'), atI_nat hget, _, _, rfl, rfl, .ref fo, rfl, .int (l : Int), rfl, fo, _, (l : Int), l, rfl, rfl, hf', ?_, ?_⟩
          · rw [List.length_map, cnts_len]
            unfold ixN
            rw [if_pos (by omega), if_pos (by omega), Int.toNat_natCast]
          · refine ⟨some (.int (l : Int)), rfl, same_put sm' hHfo, ?_, hq'.put (by simp) hf', ?_, ?_⟩
            · rw [upd_ne nslfo]
              exact hs'
            · rw [upd_ne (a0 fo (by simp))]
              exact ha'
            · rw [upd_same, List.take_add_one, hx', ← List.append_assoc]
              exact bump_map hl
        · obtain ⟨y2', rfl, sm', hs', hq', ha', hf'⟩ := h
          rw [List.length_map, List.take_length] at hf'
          exact ⟨y2', some (.ref us[i]), rfl, sm', hs', hq', hf'⟩
      · obtain ⟨y2, y8, rfl, sm, hs, hq, hf⟩ := h
        rw [List.length_map, hq.1, List.take_length, hans] at hf
        exact ⟨.ref fo, rfl, q H1 fo sm hf⟩
end
end K2

namespace K2
open PySem PySem.Spec PyProof.Rows L2
/-! ### the search's table -/
abbrev Tab := List (List Key × V)
def key (a b : Nat) : List Key := [.inl (a : Int), .inl (b : Int)]
theorem key_inj {a b c d : Nat} (h : key a b = key c d) : a = c ∧ b = d := by
  simp only [key, List.cons.injEq, Sum.inl.injEq] at h
  omega
theorem key_kV (a b : Nat) : (key a b).map kV = [.int (a : Int), .int (b : Int)] := rfl
theorem putK_mem {kvs : Tab} {k : List Key} {v : V} {e : List Key × V} (h : e ∈ putK kvs k v) : e = (k, v) ∨ e ∈ kvs := by
  unfold putK at h
  split at h
  · obtain ⟨x, hx, rfl⟩ := List.mem_map.mp h
    by_cases q : x.1 = k
    · rw [if_pos q, q]; exact .inl rfl
    · rw [if_neg q]; exact .inr hx
  · rcases (List.mem_append.mp h) with (h | h)
    · exact .inr h
    · exact .inl (List.mem_singleton.mp h)
theorem putK_keys {kvs : Tab} {k : List Key} {v : V} : (putK kvs k v).map (·.1) = if (kvs.any fun kv => decide (kv.1 = k)) = true then kvs.map (·.1) else kvs.map (·.1) ++ [k] := by
  unfold putK
  split
  · rw [List.map_map]
    refine (List.map_congr_left fun x _ => ?_)
    show (if x.1 = k then (x.1, v) else x).1 = x.1
    split <;> rfl
  · simp
theorem putK_nodup {kvs : Tab} {k : List Key} {v : V} (h : (kvs.map (·.1)).Nodup) : ((putK kvs k v).map (·.1)).Nodup := by
  rw [putK_keys]
  split
  · exact h
  · rename_i q
    refine List.nodup_append.mpr ⟨h, by simp, fun a ha b hb e => q ?_⟩
    rw [List.mem_singleton.mp hb] at e
    obtain ⟨x, hx, hx2⟩ := List.mem_map.mp ha
    exact List.any_eq_true.mpr ⟨x, hx, decide_eq_true (hx2.trans e)⟩
theorem nodup_lt : ∀ (N : Nat) (l : List Nat), l.Nodup → (∀ x ∈ l, x < N) → l.length ≤ N
  | 0, l, _, h => by
    cases l with
    | nil => simp
    | cons x l => exact absurd (h x (by simp)) (by omega)
  | N + 1, l, nd, h => by
    have h1 := nodup_lt N (l.filter fun x => decide (x ≠ N)) (nd.sublist List.filter_sublist) (fun x hx => by
      obtain ⟨a, b⟩ := List.mem_filter.mp hx
      have := h x a
      have := of_decide_eq_true b
      omega)
    have h2 : l.length = (l.filter fun x => decide (x ≠ N)).length + l.count N := by
      have e : l.count N = (l.filter fun x => !decide (x ≠ N)).length := by
        rw [List.count_eq_length_filter]
        congr 1
        refine (List.filter_congr fun x _ => ?_)
        by_cases q : x = N <;> simp [q]
      rw [e]
      clear e nd h h1
      induction l with
      | nil => rfl
      | cons x l ih =>
        rw [List.filter_cons]; rw [List.filter_cons]
        by_cases q : x = N <;> simp [q] at ih ⊢ <;> omega
    have h3 : l.count N ≤ 1 := List.nodup_iff_count.mp nd N
    omega
def keyCode : List Key → Nat
  | [.inl a, .inl b] => a.toNat * 1000 + b.toNat
  | _ => 0
/-- the table at step d -/
structure TabOk (C : List Int) (L d : Nat) (kvs : Tab) : Prop where
  ent : ∀ e ∈ kvs, ∃ (a b : Nat) (c : Int), e = (key a b, .int c) ∧ a ≤ C.length ∧ b ≤ 2 * C.length ∧ Low C L d a b c
  nd : (kvs.map (·.1)).Nodup
theorem TabOk.len {C : List Int} {L d : Nat} {kvs : Tab} (h : TabOk C L d kvs) (hC : C.length ≤ 300) : kvs.length ≤ 400000 := by
  have h1 : ((kvs.map (·.1)).map keyCode).Nodup := by
    have := h.nd
    rw [List.Nodup, List.pairwise_map, List.pairwise_map]
    rw [List.Nodup, List.pairwise_map] at this
    refine List.Pairwise.imp_of_mem (fun {x y} hx hy q z => q ?_) this
    obtain ⟨a, b, c, rfl, h2, h3, _⟩ := h.ent x hx
    obtain ⟨a', b', c', rfl, h4, h5, _⟩ := h.ent y hy
    have z : (a : Int).toNat * 1000 + (b : Int).toNat = (a' : Int).toNat * 1000 + (b' : Int).toNat := z
    rw [Int.toNat_natCast, Int.toNat_natCast, Int.toNat_natCast, Int.toNat_natCast] at z
    have : a = a' ∧ b = b' := by omega
    rw [this.1, this.2]
  have h2 := nodup_lt 400000 _ h1 (fun x hx => by
    obtain ⟨k, hk, rfl⟩ := List.mem_map.mp hx
    obtain ⟨e, he, rfl⟩ := List.mem_map.mp hk
    obtain ⟨a, b, c, rfl, h2, h3, _⟩ := h.ent e he
    show (a : Int).toNat * 1000 + (b : Int).toNat < 400000
    rw [Int.toNat_natCast, Int.toNat_natCast]
    omega)
  simpa using h2
theorem TabOk.put {C : List Int} {L d a b : Nat} {kvs : Tab} {c : Int} (h : TabOk C L d kvs) (ha : a ≤ C.length) (hb : b ≤ 2 * C.length) (hl : Low C L d a b c) : TabOk C L d (putK kvs (key a b) (.int c)) := by
  refine ⟨fun e he => ?_, putK_nodup h.nd⟩
  rcases putK_mem he with rfl | q
  · exact ⟨a, b, c, rfl, ha, hb, hl⟩
  · exact h.ent e q
theorem val_mem {kvs : Tab} {k : List Key} {v : V} (h : valV kvs k = some v) : (k, v) ∈ kvs := by
  unfold valV at h
  cases e : kvs.find? (fun kv => decide (kv.1 = k)) with
  | none => (rw [e] at h); (cases h)
  | some p =>
    rw [e] at h
    have h1 := List.find?_some e
    have h2 := List.mem_of_find?_eq_some e
    obtain ⟨p1, p2⟩ := p
    have e1 : p1 = k := of_decide_eq_true h1
    have e2 : p2 = v := Option.some.inj h
    rw [← e1, ← e2]
    exact h2
theorem mem_val {kvs : Tab} {k : List Key} {v : V} (nd : (kvs.map (·.1)).Nodup) (h : (k, v) ∈ kvs) : valV kvs k = some v := by
  induction kvs with
  | nil => simp at h
  | cons p r ih =>
    have n1 := List.nodup_cons.mp nd
    rcases (List.mem_cons.mp h) with (e | e)
    · rw [← e, valV_pos rfl]
    · have ne : ¬ p.1 = k := fun z => n1.1 (List.mem_map.mpr ⟨(k, v), e, z.symm⟩)
      rw [valV_neg ne, ih n1.2 e]
theorem TabOk.val {C : List Int} {L d a b : Nat} {kvs : Tab} {v : V} (h : TabOk C L d kvs) (hv : valV kvs (key a b) = some v) : ∃ c, v = .int c ∧ a ≤ C.length ∧ b ≤ 2 * C.length ∧ Low C L d a b c := by
  obtain ⟨a', b', c, e, h1, h2, h3⟩ := h.ent _ (val_mem hv)
  obtain ⟨e1, e2⟩ := (Prod.mk.inj e)
  obtain ⟨rfl, rfl⟩ := key_inj e1
  exact ⟨c, e2, h1, h2, h3⟩
def HasUp (C : List Int) (L d : Nat) (kvs : Tab) : Prop := ∃ c, valV kvs (key (dn C L d) (fr C L d)) = some (.int c) ∧ Up C L d c
theorem Up.mono {C : List Int} {L d : Nat} {c c' : Int} (h : Up C L d c) (hc : c' ≤ c) : Up C L d c' := by
  unfold Up at *
  omega
theorem HasUp.put {C : List Int} {L d a b : Nat} {kvs : Tab} {c : Int} (h : HasUp C L d kvs) (hc : ∀ c', valV kvs (key a b) = some (.int c') → c ≤ c') : HasUp C L d (putK kvs (key a b) (.int c)) := by
  obtain ⟨c0, h1, h2⟩ := h
  by_cases e : key (dn C L d) (fr C L d) = key a b
  · exact ⟨c, by rw [valV_put, if_pos e], h2.mono (hc c0 (by rw [← e]; exact h1))⟩
  · exact ⟨c0, by rw [valV_put, if_neg e]; exact h1, h2⟩
theorem HasUp.new {C : List Int} {L d : Nat} {kvs : Tab} {c : Int} (h : Up C L d c) : HasUp C L d (putK kvs (key (dn C L d) (fr C L d)) (.int c)) := ⟨c, by rw [valV_put, if_pos rfl], h⟩
/-! the line -/
def wL (ws : List Int) : List Int := (coinsL ws).map (·.1)
theorem rev_seg {C : List Int} {a m : Nat} (h : a + m ≤ C.length) : ((C.reverse.drop a).take m).sum = S C (C.length - a) - S C (C.length - (a + m)) := by
  induction m with
  | zero => simp
  | succ m ih =>
    have h1 : a + m < C.reverse.length := by simp; omega
    have e1 : (C.reverse.drop a)[m]? = some C.reverse[a + m] := by
      rw [List.getElem?_drop, List.getElem?_eq_getElem h1]
    rw [List.take_add_one, e1]
    simp only [Option.toList_some, List.sum_append, List.sum_cons, List.sum_nil]
    rw [ih (by omega)]
    have e2 : C.reverse[a + m] = C.getD (C.length - (a + m) - 1) 0 := by
      rw [List.getElem_reverse, List.getD_eq_getElem?_getD, List.getElem?_eq_getElem (by omega)]
      simp only [Option.getD_some]
      congr 1
      omega
    have e3 := take_last (l := C) (b := C.length - (a + m)) (by omega) (by omega)
    rw [e2]
    unfold S
    rw [show C.length - (a + (m + 1)) = C.length - (a + m) - 1 by omega]
    omega
theorem walk_itemsT {d : Addr} {o : Obj} {kvs : Tab} : Walk (Itit d o kvs) kvs.length (fun H => H d = some (.frz o (.dT kvs))) (fun i H x H' => ∃ T q k v, kvs[i]? = some (k, v) ∧ x = .ref T ∧ H T = none ∧ H q = some (.tup (k.map kV)) ∧ H' = upd H T (.tup [.ref q, v])) :=
  ⟨fun _ _ lt q => ⟨q, lt⟩, fun _ q => ⟨q, Nat.le_refl _⟩, fun _ _ _ _ _ _ stays => stays⟩
end K2

namespace K2
open PySem PySem.Spec PyProof.Rows L2
/-! ### _law_least_sum -/
theorem cut_ab {xs : List V} {a b : Nat} (h : a ≤ b) (h2 : b ≤ xs.length) : cutV xs (some (a : Int)) (some (b : Int)) = (xs.drop a).take (b - a) := by
  unfold cutV
  rw [show HT.sIx xs.length 0 (some (a : Int)) = min a xs.length from HT.sIx_nat xs.length 0 a, show HT.sIx xs.length xs.length (some (b : Int)) = min b xs.length from HT.sIx_nat xs.length xs.length b, Nat.min_eq_left (by omega), Nat.min_eq_left (by omega)]
theorem len_seqK {X : Cx} (K : PySem.W.Frag) (h : X.K = K := by rfl) : CallR X (.builtin "len") (fun xs H Q => ∃ p ys, xs = [.ref p] ∧ (SqL K H p ys ∨ SqT K H p ys) ∧ Q (.int ys.length) H) := by subst h; exact call_len_seq
abbrev NLS : List Str := ["_law_weights_here", "_law_bound", "_law_line", "_law_best", "_law_length", "_law_later", "_law_done", "_law_free", "_law_cost", "_law_room", "_law_many", "_law_place", "_law_more", "_law_weight"]
theorem scLS : FnScope NLS ["_law_weights_here", "_law_bound"] (defScope sLSum) := ⟨rfl, rfl, rfl, by decide +kernel, rfl, by decide +kernel, by decide +kernel⟩
theorem raw_fst (ws : List Int) : (rawL ws).map (·.1) = usedL ws := by
  have key : ∀ i, i ≤ ws.length → (rawU ws i).map (·.1) = usedL (ws.take i) := by
    intro i
    induction i with
    | zero => intro _; simp [rawU, usedL]
    | succ i ih =>
      intro hi
      have hx : ws[i]? = some (wAt ws i) := by
        unfold wAt
        rw [List.getD_eq_getElem?_getD, List.getElem?_eq_getElem (show i < ws.length by omega)]
        rfl
      rw [rawU_succ, used_succ hx, List.map_append, ih (by omega)]
      congr 1
      split <;> rfl
  have := key ws.length (Nat.le_refl _)
  rw [List.take_length] at this
  exact this
theorem wL_srt (ws : List Int) : Srt (wL ws) := by
  show Srt ((coinsL ws).map (·.1))
  rw [← srtd_fst]
  refine (coinsL_srt ws).imp fun {x y} h => ?_
  simp only [lexLe, Bool.not_eq_true', SrtO.lexB_no, kLt, decide_eq_false_iff_not] at *
  omega
theorem line_eq {ws ns : List Int} (hp : ns.Perm (usedL ws)) (ho : OrdB true ns) : ns = (wL ws).reverse := by
  have ho : ns.Pairwise (· ≥ ·) := ho
  have h1 : (wL ws).Perm (usedL ws) := by
    rw [← raw_fst]
    exact (coinsL_perm ws).map _
  refine List.Perm.eq_of_pairwise (le := fun a b => a ≥ b) (fun a b _ _ h1 h2 => by omega) ho ?_ (hp.trans (h1.symm.trans (List.reverse_perm _).symm))
  rw [List.pairwise_reverse]
  exact (wL_srt ws).imp fun {a b} h => h
/-- what the search tells -/
def sumL (ws : List Int) (n : Nat) : Int := if (coinsL ws).length = 1 then (wL ws).sum else F (wL ws) n (2 * (wL ws).length - 2)
section
variable {P : Program} {w : World} {K : PySem.W.Frag} {mg : Str → Option Value} {base : Heap}
def spLS : Sp := fun vs H Q _ => ∃ (p : Addr) (ws : List Int) (n : Nat), vs = [.ref p, .int (n : Int)] ∧ H p = some (.lst (ws.map V.int)) ∧ AskOk ws n ∧ ∀ H', Same H H' → Q (.int (sumL ws n)) H'
theorem ok_ls {f : Addr} {fd : FuncData} {j : Nat} (F : Fun K "_law_least_sum" "_law_least_sum" sLSum f fd) (m1 : mg "len" = none) (m2 : mg "sorted" = none) (m3 : mg "range" = none) (m4 : mg "min" = none) (m5 : mg "sum" = none) : FnOk P w K mg base CX0 (j + 1) f fd ["_law_weights_here", "_law_bound"] spLS := by
  refine F.ok scLS (fun vs H Q E h => ?_) (fun cdv A outer s H vs Q E hr h => ?_)
  · obtain ⟨p, ws, n, rfl, _⟩ := h
    rfl
  · obtain ⟨p, ws, n, rfl, hp, hk, q⟩ := h
    refine ⟨_, (pss_cons (ps_set (i := 2) scLS.nd rfl (.inr rfl) (pe_callBK (cr_sortedRev (b := true)) (by rfl) m2 (by decide +kernel) (pa_cons (pe_lc (own := [("_law_weight", 13)]) (g := gName 13) rfl scLS.nd (pi_list (pv 0)) (blkOk_by (N := NLS) (sc := defScope sLSum) (by decide +kernel)) (fun _ _ _ _ _ => (pg_name (i := 13) scLS.nd rfl (.inl rfl))) (fun _ _ _ _ _ => pts_one (pt_cmpR op_gt (pv 13) pe_int (nomark _))) (fun _ _ _ _ _ => pv 13)) pa_nil) (pk_cons pe_bl pk_nil))) (pss_cons (ps_if (pt_cmpR op_eq (pe_callB call_len_seq (by rfl) m1 PySem.boot_len (pa_cons (pv 2) pa_nil)) pe_int (nomark _)) (pss_one (ps_ret (pe_ix ix_list (pv 2) pe_int (fun _ _ => rfl)))) pss_nil) (pss_cons (ps_set (i := 3) scLS.nd rfl (.inl rfl) (pe_dispT hr (pe_tup (pa_cons pe_int (pa_cons pe_int pa_nil))) pe_int)) (pss_cons (ps_for PassesOwn.never rfl (pi_range2 (by rfl) m3 (pa_cons pe_int (pa_cons (pe_op op_add (pv 1) pe_int) pa_nil))) (pg_name (i := 4) scLS.nd rfl (.inl rfl)) (pss_cons (ps_set (i := 5) scLS.nd rfl (.inl rfl) pe_dnewT) (pss_cons (ps_lock (ps_for PassesOwn.never rfl (pi_itemsT (pv 3)) (pg_tup rfl (pgs_cons (pg_tup rfl (pgs_cons (pg_name (i := 6) scLS.nd rfl (.inl rfl)) (pgs_cons (pg_name (i := 7) scLS.nd rfl (.inl rfl)) pgs_nil))) (pgs_cons (pg_name (i := 8) scLS.nd rfl (.inl rfl)) pgs_nil))) (pss_cons (ps_set (i := 9) scLS.nd rfl (.inl rfl) (pe_callB (call_min2 rfl) (by rfl) m4 (by decide +kernel) (pa_cons (pe_op op_mul pe_int (pv 7)) (pa_cons (pe_op op_mul pe_int (pe_callB call_len_seq (by rfl) m1 PySem.boot_len (pa_cons (pv 2) pa_nil))) pa_nil)))) (pss_one (ps_for PassesOwn.never rfl (pi_range2 (by rfl) m3 (pa_cons pe_int (pa_cons (pe_op op_add (pe_callB (call_min2 rfl) (by rfl) m4 (by decide +kernel) (pa_cons (pv 9) (pa_cons (pe_op op_sub (pe_callB call_len_seq (by rfl) m1 PySem.boot_len (pa_cons (pv 2) pa_nil)) (pv 6)) pa_nil))) pe_int) pa_nil))) (pg_name (i := 10) scLS.nd rfl (.inl rfl)) (pss_cons (ps_set (i := 11) scLS.nd rfl (.inl rfl) (pe_tup (pa_cons (pe_op op_add (pv 6) (pv 10)) (pa_cons (pe_op op_sub (pv 9) (pv 10)) pa_nil)))) (pss_cons (ps_set (i := 12) scLS.nd rfl (.inl rfl) (pe_op op_add (pv 8) (pe_op op_mul (pv 4) (pe_callB (cr_sum rfl) (by rfl) m5 (by decide +kernel) (pa_cons (pe_slice sl_list (pv 2) (po_some (pv 6)) (po_some (pe_op op_add (pv 6) (pv 10)))) pa_nil))))) (pss_one (ps_if (PW.pt (pw_or (pt_cmp (pc_dnotin (hu_of hr) (pv 11) (pv 5))) (pw_or1 (pt_cmpR op_lt (pv 12) (pe_dget (hu_of hr) (pv 5) (pv 11) (fun _ _ => rfl)) (nomark _))))) (pss_one (ps_dput (hu_of hr) (pv 5) (pv 11) (pv 12) rfl)) pss_nil))))))))) (pss_cons (ps_lock (ps_for PassesOwn.never rfl (pi_keys (pv 3)) (pg_name (i := 11) scLS.nd rfl (.inl rfl)) (pss_one (ps_if (pt_cmpR op_eq (pe_ix ix_tup (pv 11) pe_int (fun _ _ => rfl)) (pe_callB call_len_seq (by rfl) m1 PySem.boot_len (pa_cons (pv 2) pa_nil)) (nomark _)) (pss_one (ps_dput (hu_of hr) (pv 5) (pv 11) (pe_callB (call_min2 rfl) (by rfl) m4 (by decide +kernel) (pa_cons (pe_dget (hu_of hr) (pv 3) (pv 11) (fun _ _ => rfl)) (pa_cons (pe_dget2 (hu_of hr) (pv 5) (pv 11) (pe_dget (hu_of hr) (pv 3) (pv 11) (fun _ _ => rfl)) ⟨rfl, rfl, rfl, rfl⟩) pa_nil))) rfl)) pss_nil)))) (pss_one (ps_set (i := 3) scLS.nd rfl (.inl rfl) (pv 5))))))) (pss_one (ps_ret (pe_callB (cr_min rfl) (by rfl) m4 (by decide +kernel) (pa_cons (pe_lock (pe_lc (own := [("_law_done", 6), ("_law_free", 7), ("_law_cost", 8)]) (g := gTup K 2 (gCons (gTup K 2 (gCons (gName 6) (gCons (gName 7) gNil))) (gCons (gName 8) gNil))) rfl scLS.nd (pi_itemsT (pv 3)) (blkOk_by (N := NLS) (sc := defScope sLSum) (by decide +kernel)) (fun _ _ _ _ _ => (pg_tup rfl (pgs_cons (pg_tup rfl (pgs_cons (pg_name (i := 6) scLS.nd rfl (.inl rfl)) (pgs_cons (pg_name (i := 7) scLS.nd rfl (.inl rfl)) pgs_nil))) (pgs_cons (pg_name (i := 8) scLS.nd rfl (.inl rfl)) pgs_nil)))) (fun _ _ _ _ _ => pts_one (pt_cmpR op_eq (pv 6) (pe_callB (len_seqK K) (by rfl) m1 PySem.boot_len (pa_cons (pv 2) pa_nil)) (nomark _))) (fun _ _ _ _ _ => pv 8))) pa_nil)))))))), ?_⟩
    have hlen := hk.len
    have hsome := hk.some
    have hn1 := hk.n1
    have hn12 := hk.n12
    have hcl := coins_len ws
    -- the line
    refine ⟨_, rfl, p, rfl, ⟨_, .inl (.inl hp)⟩, fun D nD => ?_⟩
    refine lc_list (K := K) (a := p) (xs := ws.map V.int) (fun i H' => Same H H' ∧ H' D = some (.lst ((usedL (ws.take i)).map V.int))) ⟨same_upd nD, upd_same⟩ (fun i H' _ h => .inl (.inl (h.1 _ _ hp))) (fun i x H1 hx h => ?_) (fun H1 h => ?_)
    · obtain ⟨x, rfl, hx'⟩ := int_of hx
      refine ⟨rfl, _, rfl, _, _, rfl, rfl, _, rfl, ?_⟩
      rw [used_succ hx']
      refine ite2 (fun e => ?_) (fun e => ?_)
      · rw [if_pos (show 0 < x from of_decide_eq_true e)]
        refine ⟨_, rfl, _, h.2, ?_, same_put h.1 nD, ?_⟩
        · rw [List.length_map]
          have := used_le (ws.take i)
          rw [List.length_take] at this
          exact Nat.lt_of_le_of_lt (show _ ≤ 1000 by omega) (by decide)
        · rw [upd_same, List.map_append]
          rfl
      · rw [if_neg (show ¬ 0 < x from fun z => e (decide_eq_true z)), List.append_nil]
        exact h
    obtain ⟨sm1, hD⟩ := h
    rw [List.length_map, List.take_length] at hD
    refine ⟨D, _, rfl, rfl, .inl (.inl hD), fun ns' ld hpm hord nld => ?_⟩
    have hline : ns' = (wL ws).reverse := line_eq hpm hord
    subst hline
    have hHld : H ld = none := by
      cases hh : H ld with
      | none => rfl
      | some o => have := sm1 _ _ hh; rw [nld] at this; cases this
    have sm2 : Same H (upd H1 ld (.lst ((wL ws).reverse.map V.int))) := sm1.trans (same_upd nld)
    have hld : (upd H1 ld (.lst ((wL ws).reverse.map V.int))) ld = some (.lst ((wL ws).reverse.map V.int)) := upd_same
    generalize upd H1 ld (.lst ((wL ws).reverse.map V.int)) = H2 at *
    have hwl : (wL ws).length = (coinsL ws).length := by rw [wL, List.length_map]
    have hrl : ((wL ws).reverse.map V.int).length = (wL ws).length := by rw [List.length_map, List.length_reverse]
    refine ⟨.ref ld, rfl, ld, _, rfl, .inl (.inl (.inl hld)), rfl, _, rfl, ite2 (fun e => ?_) (fun e => ?_)⟩
    · have h1 : (coinsL ws).length = 1 := by
        have := V.int.inj (of_decide_eq_true e)
        rw [hrl, hwl] at this
        omega
      obtain ⟨w0, hw0⟩ : ∃ w0, wL ws = [w0] := List.length_eq_one_iff.mp (hwl.trans h1)
      have q' := q H2 sm2
      rw [sumL, if_pos h1, hw0] at q'
      rw [hw0] at hld
      refine ⟨.ref ld, rfl, ld, _, 0, .int w0, rfl, rfl, .inl (.inl hld), rfl, ?_⟩
      simpa using q'
    have h1 : (coinsL ws).length ≠ 1 := fun z => e (decide_eq_true (by rw [hrl, hwl, z]; rfl))
    have G : Good (wL ws) n := hk.good h1
    have hC300 : (wL ws).length ≤ 300 := by omega
    have q : ∀ H', Same H H' → Q (.int (K2.F (wL ws) n (2 * (wL ws).length - 2))) H' := fun H' sm => by
      have := q H' sm
      rw [sumL, if_neg h1] at this
      exact this
    generalize wL ws = C at *
    -- best
    intro bd0 nbd0
    refine ⟨(by show 2 ≤ sizeLine; decide), fun kb nkb => ?_⟩
    have hkb0 : kb ≠ bd0 := fun z => by rw [z, upd_same] at nkb; cases nkb
    have hbd0 : (upd (upd H2 bd0 (.dT [])) kb (.tup [.int 0, .int 1])) bd0 = some (.dT []) := by rw [upd_ne hkb0.symm, upd_same]
    refine ⟨hbd0, kb, key 0 1, rfl, upd_same, ?_⟩
    have hHbd0 : H bd0 = none := by
      cases hh : H bd0 with
      | none => rfl
      | some o => have := sm2 _ _ hh; rw [nbd0] at this; cases this
    have smk : Same H2 (upd (upd (upd H2 bd0 (.dT [])) kb (.tup [.int 0, .int 1])) bd0 (.dT [(key 0 1, .int 0)])) := same_put ((same_upd nbd0).trans (same_upd nkb)) nbd0
    have sm3 := sm2.trans smk
    have hld3 := smk _ _ hld
    have hbd3 : (upd (upd (upd H2 bd0 (.dT [])) kb (.tup [.int 0, .int 1])) bd0 (.dT [(key 0 1, .int 0)])) bd0 = some (.dT [(key 0 1, .int 0)]) := upd_same
    generalize upd (upd (upd H2 bd0 (.dT [])) kb (.tup [.int 0, .int 1])) bd0 (.dT [(key 0 1, .int 0)]) = H3 at *
    have htab0 : TabOk C n 0 [(key 0 1, .int 0)] := by
      refine ⟨fun e he => ?_, by simp⟩
      rw [List.mem_singleton.mp he]
      exact ⟨0, 1, 0, rfl, Nat.zero_le _, by have := G.two; omega, low_start n⟩
    have hup0 : HasUp C n 0 [(key 0 1, .int 0)] := ⟨0, by rw [dn_zero G, fr_zero G]; rfl, up_zero⟩
    refine ⟨_, rfl, _, _, rfl, rfl, 1, _, rfl, ⟨by decide, by decide, by omega, by omega⟩, ?_⟩
    refine for_range (lo := 1) (n := ((n : Int) + 1 - 1).toNat) (fun i σ H' => ∃ (y4 y5 y6 y7 y8 y9 y10 y11 y12 : Option V) (bd : Addr) (kvs : Tab), σ = [some (.ref p), some (.int (n : Int)), some (.ref ld), some (.ref bd), y4, y5, y6, y7, y8, y9, y10, y11, y12, none] ∧ Same H H' ∧ H' ld = some (.lst (C.reverse.map V.int)) ∧ H bd = none ∧ H' bd = some (.dT kvs) ∧ TabOk C n i kvs ∧ HasUp C n i kvs)
      ⟨none, none, none, none, none, none, none, none, none, bd0, _, rfl, sm3, hld3, hHbd0, hbd3, htab0, hup0⟩ (fun i σ H' hi h => ?_) (fun σ H' h => ?_)
    · obtain ⟨y4, y5, y6, y7, y8, y9, y10, y11, y12, bd, kvs, rfl, sm, hl, hHbd, hbd, htab, hup⟩ := h
      have hin : i < n := by omega
      -- later = {}
      refine fun la nla => ?_
      have hHla : H la = none := by
        cases hh : H la with
        | none => rfl
        | some o => have := sm _ _ hh; rw [nla] at this; cases this
      have hbdla : bd ≠ la := ne_of_none hbd nla
      have hldla : ld ≠ la := ne_of_none hl nla
      have smL : Same H' (upd H' la (.dT [])) := same_upd nla
      have hla0 : (upd H' la (.dT [])) la = some (.dT []) := upd_same
      have hblk : (upd H' la (.dT [])) bd = some (.dT kvs) := smL _ _ hbd
      have hl1 := smL _ _ hl
      have sm1L := sm.trans smL
      generalize upd H' la (.dT []) = H4 at *
      refine ⟨bd, .dT kvs, hblk, trivial, fun od => ?_⟩
      have hfz : (upd H4 bd (.frz od (.dT kvs))) bd = some (.frz od (.dT kvs)) := upd_same
      have hldbd : ld ≠ bd := fun z => by rw [z, hbd] at hl; cases hl
      have hla1 : (upd H4 bd (.frz od (.dT kvs))) la = some (.dT []) := by rw [upd_ne hbdla.symm]; exact hla0
      have hl2 : (upd H4 bd (.frz od (.dT kvs))) ld = some (.lst (C.reverse.map V.int)) := by rw [upd_ne hldbd]; exact hl1
      have sm5 : Same H (upd H4 bd (.frz od (.dT kvs))) := same_put sm1L hHbd
      generalize upd H4 bd (.frz od (.dT kvs)) = H5 at *
      refine ⟨_, rfl, bd, od, kvs, rfl, hfz, ?_⟩
      obtain ⟨cs, hcs1, hcs2⟩ := hup
      obtain ⟨sx, hsx⟩ := List.mem_iff_getElem?.mp (val_mem hcs1)
      refine for_it walk_itemsT (fun t σ H' => ∃ (y6 y7 y8 y9 y10 y11 y12 : Option V) (kv2 : Tab), σ = [some (.ref p), some (.int (n : Int)), some (.ref ld), some (.ref bd), some (.int (1 + (i : Int))), some (.ref la), y6, y7, y8, y9, y10, y11, y12, none] ∧ Same H H' ∧ H' ld = some (.lst (C.reverse.map V.int)) ∧ H' bd = some (.frz od (.dT kvs)) ∧ H' la = some (.dT kv2) ∧ TabOk C n (i + 1) kv2 ∧ (sx < t → HasUp C n (i + 1) kv2))
        ⟨y6, y7, y8, y9, y10, y11, y12, [], rfl, sm5, hl2, hfz, hla1, ⟨fun e he => by simp at he, by simp⟩, fun z => absurd z (Nat.not_lt_zero _)⟩ (fun t σ H' _ h => ?_) (fun t x σ H6 H7 ht h y => ?_) (fun σ H' h => ?_)
      · obtain ⟨_, _, _, _, _, _, _, _, _, _, _, h, _⟩ := h
        exact h
      · obtain ⟨y6, y7, y8, y9, y10, y11, y12, kv2, rfl, sm6, hl6, hbd6, hla6, htab2, hup2⟩ := h
        obtain ⟨T, q0, k0, v0, hkv, rfl, nT, hq0, rfl⟩ := y
        obtain ⟨a, b, c, e0, ha, hb, hlow⟩ := htab.ent _ (List.mem_of_getElem? hkv)
        obtain ⟨rfl, rfl⟩ := Prod.mk.inj e0
        rw [key_kV] at hq0
        have smT : Same H6 (upd H6 T (.tup [.ref q0, .int c])) := same_upd nT
        have hTT : (upd H6 T (.tup [.ref q0, .int c])) T = some (.tup [.ref q0, .int c]) := upd_same
        have sm7 := sm6.trans smT
        have hl7 := smT _ _ hl6
        have hbd7 := smT _ _ hbd6
        have hla7 := smT _ _ hla6
        have hq7 := smT _ _ hq0
        generalize upd H6 T (.tup [.ref q0, .int c]) = H7 at *
        refine ⟨T, _, rfl, .inl (.inl hTT), rfl, .ref q0, [.int c], rfl, ⟨q0, _, rfl, .inl (.inl hq7), rfl, .int (a : Int), [.int (b : Int)], rfl, .int (b : Int), [], rfl, rfl, .int c, [], rfl, rfl, ?_⟩⟩
        -- room
        refine ⟨_, rfl, _, _, rfl, rfl, .inl ⟨by decide, by decide⟩, _, rfl, ld, _, rfl, .inl (.inl (.inl hl7)), _, _, rfl, rfl, .inl ⟨by decide, by decide⟩, _, _, rfl, ?_⟩
        have hrm : (if (2 : Int) * ((C.reverse.map V.int).length : Nat) < 2 * (b : Int) then (2 : Int) * ((C.reverse.map V.int).length : Nat) else 2 * (b : Int)) = ((min (2 * b) (2 * C.length) : Nat) : Int) := by
          rw [List.length_map, List.length_reverse]
          split <;> omega
        have hn7 : ((C.reverse.map V.int).length : Int) = (C.length : Int) := by rw [List.length_map, List.length_reverse]
        have hhi : (if ((C.reverse.map V.int).length : Int) - (a : Int) < (if (2 : Int) * ((C.reverse.map V.int).length : Nat) < 2 * (b : Int) then (2 : Int) * ((C.reverse.map V.int).length : Nat) else 2 * (b : Int)) then ((C.reverse.map V.int).length : Int) - (a : Int) else (if (2 : Int) * ((C.reverse.map V.int).length : Nat) < 2 * (b : Int) then (2 : Int) * ((C.reverse.map V.int).length : Nat) else 2 * (b : Int))) + 1 = ((min (min (2 * b) (2 * C.length)) (C.length - a) + 1 : Nat) : Int) := by
          rw [hrm, hn7]
          split <;> omega
        refine ⟨_, rfl, .ref ld, rfl, ld, _, rfl, .inl (.inl (.inl hl7)), _, rfl, _, _, rfl, rfl, _, _, rfl, _, _, rfl, rfl, 0, _, rfl, ?_, ?_⟩
        · show (-(2 ^ 62) ≤ (0 : Int) ∧ (0 : Int) < 2 ^ 62 ∧ -(2 ^ 62) ≤ (if ((C.reverse.map V.int).length : Int) - (a : Int) < (if (2 : Int) * ((C.reverse.map V.int).length : Nat) < 2 * (b : Int) then (2 : Int) * ((C.reverse.map V.int).length : Nat) else 2 * (b : Int)) then ((C.reverse.map V.int).length : Int) - (a : Int) else (if (2 : Int) * ((C.reverse.map V.int).length : Nat) < 2 * (b : Int) then (2 : Int) * ((C.reverse.map V.int).length : Nat) else 2 * (b : Int))) + 1 ∧ (if ((C.reverse.map V.int).length : Int) - (a : Int) < (if (2 : Int) * ((C.reverse.map V.int).length : Nat) < 2 * (b : Int) then (2 : Int) * ((C.reverse.map V.int).length : Nat) else 2 * (b : Int)) then ((C.reverse.map V.int).length : Int) - (a : Int) else (if (2 : Int) * ((C.reverse.map V.int).length : Nat) < 2 * (b : Int) then (2 : Int) * ((C.reverse.map V.int).length : Nat) else 2 * (b : Int))) + 1 < 2 ^ 62)
          rw [hhi]
          refine ⟨by decide, by decide, by omega, by omega⟩
        refine for_range (lo := 0) (n := _) (fun m σ H' => ∃ (y10 y11 y12 : Option V) (kv2 : Tab), σ = [some (.ref p), some (.int (n : Int)), some (.ref ld), some (.ref bd), some (.int (1 + (i : Int))), some (.ref la), some (.int (a : Int)), some (.int (b : Int)), some (.int c), some (.int ((min (2 * b) (2 * C.length) : Nat) : Int)), y10, y11, y12, none] ∧ Same H H' ∧ H' ld = some (.lst (C.reverse.map V.int)) ∧ H' bd = some (.frz od (.dT kvs)) ∧ H' la = some (.dT kv2) ∧ TabOk C n (i + 1) kv2 ∧ ((sx < t ∨ (sx = t ∧ mn C n i < m)) → HasUp C n (i + 1) kv2))
          ⟨y10, y11, y12, kv2, ?_, sm7, hl7, hbd7, hla7, htab2, fun z => hup2 (by omega)⟩ (fun m σ H' hm h => ?_) (fun σ H' h => ?_)
        · show [some (V.ref p), some (V.int (n : Int)), some (V.ref ld), some (V.ref bd), some (V.int (1 + (i : Int))), some (V.ref la), some (V.int (a : Int)), some (V.int (b : Int)), some (V.int c), some (V.int (if (2 : Int) * ((C.reverse.map V.int).length : Nat) < 2 * (b : Int) then (2 : Int) * ((C.reverse.map V.int).length : Nat) else 2 * (b : Int))), y10, y11, y12, none] = _
          rw [hrm]
        · have hm2 : m < min (min (2 * b) (2 * C.length)) (C.length - a) + 1 := by
            have hm3 : m < ((if ((C.reverse.map V.int).length : Int) - (a : Int) < (if (2 : Int) * ((C.reverse.map V.int).length : Nat) < 2 * (b : Int) then (2 : Int) * ((C.reverse.map V.int).length : Nat) else 2 * (b : Int)) then ((C.reverse.map V.int).length : Int) - (a : Int) else (if (2 : Int) * ((C.reverse.map V.int).length : Nat) < 2 * (b : Int) then (2 : Int) * ((C.reverse.map V.int).length : Nat) else 2 * (b : Int))) + 1 - 0).toNat := hm
            rw [hhi] at hm3
            omega
          obtain ⟨y10, y11, y12, kv3, rfl, sm8, hl8, hbd8, hla8, htab3, hup3⟩ := h
          generalize hrR : min (2 * b) (2 * C.length) = R at *
          have hmR : m ≤ R := by omega
          have hmn : m ≤ C.length - a := by omega
          -- place
          refine ⟨_, rfl, _, rfl, _, _, rfl, rfl, _, rfl, _, rfl, _, _, rfl, rfl, (by show 2 ≤ sizeLine; decide), fun pl npl => ?_⟩
          have epl : ([V.int ((a : Int) + (0 + (m : Int))), V.int ((R : Int) - (0 + (m : Int)))] : List V) = (key (a + m) (R - m)).map kV := by
            rw [key_kV]
            rw [show (a : Int) + (0 + (m : Int)) = ((a + m : Nat) : Int) by omega, show (R : Int) - (0 + (m : Int)) = ((R - m : Nat) : Int) by omega]
          have smP : Same H' (upd H' pl (.tup [V.int ((a : Int) + (0 + (m : Int))), V.int ((R : Int) - (0 + (m : Int)))])) := same_upd npl
          have hpl : (upd H' pl (.tup [V.int ((a : Int) + (0 + (m : Int))), V.int ((R : Int) - (0 + (m : Int)))])) pl = some (.tup ((key (a + m) (R - m)).map kV)) := by rw [upd_same, epl]
          have hl9 := smP _ _ hl8
          have hbd9 := smP _ _ hbd8
          have hla9 := smP _ _ hla8
          have sm9 := sm8.trans smP
          generalize upd H' pl (.tup [V.int ((a : Int) + (0 + (m : Int))), V.int ((R : Int) - (0 + (m : Int)))]) = H9 at *
          -- more
          refine ⟨_, rfl, _, rfl, .ref ld, rfl, _, rfl, (a : Int), rfl, _, rfl, _, rfl, _, _, rfl, rfl, (a : Int) + (0 + (m : Int)), rfl, ld, _, rfl, .inl (.inl hl9), fun sl nsl => ?_⟩
          have hsl : (upd H9 sl (.lst (cutV (C.reverse.map V.int) (some (a : Int)) (some ((a : Int) + (0 + (m : Int))))))) sl = some (.lst (((C.reverse.drop a).take m).map V.int)) := by
            rw [upd_same, show (a : Int) + (0 + (m : Int)) = ((a + m : Nat) : Int) by omega, cut_ab (by omega) (by rw [List.length_map, List.length_reverse]; omega), Nat.add_sub_cancel_left, ← List.map_drop, ← List.map_take]
          have smS : Same H9 (upd H9 sl (.lst (cutV (C.reverse.map V.int) (some (a : Int)) (some ((a : Int) + (0 + (m : Int))))))) := same_upd nsl
          have hl10 := smS _ _ hl9
          have hbd10 := smS _ _ hbd9
          have hla10 := smS _ _ hla9
          have hpl10 := smS _ _ hpl
          have sm10 := sm9.trans smS
          generalize upd H9 sl (.lst (cutV (C.reverse.map V.int) (some (a : Int)) (some ((a : Int) + (0 + (m : Int)))))) = H10 at *
          have hseg := rev_seg (C := C) (a := a) (m := m) (by omega)
          refine ⟨sl, _, rfl, .inl (.inl hsl), _, _, rfl, rfl, .inl ⟨by omega, by omega⟩, _, _, rfl, rfl, ?_⟩
          have hmore : c + (1 + (i : Int)) * ((C.reverse.drop a).take m).sum = c + ((i : Int) + 1) * (S C (C.length - a) - S C (C.length - (a + m))) := by
            rw [hseg, Int.add_comm 1]
          have hlow2 : Low C n (i + 1) (a + m) (R - m) (c + (1 + (i : Int)) * ((C.reverse.drop a).take m).sum) := by
            rw [hmore, ← hrR]
            exact low_step G.srt G.nn hin hlow (by omega) hmn
          have hupS : sx = t → m = mn C n i → key (a + m) (R - m) = key (dn C n (i + 1)) (fr C n (i + 1)) ∧ Up C n (i + 1) (c + (1 + (i : Int)) * ((C.reverse.drop a).take m).sum) := fun e1 e2 => by
            subst e1
            rw [hsx] at hkv
            obtain ⟨ek, ev⟩ := Prod.mk.inj (Option.some.inj hkv)
            obtain ⟨ea, eb⟩ := key_inj ek
            have ec : cs = c := V.int.inj ev
            obtain ⟨w1, w2, w3⟩ := way_step G hin
            refine ⟨by rw [w2, w3, ea, eb, ← hrR, e2], ?_⟩
            rw [hmore, ← ea, ← ec, e2]
            exact up_step G hin hcs2
          obtain ⟨more, hM⟩ : ∃ x : Int, x = c + (1 + (i : Int)) * ((C.reverse.drop a).take m).sum := ⟨_, rfl⟩
          rw [← hM] at hlow2 hupS
          have hk3 := htab3.len hC300
          have ham : a + m ≤ C.length := by omega
          have hRm : R - m ≤ 2 * C.length := by omega
          have hpla : pl ≠ la := fun z => by rw [z, hla10] at hpl10; cases hpl10
          have hbdla2 : bd ≠ la := fun z => by rw [z, hla10] at hbd10; cases hbd10
          have hput : ∀ kv4 : Tab, kv4 = putK kv3 (key (a + m) (R - m)) (.int more) → (∀ c', valV kv3 (key (a + m) (R - m)) = some (.int c') → more ≤ c') → TabOk C n (i + 1) kv4 ∧ ((sx < t ∨ (sx = t ∧ mn C n i < m + 1)) → HasUp C n (i + 1) kv4) := fun kv4 e4 hle => by
            subst e4
            refine ⟨htab3.put ham hRm hlow2, fun z => ?_⟩
            by_cases z2 : sx < t ∨ (sx = t ∧ mn C n i < m)
            · exact (hup3 z2).put hle
            · have z3 : sx = t ∧ m = mn C n i := by omega
              obtain ⟨u1, u2⟩ := hupS z3.1 z3.2
              rw [u1]
              exact HasUp.new u2
          refine ⟨.ref pl, rfl, .ref la, rfl, la, _, rfl, DGet.t hla10 hpl10, _, rfl, ?_⟩
          cases hval : valV kv3 (key (a + m) (R - m)) with
          | none =>
            refine iteT ?_
            refine ⟨.int (c + (1 + (i : Int)) * ((C.reverse.drop a).take m).sum), rfl, .ref la, rfl, .ref pl, rfl, la, _, rfl, DPut.t hla10 hpl10 (Nat.lt_of_le_of_lt hk3 (by decide)), ?_⟩
            obtain ⟨p1, p2⟩ := hput (putK kv3 (key (a + m) (R - m)) (.int (c + (1 + (i : Int)) * ((C.reverse.drop a).take m).sum))) (by rw [hM]) (fun c' h => by rw [hval] at h; cases h)
            exact ⟨some (.int (0 + (m : Int))), some (.ref pl), some (.int (c + (1 + (i : Int)) * ((C.reverse.drop a).take m).sum)), _, rfl, same_put sm10 hHla, by rw [upd_ne (fun z => by rw [z, hla10] at hl10; cases hl10)]; exact hl10, by rw [upd_ne hbdla2]; exact hbd10, upd_same, p1, p2⟩
          | some v =>
            obtain ⟨c', rfl, hv1, hv2, hv3⟩ := htab3.val hval
            refine iteF ?_
            refine ⟨.int (c + (1 + (i : Int)) * ((C.reverse.drop a).take m).sum), rfl, .ref la, rfl, .ref pl, rfl, la, .int c', rfl, (by rw [← hval]; exact DGet.t hla10 hpl10), _, _, rfl, rfl, _, rfl, ite2 (fun e => ?_) (fun e => ?_)⟩
            · have hlt : more < c' := by rw [hM]; exact of_decide_eq_true e
              refine ⟨.int (c + (1 + (i : Int)) * ((C.reverse.drop a).take m).sum), rfl, .ref la, rfl, .ref pl, rfl, la, _, rfl, DPut.t hla10 hpl10 (Nat.lt_of_le_of_lt hk3 (by decide)), ?_⟩
              obtain ⟨p1, p2⟩ := hput (putK kv3 (key (a + m) (R - m)) (.int (c + (1 + (i : Int)) * ((C.reverse.drop a).take m).sum))) (by rw [hM]) (fun c'' h => by
                rw [hval] at h
                cases h
                omega)
              exact ⟨some (.int (0 + (m : Int))), some (.ref pl), some (.int (c + (1 + (i : Int)) * ((C.reverse.drop a).take m).sum)), _, rfl, same_put sm10 hHla, by rw [upd_ne (fun z => by rw [z, hla10] at hl10; cases hl10)]; exact hl10, by rw [upd_ne hbdla2]; exact hbd10, upd_same, p1, p2⟩
            · have hge : ¬ more < c' := fun z => e (decide_eq_true (by rw [hM] at z; exact z))
              refine ⟨some (.int (0 + (m : Int))), some (.ref pl), some (.int (c + (1 + (i : Int)) * ((C.reverse.drop a).take m).sum)), kv3, rfl, sm10, hl10, hbd10, hla10, htab3, fun z => ?_⟩
              by_cases z2 : sx < t ∨ (sx = t ∧ mn C n i < m)
              · exact hup3 z2
              · have z3 : sx = t ∧ m = mn C n i := by omega
                obtain ⟨u1, u2⟩ := hupS z3.1 z3.2
                exact ⟨c', by rw [← u1]; exact hval, u2.mono (by omega)⟩
        · obtain ⟨y10, y11, y12, kv3, rfl, sm8, hl8, hbd8, hla8, htab3, hup3⟩ := h
          refine ⟨_, _, _, _, y10, y11, y12, kv3, rfl, sm8, hl8, hbd8, hla8, htab3, fun z => hup3 ?_⟩
          by_cases z1 : sx < t
          · exact .inl z1
          · have z2 : sx = t := by omega
            refine .inr ⟨z2, ?_⟩
            have hm3 : ((if ((C.reverse.map V.int).length : Int) - (a : Int) < (if (2 : Int) * ((C.reverse.map V.int).length : Nat) < 2 * (b : Int) then (2 : Int) * ((C.reverse.map V.int).length : Nat) else 2 * (b : Int)) then ((C.reverse.map V.int).length : Int) - (a : Int) else (if (2 : Int) * ((C.reverse.map V.int).length : Nat) < 2 * (b : Int) then (2 : Int) * ((C.reverse.map V.int).length : Nat) else 2 * (b : Int))) + 1 - 0).toNat = min (min (2 * b) (2 * C.length)) (C.length - a) + 1 := by
              rw [hhi]
              omega
            show mn C n i < ((if ((C.reverse.map V.int).length : Int) - (a : Int) < (if (2 : Int) * ((C.reverse.map V.int).length : Nat) < 2 * (b : Int) then (2 : Int) * ((C.reverse.map V.int).length : Nat) else 2 * (b : Int)) then ((C.reverse.map V.int).length : Int) - (a : Int) else (if (2 : Int) * ((C.reverse.map V.int).length : Nat) < 2 * (b : Int) then (2 : Int) * ((C.reverse.map V.int).length : Nat) else 2 * (b : Int))) + 1 - 0).toNat
            rw [hm3]
            subst z2
            rw [hsx] at hkv
            obtain ⟨ek, ev⟩ := Prod.mk.inj (Option.some.inj hkv)
            obtain ⟨ea, eb⟩ := key_inj ek
            obtain ⟨w1, w2, w3⟩ := way_step G hin
            rw [← ea, ← eb]
            omega
      · obtain ⟨y6, y7, y8, y9, y10, y11, y12, kv2, rfl, sm6, hl6, hbd6, hla6, htab2, hup2⟩ := h
        have hsxl : sx < kvs.length := (List.getElem?_eq_some_iff.mp hsx).1
        have hup2 := hup2 hsxl
        refine ⟨hbd6, ?_⟩
        have hldbd2 : ld ≠ bd := fun z => by rw [z, hbd6] at hl6; cases hl6
        have hlabd2 : la ≠ bd := fun z => by rw [z, hbd6] at hla6; cases hla6
        have sm7 : Same H (upd H' bd (.dT kvs)) := same_put sm6 hHbd
        have hl7 : (upd H' bd (.dT kvs)) ld = some (.lst (C.reverse.map V.int)) := by rw [upd_ne hldbd2]; exact hl6
        have hla7 : (upd H' bd (.dT kvs)) la = some (.dT kv2) := by rw [upd_ne hlabd2]; exact hla6
        have hbd7 : (upd H' bd (.dT kvs)) bd = some (.dT kvs) := upd_same
        generalize upd H' bd (.dT kvs) = H7 at *
        refine ⟨bd, .dT kvs, hbd7, trivial, fun od2 => ?_⟩
        have sm8 : Same H (upd H7 bd (.frz od2 (.dT kvs))) := same_put sm7 hHbd
        have hl8 : (upd H7 bd (.frz od2 (.dT kvs))) ld = some (.lst (C.reverse.map V.int)) := by rw [upd_ne hldbd2]; exact hl7
        have hla8 : (upd H7 bd (.frz od2 (.dT kvs))) la = some (.dT kv2) := by rw [upd_ne hlabd2]; exact hla7
        have hbd8 : (upd H7 bd (.frz od2 (.dT kvs))) bd = some (.frz od2 (.dT kvs)) := upd_same
        generalize upd H7 bd (.frz od2 (.dT kvs)) = H8 at *
        refine ⟨_, rfl, bd, od2, rfl, .inr ⟨kvs, hbd8, ?_⟩⟩
        refine for_it walk_keysT (fun t σ H' => ∃ (y11 : Option V) (kv2 : Tab), σ = [some (.ref p), some (.int (n : Int)), some (.ref ld), some (.ref bd), some (.int (1 + (i : Int))), some (.ref la), y6, y7, y8, y9, y10, y11, y12, none] ∧ Same H H' ∧ H' ld = some (.lst (C.reverse.map V.int)) ∧ H' bd = some (.frz od2 (.dT kvs)) ∧ H' la = some (.dT kv2) ∧ TabOk C n (i + 1) kv2 ∧ HasUp C n (i + 1) kv2)
          ⟨y11, kv2, rfl, sm8, hl8, hbd8, hla8, htab2, hup2⟩ (fun t σ H' _ h => ?_) (fun t x σ H9 H10 ht h y => ?_) (fun σ H' h => ?_)
        · obtain ⟨_, _, _, _, _, h, _⟩ := h
          exact h
        · obtain ⟨y11, kv3, rfl, sm9, hl9, hbd9, hla9, htab3, hup3⟩ := h
          obtain ⟨rfl, k0, v0, q0, hkv, rfl, hq0⟩ := y
          obtain ⟨a, b, c, e0, ha, hb, hlow⟩ := htab.ent _ (List.mem_of_getElem? hkv)
          obtain ⟨rfl, rfl⟩ := Prod.mk.inj e0
          have hvb : valV kvs (key a b) = some (.int c) := mem_val htab.nd (List.mem_of_getElem? hkv)
          refine ⟨.ref q0, rfl, q0, _, 0, .int (a : Int), rfl, rfl, .inl (.inl hq0), rfl, .ref ld, rfl, ld, _, rfl, .inl (.inl (.inl hl9)), rfl, _, rfl, ite2 (fun e => ?_) (fun e => ?_)⟩
          · have han : a = C.length := by
              have := V.int.inj (of_decide_eq_true e)
              rw [List.length_map, List.length_reverse] at this
              omega
            subst han
            have hq0' : H10 q0 = some (.tup ((key C.length b).map kV)) := hq0
            have hgb : DGet H10 bd (.ref q0) (some (.int c)) := by
              rw [← hvb]
              exact .inr ⟨kvs, _, q0, .inr ⟨od2, hbd9⟩, rfl, hq0', rfl⟩
            have hk3 := htab3.len hC300
            have fin : ∀ v : Int, Low C n (i + 1) C.length b v → (∀ c', valV kv3 (key C.length b) = some (.int c') → v ≤ c') → ∃ (y11 : Option V) (kv2 : Tab), [some (V.ref p), some (V.int (n : Int)), some (V.ref ld), some (V.ref bd), some (V.int (1 + (i : Int))), some (V.ref la), y6, y7, y8, y9, y10, some (V.ref q0), y12, none] = [some (.ref p), some (.int (n : Int)), some (.ref ld), some (.ref bd), some (.int (1 + (i : Int))), some (.ref la), y6, y7, y8, y9, y10, y11, y12, none] ∧ Same H (upd H10 la (.dT (putK kv3 (key C.length b) (.int v)))) ∧ (upd H10 la (.dT (putK kv3 (key C.length b) (.int v)))) ld = some (.lst (C.reverse.map V.int)) ∧ (upd H10 la (.dT (putK kv3 (key C.length b) (.int v)))) bd = some (.frz od2 (.dT kvs)) ∧ (upd H10 la (.dT (putK kv3 (key C.length b) (.int v)))) la = some (.dT kv2) ∧ TabOk C n (i + 1) kv2 ∧ HasUp C n (i + 1) kv2 := fun v h1 h2 =>
              ⟨_, _, rfl, same_put sm9 hHla, by rw [upd_ne (fun z => by rw [z, hla9] at hl9; cases hl9)]; exact hl9, by rw [upd_ne hlabd2.symm]; exact hbd9, upd_same, htab3.put (Nat.le_refl _) hb h1, hup3.put h2⟩
            have hlowc : Low C n (i + 1) C.length b c := low_stay hlow
            cases hval : valV kv3 (key C.length b) with
            | none =>
              refine ⟨.ref bd, rfl, .ref q0, rfl, bd, .int c, rfl, hgb, .ref la, rfl, la, rfl, .inr ⟨_, .inl hla9⟩, .ref q0, rfl, .ref bd, rfl, .ref q0, rfl, bd, .int c, rfl, hgb, _, DGet.t hla9 hq0', c, c, ?_, .ref la, rfl, .ref q0, rfl, la, _, rfl, DPut.t hla9 hq0' (Nat.lt_of_le_of_lt hk3 (by decide)), ?_⟩
              · rw [hval]; rfl
              · exact fin _ (by split <;> exact hlowc) (fun c' h => by rw [hval] at h; cases h)
            | some v =>
              obtain ⟨c', rfl, hv1, hv2, hv3⟩ := htab3.val hval
              refine ⟨.ref bd, rfl, .ref q0, rfl, bd, .int c, rfl, hgb, .ref la, rfl, la, rfl, .inr ⟨_, .inl hla9⟩, .ref q0, rfl, .ref bd, rfl, .ref q0, rfl, bd, .int c, rfl, hgb, _, DGet.t hla9 hq0', c, c', ?_, .ref la, rfl, .ref q0, rfl, la, _, rfl, DPut.t hla9 hq0' (Nat.lt_of_le_of_lt hk3 (by decide)), ?_⟩
              · rw [hval]; rfl
              · refine fin _ (by split; exact hv3; exact hlowc) (fun c'' h => ?_)
                rw [hval] at h
                cases h
                split <;> omega
          · exact ⟨some (.ref q0), kv3, rfl, sm9, hl9, hbd9, hla9, htab3, hup3⟩
        · obtain ⟨y11, kv3, rfl, sm9, hl9, hbd9, hla9, htab3, hup3⟩ := h
          refine ⟨hbd9, .ref la, rfl, _, _, _, _, _, _, _, _, _, la, kv3, rfl, same_put sm9 hHbd, by rw [upd_ne hldbd2]; exact hl9, hHla, by rw [upd_ne hlabd2]; exact hla9, htab3, hup3⟩
    · obtain ⟨y4, y5, y6, y7, y8, y9, y10, y11, y12, bd, kvs, rfl, sm, hl, hHbd, hbd, htab, hup⟩ := h
      have hn : ((n : Int) + 1 - 1).toNat = n := by omega
      rw [hn] at htab hup
      refine ⟨bd, .dT kvs, hbd, trivial, fun od => ?_⟩
      have hldbd : ld ≠ bd := fun z => by rw [z, hbd] at hl; cases hl
      have sm8 : Same H (upd H' bd (.frz od (.dT kvs))) := same_put sm hHbd
      have hl8 : (upd H' bd (.frz od (.dT kvs))) ld = some (.lst (C.reverse.map V.int)) := by rw [upd_ne hldbd]; exact hl
      have hbd8 : (upd H' bd (.frz od (.dT kvs))) bd = some (.frz od (.dT kvs)) := upd_same
      generalize upd H' bd (.frz od (.dT kvs)) = H8 at *
      refine ⟨_, rfl, bd, od, kvs, rfl, hbd8, fun D2 nD2 => ?_⟩
      obtain ⟨cs, hcs1, hcs2⟩ := hup
      obtain ⟨sx, hsx⟩ := List.mem_iff_getElem?.mp (val_mem hcs1)
      have hklen := htab.len hC300
      have hHD2 : H D2 = none := by
        cases hh : H D2 with
        | none => rfl
        | some o => have := sm8 _ _ hh; rw [nD2] at this; cases this
      have hldD : ld ≠ D2 := ne_of_none hl8 nD2
      have hbdD : bd ≠ D2 := ne_of_none hbd8 nD2
      refine lc_it walk_itemsT (fun t H' => Same H H' ∧ H' ld = some (.lst (C.reverse.map V.int)) ∧ H' bd = some (.frz od (.dT kvs)) ∧ ∃ ns : List Int, H' D2 = some (.lst (ns.map V.int)) ∧ ns.length ≤ t ∧ (∀ c ∈ ns, ∃ b, Low C n n C.length b c) ∧ (sx < t → ∃ c ∈ ns, Up C n n c))
        ⟨same_put sm8 hHD2, by rw [upd_ne hldD]; exact hl8, by rw [upd_ne hbdD]; exact hbd8, [], upd_same, Nat.le_refl _, fun c h => by simp at h, fun z => absurd z (Nat.not_lt_zero _)⟩ (fun t H' _ h => h.2.2.1) (fun t x H6 H7 ht h y => ?_) (fun H' h => ?_)
      · obtain ⟨sm6, hl6, hbd6, ns, hD6, hnl, hns1, hns2⟩ := h
        obtain ⟨T, q0, k0, v0, hkv, rfl, nT, hq0, rfl⟩ := y
        obtain ⟨a, b, c, e0, ha, hb, hlow⟩ := htab.ent _ (List.mem_of_getElem? hkv)
        obtain ⟨rfl, rfl⟩ := Prod.mk.inj e0
        rw [key_kV] at hq0
        have smT : Same H6 (upd H6 T (.tup [.ref q0, .int c])) := same_upd nT
        have hTT : (upd H6 T (.tup [.ref q0, .int c])) T = some (.tup [.ref q0, .int c]) := upd_same
        have sm7 := sm6.trans smT
        have hl7 := smT _ _ hl6
        have hbd7 := smT _ _ hbd6
        have hD7 := smT _ _ hD6
        have hq7 := smT _ _ hq0
        generalize upd H6 T (.tup [.ref q0, .int c]) = H7 at *
        refine ⟨T, _, rfl, .inl (.inl hTT), rfl, .ref q0, [.int c], rfl, ⟨q0, _, rfl, .inl (.inl hq7), rfl, .int (a : Int), [.int (b : Int)], rfl, .int (b : Int), [], rfl, rfl, .int c, [], rfl, rfl, rfl, ?_⟩⟩
        refine ⟨_, rfl, .ref ld, rfl, ld, _, rfl, .inl (.inl (.inl hl7)), rfl, _, rfl, ite2 (fun e => ?_) (fun e => ?_)⟩
        · have han : a = C.length := by
            have := V.int.inj (of_decide_eq_true e)
            rw [List.length_map, List.length_reverse] at this
            omega
          subst han
          refine ⟨_, rfl, _, hD7, ?_, same_put sm7 hHD2, by rw [upd_ne hldD]; exact hl7, by rw [upd_ne hbdD]; exact hbd7, ns ++ [c], ?_, by simp; omega, fun c' h => ?_, fun z => ?_⟩
          · rw [List.length_map]
            exact Nat.lt_of_le_of_lt (show _ ≤ 400000 by omega) (by decide)
          · rw [upd_same, List.map_append]
            rfl
          · rcases (List.mem_append.mp h) with (h | h)
            · exact hns1 c' h
            · rw [List.mem_singleton.mp h]
              exact ⟨b, hlow⟩
          · by_cases z2 : sx < t
            · obtain ⟨c', h1, h2⟩ := hns2 z2
              exact ⟨c', List.mem_append_left _ h1, h2⟩
            · have z3 : sx = t := by omega
              subst z3
              rw [hsx] at hkv
              obtain ⟨ek, ev⟩ := Prod.mk.inj (Option.some.inj hkv)
              have ec : cs = c := V.int.inj ev
              exact ⟨c, by simp, by rw [← ec]; exact hcs2⟩
        · refine ⟨sm7, hl7, hbd7, ns, hD7, by omega, hns1, fun z => ?_⟩
          by_cases z2 : sx < t
          · exact hns2 z2
          · have z3 : sx = t := by omega
            subst z3
            rw [hsx] at hkv
            obtain ⟨ek, ev⟩ := Prod.mk.inj (Option.some.inj hkv)
            obtain ⟨ea, eb⟩ := key_inj ek
            refine absurd (decide_eq_true ?_) e
            rw [List.length_map, List.length_reverse, ← ea, dn_end G]
      · obtain ⟨sm6, hl6, hbd6, ns, hD6, hnl, hns1, hns2⟩ := h
        obtain ⟨c, hc1, hc2⟩ := hns2 (List.getElem?_eq_some_iff.mp hsx).1
        refine ⟨hbd6, D2, ns, rfl, .inl (.inl (by rw [upd_ne hbdD.symm]; exact hD6)), List.length_pos_iff.mpr (List.ne_nil_of_mem hc1), fun m hm1 hm2 => ?_⟩
        obtain ⟨b, hlow⟩ := hns1 m hm1
        have h1 := low_end hlow
        have h2 := up_end G hc2
        have h3 := hm2 c hc1
        have e : m = K2.F C n (2 * C.length - 2) := by omega
        rw [e]
        exact q _ (same_put sm6 hHbd)
end
end K2

namespace K2
/-! ### what is asked of the lengths -/
theorem sum_perm {a b : List Int} (h : a.Perm b) : a.sum = b.sum := by
  induction h with
  | nil => rfl
  | cons x _ ih => simp only [List.sum_cons, ih]
  | swap x y l => simp only [List.sum_cons]; omega
  | trans _ _ ih1 ih2 => exact (ih1.trans ih2)
def letN (ws : List Int) : List Nat := (coinsL ws).map fun x => x.2.toNat
theorem letN_nodup (ws : List Int) : (letN ws).Nodup := by
  have := coins_nodup ws
  rw [List.Nodup, List.pairwise_map] at this
  rw [letN, List.Nodup, List.pairwise_map]
  refine List.Pairwise.imp_of_mem (fun {x y} hx hy q z => q ?_) this
  obtain ⟨a, _, _, rfl⟩ := coins_mem hx
  obtain ⟨b, _, _, rfl⟩ := coins_mem hy
  have z : ((a : Int)).toNat = ((b : Int)).toNat := z
  show (a : Int) = b
  omega
theorem letN_mem {ws : List Int} {l : Nat} : l ∈ letN ws ↔ l < ws.length ∧ 0 < wAt ws l := by
  constructor
  · intro h
    obtain ⟨x, hx, rfl⟩ := List.mem_map.mp h
    obtain ⟨a, h1, h2, rfl⟩ := coins_mem hx
    simpa using ⟨h1, h2⟩
  · intro ⟨h1, h2⟩
    refine List.mem_map.mpr ⟨(wAt ws l, (l : Int)), (coinsL_perm ws).mem_iff.mpr ?_, by simp⟩
    exact List.mem_map.mpr ⟨l, List.mem_filter.mpr ⟨by simpa using h1, decide_eq_true h2⟩, rfl⟩
theorem letN_perm (ws : List Int) : (letN ws).Perm ((List.range ws.length).filter fun l => decide (0 < wAt ws l)) := by
  have := (coinsL_perm ws).map (fun x => x.2.toNat)
  refine this.trans (List.Perm.of_eq ?_)
  rw [rawL, rawU, List.map_map]
  conv => rhs; rw [← List.map_id (List.filter _ _)]
  refine List.map_congr_left fun l _ => ?_
  simp
theorem letN_w (ws : List Int) : (letN ws).map (wAt ws) = wL ws := by
  rw [letN, wL, List.map_map]
  refine List.map_congr_left fun x hx => ?_
  obtain ⟨a, h1, h2, rfl⟩ := coins_mem hx
  simp
theorem wAt_get {ws : List Int} {l : Nat} (h : l < ws.length) : ws[l]? = some (wAt ws l) := by
  unfold wAt
  rw [List.getD_eq_getElem?_getD, List.getElem?_eq_getElem h]
  rfl
theorem range_map (ws : List Int) : (List.range ws.length).map (wAt ws) = ws := by
  refine List.ext_getElem? fun i => ?_
  by_cases h : i < ws.length
  · rw [wAt_get h]; simp [h]
  · simp [h]
/-- the facts -/
structure Facts (ws : List Int) (n : Nat) : Prop where
  len : (ansL ws n).length = ws.length
  good : goodB (ansL ws n) = true
  most : ∀ x ∈ ansL ws n, x ≤ (n : Int)
  pos : (ansL ws n).map (fun x => decide (0 < x)) = ws.map fun x => decide (0 < x)
  sum : ((List.range (ansL ws n).length).map fun l => wAt (ansL ws n) l * wAt ws l).sum = sumL ws n
theorem zero_of {ws : List Int} {n : Nat} (a : AskOk ws n) {w : Int} (h : w ∈ ws) (h0 : ¬ 0 < w) : w = 0 := by
  have := a.lo w h
  omega
theorem facts_one {ws : List Int} {n : Nat} (a : AskOk ws n) (h1 : (coinsL ws).length = 1) : Facts ws n := by
  have hn1 := a.n1
  have e : ansL ws n = ws.map fun w => if 0 < w then 1 else 0 := by rw [ansL, if_pos h1]
  have hu : (usedL ws).length = 1 := by rw [← coins_used]; exact h1
  have hused : usedL (ansL ws n) = [1] := by
    rw [e]
    unfold usedL at *
    rw [List.filter_map]
    have e2 : (ws.filter ((fun x => decide ((0 : Int) < x)) ∘ fun w => if 0 < w then 1 else 0)) = ws.filter fun x => decide (0 < x) := by
      refine (List.filter_congr fun x _ => ?_)
      by_cases q : 0 < x <;> simp [q]
    rw [e2]
    obtain ⟨w0, hw⟩ := List.length_eq_one_iff.mp hu
    have hw0 : 0 < w0 := by
      have : w0 ∈ ws.filter fun x => decide (0 < x) := by rw [hw]; simp
      exact of_decide_eq_true (List.mem_filter.mp this).2
    rw [hw]
    simp [hw0]
  refine ⟨by rw [e, List.length_map], ?_, fun x hx => ?_, ?_, ?_⟩
  · simp [goodB, hused]
  · rw [e] at hx
    obtain ⟨w, _, rfl⟩ := List.mem_map.mp hx
    split <;> omega
  · rw [e, List.map_map]
    refine (List.map_congr_left fun x _ => ?_)
    by_cases q : 0 < x <;> simp [q]
  · rw [sumL, if_pos h1]
    have hp : (wL ws).Perm (usedL ws) := by
      rw [← raw_fst]
      exact (coinsL_perm ws).map _
    have e3 : ∀ l : List Int, l.Perm (usedL ws) → l.sum = (usedL ws).sum := fun l h => sum_perm h
    rw [e3 _ hp]
    have e4 : (List.range (ansL ws n).length).map (fun l => wAt (ansL ws n) l * wAt ws l) = ws.map fun w => (if 0 < w then 1 else 0) * w := by
      have hl : (ansL ws n).length = ws.length := by rw [e, List.length_map]
      rw [hl]
      refine List.ext_getElem? fun i => ?_
      by_cases h : i < ws.length
      · have h2 : wAt (ansL ws n) i = if 0 < wAt ws i then 1 else 0 := by
          have h3 := wAt_get (ws := ansL ws n) (l := i) (by rw [hl]; exact h)
          rw [e, List.getElem?_map, wAt_get h] at h3
          rw [e]
          exact (Option.some.inj h3).symm
        rw [List.getElem?_map, List.getElem?_map, wAt_get h]
        simp [h, h2]
      · simp [h]
    rw [e4]
    have : ∀ l : List Int, (∀ w ∈ l, 0 ≤ w) → (l.map fun w => (if 0 < w then 1 else 0) * w).sum = (usedL l).sum := by
      intro l
      induction l with
      | nil => intro _; rfl
      | cons w l ih =>
        intro h
        have ih := ih fun x hx => h x (by simp [hx])
        have hw := h w (by simp)
        rw [List.map_cons, List.sum_cons, ih]
        unfold usedL
        by_cases q : 0 < w
        · rw [List.filter_cons_of_pos (by simpa using q)]
          simp [q]
        · rw [List.filter_cons_of_neg (by simpa using q)]
          simp [q]
    exact this ws fun w hw => (a.lo w hw).1
theorem facts_more {ws : List Int} {n : Nat} (a : AskOk ws n) (h1 : (coinsL ws).length ≠ 1) : Facts ws n := by
  have G := a.good h1
  have hn12 := a.n12
  have e : ansL ws n = cnts ws.length (tl (wL ws) n (letN ws) 0 n) := by rw [ansL, if_neg h1, a.letters h1]; rfl
  have G : Good (wL ws) n := G
  have nd := letN_nodup ws
  have hll : (letN ws).length = (wL ws).length := by rw [letN, wL, List.length_map, List.length_map]
  have hT : ∀ x ∈ tl (wL ws) n (letN ws) 0 n, x ∈ letN ws := fun x hx => tl_mem _ _ hx
  have hcnt : ∀ (i x : Nat), (letN ws)[i]? = some x → (tl (wL ws) n (letN ws) 0 n).count x = ln (wL ws) n 0 n i := fun i x h => count_tl nd h n 0
  have hpos : ∀ i, i < (wL ws).length → 1 ≤ ln (wL ws) n 0 n i := fun i hi => by
    obtain ⟨m, rfl⟩ : ∃ m, n = m + 1 := ⟨n - 1, by have := a.n1; omega⟩
    simp only [ln]
    rw [cd_zero G, if_pos hi]
    omega
  have hin : ∀ l, l ∈ letN ws → 1 ≤ (tl (wL ws) n (letN ws) 0 n).count l ∧ (tl (wL ws) n (letN ws) 0 n).count l ≤ n := fun l h => by
    obtain ⟨i, hi⟩ := List.mem_iff_getElem?.mp h
    rw [hcnt i l hi]
    exact ⟨hpos i (by rw [← hll]; exact (List.getElem?_eq_some_iff.mp hi).1), ln_le _ _ _⟩
  have hout : ∀ l, l ∉ letN ws → (tl (wL ws) n (letN ws) 0 n).count l = 0 := fun l h => List.count_eq_zero.mpr fun q => h (hT l q)
  have hsign : ∀ l, l < ws.length → (0 < (tl (wL ws) n (letN ws) 0 n).count l ↔ 0 < wAt ws l) := fun l hl => by
    by_cases q : l ∈ letN ws
    · have := hin l q
      have := (letN_mem.mp q).2
      omega
    · have := hout l q
      have q2 : ¬ 0 < wAt ws l := fun z => q (letN_mem.mpr ⟨hl, z⟩)
      omega
  have hlen : (ansL ws n).length = ws.length := by rw [e, cnts_len]
  refine ⟨hlen, ?_, fun x hx => ?_, ?_, ?_⟩
  · -- the sum
    have hk := kraft_all G (B := 12) hn12
    have hu : usedL (ansL ws n) = ((List.range ws.length).filter fun l => decide (0 < wAt ws l)).map fun l => ((tl (wL ws) n (letN ws) 0 n).count l : Int) := by
      rw [e]
      unfold usedL cnts
      rw [List.filter_map]
      congr 1
      refine List.filter_congr fun l hl => ?_
      have := hsign l (by simpa using hl)
      simp only [Function.comp_apply]
      rw [decide_eq_decide]
      omega
    have hs : ((usedL (ansL ws n)).map fun x => (4096 : Int) / 2 ^ x.toNat).sum = 4096 := by
      rw [hu, List.map_map]
      have e5 : (((List.range ws.length).filter fun l => decide (0 < wAt ws l)).map ((fun x : Int => (4096 : Int) / 2 ^ x.toNat) ∘ fun l => ((tl (wL ws) n (letN ws) 0 n).count l : Int))).sum = ((letN ws).map fun l => ((2 ^ (12 - (tl (wL ws) n (letN ws) 0 n).count l) : Nat) : Int)).sum := by
        have p := (letN_perm ws).map (fun l => ((2 ^ (12 - (tl (wL ws) n (letN ws) 0 n).count l) : Nat) : Int))
        rw [sum_perm p]
        congr 1
        refine List.map_congr_left fun l hl => ?_
        obtain ⟨h3, h4⟩ := List.mem_filter.mp hl
        have := hin l (letN_mem.mpr ⟨by simpa using h3, of_decide_eq_true h4⟩)
        simp only [Function.comp_apply, Int.toNat_natCast]
        generalize (tl (wL ws) n (letN ws) 0 n).count l = k at this
        have hk12 : k ≤ 12 := by omega
        have key : ∀ k : Fin 13, (4096 : Int) / 2 ^ k.1 = ((2 ^ (12 - k.1) : Nat) : Int) := by decide
        exact key ⟨k, by omega⟩
      rw [e5]
      have e6 := sumR_list (f := fun i => 2 ^ (12 - ln (wL ws) n 0 n i)) (lets := letN ws) (g := fun l => 2 ^ (12 - (tl (wL ws) n (letN ws) 0 n).count l)) (fun i x h => by rw [hcnt i x h])
      rw [hll, hk] at e6
      have e7 : ∀ l : List Nat, ((l.map fun l => ((2 ^ (12 - (tl (wL ws) n (letN ws) 0 n).count l) : Nat) : Int)).sum) = (((l.map fun l => 2 ^ (12 - (tl (wL ws) n (letN ws) 0 n).count l)).sum : Nat) : Int) := by
        intro l
        induction l with
        | nil => rfl
        | cons x l ih => simp only [List.map_cons, List.sum_cons, ih]; omega
      rw [e7, ← e6]
      rfl
    simp [goodB, hs]
  · rw [e] at hx
    obtain ⟨l, _, rfl⟩ := List.mem_map.mp hx
    by_cases q : l ∈ letN ws
    · have := (hin l q).2
      omega
    · rw [hout l q]
      omega
  · rw [e]
    unfold cnts
    rw [List.map_map]
    conv => rhs; rw [← range_map ws, List.map_map]
    refine List.map_congr_left fun l hl => ?_
    have := hsign l (by simpa using hl)
    simp only [Function.comp_apply]
    rw [decide_eq_decide]
    omega
  · rw [hlen, sumL, if_neg h1]
    have e8 : (List.range ws.length).map (fun l => wAt (ansL ws n) l * wAt ws l) = (List.range ws.length).map fun l => ((tl (wL ws) n (letN ws) 0 n).count l : Int) * wAt ws l := by
      refine List.map_congr_left fun l hl => ?_
      have hl' : l < ws.length := by simpa using hl
      have h3 := wAt_get (ws := ansL ws n) (l := l) (by rw [hlen]; exact hl')
      rw [e, cnts_get hl'] at h3
      rw [e, ← Option.some.inj h3]
    rw [e8, cnts_sum (fun x hx => (letN_mem.mp (hT x hx)).1), tl_sum G (letN_w ws) n 0 (by omega)]
    simp [md]
theorem facts {ws : List Int} {n : Nat} (a : AskOk ws n) : Facts ws n := by
  by_cases h : (coinsL ws).length = 1
  · exact facts_one a h
  · exact facts_more a h
end K2

namespace K2
open PySem PySem.Spec PyProof.Rows L2
/-! ### _law_all_right -/
theorem extN_seq {K : PySem.W.Frag} {H H' : Hp} {a : Addr} {xs : List V} (e : LamX.ExtN H H') (h : SqL K H a xs) : SqL K H' a xs := by
  rcases h with ((h | ⟨o, h⟩) | h)
  · exact .inl (.inl (e _ _ h fun _ z => by cases z))
  · exact .inl (.inr ⟨o, e _ _ h fun _ z => by cases z⟩)
  · exact .inr h
abbrev NAL : List Str := ["_law_script", "_law_k", "_law_weights_here", "_law_bound", "_law_found", "_law_many", "_law_one", "_law_at"]
theorem scAll : FnScope NAL ["_law_script"] (defScope sAll) := ⟨rfl, rfl, rfl, by decide +kernel, rfl, by decide +kernel, by decide +kernel⟩
section
variable {P : Program} {w : World} {K : PySem.W.Frag} {mg : Str → Option Value} {base : Heap}
def spAll (K : PySem.W.Frag) (T : List (Addr × Str)) : Sp := fun vs H Q _ => ∃ (p : Addr) (xs : List Int), vs = [.ref p] ∧ SqL K H p (xs.map V.int) ∧ LamX.Tabs T H ∧ ∀ H', Q (.bl true) H'
theorem ok_all {f fC fW fL fQ fG fS : Addr} {fd fdC fdW fdL fdQ fdG fdS : FuncData} {T : List (Addr × Str)} {j : Nat} (F : Fun K "_law_all_right" "_law_all_right" sAll f fd)
    (GC : FnOk P w K mg base CX0 (j + 1) fC fdC ["_law_script", "_law_k"] (K2.spCell K)) (bC : Binds K fdC ["_law_script", "_law_k"] []) (kC : PySem.W.keepIn K (.ref fC) = true) (gC : mg "_law_cell_at" = some (.ref fC))
    (GW : FnOk P w K mg base CX0 (j + 2) fW fdW ["_law_script", "_law_at"] (spWts K)) (bW : Binds K fdW ["_law_script", "_law_at"] []) (kW : PySem.W.keepIn K (.ref fW) = true) (gW : mg "_law_weights" = some (.ref fW))
    (GL : FnOk P w K mg base CX0 (j + 5) fL fdL ["weights", "bound"] (spLeast T)) (bL : Binds K fdL ["weights", "bound"] []) (kL : PySem.W.keepIn K (.ref fL) = true) (gL : mg "least_lengths" = some (.ref fL))
    (GQ : FnOk P w K mg base CX0 (j + 1) fQ fdQ ["_law_weights_here", "_law_bound"] spLL) (bQ : Binds K fdQ ["_law_weights_here", "_law_bound"] []) (kQ : PySem.W.keepIn K (.ref fQ) = true) (gQ : mg "_law_least_lengths" = some (.ref fQ))
    (GG : FnOk P w K mg base CX0 (j + 1) fG fdG ["_law_lengths"] spGood) (bG : Binds K fdG ["_law_lengths"] []) (kG : PySem.W.keepIn K (.ref fG) = true) (gG : mg "_law_good" = some (.ref fG))
    (GS : FnOk P w K mg base CX0 (j + 1) fS fdS ["_law_weights_here", "_law_bound"] spLS) (bS : Binds K fdS ["_law_weights_here", "_law_bound"] []) (kS : PySem.W.keepIn K (.ref fS) = true) (gS : mg "_law_least_sum" = some (.ref fS))
    (m1 : mg "len" = none) (m2 : mg "range" = none) (m3 : mg "max" = none) (m4 : mg "sum" = none) : FnOk P w K mg base CX0 (j + 6) f fd ["_law_script"] (spAll K T) := by
  refine F.ok scAll (fun vs H Q E h => ?_) (fun cdv A outer s H vs Q E hr h => ?_)
  · obtain ⟨p, xs, rfl, _⟩ := h
    rfl
  · obtain ⟨p, xs, rfl, hp, hT, q⟩ := h
    refine ⟨_, (pss_cons (ps_for PassesOwn.never rfl (pi_range1 (by rfl) m2 (pa_cons pe_int pa_nil)) (pg_name (i := 1) scAll.nd rfl (.inl rfl)) (pss_cons (ps_asg (pe_call GW (hr.mono (by omega)) (by rfl) gW kW bW .nil pass0 (pa_cons (pv 0) (pa_cons (pe_op op_mul pe_int (pv 1)) pa_nil))) (pg_tup (by rfl) (pgs_cons (pg_name (i := 2) scAll.nd rfl (.inr rfl)) (pgs_cons (pg_name (i := 3) scAll.nd rfl (.inl rfl)) pgs_nil)))) (pss_cons (ps_set (i := 4) scAll.nd rfl (.inr rfl) (pe_call GL (hr.mono (by omega)) (by rfl) gL kL bL .nil pass0 (pa_cons (pv 2) (pa_cons (pv 3) pa_nil)))) (pss_cons (ps_if (PW.pt (pw_or (pt_cmpR (op_neD hr.units) (pv 4) (pe_call GQ (hr.mono (by omega)) (by rfl) gQ kQ bQ .nil pass0 (pa_cons (pv 2) (pa_cons (pv 3) pa_nil))) (nomark _)) (pw_or (pt_not (pt_val (pe_call GG (hr.mono (by omega)) (by rfl) gG kG bG .nil pass0 (pa_cons (pv 4) pa_nil)))) (pw_or1 (pt_cmpR op_gt (pe_callB (cr_max rfl) (by rfl) m3 (by decide +kernel) (pa_cons (pv 4) pa_nil)) (pv 3) (nomark _)))))) (pss_one (ps_ret pe_bl)) pss_nil) (pss_cons (ps_if (pt_cmpR (op_neD hr.units) (pe_lc (own := [("_law_one", 6)]) (g := gName 6) (tt := tYes) rfl scAll.nd (pi_list (pv 4)) (blkOk_by (N := NAL) (sc := defScope sAll) (by decide +kernel)) (fun _ _ _ _ _ => (pg_name (i := 6) scAll.nd rfl (.inl rfl))) (fun _ _ _ _ _ => pts_nil) (fun _ _ _ _ _ => pe_cmpR op_gt (pv 6) pe_int (nomark _))) (pe_lc (own := [("_law_one", 6)]) (g := gName 6) (tt := tYes) rfl scAll.nd (pi_list (pv 2)) (blkOk_by (N := NAL) (sc := defScope sAll) (by decide +kernel)) (fun _ _ _ _ _ => (pg_name (i := 6) scAll.nd rfl (.inl rfl))) (fun _ _ _ _ _ => pts_nil) (fun _ _ _ _ _ => pe_cmpR op_gt (pv 6) pe_int (nomark _))) (nomark _)) (pss_one (ps_ret pe_bl)) pss_nil) (pss_one (ps_if (pt_cmpR op_ne (pe_callB (cr_sum rfl) (by rfl) m4 (by decide +kernel) (pa_cons (pe_lc (own := [("_law_at", 7)]) (g := gName 7) (tt := tYes) rfl scAll.nd (pi_range1 (by rfl) m2 (pa_cons (pe_callB call_len_seq (by rfl) m1 PySem.boot_len (pa_cons (pv 4) pa_nil)) pa_nil)) (blkOk_by (N := NAL) (sc := defScope sAll) (by decide +kernel)) (fun _ _ _ _ _ => (pg_name (i := 7) scAll.nd rfl (.inl rfl))) (fun _ _ _ _ _ => pts_nil) (fun _ _ _ _ _ => pe_op op_mul (pe_ix (ixL K) (pv 4) (pv 7) (fun _ _ => rfl)) (pe_ix (ixL K) (pv 2) (pv 7) (fun _ _ => rfl)))) pa_nil)) (pe_call GS (hr.mono (by omega)) (by rfl) gS kS bS .nil pass0 (pa_cons (pv 2) (pa_cons (pv 3) pa_nil))) (nomark _)) (pss_one (ps_ret pe_bl)) pss_nil))))))) (pss_cons (ps_set (i := 5) scAll.nd rfl (.inl rfl) (pe_op op_add pe_int (pe_op op_modN (pe_call GC (hr.mono (by omega)) (by rfl) gC kC bC .nil pass0 (pa_cons (pv 0) (pa_cons pe_int pa_nil))) pe_int))) (pss_cons (ps_set (i := 2) scAll.nd rfl (.inr rfl) (pe_lc (own := [("_law_at", 7)]) (g := gName 7) (tt := tYes) rfl scAll.nd (pi_range1 (by rfl) m2 (pa_cons (pv 5) pa_nil)) (blkOk_by (N := NAL) (sc := defScope sAll) (by decide +kernel)) (fun _ _ _ _ _ => (pg_name (i := 7) scAll.nd rfl (.inl rfl))) (fun _ _ _ _ _ => pts_nil) (fun _ _ _ _ _ => (pe_op op_mul (pe_op op_modN (pe_call GC (hr.mono (by omega)) (by rfl) gC kC bC .nil pass0 (pa_cons (pv 0) (pa_cons (pe_op op_add pe_int (pv 7)) pa_nil))) pe_int) (pe_op op_modN (pe_op op_fdivN (pe_call GC (hr.mono (by omega)) (by rfl) gC kC bC .nil pass0 (pa_cons (pv 0) (pa_cons (pe_op op_add pe_int (pv 7)) pa_nil))) pe_int) pe_int))))) (pss_cons (ps_asg pe_int (pg_sub (pv 2) pe_int set_list)) (pss_one (ps_ret (pe_cmpR (op_eqD hr.units) (pe_call GL (hr.mono (by omega)) (by rfl) gL kL bL .nil pass0 (pa_cons (pv 2) (pa_cons pe_int pa_nil))) (pe_call GQ (hr.mono (by omega)) (by rfl) gQ kQ bQ .nil pass0 (pa_cons (pv 2) (pa_cons pe_int pa_nil))) (nomark _)))))))), ?_⟩
    refine ⟨4, rfl, by decide, by decide, ?_⟩
    refine for_range (lo := 0) (n := 4) (fun i σ H' => ∃ (y1 y2 y3 y4 : Option V), σ = [some (.ref p), y1, y2, y3, y4, none, none, none] ∧ LamX.ExtN H H' ∧ LamX.Tabs T H')
      ⟨none, none, none, none, rfl, LamX.ExtN.refl H, hT⟩ (fun i σ H' hi h => ?_) (fun σ H' h => ?_)
    · obtain ⟨y1, y2, y3, y4, rfl, eN0, hT0⟩ := h
      have hp0 := extN_seq eN0 hp
      refine ⟨_, rfl, _, rfl, _, _, rfl, rfl, .inl ⟨by decide, by decide⟩, p, xs, 16 * i, ?_, hp0, by omega, fun H1 t pf ws n sm1 ht hpf hask => ?_⟩
      · show [V.ref p, V.int (16 * (0 + (i : Int)))] = _
        rw [show (16 : Int) * (0 + (i : Int)) = ((16 * i : Nat) : Int) by omega]
      refine ⟨t, _, rfl, .inl (.inl ht), rfl, .ref pf, [.int (n : Int)], rfl, .int (n : Int), [], rfl, rfl, ?_⟩
      have hT1 := tabs_same hT0 sm1
      refine ⟨_, rfl, _, rfl, pf, ws, n, rfl, hpf, hask, hT1, fun H2 qf eN2 hT2 hqf => ?_⟩
      have hpf2 : H2 pf = some (.lst (ws.map V.int)) := eN2 _ _ hpf fun _ z => by cases z
      have fa := facts hask
      have hlen := hask.len
      have hfl := fa.len
      have fgood := fa.good
      have fmost := fa.most
      have fpos := fa.pos
      have fsum := fa.sum
      clear fa
      have eN02 : LamX.ExtN H H2 := (eN0.trans (extN_same sm1)).trans eN2
      generalize hans : ansL ws n = fo at *
      -- the same as by packages
      refine ⟨_, rfl, _, rfl, _, rfl, pf, ws, n, rfl, hpf2, hask, fun H3 q3 sm3 hq3 => ?_⟩
      rw [hans] at hq3
      have hqf3 := sm3 _ _ hqf
      refine ⟨_, _, .lst (.inl (.inl hqf3)) (dp_ints fo), .lst (.inl (.inl hq3)) (dp_ints fo), shaped_intsQ fo, shaped_intsQ fo, ?_⟩
      rw [eqv_ints, decide_eq_true rfl]
      refine ⟨_, rfl, iteF ?_⟩
      -- good
      refine ⟨_, rfl, qf, fo, rfl, hqf3, by omega, fun H4 sm4 => ?_⟩
      rw [fgood]
      refine ⟨_, rfl, iteF ?_⟩
      -- none longer
      have hqf4 := sm4 _ _ hqf3
      refine ⟨_, rfl, qf, fo, rfl, .inl (.inl hqf4), by omega, fun m hm hle => ?_⟩
      have hmn := fmost m hm
      refine ⟨_, rfl, _, _, rfl, rfl, _, rfl, ?_⟩
      rw [decide_eq_false (show ¬ ((n : Int) < m) by omega)]
      refine iteF ?_
      have hpf4 := sm4 _ _ (sm3 _ _ hpf2)
      have eN04 : LamX.ExtN H H4 := (eN02.trans (extN_same sm3)).trans (extN_same sm4)
      have hT4 := tabs_same (tabs_same hT2 sm3) sm4
      -- for just the letters with weight
      refine ⟨_, rfl, qf, rfl, ⟨_, .inl (.inl hqf4)⟩, fun D nD => ?_⟩
      refine lc_list (K := K) (a := qf) (xs := fo.map V.int) (fun i H' => Same H4 H' ∧ H' D = some (.lst (((fo.take i).map fun x => decide (0 < x)).map V.bl))) ⟨same_upd nD, upd_same⟩ (fun i H' _ h => .inl (.inl (h.1 _ _ hqf4))) (fun i x H5 hx h => ?_) (fun H5 h => ?_)
      · obtain ⟨x, rfl, hx'⟩ := int_of hx
        refine ⟨rfl, yes ?_⟩
        refine ⟨_, rfl, _, _, rfl, rfl, _, h.2, ?_, same_put h.1 nD, ?_⟩
        · rw [List.length_map, List.length_map, List.length_take]
          exact small1000 (by omega)
        · rw [upd_same, List.take_add_one, hx', List.map_append, List.map_append]
          rfl
      obtain ⟨sm5, hD⟩ := h
      rw [List.length_map, List.take_length] at hD
      have hpf5 := sm5 _ _ hpf4
      refine ⟨_, rfl, pf, rfl, ⟨_, .inl (.inl hpf5)⟩, fun D2 nD2 => ?_⟩
      refine lc_list (K := K) (a := pf) (xs := ws.map V.int) (fun i H' => Same H5 H' ∧ H' D2 = some (.lst (((ws.take i).map fun x => decide (0 < x)).map V.bl))) ⟨same_upd nD2, upd_same⟩ (fun i H' _ h => .inl (.inl (h.1 _ _ hpf5))) (fun i x H6 hx h => ?_) (fun H6 h => ?_)
      · obtain ⟨x, rfl, hx'⟩ := int_of hx
        refine ⟨rfl, yes ?_⟩
        refine ⟨_, rfl, _, _, rfl, rfl, _, h.2, ?_, same_put h.1 nD2, ?_⟩
        · rw [List.length_map, List.length_map, List.length_take]
          exact small1000 (by omega)
        · rw [upd_same, List.take_add_one, hx', List.map_append, List.map_append]
          rfl
      obtain ⟨sm6, hD2⟩ := h
      rw [List.length_map, List.take_length, ← fpos] at hD2
      refine ⟨_, _, .lst (.inl (.inl (sm6 _ _ hD))) (dp_bools _), .lst (.inl (.inl hD2)) (dp_bools _), shaped_bools _, shaped_bools _, ?_⟩
      rw [eqv_bools, decide_eq_true rfl]
      refine ⟨_, rfl, iteF ?_⟩
      -- the sum
      have hqf6 := sm6 _ _ (sm5 _ _ hqf4)
      have hpf6 := sm6 _ _ hpf5
      refine ⟨_, rfl, qf, _, rfl, .inl (.inl (.inl hqf6)), _, rfl, ?_, ?_, fun D3 nD3 => ?_⟩
      · rw [List.length_map]; omega
      · rw [List.length_map]; omega
      refine lc_range (lo := 0) (n := ((fo.map V.int).length : Int).toNat) (fun i H' => Same H6 H' ∧ H' D3 = some (.lst (((List.range i).map fun l => wAt fo l * wAt ws l).map V.int))) ⟨same_upd nD3, upd_same⟩ (fun i H7 hi h => ?_) (fun H7 h => ?_)
      · rw [List.length_map, Int.toNat_natCast] at hi
        have g1 : (fo.map V.int)[i]? = some (.int (wAt fo i)) := by rw [List.getElem?_map, wAt_get hi]; rfl
        have g2 : (ws.map V.int)[i]? = some (.int (wAt ws i)) := by rw [List.getElem?_map, wAt_get (by omega)]; rfl
        have hb2 := hask.lo (wAt ws i) (List.mem_of_getElem? (wAt_get (show i < ws.length by omega)))
        have e0 : (0 : Int) + (i : Int) = ((i : Nat) : Int) := by omega
        refine ⟨rfl, yes ?_⟩
        refine ⟨_, rfl, _, rfl, qf, _, _, _, rfl, rfl, .inl (.inl (h.1 _ _ hqf6)), (by rw [e0]; exact atI_nat g1), _, rfl, _, rfl, pf, _, _, _, rfl, rfl, .inl (.inl (h.1 _ _ hpf6)), (by rw [e0]; exact atI_nat g2), _, _, rfl, rfl, .inr ⟨by omega, by omega⟩, _, h.2, ?_, same_put h.1 nD3, ?_⟩
        · rw [List.length_map, List.length_map, List.length_range]
          exact small1000 (by omega)
        · rw [upd_same, List.range_succ, List.map_append, List.map_append]
          rfl
      obtain ⟨sm7, hD3⟩ := h
      rw [List.length_map, Int.toNat_natCast] at hD3
      refine ⟨D3, _, rfl, .inl (.inl hD3), _, rfl, _, rfl, pf, ws, n, rfl, sm7 _ _ hpf6, hask, fun H8 sm8 => ?_⟩
      rw [fsum]
      refine ⟨rfl, _, rfl, ?_⟩
      refine iteNS rfl ?_
      exact ⟨_, _, _, _, rfl, (((eN04.trans (extN_same sm5)).trans (extN_same sm6)).trans (extN_same sm7)).trans (extN_same sm8), tabs_same (tabs_same (tabs_same (tabs_same hT4 sm5) sm6) sm7) sm8⟩
    · obtain ⟨y1, y2, y3, y4, rfl, eN0, hT0⟩ := h
      have hp0 := extN_seq eN0 hp
      -- many
      refine ⟨_, rfl, p, xs, 64, rfl, hp0, by decide, fun H1 sm1 => ⟨_, _, rfl, rfl, (by show (299 : Int) ≠ 0; decide), _, _, rfl, rfl, ?_⟩⟩
      have hm9 := fmod_in (a := cellAt xs 64) (l := 299) (by decide)
      obtain ⟨mm, hmm⟩ : ∃ mm : Nat, 2 + (cellAt xs 64).fmod 299 = (mm : Int) := ⟨(2 + (cellAt xs 64).fmod 299).toNat, by omega⟩
      have hmb : 2 ≤ mm ∧ mm ≤ 300 := by omega
      have hp1 := extN_seq (extN_same sm1) hp0
      have hT1 := tabs_same hT0 sm1
      have eN1 := eN0.trans (extN_same sm1)
      refine ⟨_, rfl, _, rfl, (by show -(2 ^ 62) ≤ 2 + (cellAt xs 64).fmod 299; omega), (by show 2 + (cellAt xs 64).fmod 299 < 2 ^ 62; omega), fun D nD => ?_⟩
      refine lc_range (lo := 0) (n := (2 + (cellAt xs 64).fmod 299).toNat) (fun i H' => Same H1 H' ∧ ∃ ws : List Int, H' D = some (.lst (ws.map V.int)) ∧ ws.length = i ∧ ∀ w ∈ ws, 0 ≤ w ∧ w ≤ 1000000) ⟨same_upd nD, [], upd_same, rfl, fun w h => by simp at h⟩ (fun i H7 hi h => ?_) (fun H7 h => ?_)
      · rw [hmm, Int.toNat_natCast] at hi
        obtain ⟨sm, ws, hD, hwl, hws⟩ := h
        have e0 : ([V.ref p, V.int (65 + (0 + (i : Int)))] : List V) = [V.ref p, V.int ((65 + i : Nat) : Int)] := by rw [show (65 : Int) + (0 + (i : Int)) = ((65 + i : Nat) : Int) by omega]
        refine ⟨rfl, yes ?_⟩
        refine ⟨_, rfl, _, rfl, _, _, rfl, rfl, p, xs, 65 + i, e0, sm.seq hp1, by omega, fun H8 sm8 => ⟨_, _, rfl, rfl, (by show (50 : Int) ≠ 0; decide), ?_⟩⟩
        refine ⟨_, rfl, _, rfl, _, _, rfl, rfl, p, xs, 65 + i, e0, (sm.trans sm8).seq hp1, by omega, fun H9 sm9 => ⟨_, _, rfl, rfl, ⟨by decide, by decide⟩, _, _, rfl, rfl, (by show (3 : Int) ≠ 0; decide), ?_⟩⟩
        have f1 := fmod_in (a := cellAt xs (65 + i)) (l := 50) (by decide)
        have f2 := fmod_in (a := (cellAt xs (65 + i)).fdiv 50) (l := 3) (by decide)
        have hD9 := sm9 _ _ (sm8 _ _ hD)
        have f3 : 0 ≤ (cellAt xs (65 + i)).fmod 50 * ((cellAt xs (65 + i)).fdiv 50).fmod 3 ∧ (cellAt xs (65 + i)).fmod 50 * ((cellAt xs (65 + i)).fdiv 50).fmod 3 ≤ 1000000 := by
          refine ⟨Int.mul_nonneg f1.1 f2.1, Int.le_trans (Int.mul_le_mul_of_nonneg_left (show ((cellAt xs (65 + i)).fdiv 50).fmod 3 ≤ 3 by omega) f1.1) (by omega)⟩
        refine ⟨_, _, rfl, rfl, .inr ⟨by omega, by omega⟩, _, hD9, ?_, same_put ((sm.trans sm8).trans sm9) nD, ws ++ [(cellAt xs (65 + i)).fmod 50 * ((cellAt xs (65 + i)).fdiv 50).fmod 3], ?_, by simp [hwl], fun w hw => ?_⟩
        · rw [List.length_map, hwl]
          exact small1000 (by omega)
        · rw [upd_same, List.map_append]
          rfl
        · rcases List.mem_append.mp hw with h | h
          · exact hws w h
          · rw [List.mem_singleton.mp h]
            exact f3
      · obtain ⟨sm7, ws, hD, hwl, hws⟩ := h
        rw [hmm, Int.toNat_natCast] at hwl
        refine ⟨_, rfl, D, _, 0, 0, rfl, rfl, hD, ?_, ?_⟩
        · rw [List.length_map]
          unfold ixN
          rw [if_pos (by decide), if_pos (by omega)]
          rfl
        · have hD8 : (upd H7 D (.lst ((ws.map V.int).set 0 (.int 3)))) D = some (.lst ((ws.set 0 3).map V.int)) := by rw [upd_same, List.map_set]
          have hT8 : LamX.Tabs T (upd H7 D (.lst ((ws.map V.int).set 0 (.int 3)))) := tabs_put (tabs_same hT1 sm7) hD
          have hask : AskOk (ws.set 0 3) 12 := by
            refine ⟨fun w hw => ?_, by rw [List.length_set]; omega, ?_, ?_, by decide, by decide⟩
            · rcases List.mem_or_eq_of_mem_set hw with h | h
              · exact hws w h
              · rw [h]; decide
            · rw [coins_used]
              refine List.length_pos_iff.mpr (List.ne_nil_of_mem (a := 3) (List.mem_filter.mpr ⟨List.mem_iff_getElem?.mpr ⟨0, by rw [List.getElem?_set_self (by omega)]⟩, by decide⟩))
            · have h1 := coins_len (ws.set 0 3)
              rw [List.length_set] at h1
              exact Nat.le_trans (show _ ≤ 300 by omega) (by decide)
          generalize upd H7 D (.lst ((ws.map V.int).set 0 (.int 3))) = H8 at *
          generalize ws.set 0 3 = wt at *
          refine ⟨_, rfl, D, wt, 12, rfl, hD8, hask, hT8, fun H9 q9 eN9 hT9 hq9 => ?_⟩
          have hD9 : H9 D = some (.lst (wt.map V.int)) := eN9 _ _ hD8 fun _ z => by cases z
          refine ⟨_, rfl, D, wt, 12, rfl, hD9, hask, fun H10 q10 sm10 hq10 => ?_⟩
          refine ⟨_, _, .lst (.inl (.inl (sm10 _ _ hq9))) (dp_ints _), .lst (.inl (.inl hq10)) (dp_ints _), shaped_intsQ _, shaped_intsQ _, ?_⟩
          rw [eqv_ints, decide_eq_true rfl]
          exact q H10
end
end K2

namespace K2
open PySem PySem.Spec PyProof.Rows L2
/-! ### law -/
theorem scLaw : FnScope ["_law_script"] ["_law_script"] (defScope sLaw) := ⟨rfl, rfl, rfl, by decide +kernel, rfl, by decide +kernel, by decide +kernel⟩
section
variable {P : Program} {w : World} {K : PySem.W.Frag} {mg : Str → Option Value} {base : Heap}
theorem ok_law {f fA : Addr} {fd fdA : FuncData} {T : List (Addr × Str)} {j : Nat} (F : Fun K "law" "law" sLaw f fd)
    (GA : FnOk P w K mg base CX0 (j + 6) fA fdA ["_law_script"] (spAll K T)) (bA : Binds K fdA ["_law_script"] []) (kA : PySem.W.keepIn K (.ref fA) = true) (gA : mg "_law_all_right" = some (.ref fA)) : FnOk P w K mg base CX0 (j + 7) f fd ["_law_script"] (spAll K T) := by
  refine F.ok scLaw (fun vs H Q E h => ?_) (fun cdv A outer s H vs Q E hr h => ?_)
  · obtain ⟨p, xs, rfl, _⟩ := h
    rfl
  · refine ⟨_, pss_one (ps_try_thru0 (pss_one (ps_ret (pe_call GA hr (by rfl) gA kA bA .nil pass0 (pa_cons (pv 0) pa_nil))))), ?_⟩
    obtain ⟨p, xs, rfl, hp, hT, q⟩ := h
    exact ⟨_, rfl, p, xs, rfl, hp, hT, q⟩
end
/-! ### what the top has written -/
theorem all_mk {l : PySem.W.OpenLaw} {w : World} {K : PySem.W.Frag} {h : Heap} {mg : Str → Option Value} {fa : Addr} (X : K.In h) (G : h.Ns mainGlobals mg) (hfa : mg "law" = some (.ref fa))
    {f0 f1 f2 f3 f4 f5 f6 f7 f8 f9 f10 f11 f12 f13 f14 f15 cL PT : Addr} {od0 an0 od1 an1 od2 an2 od3 an3 od4 an4 od5 an5 od6 an6 od7 an7 od8 an8 od9 an9 od10 an10 od11 an11 od12 an12 od13 an13 od14 an14 od15 an15 : Option Addr} {sl0 sl1 sl2 sl3 sl4 sl5 sl6 sl7 sl8 sl9 sl10 sl11 sl12 sl13 sl14 sl15 : Array (Option Value)} {oc0 kV0 dc0 pm0 ct0 oc1 kV1 dc1 pm1 ct1 oc2 kV2 dc2 pm2 ct2 oc3 kV3 dc3 pm3 ct3 oc4 kV4 dc4 pm4 ct4 oc5 kV5 dc5 pm5 ct5 oc6 kV6 dc6 pm6 ct6 oc7 kV7 dc7 pm7 ct7 oc8 kV8 dc8 pm8 ct8 oc9 kV9 dc9 pm9 ct9 oc10 kV10 dc10 pm10 ct10 oc11 kV11 dc11 pm11 ct11 oc12 kV12 dc12 pm12 ct12 oc13 kV13 dc13 pm13 ct13 oc14 kV14 dc14 pm14 ct14 oc15 kV15 dc15 pm15 ct15 : Value} {cd0 cd1 cd2 cd3 cd5 cd6 cd7 cd8 cd9 cd10 cd11 cd12 cd13 cd14 cd15 : Value} {t0 t1 t2 t3 t4 : Tok}
    (a0 : PySem.W.nsIn K mainGlobals "is_number" = some (some (.ref f0))) (l0 : K.lookup f0 = some ⟨oc0, od0, .func (PySem.W.fnOf "is_number" "is_number" (defArgs sIsNum) (defBody sIsNum) (defScope sIsNum) .none kV0 dc0 pm0 an0 cd0 ct0), sl0⟩) (c0 : PySem.W.codeIn K cd0 "is_number" = true) (k0 : PySem.W.keepIn K (.ref f0) = true)
    (a1 : PySem.W.nsIn K mainGlobals "are_numbers" = some (some (.ref f1))) (l1 : K.lookup f1 = some ⟨oc1, od1, .func (PySem.W.fnOf "are_numbers" "are_numbers" (defArgs sAreNum) (defBody sAreNum) (defScope sAreNum) .none kV1 dc1 pm1 an1 cd1 ct1), sl1⟩) (c1 : PySem.W.codeIn K cd1 "are_numbers" = true) (k1 : PySem.W.keepIn K (.ref f1) = true)
    (a2 : PySem.W.nsIn K mainGlobals "are_by_letters" = some (some (.ref f2))) (l2 : K.lookup f2 = some ⟨oc2, od2, .func (PySem.W.fnOf "are_by_letters" "are_by_letters" (defArgs sByLet) (defBody sByLet) (defScope sByLet) .none kV2 dc2 pm2 an2 cd2 ct2), sl2⟩) (c2 : PySem.W.codeIn K cd2 "are_by_letters" = true) (k2 : PySem.W.keepIn K (.ref f2) = true)
    (a3 : PySem.W.nsIn K mainGlobals "least_lengths" = some (some (.ref f3))) (l3 : K.lookup f3 = some ⟨oc3, od3, .func (PySem.W.fnOf "least_lengths" "least_lengths" (defArgs sLeast) (defBody sLeast) (defScope sLeast) .none kV3 dc3 pm3 an3 cd3 ct3), sl3⟩) (c3 : PySem.W.codeIn K cd3 "least_lengths" = true) (k3 : PySem.W.keepIn K (.ref f3) = true)
    (a4 : PySem.W.nsIn K mainGlobals "levels_of" = some (some (.ref f4))) (l4 : K.lookup f4 = some ⟨oc4, od4, .func (PySem.W.fnOf "levels_of" "levels_of" (defArgs sLevels) (defBody sLevels) (defScope sLevels) .none kV4 dc4 pm4 an4 (.ref cL) ct4), sl4⟩) (c4 : PySem.W.codeIn K (.ref cL) "levels_of" = true) (k4 : PySem.W.keepIn K (.ref f4) = true)
    (a5 : PySem.W.nsIn K mainGlobals "packages_of" = some (some (.ref f5))) (l5 : K.lookup f5 = some ⟨oc5, od5, .func (PySem.W.fnOf "packages_of" "packages_of" (defArgs sPacks) (defBody sPacks) (defScope sPacks) .none kV5 dc5 pm5 an5 cd5 ct5), sl5⟩) (c5 : PySem.W.codeIn K cd5 "packages_of" = true) (k5 : PySem.W.keepIn K (.ref f5) = true)
    (a6 : PySem.W.nsIn K mainGlobals "taken_coins" = some (some (.ref f6))) (l6 : K.lookup f6 = some ⟨oc6, od6, .func (PySem.W.fnOf "taken_coins" "taken_coins" (defArgs sTaken) (defBody sTaken) (defScope sTaken) .none kV6 dc6 pm6 an6 cd6 ct6), sl6⟩) (c6 : PySem.W.codeIn K cd6 "taken_coins" = true) (k6 : PySem.W.keepIn K (.ref f6) = true)
    (a7 : PySem.W.nsIn K mainGlobals "_law_cell_at" = some (some (.ref f7))) (l7 : K.lookup f7 = some ⟨oc7, od7, .func (PySem.W.fnOf "_law_cell_at" "_law_cell_at" (defArgs sCell) (defBody sCell) (defScope sCell) .none kV7 dc7 pm7 an7 cd7 ct7), sl7⟩) (c7 : PySem.W.codeIn K cd7 "_law_cell_at" = true) (k7 : PySem.W.keepIn K (.ref f7) = true)
    (a8 : PySem.W.nsIn K mainGlobals "_law_numbers" = some (some (.ref f8))) (l8 : K.lookup f8 = some ⟨oc8, od8, .func (PySem.W.fnOf "_law_numbers" "_law_numbers" (defArgs sNums) (defBody sNums) (defScope sNums) .none kV8 dc8 pm8 an8 cd8 ct8), sl8⟩) (c8 : PySem.W.codeIn K cd8 "_law_numbers" = true) (k8 : PySem.W.keepIn K (.ref f8) = true)
    (a9 : PySem.W.nsIn K mainGlobals "_law_good" = some (some (.ref f9))) (l9 : K.lookup f9 = some ⟨oc9, od9, .func (PySem.W.fnOf "_law_good" "_law_good" (defArgs sGood) (defBody sGood) (defScope sGood) .none kV9 dc9 pm9 an9 cd9 ct9), sl9⟩) (c9 : PySem.W.codeIn K cd9 "_law_good" = true) (k9 : PySem.W.keepIn K (.ref f9) = true)
    (a10 : PySem.W.nsIn K mainGlobals "_law_least_lengths" = some (some (.ref f10))) (l10 : K.lookup f10 = some ⟨oc10, od10, .func (PySem.W.fnOf "_law_least_lengths" "_law_least_lengths" (defArgs sLLeast) (defBody sLLeast) (defScope sLLeast) .none kV10 dc10 pm10 an10 cd10 ct10), sl10⟩) (c10 : PySem.W.codeIn K cd10 "_law_least_lengths" = true) (k10 : PySem.W.keepIn K (.ref f10) = true)
    (a11 : PySem.W.nsIn K mainGlobals "_law_least_sum" = some (some (.ref f11))) (l11 : K.lookup f11 = some ⟨oc11, od11, .func (PySem.W.fnOf "_law_least_sum" "_law_least_sum" (defArgs sLSum) (defBody sLSum) (defScope sLSum) .none kV11 dc11 pm11 an11 cd11 ct11), sl11⟩) (c11 : PySem.W.codeIn K cd11 "_law_least_sum" = true) (k11 : PySem.W.keepIn K (.ref f11) = true)
    (a12 : PySem.W.nsIn K mainGlobals "_law_weights" = some (some (.ref f12))) (l12 : K.lookup f12 = some ⟨oc12, od12, .func (PySem.W.fnOf "_law_weights" "_law_weights" (defArgs sWts) (defBody sWts) (defScope sWts) .none kV12 dc12 pm12 an12 cd12 ct12), sl12⟩) (c12 : PySem.W.codeIn K cd12 "_law_weights" = true) (k12 : PySem.W.keepIn K (.ref f12) = true)
    (a13 : PySem.W.nsIn K mainGlobals "_law_all_right" = some (some (.ref f13))) (l13 : K.lookup f13 = some ⟨oc13, od13, .func (PySem.W.fnOf "_law_all_right" "_law_all_right" (defArgs sAll) (defBody sAll) (defScope sAll) .none kV13 dc13 pm13 an13 cd13 ct13), sl13⟩) (c13 : PySem.W.codeIn K cd13 "_law_all_right" = true) (k13 : PySem.W.keepIn K (.ref f13) = true)
    (a14 : PySem.W.nsIn K mainGlobals "law" = some (some (.ref f14))) (l14 : K.lookup f14 = some ⟨oc14, od14, .func (PySem.W.fnOf "law" "law" (defArgs sLaw) (defBody sLaw) (defScope sLaw) .none kV14 dc14 pm14 an14 cd14 ct14), sl14⟩) (c14 : PySem.W.codeIn K cd14 "law" = true) (k14 : PySem.W.keepIn K (.ref f14) = true)
    (a15 : PySem.W.nsIn K mainGlobals "is_whole" = some (some (.ref f15))) (l15 : K.lookup f15 = some ⟨oc15, od15, .func (PySem.W.fnOf "is_whole" "is_whole" (defArgs sWhole) (defBody sWhole) (defScope sWhole) .none kV15 dc15 pm15 an15 cd15 ct15), sl15⟩) (c15 : PySem.W.codeIn K cd15 "is_whole" = true) (k15 : PySem.W.keepIn K (.ref f15) = true)
    (z0 : PySem.W.nsIn K mainGlobals "isinstance" = some none)
    (z1 : PySem.W.nsIn K mainGlobals "bool" = some none)
    (z2 : PySem.W.nsIn K mainGlobals "int" = some none)
    (z3 : PySem.W.nsIn K mainGlobals "list" = some none)
    (z4 : PySem.W.nsIn K mainGlobals "all" = some none)
    (z5 : PySem.W.nsIn K mainGlobals "len" = some none)
    (z6 : PySem.W.nsIn K mainGlobals "range" = some none)
    (z7 : PySem.W.nsIn K mainGlobals "sorted" = some none)
    (z8 : PySem.W.nsIn K mainGlobals "enumerate" = some none)
    (z9 : PySem.W.nsIn K mainGlobals "reversed" = some none)
    (z10 : PySem.W.nsIn K mainGlobals "sum" = some none)
    (z11 : PySem.W.nsIn K mainGlobals "min" = some none)
    (z12 : PySem.W.nsIn K mainGlobals "max" = some none)
    (v0 : PySem.W.nsIn K mainGlobals "FEWEST_LETTERS" = some (some (.int (2) t0)))
    (v1 : PySem.W.nsIn K mainGlobals "MOST_LETTERS" = some (some (.int (300) t1)))
    (v2 : PySem.W.nsIn K mainGlobals "LONGEST" = some (some (.int (12) t2)))
    (v3 : PySem.W.nsIn K mainGlobals "HEAVIEST" = some (some (.int (1000000) t3)))
    (v4 : PySem.W.nsIn K mainGlobals "PACKAGE" = some (some (.int (-1) t4)))
    (ht : h.get? PT = some { cls := .none, data := .fields #[] }) (nt : K.lookup PT = none) (hc : PySem.W.CodeHd h cL PT) : LamX.LawAtS l w K CX0 7 63 "_law_script" mg fa h := by
  have e := hfa.symm.trans (PySem.W.mg_of X G a14)
  cases e
  have F0 := fun_mk (st := sIsNum) l0 c0 k0
  have F1 := fun_mk (st := sAreNum) l1 c1 k1
  have F2 := fun_mk (st := sByLet) l2 c2 k2
  have F3 := fun_mk (st := sLeast) l3 c3 k3
  have F4 := fun_mk (st := sLevels) l4 c4 k4
  have F5 := fun_mk (st := sPacks) l5 c5 k5
  have F6 := fun_mk (st := sTaken) l6 c6 k6
  have F7 := fun_mk (st := sCell) l7 c7 k7
  have F8 := fun_mk (st := sNums) l8 c8 k8
  have F9 := fun_mk (st := sGood) l9 c9 k9
  have F10 := fun_mk (st := sLLeast) l10 c10 k10
  have F11 := fun_mk (st := sLSum) l11 c11 k11
  have F12 := fun_mk (st := sWts) l12 c12 k12
  have F13 := fun_mk (st := sAll) l13 c13 k13
  have F14 := fun_mk (st := sLaw) l14 c14 k14
  have F15 := fun_mk (st := sWhole) l15 c15 k15
  have b15 := F15.binds (ps := ["told"]) fun _ _ _ _ _ _ us hl => match us, hl with | [_], _ => rfl
  have b0 := F0.binds (ps := ["told", "least", "most"]) fun _ _ _ _ _ _ us hl => match us, hl with | [_, _, _], _ => rfl
  have b1 := F1.binds (ps := ["told", "least", "most"]) fun _ _ _ _ _ _ us hl => match us, hl with | [_, _, _], _ => rfl
  have b2 := F2.binds (ps := ["told", "most"]) fun _ _ _ _ _ _ us hl => match us, hl with | [_, _], _ => rfl
  have b3 := F3.binds (ps := ["weights", "bound"]) fun _ _ _ _ _ _ us hl => match us, hl with | [_, _], _ => rfl
  have b4 := F4.binds (ps := ["coins", "bound"]) fun _ _ _ _ _ _ us hl => match us, hl with | [_, _], _ => rfl
  have b5 := F5.binds (ps := ["level"]) fun _ _ _ _ _ _ us hl => match us, hl with | [_], _ => rfl
  have b6 := F6.binds (ps := ["levels"]) fun _ _ _ _ _ _ us hl => match us, hl with | [_], _ => rfl
  have b7 := F7.binds (ps := ["_law_script", "_law_k"]) fun _ _ _ _ _ _ us hl => match us, hl with | [_, _], _ => rfl
  have b8 := F8.binds (ps := ["_law_cell", "_law_limits"]) fun _ _ _ _ _ _ us hl => match us, hl with | [_, _], _ => rfl
  have b9 := F9.binds (ps := ["_law_lengths"]) fun _ _ _ _ _ _ us hl => match us, hl with | [_], _ => rfl
  have b10 := F10.binds (ps := ["_law_weights_here", "_law_bound"]) fun _ _ _ _ _ _ us hl => match us, hl with | [_, _], _ => rfl
  have b11 := F11.binds (ps := ["_law_weights_here", "_law_bound"]) fun _ _ _ _ _ _ us hl => match us, hl with | [_, _], _ => rfl
  have b12 := F12.binds (ps := ["_law_script", "_law_at"]) fun _ _ _ _ _ _ us hl => match us, hl with | [_, _], _ => rfl
  have b13 := F13.binds (ps := ["_law_script"]) fun _ _ _ _ _ _ us hl => match us, hl with | [_], _ => rfl
  refine ⟨PySem.W.fnOf "law" "law" (defArgs sLaw) (defBody sLaw) (defScope sLaw) .none kV14 dc14 pm14 an14 cd14 ct14, [(cL, PT)], spAll K [(PT, "levels_of.<locals>.<lambda>")], fun p hp => ?_, fun p hp => ?_, fun p hp => ?_, fun s v => .of_eq rfl, fun H a ns hl hb hT hS => ⟨a, ns, rfl, hS, fun p hp => ?_, fun _ => rfl⟩, fun base _ _ hTB => ?_⟩
  · rw [List.mem_singleton.mp hp]; exact ht
  · rw [List.mem_singleton.mp hp]; exact nt
  · rw [(List.mem_singleton.mp hp)]; exact hc
  · rw [(List.mem_singleton.mp hp)]
    exact LamX.TabS.nil (hT (cL, PT) (by simp))
  have TB := hTB (cL, PT) (by simp)
  have G15 : FnOk l.prog w K mg base CX0 (0 + 1) f15 _ ["told"] _ := ok_whole (k := 0) F15 (PySem.W.mg_none_of X G z0) (PySem.W.mg_none_of X G z1) (PySem.W.mg_none_of X G z2)
  have G0 : FnOk l.prog w K mg base CX0 (0 + 2) f0 _ ["told", "least", "most"] _ := ok_isNum (k := 0) F0 F15 G15 b15 (PySem.W.mg_of X G a15)
  have G1 : FnOk l.prog w K mg base CX0 (0 + 3) f1 _ ["told", "least", "most"] _ := ok_areNum (k := 0) F1 F0 G0 b0 (PySem.W.mg_of X G a0) (PySem.W.mg_none_of X G z0) (PySem.W.mg_none_of X G z3) (PySem.W.mg_none_of X G z4)
  have G2 : FnOk l.prog w K mg base CX0 (0 + 4) f2 _ ["told", "most"] _ := ok_byLet (k := 0) F2 F1 G1 b1 (PySem.W.mg_of X G a1) (PySem.W.mg_none_of X G z5) (PySem.W.mg_of X G v0) (PySem.W.mg_of X G v1)
  have G5 : FnOk l.prog w K mg base CX0 (0 + 1) f5 _ ["level"] _ := ok_packs (k := 0) F5 (PySem.W.mg_none_of X G z5) (PySem.W.mg_none_of X G z6) (PySem.W.mg_of X G v4)
  have G4 : FnOk l.prog w K mg base CX0 (0 + 2) f4 _ ["coins", "bound"] _ := ok_levels (k := 0) l4 c4 TB F5 G5 b5 (PySem.W.mg_of X G a5) (PySem.W.mg_none_of X G z5) (PySem.W.mg_none_of X G z7)
  have G6 : FnOk l.prog w K mg base CX0 (0 + 1) f6 _ ["levels"] _ := ok_taken (k := 0) F6 (PySem.W.mg_none_of X G z5) (PySem.W.mg_none_of X G z9) (PySem.W.mg_of X G v4)
  have G3 : FnOk l.prog w K mg base CX0 (0 + 5) f3 _ ["weights", "bound"] _ := ok_least (k := 0) F3 G2 b2 F2.kp (PySem.W.mg_of X G a2) G0 b0 F0.kp (PySem.W.mg_of X G a0) G4 b4 F4.kp (PySem.W.mg_of X G a4) G6 b6 F6.kp (PySem.W.mg_of X G a6) (PySem.W.mg_none_of X G z5) (PySem.W.mg_none_of X G z7) (PySem.W.mg_none_of X G z8) (PySem.W.mg_of X G v3) (PySem.W.mg_of X G v2)
  have G7 : FnOk l.prog w K mg base CX0 (0 + 1) f7 _ ["_law_script", "_law_k"] _ := ok_cell (j := 0) F7 (PySem.W.mg_none_of X G z5)
  have G8 : FnOk l.prog w K mg base CX0 (0 + 1) f8 _ ["_law_cell", "_law_limits"] _ := ok_nums (j := 0) F8 (PySem.W.mg_none_of X G z2)
  have G9 : FnOk l.prog w K mg base CX0 (0 + 1) f9 _ ["_law_lengths"] _ := ok_good (j := 0) F9 (PySem.W.mg_none_of X G z10)
  have G10 : FnOk l.prog w K mg base CX0 (0 + 1) f10 _ ["_law_weights_here", "_law_bound"] _ := ok_ll (j := 0) F10 (PySem.W.mg_none_of X G z5) (PySem.W.mg_none_of X G z8) (PySem.W.mg_none_of X G z6) (PySem.W.mg_none_of X G z7)
  have G11 : FnOk l.prog w K mg base CX0 (0 + 1) f11 _ ["_law_weights_here", "_law_bound"] _ := ok_ls (j := 0) F11 (PySem.W.mg_none_of X G z5) (PySem.W.mg_none_of X G z7) (PySem.W.mg_none_of X G z6) (PySem.W.mg_none_of X G z11) (PySem.W.mg_none_of X G z10)
  have G12 : FnOk l.prog w K mg base CX0 (0 + 2) f12 _ ["_law_script", "_law_at"] _ := ok_wts (j := 0) F12 G7 b7 F7.kp (PySem.W.mg_of X G a7) G8 b8 F8.kp (PySem.W.mg_of X G a8) (PySem.W.mg_none_of X G z5) (PySem.W.mg_none_of X G z2) (PySem.W.mg_none_of X G z6) (PySem.W.mg_none_of X G z11)
  have G13 : FnOk l.prog w K mg base CX0 (0 + 6) f13 _ ["_law_script"] _ := ok_all (j := 0) F13 G7 b7 F7.kp (PySem.W.mg_of X G a7) G12 b12 F12.kp (PySem.W.mg_of X G a12) G3 b3 F3.kp (PySem.W.mg_of X G a3) G10 b10 F10.kp (PySem.W.mg_of X G a10) G9 b9 F9.kp (PySem.W.mg_of X G a9) G11 b11 F11.kp (PySem.W.mg_of X G a11) (PySem.W.mg_none_of X G z5) (PySem.W.mg_none_of X G z6) (PySem.W.mg_none_of X G z12) (PySem.W.mg_none_of X G z10)
  exact ok_law (j := 0) F14 G13 b13 F13.kp (PySem.W.mg_of X G a13)
theorem walk_top {l : PySem.W.OpenLaw} {n k : Nat} {q : Program} {loose : List Str} {XP : (Str → Option Value) → Heap → Prop} {YP : World → Heap → Prop} {d : DefRec} {K : Params → PySem.W.Frag} {CX : World → CXT} {x : Str}
    (hn : l.most = some n) (hn2 : n ≤ sizeLine)
    (hdf : d.params.defaults = []) (hr : Room k callerA)
    (hY : ∀ (v : World) (b : Heap), YP v b → (K v.params).In b)
    (F : ∀ (w : World) (mg mb : Str → Option Value) (mean : ExcName → Option Value) (fa : Addr) (h : Heap), (K w.params).In h → Top q (PySem.W.looseW q loose) mean mg mb h → mg d.name = some (.ref fa) → LamX.LawAtS l w (K w.params) (CX w) k n x mg fa h)
    (hCX : ∀ (v : World) (H : Hp) (s : Shared) (x : Value) (s' : Shared), CX v [] H s (fun _ _ _ => False) x s' → False) :
    PySem.W.WalkO q loose XP YP l.row.toRowW d [] (fun f vs => (PySem.call f vs)) := by
  refine Att.attach_callB hn hdf ?_
  intro w s₀ s₁ mg mb fa o pm cd doc a vs ns G Y ho hd hcd hmg hobj hints hlen hbits hg
  have KX := hY w _ Y
  obtain ⟨fd, cs, sp, hT, nT, C, hb, hsp, hF⟩ := F w mg mb _ fa _ KX G.T hmg
  exact LamX.law_callTs KX G.T.g G.T.b G.T.builtins G.T.nolimit hg hT nT C G.T.bmain hobj hints (Nat.le_trans hlen hn2) hr hF hb (fun H hH hS => hsp H a ns hlen hbits hH hS) fun H e s' => hCX w H s₁ e s'
end K2

open PySem PySem.W PyProof.Rows
set_option maxHeartbeats 0 in
theorem PySem.Challenge.cw_presshouse_k02_whole_lightest_holds : PySem.Challenge.rw_presshouse_k02_whole_lightest.Holds := by
  w_on; o_law; k_head; (case hw => w_witness2)
  k_fill
  refine K2.walk_top (l := PySem.Challenge.rw_presshouse_k02_whole_lightest) (n := 63) (k := 7) (x := "_law_script") (CX := fun _ => L2.CX0) rfl (by decide) rfl ⟨rfl, by decide, by decide⟩ (fun w h Y => PySem.W.km_in_of Y) ?F (fun _ _ _ _ _ h => h)
  case F =>
    intro w mg mb mean fa h KX T hmg
    have G := T.g
    refine' K2.all_mk KX G hmg ?a0 ?l0 ?c0 ?k0 ?a1 ?l1 ?c1 ?k1 ?a2 ?l2 ?c2 ?k2 ?a3 ?l3 ?c3 ?k3 ?a4 ?l4 ?c4 ?k4 ?a5 ?l5 ?c5 ?k5 ?a6 ?l6 ?c6 ?k6 ?a7 ?l7 ?c7 ?k7 ?a8 ?l8 ?c8 ?k8 ?a9 ?l9 ?c9 ?k9 ?a10 ?l10 ?c10 ?k10 ?a11 ?l11 ?c11 ?k11 ?a12 ?l12 ?c12 ?k12 ?a13 ?l13 ?c13 ?k13 ?a14 ?l14 ?c14 ?k14 ?a15 ?l15 ?c15 ?k15 ?z0 ?z1 ?z2 ?z3 ?z4 ?z5 ?z6 ?z7 ?z8 ?z9 ?z10 ?z11 ?z12 ?v0 ?v1 ?v2 ?v3 ?v4 ?tabT ?tabN ?tabC
    (case a0 => k_is)
    (case l0 => k_is)
    (case c0 => k_is)
    (case k0 => k_is)
    (case a1 => k_is)
    (case l1 => k_is)
    (case c1 => k_is)
    (case k1 => k_is)
    (case a2 => k_is)
    (case l2 => k_is)
    (case c2 => k_is)
    (case k2 => k_is)
    (case a3 => k_is)
    (case l3 => k_is)
    (case c3 => k_is)
    (case k3 => k_is)
    (case a4 => k_is)
    (case l4 => k_is)
    (case c4 => k_is)
    (case k4 => k_is)
    (case a5 => k_is)
    (case l5 => k_is)
    (case c5 => k_is)
    (case k5 => k_is)
    (case a6 => k_is)
    (case l6 => k_is)
    (case c6 => k_is)
    (case k6 => k_is)
    (case a7 => k_is)
    (case l7 => k_is)
    (case c7 => k_is)
    (case k7 => k_is)
    (case a8 => k_is)
    (case l8 => k_is)
    (case c8 => k_is)
    (case k8 => k_is)
    (case a9 => k_is)
    (case l9 => k_is)
    (case c9 => k_is)
    (case k9 => k_is)
    (case a10 => k_is)
    (case l10 => k_is)
    (case c10 => k_is)
    (case k10 => k_is)
    (case a11 => k_is)
    (case l11 => k_is)
    (case c11 => k_is)
    (case k11 => k_is)
    (case a12 => k_is)
    (case l12 => k_is)
    (case c12 => k_is)
    (case k12 => k_is)
    (case a13 => k_is)
    (case l13 => k_is)
    (case c13 => k_is)
    (case k13 => k_is)
    (case a14 => k_is)
    (case l14 => k_is)
    (case c14 => k_is)
    (case k14 => k_is)
    (case a15 => k_is)
    (case l15 => k_is)
    (case c15 => k_is)
    (case k15 => k_is)
    (case z0 => k_is)
    (case z1 => k_is)
    (case z2 => k_is)
    (case z3 => k_is)
    (case z4 => k_is)
    (case z5 => k_is)
    (case z6 => k_is)
    (case z7 => k_is)
    (case z8 => k_is)
    (case z9 => k_is)
    (case z10 => k_is)
    (case z11 => k_is)
    (case z12 => k_is)
    (case v0 => k_is)
    (case v1 => k_is)
    (case v2 => k_is)
    (case v3 => k_is)
    (case v4 => k_is)
    (case tabC => exact (PySem.W.tab_of (x := "levels_of") (P := 84) T KX rfl (by kernel_rfl)).1)
    (case tabN => first | kernel_rfl | rfl | decide +kernel)
    (case tabT => exact (PySem.W.tab_of (x := "levels_of") (c := 88) (P := 84) T KX rfl (by kernel_rfl)).2)

