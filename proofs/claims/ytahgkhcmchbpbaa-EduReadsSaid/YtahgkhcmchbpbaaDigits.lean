/-
  What a number's bytes are, what of a row of bytes is read as a number, a text, a flag, and how the two fit together. No program is named here.
-/
import Derived.Below
namespace Go.Proofs.Ytahgkhcmchbpbaa
set_option linter.unusedVariables false
set_option linter.unusedSimpArgs false

/-- A number's bytes: its digits to the base 128, the least one first, all but the last one with 128 more. -/
def digs (n : Nat) : List UInt8 := if h : n < 128 then [UInt8.ofNat n] else UInt8.ofNat (128 + n % 128) :: digs (n / 128)
termination_by n
decreasing_by omega

/-- How many bytes go on, at the head. -/
def goes : List UInt8 → Nat
  | [] => 0
  | b :: r => if 128 ≤ b.toNat then goes r + 1 else 0

/-- The number of digits. -/
def val : List UInt8 → Nat
  | [] => 0
  | b :: r => b.toNat % 128 + 128 * val r

theorem goes_le (l : List UInt8) : goes l ≤ l.length := by
  induction l with
  | nil => exact Nat.le_refl _
  | cons b r ih => unfold goes; split <;> simp <;> omega

theorem goes_on {l : List UInt8} {j : Nat} {x : UInt8} (hj : j < goes l) (hx : l[j]? = some x) : 128 ≤ x.toNat := by
  induction l generalizing j with
  | nil => simp at hx
  | cons b r ih =>
    unfold goes at hj
    split at hj
    · rename_i hb
      cases j with
      | zero => simp at hx; subst hx; exact hb
      | succ j => exact ih (j := j) (by omega) (by simpa using hx)
    · omega

theorem goes_stops {l : List UInt8} {x : UInt8} (hx : l[goes l]? = some x) : x.toNat < 128 := by
  induction l with
  | nil => simp at hx
  | cons b r ih =>
    unfold goes at hx
    split at hx
    · exact ih (by simpa using hx)
    · rename_i hb
      simp at hx
      subst hx
      omega

theorem val_lt (l : List UInt8) : val l < 128 ^ l.length := by
  induction l with
  | nil => simp [val]
  | cons b r ih =>
    unfold val
    rw [List.length_cons, Nat.pow_succ]
    have := Nat.mod_lt b.toNat (show 0 < 128 by decide)
    omega

theorem pow128 (k : Nat) : 128 ^ k = 2 ^ (7 * k) := by rw [show (128 : Nat) = 2 ^ 7 by rfl, ← Nat.pow_mul]
theorem pow128_le {j k : Nat} (h : j ≤ k) : 128 ^ j ≤ 128 ^ k := Nat.pow_le_pow_right (by decide) h

theorem val_snoc (l : List UInt8) (x : UInt8) : val (l ++ [x]) = val l + x.toNat % 128 * 128 ^ l.length := by
  induction l with
  | nil => simp [val]
  | cons b r ih =>
    rw [List.cons_append, val, val, ih, List.length_cons, Nat.pow_succ, Nat.mul_add, Nat.add_assoc, ← Nat.mul_assoc, Nat.mul_comm 128 (x.toNat % 128), Nat.mul_assoc, Nat.mul_comm 128 (128 ^ r.length)]

theorem takeU_snoc {l : List UInt8} {k : Nat} {x : UInt8} (hx : l[k]? = some x) : l.take (k + 1) = l.take k ++ [x] := by
  rw [List.take_add_one, hx]; rfl

theorem val_take {l : List UInt8} {k : Nat} {x : UInt8} (hx : l[k]? = some x) : val (l.take (k + 1)) = val (l.take k) + x.toNat % 128 * 128 ^ k := by
  have hk : k < l.length := (List.getElem?_eq_some_iff.1 hx).1
  rw [takeU_snoc hx, val_snoc, List.length_take, Nat.min_eq_left (by omega)]

theorem val_take_lt (l : List UInt8) (k : Nat) : val (l.take k) < 128 ^ k :=
  Nat.lt_of_lt_of_le (val_lt _) (pow128_le (by rw [List.length_take]; omega))

/-- Two parts that do not meet. -/
theorem or_parts {a d k : Nat} (ha : a < 128 ^ k) : a ||| (d * 2 ^ (7 * k)) = a + d * 128 ^ k := by
  rw [pow128] at ha ⊢
  rw [Nat.or_comm, Nat.mul_comm d, ← Nat.two_pow_add_eq_or_of_lt ha, Nat.add_comm]

/-- Which error a number is: 0, if it is one. -/
def numErr (bs : List UInt8) : Nat := if 9 ≤ goes bs then 2 else if goes bs = bs.length then 3 else if bs.getD (goes bs) 0 = 0 ∧ 0 < goes bs then 2 else 0

/-- What a reader has: the bytes that are left, its first error. -/
abbrev St := List UInt8 × Nat
def failS (s : St) (x : Nat) : St := if s.2 = 0 then ([], x) else s
def numS (s : St) : Nat × St := if numErr s.1 = 0 then (val (s.1.take (goes s.1 + 1)), (s.1.drop (goes s.1 + 1), s.2)) else (0, failS s (numErr s.1))
def textS (s : St) (most : Int) : List UInt8 × St :=
  let p := numS s
  let q := if most < (p.1 : Int) then failS p.2 2 else p.2
  let r := if q.1.length < p.1 then failS q 3 else q
  if r.2 = 0 then (r.1.take p.1, (r.1.drop p.1, 0)) else ([], r)
def flagS (s : St) : Bool × St :=
  match s.1 with
  | [] => (false, failS s 3)
  | b :: r => (b.toNat == 1, if 1 < b.toNat then failS (r, s.2) 2 else (r, s.2))
def endS (s : St) : Nat := if s.2 = 0 ∧ 0 < s.1.length then 2 else s.2
/-- Behind an error nothing is left. -/
def Ok (s : St) : Prop := s.2 ≠ 0 → s.1 = []

theorem failS_ok {s : St} {x : Nat} (h : Ok s) (hx : x ≠ 0) : Ok (failS s x) := by
  unfold failS
  split
  · intro _; rfl
  · exact h
theorem numErr_nil : numErr [] = 3 := by rfl
theorem numS_err {e : Nat} (he : e ≠ 0) : numS ([], e) = (0, ([], e)) := by simp [numS, numErr_nil, failS, he]
theorem Ok.err {s : St} (h : Ok s) (he : s.2 ≠ 0) : s = ([], s.2) := by
  obtain ⟨b, e⟩ := s
  have := h he
  simp at this
  subst this
  rfl
theorem numS_ok {s : St} (h : Ok s) : Ok (numS s).2 := by
  unfold numS
  split
  · intro he
    have := h he
    rename_i hn
    rw [this] at hn
    exact absurd hn (by decide)
  · rename_i hn
    exact failS_ok h hn
theorem textS_ok {s : St} (h : Ok s) (m : Int) : Ok (textS s m).2 := by
  have h1 := numS_ok h
  unfold textS
  simp only
  have h2 : Ok (if m < ((numS s).1 : Int) then failS (numS s).2 2 else (numS s).2) := by
    split
    · exact failS_ok h1 (by decide)
    · exact h1
  generalize (if m < ((numS s).1 : Int) then failS (numS s).2 2 else (numS s).2) = q at h2 ⊢
  have h3 : Ok (if q.1.length < (numS s).1 then failS q 3 else q) := by
    split
    · exact failS_ok h2 (by decide)
    · exact h2
  generalize (if q.1.length < (numS s).1 then failS q 3 else q) = r at h3 ⊢
  split
  · intro he; exact absurd rfl he
  · exact h3
theorem flagS_ok {s : St} (h : Ok s) : Ok (flagS s).2 := by
  obtain ⟨b, e⟩ := s
  cases b with
  | nil => exact failS_ok h (by decide)
  | cons b r =>
    have he : e = 0 := by
      refine Decidable.byContradiction fun he => ?_
      have := h he
      cases this
    subst he
    unfold flagS
    simp only
    split
    · exact failS_ok (fun he => absurd rfl he) (by decide)
    · intro he; exact absurd rfl he
theorem numS_fst_lt (s : St) : (numS s).1 < 128 ^ 9 := by
  unfold numS
  split
  · rename_i h
    have hg : goes s.1 < 9 := by
      unfold numErr at h
      split at h
      · cases h
      · omega
    exact Nat.lt_of_lt_of_le (val_take_lt _ _) (pow128_le (by omega))
  · exact Nat.pos_of_ne_zero (by decide)

/-- A row that goes on, then ends. -/
theorem digs_small {n : Nat} (h : n < 128) : digs n = [UInt8.ofNat n] := by rw [digs, dif_pos h]
theorem digs_great {n : Nat} (h : ¬ n < 128) : digs n = UInt8.ofNat (128 + n % 128) :: digs (n / 128) := by rw [digs, dif_neg h]
theorem toNat_ofNat {n : Nat} (h : n < 256) : (UInt8.ofNat n).toNat = n := by
  rw [UInt8.toNat_ofNat']
  exact Nat.mod_eq_of_lt h

theorem digs_pos (n : Nat) : 0 < (digs n).length := by
  by_cases h : n < 128
  · rw [digs_small h]; simp
  · rw [digs_great h]; simp

theorem digs_len : ∀ (k n : Nat), n < 128 ^ (k + 1) → (digs n).length ≤ k + 1
  | 0, n, h => by rw [digs_small (by simpa using h)]; exact Nat.le_refl _
  | k + 1, n, h => by
    by_cases hn : n < 128
    · rw [digs_small hn]; simp
    · rw [digs_great hn, List.length_cons]
      have := digs_len k (n / 128) (by rw [Nat.div_lt_iff_lt_mul (by decide)]; rw [Nat.pow_succ] at h; exact h)
      omega

theorem val_digs (n : Nat) : val (digs n) = n := by
  induction n using Nat.strongRecOn with
  | ind n ih =>
    by_cases h : n < 128
    · rw [digs_small h, val, val, toNat_ofNat (by omega)]; omega
    · rw [digs_great h, val, ih _ (by omega), toNat_ofNat (by omega)]; omega

/-- How many of a number's bytes go on. -/
theorem goes_digs (n : Nat) (r : List UInt8) : goes (digs n ++ r) + 1 = (digs n).length := by
  induction n using Nat.strongRecOn with
  | ind n ih =>
    by_cases h : n < 128
    · rw [digs_small h]
      simp [goes, toNat_ofNat (show n < 256 by omega)]
      omega
    · rw [digs_great h, List.cons_append, goes, if_pos (by rw [toNat_ofNat (by omega)]; omega), ih _ (by omega), List.length_cons]

/-- The last of them. -/
theorem last_digs (n : Nat) (r : List UInt8) : (digs n ++ r).getD (goes (digs n ++ r)) 0 = 0 → n = 0 := by
  induction n using Nat.strongRecOn with
  | ind n ih =>
    by_cases h : n < 128
    · rw [digs_small h]
      have hg : goes ([UInt8.ofNat n] ++ r) = 0 := by simp [goes, toNat_ofNat (show n < 256 by omega)]; omega
      rw [hg]
      intro h0
      have h0 : UInt8.ofNat n = 0 := by simpa using h0
      have := congrArg UInt8.toNat h0
      rw [toNat_ofNat (by omega)] at this
      exact this
    · rw [digs_great h, List.cons_append, goes, if_pos (by rw [toNat_ofNat (by omega)]; omega)]
      intro h0
      have := ih (n / 128) (by omega) (by simpa using h0)
      omega

theorem numErr_digs (n : Nat) (h : n < 128 ^ 9) (r : List UInt8) : numErr (digs n ++ r) = 0 := by
  have h1 := goes_digs n r
  have h2 := digs_len 8 n h
  have h3 := digs_pos n
  unfold numErr
  rw [if_neg (by omega), if_neg (by rw [List.length_append]; omega), if_neg]
  rintro ⟨h4, h5⟩
  have := last_digs n r h4
  subst this
  rw [show (digs 0).length = 1 by rw [digs_small (by decide)]; rfl] at h1
  omega

/-- What is laid is read as it was. -/
theorem numS_digs (n : Nat) (h : n < 128 ^ 9) (r : List UInt8) (e : Nat) : numS (digs n ++ r, e) = (n, (r, e)) := by
  unfold numS
  simp only
  rw [if_pos (numErr_digs n h r), goes_digs, List.take_left, List.drop_left, val_digs]

/-- Whether a number's bytes are as many as are needed. -/
theorem digs_val : ∀ (l : List UInt8) (k : Nat), goes l = k → k < l.length → ((digs (val (l.take (k + 1)))).length ≠ k + 1 ↔ l.getD k 0 = 0 ∧ 0 < k)
  | [], k, _, h => by simp at h
  | b :: r, k, hg, hk => by
    by_cases hb : 128 ≤ b.toNat
    · rw [goes, if_pos hb] at hg
      subst hg
      have hb2 : b.toNat < 256 := b.toNat_lt
      rw [List.take_succ_cons, val]
      have hr : goes r < r.length := by simpa using hk
      obtain ⟨x, hx⟩ : ∃ x, r[goes r]? = some x := ⟨_, List.getElem?_eq_getElem hr⟩
      have hx1 := goes_stops hx
      have ih := digs_val r (goes r) rfl hr
      rw [show (b :: r).getD (goes r + 1) 0 = r.getD (goes r) 0 from rfl]
      have hxd : r.getD (goes r) 0 = x := by rw [List.getD_eq_getElem?_getD, hx]; rfl
      rw [hxd] at ih ⊢
      generalize hv : val (r.take (goes r + 1)) = v at ih ⊢
      have hm : b.toNat % 128 < 128 := Nat.mod_lt _ (by decide)
      by_cases hv0 : v = 0
      · subst hv0
        rw [digs_small (by omega)]
        rw [digs_small (by omega)] at ih
        have hx0 : x = 0 := by
          rw [val_take hx] at hv
          have hp : 0 < 128 ^ goes r := Nat.pow_pos (by decide)
          have : x.toNat % 128 = 0 := by
            rcases Nat.eq_zero_or_pos (x.toNat % 128) with h | h
            · exact h
            · have := Nat.mul_pos h hp; omega
          apply UInt8.toNat_inj.1
          show x.toNat = 0
          omega
        simp [hx0]
      · rw [digs_great (by omega), List.length_cons, show (b.toNat % 128 + 128 * v) / 128 = v by omega]
        constructor
        · intro h
          exact ⟨(ih.1 (by omega)).1, by omega⟩
        · rintro ⟨h, _⟩
          by_cases hg0 : 0 < goes r
          · have := ih.2 ⟨h, hg0⟩
            omega
          · exfalso
            apply hv0
            have hg0 : goes r = 0 := by omega
            rw [← hv, val_take hx, hg0, List.take_zero, val, h]
            rfl
    · rw [goes, if_neg hb] at hg
      subst hg
      rw [List.take_succ_cons, List.take_zero, val, val, digs_small (by omega)]
      simp

/-- A number that is cut off. -/
theorem goes_cut (l : List UInt8) (k : Nat) (h : k ≤ goes l) : goes (l.take k) = k := by
  induction l generalizing k with
  | nil => simp [goes] at h; subst h; rfl
  | cons b r ih =>
    cases k with
    | zero => rfl
    | succ k =>
      unfold goes at h
      split at h
      · rename_i hb
        rw [List.take_succ_cons, goes, if_pos hb, ih k (by omega)]
      · omega
theorem numErr_cut (n k : Nat) (h : n < 128 ^ 9) (hk : k < (digs n).length) : numErr ((digs n).take k) = 3 := by
  have h1 := goes_digs n []
  have h2 := digs_len 8 n h
  rw [List.append_nil] at h1
  have h3 := goes_cut (digs n) k (by omega)
  unfold numErr
  rw [h3, if_neg (by omega), if_pos (by rw [List.length_take]; omega)]

theorem goes_all (l r : List UInt8) (h : ∀ x ∈ l, 128 ≤ x.toNat) : goes (l ++ r) = l.length + goes r := by
  induction l with
  | nil => simp
  | cons b l ih =>
    rw [List.cons_append, goes, if_pos (h b (by simp)), ih (fun x hx => h x (by simp [hx])), List.length_cons]
    omega
/-- One byte more than is needed. -/
theorem numErr_more (l : List UInt8) (h : ∀ x ∈ l, 128 ≤ x.toNat) (h0 : 0 < l.length) (h8 : l.length ≤ 8) : numErr (l ++ [0]) = 2 := by
  have h1 : goes (l ++ [0]) = l.length := by rw [goes_all l _ h]; simp [goes]
  unfold numErr
  rw [h1, if_neg (by omega), if_neg (by simp), if_pos]
  refine ⟨?_, h0⟩
  rw [List.getD_eq_getElem?_getD, List.getElem?_append_right (Nat.le_refl _)]
  simp
/-- Nine bytes that go on. -/
theorem numErr_nine (l r : List UInt8) (h : ∀ x ∈ l, 128 ≤ x.toNat) (h9 : l.length = 9) : numErr (l ++ r) = 2 := by
  unfold numErr
  rw [goes_all l r h, if_pos (by omega)]
end Go.Proofs.Ytahgkhcmchbpbaa
