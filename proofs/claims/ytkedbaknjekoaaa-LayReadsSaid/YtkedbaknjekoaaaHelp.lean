/-
  The statements' own helpers: the first bytes of a row that came in, the first bytes of a text, a number brought into a range, the document's example.
-/
import Derived.Test.YtkedbaknjekoaaaLay
import Derived.OpenShut
namespace Go.Proofs.Ytkedbaknjekoaaa
open Go.RowKit
set_option linter.unusedVariables false
set_option linter.unusedSimpArgs false

/-- A row of bytes as it is handed in. -/
def ArgB (w : World) (A : Option Addr) (len cap : Nat) (bs : List UInt8) : Prop :=
  bs.length = len ∧ len ≤ cap ∧ cap ≤ maxLen ∧ (A = none → cap = 0) ∧ ∀ ad, A = some ad → ∀ j x, bs[j]? = some x → w.cell? (ad.add j) = some (bV x)
theorem ArgB.below {w w' : World} {A : Option Addr} {len cap : Nat} {bs : List UInt8} (h : ArgB w A len cap bs) (hb : Below w.heap.size w w') : ArgB w' A len cap bs := by
  obtain ⟨h1, h2, h3, h4, h5⟩ := h
  refine ⟨h1, h2, h3, h4, fun ad ha j x hx => ?_⟩
  have h6 := h5 ad ha j x hx
  rw [hb.cell (World.block_lt_of_cell? w _ h6)]
  exact h6

/-- A row of bytes as the proof of a statement is told of it. -/
def RowB (w : World) (a : Option Addr) (len cap : Nat) (zs : List Int) : Prop :=
  (a = none ∧ len = 0 ∧ cap = 0 ∧ zs = []) ∨
  ∃ x, a = some x ∧ len ≤ cap ∧ cap ≤ maxLen ∧ zs.length = cap ∧ (∀ i, i < zs.length → w.cell? (x.add i) = some (.int .u8 (zs.getD i 0))) ∧ ∀ n ∈ zs, (Lit.int .u8 n).wf = true
theorem RowB.arg {w : World} {a : Option Addr} {len cap : Nat} {zs : List Int} (h : RowB w a len cap zs) : ∃ bs, ArgB w a len cap bs := by
  rcases h with ⟨rfl, rfl, rfl, rfl⟩ | ⟨x, rfl, h1, h2, h3, h4, h5⟩
  · exact ⟨[], rfl, Nat.le_refl _, Nat.zero_le _, fun _ => rfl, fun ad ha => by cases ha⟩
  · refine ⟨(zs.take len).map fun n => UInt8.ofNat n.toNat, by simp; omega, h1, h2, (fun h => by cases h), fun ad ha j y hy => ?_⟩
    injection ha with ha
    subst ha
    rw [List.getElem?_map, List.getElem?_take] at hy
    split at hy
    · rename_i hj
      have hjz : j < zs.length := by omega
      rw [List.getElem?_eq_getElem hjz] at hy
      injection hy with hy
      have hm := bounds_u8 (h5 zs[j] (List.getElem_mem _))
      rw [h4 j hjz, List.getD_eq_getElem?_getD, List.getElem?_eq_getElem hjz, ← hy]
      unfold bV
      rw [toNat_ofNat (by omega)]
      congr 2
      simp
      omega
    · cases hy

/-- The first bytes of what came in, as they are appended to nothing. -/
theorem Src.ofArg {w : World} {A : Option Addr} {len cap : Nat} {bs : List UInt8} (h : ArgB w A len cap bs) (k c : Nat) (hk : k ≤ len) : Src Try.prog 1 22 (.slice A k c) k (bVs (bs.take k)) w := by
  obtain ⟨h1, h2, h3, h4, h5⟩ := h
  have hl : (bVs (bs.take k)).length = k * 1 := by rw [bVs_len, List.length_take]; omega
  cases A with
  | none =>
    obtain rfl : k = 0 := by have := h4 rfl; omega
    exact Src.ofNil w Try.underlying22 c
  | some ad =>
    refine Src.ofSlice w Try.underlying22 ad k c _ hl (fun j u hu => ?_) (bVs_one _)
    obtain ⟨x, hx, rfl⟩ := bVs_get hu
    refine h5 ad rfl j x ?_
    rw [List.getElem?_take] at hx
    split at hx
    · exact hx
    · cases hx

theorem run_puts_nothing (w : World) (ty : TypeId) (A : Option Addr) (c : Nat) : (Builtin.append_ #[22, 22] ty #[.slice none 0 0, .slice A 0 c]).run Try.prog w = .ok (.slice none 0 0) w := by
  obtain ⟨i0, hi0, hz0, hz1, hz2⟩ := info_parts byte_info
  cases A with
  | none => simp [Builtin.append_, run_underlying Try.underlying22, sizeOf, typeInfo, hi0, Builtin.lenOf, Builtin.firstCells]
  | some ad => simp [Builtin.append_, run_underlying Try.underlying22, sizeOf, typeInfo, hi0, Builtin.lenOf, Builtin.firstCells, loadCells, loadCellsFrom]

theorem wpList_nothing {w : World} {ops : Array Oper} {rest : List Oper} {o : Oper} {a : Act} {Q : Exit → Act → World → Prop} (hgd : o.guard = none) (s x : Operand)
    (ho : o.op = .call { callee := .builtin .append, args := #[s, x], argTypes := #[22, 22] }) (hv : a.eval s = .slice none 0 0) (A : Option Addr) (c : Nat) (hx : a.eval x = .slice A 0 c)
    (K : wpList Try.prog ops Q rest (a.put o.dst (.slice none 0 0)) w) : wpList Try.prog ops Q (o :: rest) a w := by
  refine wpList_plain hgd fun _ hK => ?_
  unfold Oper.wp execOp
  simp only [ho, resolve, invoke, builtin, Sem.run_bind, Sem.run_pure, Result.andThen_ok, List.map_toArray, List.map_cons, List.map_nil, hv, hx, run_puts_nothing]
  exact hK _ _ K

set_option maxHeartbeats 800000 in
theorem few_bytes (A : Option Addr) (len cap m : Nat) (bs : List UInt8) (w : World) (h : ArgB w A len cap bs) (hm : m ≤ 1000) :
    Calls Try.prog 9 #[.slice A len cap, .int .i64 (m : Int)] w fun e w' => (∃ v, e = .returned v ∧ Made w' w.heap.size v (bs.take m)) ∧ Below w.heap.size w w' := by
  have h' := h
  obtain ⟨h1, h2, h3, h4, h5⟩ := h
  unfold maxLen at h3
  obtain ⟨k, hk⟩ : ∃ k, k = min len m := ⟨_, rfl⟩
  have hkl : k ≤ len := by omega
  have hkm : k ≤ m := by omega
  have Ht := Lib.hid (show bs.take m = bs.take k by
    rw [hk]
    rcases Nat.le_total len m with h | h
    · rw [Nat.min_eq_left h, List.take_of_length_le (by omega), List.take_of_length_le (by omega)]
    · rw [Nat.min_eq_right h])
  have Hk := Lib.hid hk
  have Hl := Lib.hid (show (bs.take k).length = k by rw [List.length_take]; omega)
  have HS := Lib.hid (Src.ofArg h' k cap hkl)
  have HP : Hid (Puts w w.heap.size (.slice none 0 0) []) := Lib.hid (.inl ⟨none, rfl, Row.nil _ _⟩)
  clear h5 h4 h1 h' hk
  rw [Ht.out]
  rcases Nat.lt_trichotomy len m with hlm | hlm | hlm
  · have hkk : k = len := by have := Hk.out; omega
    subst hkk
    by_cases hk0 : 0 < k
    · go_enter Try.func9, Try.ntmps9
      go_wp2_with (at_builtin; refine wpList_puts rfl (.tmp 6) (.tmp 12) _ rfl rfl HP.out (Nat.le_refl _) (.slice A k cap) k (bs.take k) rfl Hl.out HS.out (.inl hk0) (by simp; omega) ?_; rintro g2 cap2 w2 hg2 ho2 hb2)
      go_ret
      exact ⟨⟨_, rfl, .inr ⟨g2, cap2, by rw [Hl.out]; rfl, hg2, own_cast ho2 (List.nil_append _)⟩⟩, hb2⟩
    · obtain rfl : k = 0 := by omega
      go_enter Try.func9, Try.ntmps9
      go_wp2_with (at_builtin; refine wpList_nothing rfl (.tmp 6) (.tmp 12) rfl rfl A cap rfl ?_)
      go_ret
      exact ⟨⟨_, rfl, .inl ⟨rfl, by simp⟩⟩, Below.refl _ _⟩
  · have hkk : k = len := by have := Hk.out; omega
    subst hkk
    subst hlm
    by_cases hk0 : 0 < k
    · go_enter Try.func9, Try.ntmps9
      go_wp2_with (at_builtin; refine wpList_puts rfl (.tmp 6) (.tmp 12) _ rfl rfl HP.out (Nat.le_refl _) (.slice A k cap) k (bs.take k) rfl Hl.out HS.out (.inl hk0) (by simp; omega) ?_; rintro g2 cap2 w2 hg2 ho2 hb2)
      go_ret
      exact ⟨⟨_, rfl, .inr ⟨g2, cap2, by rw [Hl.out]; rfl, hg2, own_cast ho2 (List.nil_append _)⟩⟩, hb2⟩
    · obtain rfl : k = 0 := by omega
      go_enter Try.func9, Try.ntmps9
      go_wp2_with (at_builtin; refine wpList_nothing rfl (.tmp 6) (.tmp 12) rfl rfl A cap rfl ?_)
      go_ret
      exact ⟨⟨_, rfl, .inl ⟨rfl, by simp⟩⟩, Below.refl _ _⟩
  · have hkk : k = m := by have := Hk.out; omega
    subst hkk
    by_cases hk0 : 0 < k
    · go_enter Try.func9, Try.ntmps9
      go_wp2_with (at_builtin; refine wpList_puts rfl (.tmp 6) (.tmp 12) _ rfl rfl HP.out (Nat.le_refl _) (.slice A k cap) k (bs.take k) rfl Hl.out HS.out (.inl hk0) (by simp; omega) ?_; rintro g2 cap2 w2 hg2 ho2 hb2)
      go_ret
      exact ⟨⟨_, rfl, .inr ⟨g2, cap2, by rw [Hl.out]; rfl, hg2, own_cast ho2 (List.nil_append _)⟩⟩, hb2⟩
    · obtain rfl : k = 0 := by omega
      go_enter Try.func9, Try.ntmps9
      go_wp2_with (at_builtin; refine wpList_nothing rfl (.tmp 6) (.tmp 12) rfl rfl A cap rfl ?_)
      go_ret
      exact ⟨⟨_, rfl, .inl ⟨rfl, by simp⟩⟩, Below.refl _ _⟩

/-- The first bytes of a text. -/
def fewS (s : ByteArray) (m : Nat) : ByteArray := if m < s.size then s.extract 0 m else s
theorem fewS_size (s : ByteArray) (m : Nat) : (fewS s m).size ≤ m := by
  unfold fewS
  split
  · rw [Lib.size_eq, Lib.extract_data, List.length_take]; omega
  · omega
/-- A number brought between 0 and m. -/
def aroundI (n m : Int) : Int := (if n < 0 then -(n + 1) else n) % m
theorem aroundI_bd (n m : Int) (h : 0 < m) : 0 ≤ aroundI n m ∧ aroundI n m < m := by
  unfold aroundI
  exact ⟨Int.emod_nonneg _ (by omega), Int.emod_lt_of_pos _ h⟩

theorem few_any (s : ByteArray) (m : Nat) (hm : m ≤ 1000) (w : World) (hs : s.size ≤ maxLen) :
    Calls Try.prog 10 #[.string s, .int .i64 (m : Int)] w fun e w' => e = .returned (.string (fewS s m)) ∧ w = w' := by
  unfold maxLen at hs
  by_cases h : m < s.size
  · have Hn := Lib.hid (show fewS s m = s.extract 0 m by simp [fewS, h])
    go_enter Try.func10, Try.ntmps10
    go_wp2
    go_ret
    rw [Hn.out]
    exact ⟨rfl, rfl⟩
  · have Hn := Lib.hid (show fewS s m = s by simp [fewS, h])
    go_enter Try.func10, Try.ntmps10
    go_wp2
    go_ret
    rw [Hn.out]
    exact ⟨rfl, rfl⟩

theorem around_any (n m : Int) (w : World) (h0 : -9223372036854775808 ≤ n) (h1 : n ≤ 9223372036854775807) (hm0 : 0 < m) (hm1 : m ≤ 9223372036854775807) :
    Calls Try.prog 19 #[.int .i64 n, .int .i64 m] w fun e w' => e = .returned (.int .i64 (aroundI n m)) ∧ w = w' := by
  have q0 : (m == 0) = false := by rw [beq_eq_false_iff_ne]; omega
  by_cases h : n < 0
  · have Hn := Lib.hid (show aroundI n m = -((n + 1).tmod m) by unfold aroundI; rw [if_pos h, ← Int.neg_tmod, Int.tmod_eq_emod_of_nonneg (by omega)])
    go_enter Try.func19, Try.ntmps19
    go_wp2
    go_ret
    rw [Hn.out]
    exact ⟨rfl, rfl⟩
  · have Hn := Lib.hid (show aroundI n m = n % m by simp [aroundI, h])
    go_enter Try.func19, Try.ntmps19
    go_wp2
    go_ret
    rw [Hn.out]
    exact ⟨rfl, rfl⟩

set_option maxHeartbeats 800000 in
theorem lives_any (w : World) : Calls Try.prog 17 #[] w fun e w' => e = .returned (.bool true) ∧ Below w.heap.size w w' := by
  have Hn := Lib.hid (number_put (.slice none 0 0) [] 0 300 w (Row.nil _ _) (by simp) (by decide) (by decide))
  have Hd := Lib.hid (show digs (natI 300) = [172, 2] by decide +kernel)
  have Hs := Lib.hid (show strOf [172, 2] = ⟨#[172, 2]⟩ by rfl)
  go_enter Try.func17, Try.ntmps17
  go_wp2_with fail
  refine Hn.out.mono ?_
  rintro e w1 ⟨⟨g, cap, rfl, hg, ho⟩, hb⟩
  rw [Hd.out, List.nil_append] at ho ⊢
  have hc : (convert 22 9 (.slice (some ⟨g, 0, none⟩) 2 cap)).run Try.prog w1 = .ok (.string ⟨#[172, 2]⟩) w1 := conv_row (ho.row (Nat.zero_le _))
  have HB := Lib.hid hb
  clear ho hb Hn
  go_wp2_with fail
  go_ret
  exact ⟨rfl, HB.out⟩
end Go.Proofs.Ytkedbaknjekoaaa
