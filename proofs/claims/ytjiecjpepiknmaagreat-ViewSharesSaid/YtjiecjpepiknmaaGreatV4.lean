/-
  Package view's shares.
-/
import Derived.Test.YtjiecjpepiknmaaGreatV2
import Derived.Lib.SliceRun
namespace Go.Proofs.YtjiecjpepiknmaaGreat
set_option maxRecDepth 20000
open Go.RowKit Go.Maps Go.ChangeMaps
set_option linter.unusedVariables false
set_option linter.unusedSimpArgs false
/-- Where the first one stands. -/
def idxP (p : ByteArray → Bool) (us : List ByteArray) : Int := match us.findIdx? p with
  | some i => (i : Int)
  | none => -1
theorem idxP_hit {p : ByteArray → Bool} {us : List ByteArray} {a : Nat} {x : ByteArray} (hx : us[a]? = some x) (hp : p x = true) (hn : ∀ (j : Nat) y, j < a → us[j]? = some y → p y = false) : idxP p us = (a : Int) := by
  have h : us.findIdx? p = some a := by
    obtain ⟨hl, he⟩ := List.getElem?_eq_some_iff.1 hx
    rw [List.findIdx?_eq_some_iff_getElem]
    exact ⟨hl, by rw [he]; exact hp, fun j hj => by rw [hn j _ hj (List.getElem?_eq_getElem _)]; decide⟩
  unfold idxP
  rw [h]
theorem idxP_miss {p : ByteArray → Bool} {us : List ByteArray} (hn : ∀ (j : Nat) y, us[j]? = some y → p y = false) : idxP p us = -1 := by
  have h : us.findIdx? p = none := by
    rw [List.findIdx?_eq_none_iff]
    intro x hx
    obtain ⟨j, hj, he⟩ := List.getElem_of_mem hx
    exact hn j x (by rw [List.getElem?_eq_getElem hj, he])
  unfold idxP
  rw [h]
theorem idxP_cases (p : ByteArray → Bool) (us : List ByteArray) : (idxP p us = -1 ∧ us.any p = false ∧ us.filter (fun x => !p x) = us) ∨ ∃ k : Nat, idxP p us = (k : Int) ∧ k < us.length ∧ us.any p = true ∧ (us.take k).filter (fun x => !p x) = us.take k ∧ ∀ x, us[k]? = some x → p x = true := by
  unfold idxP
  cases h : us.findIdx? p with
  | none =>
    rw [List.findIdx?_eq_none_iff] at h
    refine .inl ⟨rfl, ?_, ?_⟩
    · rw [List.any_eq_false]
      intro x hx
      rw [h x hx]
      decide
    · rw [List.filter_eq_self]
      intro x hx
      rw [h x hx]
      rfl
  | some k =>
    rw [List.findIdx?_eq_some_iff_getElem] at h
    obtain ⟨hk, hp, hn⟩ := h
    refine .inr ⟨k, rfl, hk, ?_, ?_, fun x hx => ?_⟩
    · rw [List.any_eq_true]
      exact ⟨_, List.getElem_mem hk, hp⟩
    · rw [List.filter_eq_self]
      intro x hx
      obtain ⟨j, hj, he⟩ := List.mem_take_iff_getElem.1 hx
      have := hn j (by omega)
      rw [he] at this
      simpa using this
    · rw [List.getElem?_eq_getElem hk] at hx
      injection hx with hx
      rw [← hx]; exact hp

set_option maxHeartbeats 800000 in
theorem indexFuncW_any (b4 b5 : Nat) (K : World → Prop) (p : ByteArray → Bool) (v : Value) (us : List ByteArray) (w : World) (hK : K w) (hrow : ∀ W, K W → LT.Slice W v us) (hc : ∀ W x, K W → x ∈ us → Calls Tryz.prog 102 #[.string x, .pointer (some ⟨b4, 0, none⟩), .pointer (some ⟨b5, 0, none⟩)] W fun e w' => e = .returned (.bool (p x)) ∧ K w') :
    Calls Tryz.prog 139 #[v, .func (.func 102) #[] #[.pointer (some ⟨b4, 0, none⟩), .pointer (some ⟨b5, 0, none⟩)]] w fun e w' => e = .returned (.int .i64 (idxP p us)) ∧ K w' := by
  obtain ⟨A, cap, rfl, h1, h2, -⟩ := id (hrow w hK)
  unfold maxLen at h2
  have HK := Lib.hid hK
  have HR := Lib.hid hrow
  have HC := Lib.hid hc
  clear hK hrow hc
  go_enter Tryz.func139, Tryz.ntmps139
  go_wp2_with fail
  go_loopw [8, 5] (fun i _ wr => ∃ a : Nat, i = .int .i64 (a : Int) ∧ a ≤ us.length ∧ Hid (K wr) ∧ Hid (∀ (j : Nat) y, j < a → us[j]? = some y → p y = false)) (fun i _ _ => us.length - (intOf i).toNat)
  case atStart => exact ⟨0, rfl, Nat.zero_le _, HK, Lib.hid (fun j y hj => by omega)⟩
  case round =>
    obtain ⟨a, rfl, ha, HA, HN⟩ := hrel
    clear HK
    by_cases hax : a < us.length
    · have q1 : decide ((a : Int) < (us.length : Int)) = true := decide_eq_true (by omega)
      have hx : us[a]? = some us[a] := List.getElem?_eq_getElem hax
      generalize us[a] = x at hx
      have HX := Lib.hid hx
      obtain ⟨bo, oo, rfl, hbo, hco⟩ := text_at (HR.out wr HA.out) hx
      have hiy := index_any (P := Tryz.prog) knT (by decide) (b := bo) (off := oo) (cap := cap) hax
      simp only [LT] at hiy
      rw [Nat.mul_one] at hiy
      have HQ := Lib.hid (HC.out wr x HA.out (List.mem_of_getElem? hx))
      clear hx
      go_wp2_with fail
      go_at_call 102
      refine HQ.out.mono ?_
      rintro e w4 ⟨rfl, hk4⟩
      have HK4 := Lib.hid hk4
      clear hk4 HQ HA hco
      cases hp : p x
      · have HN2 : Hid (∀ (j : Nat) y, j < a + 1 → us[j]? = some y → p y = false) := Lib.hid (fun j y hj hy => by
          by_cases hja : j = a
          · subst hja
            rw [HX.out] at hy
            injection hy with hy
            rw [← hy]; exact hp
          · exact HN.out j y (by omega) hy)
        clear hp
        go_wp2_with fail
        refine ⟨⟨a + 1, by go_num, by omega, HK4, HN2⟩, ?_⟩
        simp [intOf]; omega
      · have HF : Hid (idxP p us = (a : Int)) := Lib.hid (idxP_hit HX.out hp HN.out)
        clear hp
        go_wp2_with fail
        go_ret
        exact ⟨by rw [HF.out]; rfl, HK4.out⟩
    · have q1 : decide ((a : Int) < (us.length : Int)) = false := decide_eq_false (by omega)
      have HF : Hid (idxP p us = -1) := Lib.hid (idxP_miss (fun j y hy => HN.out j y (by have := (List.getElem?_eq_some_iff.1 hy).1; omega) hy))
      go_wp2_with fail
      go_ret
      exact ⟨by rw [HF.out]; rfl, HA.out⟩

set_option maxHeartbeats 800000 in
theorem indexFuncM_any (b4 b5 : Nat) (K : World → Prop) (p : ByteArray → Bool) (v : Value) (us : List ByteArray) (w : World) (hK : K w) (hrow : ∀ W, K W → LT.Slice W v us) (hc : ∀ W x, K W → x ∈ us → Calls Tryz.prog 106 #[.string x, .pointer (some ⟨b4, 0, none⟩), .pointer (some ⟨b5, 0, none⟩)] W fun e w' => e = .returned (.bool (p x)) ∧ K w') :
    Calls Tryz.prog 139 #[v, .func (.func 106) #[] #[.pointer (some ⟨b4, 0, none⟩), .pointer (some ⟨b5, 0, none⟩)]] w fun e w' => e = .returned (.int .i64 (idxP p us)) ∧ K w' := by
  obtain ⟨A, cap, rfl, h1, h2, -⟩ := id (hrow w hK)
  unfold maxLen at h2
  have HK := Lib.hid hK
  have HR := Lib.hid hrow
  have HC := Lib.hid hc
  clear hK hrow hc
  go_enter Tryz.func139, Tryz.ntmps139
  go_wp2_with fail
  go_loopw [8, 5] (fun i _ wr => ∃ a : Nat, i = .int .i64 (a : Int) ∧ a ≤ us.length ∧ Hid (K wr) ∧ Hid (∀ (j : Nat) y, j < a → us[j]? = some y → p y = false)) (fun i _ _ => us.length - (intOf i).toNat)
  case atStart => exact ⟨0, rfl, Nat.zero_le _, HK, Lib.hid (fun j y hj => by omega)⟩
  case round =>
    obtain ⟨a, rfl, ha, HA, HN⟩ := hrel
    clear HK
    by_cases hax : a < us.length
    · have q1 : decide ((a : Int) < (us.length : Int)) = true := decide_eq_true (by omega)
      have hx : us[a]? = some us[a] := List.getElem?_eq_getElem hax
      generalize us[a] = x at hx
      have HX := Lib.hid hx
      obtain ⟨bo, oo, rfl, hbo, hco⟩ := text_at (HR.out wr HA.out) hx
      have hiy := index_any (P := Tryz.prog) knT (by decide) (b := bo) (off := oo) (cap := cap) hax
      simp only [LT] at hiy
      rw [Nat.mul_one] at hiy
      have HQ := Lib.hid (HC.out wr x HA.out (List.mem_of_getElem? hx))
      clear hx
      go_wp2_with fail
      go_at_call 106
      refine HQ.out.mono ?_
      rintro e w4 ⟨rfl, hk4⟩
      have HK4 := Lib.hid hk4
      clear hk4 HQ HA hco
      cases hp : p x
      · have HN2 : Hid (∀ (j : Nat) y, j < a + 1 → us[j]? = some y → p y = false) := Lib.hid (fun j y hj hy => by
          by_cases hja : j = a
          · subst hja
            rw [HX.out] at hy
            injection hy with hy
            rw [← hy]; exact hp
          · exact HN.out j y (by omega) hy)
        clear hp
        go_wp2_with fail
        refine ⟨⟨a + 1, by go_num, by omega, HK4, HN2⟩, ?_⟩
        simp [intOf]; omega
      · have HF : Hid (idxP p us = (a : Int)) := Lib.hid (idxP_hit HX.out hp HN.out)
        clear hp
        go_wp2_with fail
        go_ret
        exact ⟨by rw [HF.out]; rfl, HK4.out⟩
    · have q1 : decide ((a : Int) < (us.length : Int)) = false := decide_eq_false (by omega)
      have HF : Hid (idxP p us = -1) := Lib.hid (idxP_miss (fun j y hy => HN.out j y (by have := (List.getElem?_eq_some_iff.1 hy).1; omega) hy))
      go_wp2_with fail
      go_ret
      exact ⟨by rw [HF.out]; rfl, HA.out⟩

theorem containsFunc_any (b4 b5 : Nat) (K : World → Prop) (p : ByteArray → Bool) (v : Value) (us : List ByteArray) (w : World) (hK : K w) (hrow : ∀ W, K W → LT.Slice W v us) (hc : ∀ W x, K W → x ∈ us → Calls Tryz.prog 106 #[.string x, .pointer (some ⟨b4, 0, none⟩), .pointer (some ⟨b5, 0, none⟩)] W fun e w' => e = .returned (.bool (p x)) ∧ K w') :
    Calls Tryz.prog 105 #[v, .func (.func 106) #[] #[.pointer (some ⟨b4, 0, none⟩), .pointer (some ⟨b5, 0, none⟩)]] w fun e w' => e = .returned (.bool (us.any p)) ∧ K w' := by
  have HI := Lib.hid (indexFuncM_any b4 b5 K p v us w hK hrow hc)
  obtain ⟨A, cap, rfl, h1, h2, -⟩ := id (hrow w hK)
  clear hK hrow hc
  rcases idxP_cases p us with ⟨e1, e2, -⟩ | ⟨k, e1, hk, e2, -⟩
  · rw [e1] at HI
    have HE := Lib.hid e2
    clear e1 e2
    go_enter Tryz.func105, Tryz.ntmps105
    go_wp2_with fail
    go_at_call 139
    refine HI.out.mono ?_
    rintro e w4 ⟨rfl, hk4⟩
    have HK4 := Lib.hid hk4
    clear hk4 HI
    go_wp2_with fail
    go_ret
    exact ⟨by rw [HE.out]; rfl, HK4.out⟩
  · rw [e1] at HI
    have HE := Lib.hid e2
    clear e1 e2
    have q1 : decide ((0 : Int) ≤ (k : Int)) = true := decide_eq_true (by omega)
    go_enter Tryz.func105, Tryz.ntmps105
    go_wp2_with fail
    go_at_call 139
    refine HI.out.mono ?_
    rintro e w4 ⟨rfl, hk4⟩
    have HK4 := Lib.hid hk4
    clear hk4 HI
    go_wp2_with fail
    go_ret
    exact ⟨by rw [HE.out]; first | rfl | simp, HK4.out⟩

/-- While texts are struck: what stands at the front, what is still to be looked at. -/
structure DlS (p : ByteArray → Bool) (us zs : List ByteArray) (i j : Nat) : Prop where
  len : zs.length = us.length
  lt : i < j
  le : j ≤ us.length
  front : zs.take i = (us.take j).filter (fun x => !p x)
  rest : zs.drop j = us.drop j
theorem DlS.get {p : ByteArray → Bool} {us zs : List ByteArray} {i j : Nat} (h : DlS p us zs i j) (hj : j < us.length) : zs[j]? = us[j]? := by
  have := congrArg (fun l : List ByteArray => l[0]?) h.rest
  simpa using this
theorem DlS.skip {p : ByteArray → Bool} {us zs : List ByteArray} {i j : Nat} {x : ByteArray} (h : DlS p us zs i j) (hx : us[j]? = some x) (hp : p x = true) : DlS p us zs i (j + 1) := by
  have hj := (List.getElem?_eq_some_iff.1 hx).1
  refine ⟨h.len, by have := h.lt; omega, hj, ?_, ?_⟩
  · rw [List.take_add_one, hx, List.filter_append, h.front]
    simp [hp]
  · rw [← List.drop_drop, ← List.drop_drop, h.rest]
theorem DlS.keep {p : ByteArray → Bool} {us zs : List ByteArray} {i j : Nat} {x : ByteArray} (h : DlS p us zs i j) (hx : us[j]? = some x) (hp : p x = false) : DlS p us (zs.set i x) (i + 1) (j + 1) := by
  have hj := (List.getElem?_eq_some_iff.1 hx).1
  have hl := h.len
  have hlt := h.lt
  refine ⟨by rw [List.length_set]; exact hl, by omega, hj, ?_, ?_⟩
  · rw [List.take_add_one, List.getElem?_set_self (by omega), List.take_set_of_le (Nat.le_refl _), h.front, List.take_add_one, hx, List.filter_append]
    simp [hp]
  · rw [List.drop_set_of_lt (by omega), ← List.drop_drop, ← List.drop_drop, h.rest]
theorem DlS.start {p : ByteArray → Bool} {us : List ByteArray} {k : Nat} (hk : k < us.length) (hf : (us.take k).filter (fun x => !p x) = us.take k) (hp : ∀ x, us[k]? = some x → p x = true) : DlS p us us k (k + 1) := by
  have hx := List.getElem?_eq_getElem hk
  refine ⟨rfl, Nat.lt_succ_self _, hk, ?_, rfl⟩
  rw [List.take_add_one, hx, List.filter_append, hf]
  have := hp _ hx
  simp [this]

theorem Lies.Mine.fill {B b off n cap : Nat} : ∀ {m a : Nat} {w : World} {zs : List ByteArray}, LT.Mine w B (.slice (some ⟨b, off, none⟩) n cap) zs → a + m ≤ zs.length → ∃ zs', LT.Mine (w.setCells b (off + a) (List.replicate m (.string ⟨#[]⟩))) B (.slice (some ⟨b, off, none⟩) n cap) zs' ∧ zs'.length = zs.length ∧ zs'.take a = zs.take a ∧ w.grownBy (w.setCells b (off + a) (List.replicate m (.string ⟨#[]⟩))) (some b)
  | 0, a, w, zs, h, _ => ⟨zs, h, rfl, rfl, World.grownBy.refl _ _⟩
  | m + 1, a, w, zs, h, hl => by
    have h1 := h.set (i := a) (by omega) ⟨#[]⟩
    have hc1 : LT.c = 1 := rfl
    rw [hc1, Nat.mul_one] at h1
    obtain ⟨zs', e1, e2, e3, e4⟩ := Lies.Mine.fill (m := m) (a := a + 1) h1 (by rw [List.length_set]; omega)
    refine ⟨zs', ?_, by rw [e2, List.length_set], ?_, sm_grown _ _ _ _⟩
    · rw [← Nat.add_assoc] at e1
      exact e1
    · have h2 := congrArg (fun l : List ByteArray => l.take a) e3
      simp only [List.take_take, Nat.min_eq_left (Nat.le_succ a)] at h2
      rw [h2, List.take_set_of_le (Nat.le_refl _)]

set_option maxHeartbeats 1600000 in
theorem deleteFunc_any (b4 b5 B : Nat) (K : List ByteArray → World → Prop) (p : ByteArray → Bool) (v : Value) (us : List ByteArray) (w : World) (hK : K us w) (hrow : ∀ zs W, K zs W → LT.Mine W B v zs) (hput : ∀ zs zs' W W', K zs W → LT.Mine W' B v zs' → W.grownBy W' v.ownBlock → K zs' W') (hc : ∀ zs W x, K zs W → x ∈ us → Calls Tryz.prog 102 #[.string x, .pointer (some ⟨b4, 0, none⟩), .pointer (some ⟨b5, 0, none⟩)] W fun e w' => e = .returned (.bool (p x)) ∧ K zs w') :
    Calls Tryz.prog 101 #[v, .func (.func 102) #[] #[.pointer (some ⟨b4, 0, none⟩), .pointer (some ⟨b5, 0, none⟩)]] w fun e w' => ∃ v' zs, e = .returned v' ∧ LT.Mine w' B v' (us.filter (fun x => !p x)) ∧ (∀ k, v'.ownBlock = some k → v.ownBlock = some k) ∧ K zs w' := by
  have HI := Lib.hid (indexFuncW_any b4 b5 (K us) p v us w hK (fun W h => (hrow us W h).slice) (fun W x h hx => hc us W x h hx))
  obtain ⟨A, cap, rfl, h1, h2, h3⟩ := (hrow us w hK).shape
  unfold maxLen at h2
  have HR := Lib.hid hrow
  have HP := Lib.hid hput
  have HC := Lib.hid hc
  have HM0 := Lib.hid (hrow us w hK)
  clear hK hrow hput hc
  rcases idxP_cases p us with ⟨e1, -, e2⟩ | ⟨k, e1, hk, -, e2, e3⟩
  · rw [e1] at HI
    have HE := Lib.hid e2
    clear e1 e2
    go_enter Tryz.func101, Tryz.ntmps101
    go_wp2_with fail
    go_at_call 139
    refine HI.out.mono ?_
    rintro e w4 ⟨rfl, hk4⟩
    have HK4 := Lib.hid hk4
    clear hk4 HI
    go_wp2_with fail
    go_ret
    exact ⟨_, us, rfl, by rw [HE.out]; exact HR.out us w4 HK4.out, fun k hk => hk, HK4.out⟩
  · rw [e1] at HI
    have HS := Lib.hid (DlS.start hk e2 e3)
    obtain ⟨b, off, rfl⟩ : ∃ b off, A = some ⟨b, off, none⟩ := by
      rcases id HM0.out with ⟨hv', hn⟩ | ⟨g', off', cap', cur, hv', -⟩
      · rw [hn] at hk; simp at hk
      · injection hv' with e1 e2 e3
        exact ⟨g', off', e1⟩
    have q0 : ((k : Int) == -1) = false := by rw [beq_eq_false_iff_ne]; omega
    clear e1 e2 e3 HM0
    go_enter Tryz.func101, Tryz.ntmps101
    go_wp2_with fail
    go_at_call 139
    refine HI.out.mono ?_
    rintro e w4 ⟨rfl, hk4⟩
    have HK4 := Lib.hid hk4
    clear hk4 HI
    go_wp2_with fail
    go_loopw [5, 6, 7] (fun i j _ wr => ∃ (a c : Nat) (zs : List ByteArray), i = .int .i64 (a : Int) ∧ j = .int .i64 (c : Int) ∧ Hid (DlS p us zs a c) ∧ Hid (K zs wr)) (fun _ j _ _ => us.length - (intOf j).toNat)
    case atStart => exact ⟨k, k + 1, us, rfl, by go_num, HS, HK4⟩
    case round =>
      obtain ⟨a, c, zs, rfl, rfl, HD, HA⟩ := hrel
      clear HK4 HS
      have hac := HD.out.lt
      have hcl := HD.out.le
      by_cases hcx : c < us.length
      · have q1 : decide ((c : Int) < (us.length : Int)) = true := decide_eq_true (by omega)
        have hx : us[c]? = some us[c] := List.getElem?_eq_getElem hcx
        generalize us[c] = x at hx
        have HX := Lib.hid hx
        have hz : zs[c]? = some x := by rw [HD.out.get hcx]; exact hx
        have hM := HR.out zs wr HA.out
        have hzl : zs.length = us.length := HD.out.len
        obtain ⟨bo, oo, hbo', hbo, hco⟩ := text_at (n := us.length) (cap := cap) hM.slice hz
        injection hbo' with hbo'
        injection hbo' with hb1 hb2 _
        subst hb1 hb2
        have hiy := index_any (P := Tryz.prog) knT (by decide) (b := b) (off := off) (cap := cap) hcx
        simp only [LT] at hiy
        rw [Nat.mul_one] at hiy
        have HQ := Lib.hid (HC.out zs wr x HA.out (List.mem_of_getElem? hx))
        clear hx hz hM
        go_wp2_with fail
        go_at_call 102
        refine HQ.out.mono ?_
        rintro e w5 ⟨rfl, hk5⟩
        have HK5 := Lib.hid hk5
        clear hk5 HQ HA hco hiy
        cases hp : p x
        · have HD2 := Lib.hid (HD.out.keep HX.out hp)
          have hM5 := HR.out zs w5 HK5.out
          have hal : a < us.length := by omega
          obtain ⟨ba, oa, hba', hba, hca⟩ := text_at (n := us.length) (cap := cap) hM5.slice (i := a) (List.getElem?_eq_getElem (by omega))
          injection hba' with hba'
          injection hba' with hb1 hb2 _
          subst hb1 hb2
          have hiz := index_any (P := Tryz.prog) knT (by decide) (b := b) (off := off) (cap := cap) hal
          simp only [LT] at hiz
          rw [Nat.mul_one] at hiz
          have hfz : w5.frozen? ⟨b, off + a, none⟩ = false := by
            rcases id hM5 with ⟨hv', _⟩ | ⟨g', off', cap', cur, hv', hg, hh, -⟩
            · cases hv'
            · injection hv' with e1 e2 e3
              injection e1 with e1
              injection e1 with e4 e5 _
              subst e4
              simp [World.frozen?, hh]
          have HSET := Lib.hid (hM5.set (i := a) (by omega) x)
          have HSG := Lib.hid (sm_grown w5 b (off + a * LT.c) (LT.cl x))
          have HN5 : Hid (K (zs.set a x) (w5.setCell ⟨b, off + a, none⟩ (.string x))) := Lib.hid (by
            have h9 := HP.out zs (zs.set a x) w5 _ HK5.out HSET.out HSG.out
            have hc1 : LT.c = 1 := rfl
            rw [hc1, Nat.mul_one] at h9
            exact h9)
          clear hp HK5 HSET HSG hM5
          go_wp2_with fail
          refine ⟨⟨a + 1, c + 1, zs.set a x, by go_num, by go_num, HD2, HN5⟩, ?_⟩
          simp [intOf]; omega
        · have HD2 := Lib.hid (HD.out.skip HX.out hp)
          clear hp
          go_wp2_with fail
          refine ⟨⟨a, c + 1, zs, rfl, by go_num, HD2, HK5⟩, ?_⟩
          simp [intOf]; omega
      · have q1 : decide ((c : Int) < (us.length : Int)) = false := decide_eq_false (by omega)
        obtain rfl : c = us.length := by omega
        have hM := HR.out zs wr HA.out
        have hzl : zs.length = us.length := HD.out.len
        have hs1 := slice_low (P := Tryz.prog) knT (some ⟨b, off, none⟩) us.length cap a (by omega)
        have hs2 := slice_high (P := Tryz.prog) knT (some ⟨b, off, none⟩) us.length cap a (by omega)
        have hsl : sliced (some ⟨b, off, none⟩) a us.length cap LT.c = .slice (some ⟨b, off + a, none⟩) (us.length - a) (cap - a) := by
          unfold sliced
          rw [if_neg (by omega)]
          simp [Addr.add_lit, show LT.c = 1 from rfl]
        have hsh : sliced (some ⟨b, off, none⟩) 0 a cap LT.c = .slice (some ⟨b, off, none⟩) a cap := by
          unfold sliced
          rw [if_neg (by omega)]
          simp [Addr.add_lit]
        rw [hsl] at hs1
        rw [hsh] at hs2
        have hcl2 : ∀ ty, (Builtin.clear_ #[31] ty #[.slice (some ⟨b, off + a, none⟩) (us.length - a) (cap - a)]).run Tryz.prog wr = .ok (.tuple #[]) (wr.setCells b (off + a) (List.replicate (us.length - a) (.string ⟨#[]⟩))) := fun ty =>
          Lib.run_clear_slice wr _ 9 ty _ Tryz.underlying31 (fun w => by kernel_rfl) rfl rfl b (off + a) _ _ (by omega) (fun j hj => by
            obtain ⟨ba, oa, hba', hba, hca⟩ := text_at (n := us.length) (cap := cap) hM.slice (i := a + j) (List.getElem?_eq_getElem (by omega))
            injection hba' with hba'
            injection hba' with hb1 hb2 _
            subst hb1 hb2
            rw [show off + a + j = off + (a + j) by omega, hca]
            rfl) (fun j hj => by
            rcases id hM with ⟨hv', _⟩ | ⟨g', off', cap', cur, hv', hg, hh, -⟩
            · cases hv'
            · injection hv' with e1 e2 e3
              injection e1 with e1
              injection e1 with e4 e5 _
              subst e4
              simp [World.frozen?, hh])
        obtain ⟨zs', hm', hl', ht', hg'⟩ := hM.fill (a := a) (m := us.length - a) (by omega)
        have HK9 := Lib.hid (HP.out zs zs' wr _ HA.out hm' hg')
        have HM9 := Lib.hid (hm'.sub 0 a (Nat.zero_le _) (by omega))
        rw [hsh] at HM9
        have HF : Hid ((zs'.take a).drop 0 = us.filter (fun x => !p x)) := Lib.hid (by
          rw [List.drop_zero, ht', HD.out.front, List.take_length])
        generalize wr.setCells b (off + a) (List.replicate (us.length - a) (.string ⟨#[]⟩)) = w9 at hcl2 HK9 HM9
        clear hM hm' hg' hsl hsh ht'
        go_wp2_with fail
        go_ret
        exact ⟨_, zs', rfl, by rw [← HF.out]; exact HM9.out, fun k hk => hk, HK9.out⟩
end Go.Proofs.YtjiecjpepiknmaaGreat

namespace Go.Proofs.YtjiecjpepiknmaaGreat
set_option maxRecDepth 20000
open Go.RowKit Go.Maps Go.ChangeMaps
set_option linter.unusedVariables false
set_option linter.unusedSimpArgs false
theorem roomsV_filter {V : Vw} (h : Up (V.map Prod.fst)) (u : ByteArray) : (V.map Prod.fst).filter (fun r => joinL (ofL V r) u) = roomsV V u := by
  unfold roomsV
  rw [List.filter_map]
  congr 1
  apply List.filter_congr
  intro p hp
  simp only [Function.comp_apply]
  rw [ofL_in h hp]
/-- All who are joined in one of these rooms. -/
def nearL (V : Vw) (rs : List ByteArray) : List ByteArray := rs.flatMap (fun r => usersL (ofL V r))
theorem nearL_snoc (V : Vw) (rs : List ByteArray) (r : ByteArray) : nearL V (rs ++ [r]) = nearL V rs ++ usersL (ofL V r) := by simp [nearL]
theorem nearL_len {n : Nat} {V : Vw} (h : VOk n V) : ∀ rs : List ByteArray, (nearL V rs).length ≤ rs.length * n
  | [] => by simp [nearL]
  | r :: rs => by
    have h1 := nearL_len h rs
    have h2 := usersL_len (ofL V r)
    have h3 := (h.of_ r).2
    unfold nearL at *
    rw [List.flatMap_cons, List.length_append, List.length_cons, Nat.succ_mul]
    omega
section
variable {C : Dags} {w wr w' : World} {vs : List VI} {ts : List Th} {v : VI} {i : Nat}
theorem CVs.room40 (h : CVs C w v) {r : ByteArray} (hr : r ∈ v.V.map Prod.fst) : r.size ≤ 40 := by
  obtain ⟨p, hp, rfl⟩ := List.mem_map.1 hr
  exact (h.ok.each p hp).2.2
theorem roomsV_in {V : Vw} {u r : ByteArray} (h : r ∈ roomsV V u) : r ∈ V.map Prod.fst := by
  unfold roomsV at h
  obtain ⟨p, hp, rfl⟩ := List.mem_map.1 h
  exact List.mem_map.2 ⟨p, (List.mem_filter.1 hp).1, rfl⟩
theorem roomsV_len (V : Vw) (u : ByteArray) : (roomsV V u).length ≤ V.length := by
  unfold roomsV
  rw [List.length_map]
  exact List.length_filter_le _ _
/-- What is asked, and about whom, as they lie in boxes. -/
def Th.ask (B : Nat) (f : Nat) (g : Nat) : Th := Th.box B (.cells #[.func (.func f) #[.pointer (some ⟨g, 0, none⟩)] #[]] 129 (0, 0))
def Th.who (B : Nat) (u : ByteArray) : Th := Th.box B (.cells #[.string u] 9 (0, 0))

set_option maxHeartbeats 800000 in
theorem whereJ_any (CA : DagAlls C) (h : Kv C w wr vs ts) (hi : vs[i]? = some v) (b4 b5 : Nat) (u room : ByteArray) (h4 : Th.ask b4 31 v.g ∈ ts) (h5 : Th.who b5 u ∈ ts) (hr : room.size ≤ 40) (hu : u.size ≤ maxLen) :
    Calls Tryz.prog 102 #[.string room, .pointer (some ⟨b4, 0, none⟩), .pointer (some ⟨b5, 0, none⟩)] wr fun e w' => e = .returned (.bool (!joinL (ofL v.V room) u)) ∧ Kv C w w' vs ts := by
  have HB4 : wr.heap[b4]? = _ := h.is h4
  have HB5 : wr.heap[b5]? = _ := h.is h5
  have c4 : wr.cell? ⟨b4, 0, none⟩ = some (.func (.func 31) #[.pointer (some ⟨v.g, 0, none⟩)] #[]) := cell_at HB4 0
  have c5 : wr.cell? ⟨b5, 0, none⟩ = some (.string u) := cell_at HB5 0
  have HQ := Lib.hid (viewJoined_any CA h hi room hr u hu)
  clear h h4 h5 HB4 HB5
  go_enter Tryz.func102, Tryz.ntmps102
  go_wp2_with fail
  go_at_call 31
  refine HQ.out.mono ?_
  rintro e w1 ⟨rfl, hk⟩
  have HK := Lib.hid hk
  clear hk HQ c4 c5
  go_wp2_with fail
  go_ret
  exact ⟨rfl, HK.out⟩

set_option maxHeartbeats 800000 in
theorem meetsJ_any (CA : DagAlls C) (h : Kv C w wr vs ts) (hi : vs[i]? = some v) (b4 b5 : Nat) (u room : ByteArray) (h4 : Th.ask b4 31 v.g ∈ ts) (h5 : Th.who b5 u ∈ ts) (hr : room.size ≤ 40) (hu : u.size ≤ maxLen) :
    Calls Tryz.prog 106 #[.string room, .pointer (some ⟨b4, 0, none⟩), .pointer (some ⟨b5, 0, none⟩)] wr fun e w' => e = .returned (.bool (joinL (ofL v.V room) u)) ∧ Kv C w w' vs ts := by
  have HB4 : wr.heap[b4]? = _ := h.is h4
  have HB5 : wr.heap[b5]? = _ := h.is h5
  have c4 : wr.cell? ⟨b4, 0, none⟩ = some (.func (.func 31) #[.pointer (some ⟨v.g, 0, none⟩)] #[]) := cell_at HB4 0
  have c5 : wr.cell? ⟨b5, 0, none⟩ = some (.string u) := cell_at HB5 0
  have HQ := Lib.hid (viewJoined_any CA h hi room hr u hu)
  clear h h4 h5 HB4 HB5
  go_enter Tryz.func106, Tryz.ntmps106
  go_wp2_with fail
  go_at_call 31
  refine HQ.out.mono ?_
  rintro e w1 ⟨rfl, hk⟩
  have HK := Lib.hid hk
  clear hk HQ c4 c5
  go_wp2_with fail
  go_ret
  exact ⟨rfl, HK.out⟩

set_option maxHeartbeats 800000 in
theorem meetsI_any (CA : DagAlls C) (h : Kv C w wr vs ts) (hi : vs[i]? = some v) (b4 b5 : Nat) (u room : ByteArray) (h4 : Th.ask b4 34 v.g ∈ ts) (h5 : Th.who b5 u ∈ ts) (hr : room.size ≤ 40) :
    Calls Tryz.prog 106 #[.string room, .pointer (some ⟨b4, 0, none⟩), .pointer (some ⟨b5, 0, none⟩)] wr fun e w' => e = .returned (.bool (hasL (serversL (ofL v.V room)) u)) ∧ Kv C w w' vs ts := by
  have HB4 : wr.heap[b4]? = _ := h.is h4
  have HB5 : wr.heap[b5]? = _ := h.is h5
  have c4 : wr.cell? ⟨b4, 0, none⟩ = some (.func (.func 34) #[.pointer (some ⟨v.g, 0, none⟩)] #[]) := cell_at HB4 0
  have c5 : wr.cell? ⟨b5, 0, none⟩ = some (.string u) := cell_at HB5 0
  have HQ := Lib.hid (viewIn_any CA h hi room hr u)
  clear h h4 h5 HB4 HB5
  go_enter Tryz.func106, Tryz.ntmps106
  go_wp2_with fail
  go_at_call 34
  refine HQ.out.mono ?_
  rintro e w1 ⟨rfl, hk⟩
  have HK := Lib.hid hk
  clear hk HQ c4 c5
  go_wp2_with fail
  go_ret
  exact ⟨rfl, HK.out⟩

/-- Two boxes are made. -/
theorem Kv.asked (h : Kv C w wr vs ts) (f g : Nat) (u : ByteArray) : Kv C w ((wr.alloc (.cells #[.func (.func f) #[.pointer (some ⟨g, 0, none⟩)] #[]] 129)).alloc (.cells #[.string u] 9)) vs (Th.who (wr.heap.size + 1) u :: Th.ask wr.heap.size f g :: ts) := by
  have hs : (wr.alloc (.cells #[.func (.func f) #[.pointer (some ⟨g, 0, none⟩)] #[]] 129)).heap.size = wr.heap.size + 1 := by simp
  have h1 := h.add (t := Th.ask wr.heap.size f g) (below_new wr _) (heap_alloc_new wr _) (fun k hk => .inl (Nat.le_of_eq hk.symm))
  refine h1.add (t := Th.who (wr.heap.size + 1) u) (below_new _ _) ?_ (fun k hk => .inl (by rw [hs]; exact Nat.le_of_eq hk.symm))
  have := heap_alloc_new (wr.alloc (.cells #[.func (.func f) #[.pointer (some ⟨g, 0, none⟩)] #[]] 129)) (.cells #[.string u] 9)
  rw [hs] at this
  exact this

set_option maxHeartbeats 1600000 in
theorem viewWhere_any (CA : DagAlls C) (CR : DagRms C) (h : Kv C w wr vs ts) (hi : vs[i]? = some v) (u : ByteArray) (hu : u.size ≤ maxLen) :
    Calls Tryz.prog 73 #[.pointer (some ⟨v.g, 0, none⟩), .func (.func 31) #[.pointer (some ⟨v.g, 0, none⟩)] #[], .string u] wr fun e w' => ∃ v', e = .returned v' ∧ LT.Mine w' wr.heap.size v' (roomsV v.V u) ∧ KvT C w wr w' vs ts (Th.mine LT wr.heap.size v' (roomsV v.V u)) := by
  have HK := Lib.hid (h.asked 31 v.g u)
  have HTS : Hid (∀ t ∈ ts, ∀ k, t.P k → k < wr.heap.size) := Lib.hid (fun t ht k hk => t.lt wr k (h.is ht) hk)
  have HWB : Hid (w.heap.size ≤ wr.heap.size) := Lib.hid h.below.size
  have HUP : Hid (Up (v.V.map Prod.fst)) := Lib.hid (h.cv hi).ok.up
  have HRS : Hid (∀ r ∈ v.V.map Prod.fst, r.size ≤ 40) := Lib.hid (fun r hr => (h.cv hi).room40 hr)
  have hs2 : ((wr.alloc (.cells #[.func (.func 31) #[.pointer (some ⟨v.g, 0, none⟩)] #[]] 129)).alloc (.cells #[.string u] 9)).heap.size = wr.heap.size + 2 := by simp
  have HI := Lib.hid hi
  clear h hi
  go_enter Tryz.func73, Tryz.ntmps73
  go_upto_region 1 with (fail)
  generalize World.alloc _ _ = w2 at HK hs2 ⊢
  generalize hBB : wr.heap.size = B at HK HTS HWB hs2 ⊢
  have HBB := Lib.hid hBB
  clear hBB
  have HQ := Lib.hid (viewRooms_any CR HK.out HI.out)
  have HFL : Hid ((v.V.map Prod.fst).filter (fun x => !(!joinL (ofL v.V x) u)) = roomsV v.V u) := Lib.hid (by
    rw [← roomsV_filter HUP.out u]
    congr 1
    funext x
    rw [Bool.not_not])
  have hs3 := Lib.hid hs2
  clear hs2
  generalize v.V.map Prod.fst = rs at HQ HRS HUP HFL
  go_wp2_with fail
  go_at_call 20
  refine HQ.out.mono ?_
  rintro e w3 ⟨vr, rfl, hm, hk, hnew⟩
  obtain ⟨Ar, cr, rfl, -⟩ := id hm.shape
  rw [hs3.out] at hm hk hnew
  have HM := Lib.hid hm
  have HK3 := Lib.hid hk
  have HDF := Lib.hid (deleteFunc_any B (B + 1) (B + 2) (fun zs W => Kv C w W vs (Th.mine LT (B + 2) (.slice Ar rs.length cr) zs :: Th.who (B + 1) u :: Th.ask B 31 v.g :: ts)) (fun r => !joinL (ofL v.V r) u) (.slice Ar rs.length cr) rs w3 hk (fun zs W h => h.is List.mem_cons_self) (fun zs zs' W W' h hm' hg' => h.put hg' (fun k hk => by
      have hlo := ((show LT.Mine W (B + 2) (.slice Ar rs.length cr) zs from h.is List.mem_cons_self).lt k hk).1
      refine ⟨hk, by have := HWB.out; omega, fun t ht hk' => ?_⟩
      rcases List.mem_cons.1 ht with rfl | ht
      · have : k = B + 1 := hk'
        omega
      · rcases List.mem_cons.1 ht with rfl | ht
        · have : k = B := hk'
          omega
        · have := HTS.out t ht k hk'
          omega) hm' (fun k hk => .inl hk)) (fun zs W x h hx => whereJ_any CA h HI.out B (B + 1) u x (List.mem_cons_of_mem _ (List.mem_cons_of_mem _ List.mem_cons_self)) (List.mem_cons_of_mem _ List.mem_cons_self) (HRS.out x hx) hu))
  clear hm hk hnew HQ HK
  go_wp2_with fail
  go_at_call 101
  refine HDF.out.mono ?_
  rintro e w4 ⟨v4, zs, rfl, hm4, ho4, hk4⟩
  rw [HFL.out] at hm4
  have hB : wr.heap.size ≤ B + 2 := by rw [HBB.out]; omega
  have HM4 := Lib.hid (show LT.Mine w4 wr.heap.size v4 (roomsV v.V u) from hm4.mono hB)
  have HT4 : Hid (KvT C w wr w4 vs ts (Th.mine LT wr.heap.size v4 (roomsV v.V u))) := Lib.hid ⟨((hk4.as (t' := Th.mine LT wr.heap.size v4 (roomsV v.V u)) (hm4.mono hB) (fun k hk => ho4 k hk)).less (fun t ht => by
    rcases List.mem_cons.1 ht with rfl | ht
    · exact List.mem_cons_self
    · exact List.mem_cons_of_mem _ (List.mem_cons_of_mem _ (List.mem_cons_of_mem _ ht)))), fun k hk => by
    have := (hm4.lt k hk).1
    omega⟩
  obtain ⟨A4, c4, rfl, -⟩ := id HM4.out.shape
  clear hm4 hk4 ho4 HDF
  go_wp2_with fail
  go_ret
  exact ⟨_, rfl, HM4.out, HT4.out⟩
theorem viewRoomsOf_any (CA : DagAlls C) (CR : DagRms C) (h : Kv C w wr vs ts) (hi : vs[i]? = some v) (u : ByteArray) (hu : u.size ≤ maxLen) :
    Calls Tryz.prog 38 #[.pointer (some ⟨v.g, 0, none⟩), .string u] wr fun e w' => ∃ v', e = .returned v' ∧ LT.Mine w' wr.heap.size v' (roomsV v.V u) ∧ KvT C w wr w' vs ts (Th.mine LT wr.heap.size v' (roomsV v.V u)) := by
  have HQ := Lib.hid (viewWhere_any CA CR h hi u hu)
  clear h hi
  go_enter Tryz.func38, Tryz.ntmps38
  go_wp2_with fail
  go_at_call 73
  refine HQ.out.mono ?_
  rintro e w3 ⟨vr, rfl, hm, hk⟩
  obtain ⟨Ar, cr, rfl, -⟩ := id hm.shape
  have HM := Lib.hid hm
  have HK := Lib.hid hk
  clear hm hk HQ
  go_wp2_with fail
  go_ret
  exact ⟨_, rfl, HM.out, HK.out⟩

set_option maxHeartbeats 1600000 in
theorem viewMeetsJ_any (CA : DagAlls C) (CR : DagRms C) (h : Kv C w wr vs ts) (hi : vs[i]? = some v) (u o : ByteArray) (hu : u.size ≤ maxLen) (ho : o.size ≤ maxLen) :
    Calls Tryz.prog 75 #[.pointer (some ⟨v.g, 0, none⟩), .string u, .func (.func 31) #[.pointer (some ⟨v.g, 0, none⟩)] #[], .string o] wr fun e w' => e = .returned (.bool ((roomsV v.V u).any (fun r => joinL (ofL v.V r) o))) ∧ Kv C w w' vs ts := by
  have HK := Lib.hid (h.asked 31 v.g o)
  have HRS : Hid (∀ r ∈ v.V.map Prod.fst, r.size ≤ 40) := Lib.hid (fun r hr => (h.cv hi).room40 hr)
  have HI := Lib.hid hi
  clear h hi
  go_enter Tryz.func75, Tryz.ntmps75
  go_upto_region 1 with (fail)
  generalize World.alloc _ _ = w2 at HK ⊢
  generalize wr.heap.size = B at HK ⊢
  have HQ := Lib.hid (viewRoomsOf_any CA CR HK.out HI.out u hu)
  go_wp2_with fail
  go_at_call 38
  refine HQ.out.mono ?_
  rintro e w3 ⟨vr, rfl, hm, hk, hnew⟩
  obtain ⟨Ar, cr, rfl, -⟩ := id hm.shape
  have HCF := Lib.hid (containsFunc_any B (B + 1) (fun W => Kv C w W vs (Th.mine LT w2.heap.size (.slice Ar (roomsV v.V u).length cr) (roomsV v.V u) :: Th.who (B + 1) o :: Th.ask B 31 v.g :: ts)) (fun r => joinL (ofL v.V r) o) (.slice Ar (roomsV v.V u).length cr) (roomsV v.V u) w3 hk (fun W h => (show LT.Mine W w2.heap.size _ _ from h.is List.mem_cons_self).slice) (fun W x h hx => meetsJ_any CA h HI.out B (B + 1) o x (List.mem_cons_of_mem _ (List.mem_cons_of_mem _ List.mem_cons_self)) (List.mem_cons_of_mem _ List.mem_cons_self) (HRS.out x (roomsV_in hx)) ho))
  clear hm hk hnew HQ HK
  go_wp2_with fail
  go_at_call 105
  refine HCF.out.mono ?_
  rintro e w4 ⟨rfl, hk4⟩
  have HK4 := Lib.hid (hk4.less (ts' := ts) (fun t ht => List.mem_cons_of_mem _ (List.mem_cons_of_mem _ (List.mem_cons_of_mem _ ht))))
  clear hk4 HCF
  go_wp2_with fail
  go_ret
  exact ⟨rfl, HK4.out⟩

set_option maxHeartbeats 1600000 in
theorem viewMeetsI_any (CA : DagAlls C) (CR : DagRms C) (h : Kv C w wr vs ts) (hi : vs[i]? = some v) (u o : ByteArray) (hu : u.size ≤ maxLen) :
    Calls Tryz.prog 75 #[.pointer (some ⟨v.g, 0, none⟩), .string u, .func (.func 34) #[.pointer (some ⟨v.g, 0, none⟩)] #[], .string o] wr fun e w' => e = .returned (.bool ((roomsV v.V u).any (fun r => hasL (serversL (ofL v.V r)) o))) ∧ Kv C w w' vs ts := by
  have HK := Lib.hid (h.asked 34 v.g o)
  have HRS : Hid (∀ r ∈ v.V.map Prod.fst, r.size ≤ 40) := Lib.hid (fun r hr => (h.cv hi).room40 hr)
  have HI := Lib.hid hi
  clear h hi
  go_enter Tryz.func75, Tryz.ntmps75
  go_upto_region 1 with (fail)
  generalize World.alloc _ _ = w2 at HK ⊢
  generalize wr.heap.size = B at HK ⊢
  have HQ := Lib.hid (viewRoomsOf_any CA CR HK.out HI.out u hu)
  go_wp2_with fail
  go_at_call 38
  refine HQ.out.mono ?_
  rintro e w3 ⟨vr, rfl, hm, hk, hnew⟩
  obtain ⟨Ar, cr, rfl, -⟩ := id hm.shape
  have HCF := Lib.hid (containsFunc_any B (B + 1) (fun W => Kv C w W vs (Th.mine LT w2.heap.size (.slice Ar (roomsV v.V u).length cr) (roomsV v.V u) :: Th.who (B + 1) o :: Th.ask B 34 v.g :: ts)) (fun r => hasL (serversL (ofL v.V r)) o) (.slice Ar (roomsV v.V u).length cr) (roomsV v.V u) w3 hk (fun W h => (show LT.Mine W w2.heap.size _ _ from h.is List.mem_cons_self).slice) (fun W x h hx => meetsI_any CA h HI.out B (B + 1) o x (List.mem_cons_of_mem _ (List.mem_cons_of_mem _ List.mem_cons_self)) (List.mem_cons_of_mem _ List.mem_cons_self) (HRS.out x (roomsV_in hx))))
  clear hm hk hnew HQ HK
  go_wp2_with fail
  go_at_call 105
  refine HCF.out.mono ?_
  rintro e w4 ⟨rfl, hk4⟩
  have HK4 := Lib.hid (hk4.less (ts' := ts) (fun t ht => List.mem_cons_of_mem _ (List.mem_cons_of_mem _ (List.mem_cons_of_mem _ ht))))
  clear hk4 HCF
  go_wp2_with fail
  go_ret
  exact ⟨rfl, HK4.out⟩

theorem viewFriends_any (CA : DagAlls C) (CR : DagRms C) (h : Kv C w wr vs ts) (hi : vs[i]? = some v) (u o : ByteArray) (hu : u.size ≤ maxLen) (ho : o.size ≤ maxLen) :
    Calls Tryz.prog 41 #[.pointer (some ⟨v.g, 0, none⟩), .string u, .string o] wr fun e w' => e = .returned (.bool ((roomsV v.V u).any (fun r => joinL (ofL v.V r) o))) ∧ Kv C w w' vs ts := by
  have HQ := Lib.hid (viewMeetsJ_any CA CR h hi u o hu ho)
  clear h hi
  go_enter Tryz.func41, Tryz.ntmps41
  go_wp2_with fail
  go_at_call 75
  refine HQ.out.mono ?_
  rintro e w3 ⟨rfl, hk⟩
  have HK := Lib.hid hk
  clear hk HQ
  go_wp2_with fail
  go_ret
  exact ⟨rfl, HK.out⟩

theorem viewShares_any (CA : DagAlls C) (CR : DagRms C) (h : Kv C w wr vs ts) (hi : vs[i]? = some v) (u o : ByteArray) (hu : u.size ≤ maxLen) :
    Calls Tryz.prog 43 #[.pointer (some ⟨v.g, 0, none⟩), .string u, .string o] wr fun e w' => e = .returned (.bool ((roomsV v.V u).any (fun r => hasL (serversL (ofL v.V r)) o))) ∧ Kv C w w' vs ts := by
  have HQ := Lib.hid (viewMeetsI_any CA CR h hi u o hu)
  clear h hi
  go_enter Tryz.func43, Tryz.ntmps43
  go_wp2_with fail
  go_at_call 75
  refine HQ.out.mono ?_
  rintro e w3 ⟨rfl, hk⟩
  have HK := Lib.hid hk
  clear hk HQ
  go_wp2_with fail
  go_ret
  exact ⟨rfl, HK.out⟩
end
end Go.Proofs.YtjiecjpepiknmaaGreat

namespace Go.Proofs.YtjiecjpepiknmaaGreat
set_option maxRecDepth 20000
open Go.RowKit Go.Maps Go.ChangeMaps
set_option linter.unusedVariables false
set_option linter.unusedSimpArgs false
section
variable {C : Dags} {w wr w' : World} {vs : List VI} {ts : List Th} {v : VI} {i : Nat}
/-- While users are gathered. -/
structure PeS (C : Dags) (w wb wr : World) (vs : List VI) (ts : List Th) (rv u : Value) (rs ns : List ByteArray) : Prop where
  kv : Kv C w wr vs (Th.mine LT wb.heap.size u ns :: Th.mine LT wb.heap.size rv rs :: Th.low wb.heap.size :: ts)
  far : ∀ k, u.ownBlock = some k → rv.ownBlock ≠ some k

set_option maxHeartbeats 3200000 in
theorem viewPeers_any (CA : DagAlls C) (CR : DagRms C) (h : Kv C w wr vs ts) (hi : vs[i]? = some v) (hv : VOk 20 v.V) (user : ByteArray) (hu : user.size ≤ maxLen) :
    Calls Tryz.prog 40 #[.pointer (some ⟨v.g, 0, none⟩), .string user] wr fun e w' => ∃ v', e = .returned v' ∧ KvT C w wr w' vs ts (Th.row LT v' (homesL (nearL v.V (roomsV v.V user)))) := by
  obtain ⟨wb, hwb⟩ : ∃ wb, wb = wr := ⟨_, rfl⟩
  subst hwb
  have HTS : Hid (∀ t ∈ ts, ∀ k, t.P k → k < wb.heap.size) := Lib.hid (fun t ht k hk => t.lt wb k (h.is ht) hk)
  have HWB : Hid (w.heap.size ≤ wb.heap.size) := Lib.hid h.below.size
  have HRS : Hid (∀ r ∈ roomsV v.V user, r.size ≤ 40) := Lib.hid (fun r hr => (h.cv hi).room40 (roomsV_in hr))
  have HNL : Hid (∀ rs : List ByteArray, (nearL v.V rs).length ≤ rs.length * 20) := Lib.hid (fun rs => nearL_len hv rs)
  have HSM : Hid (∀ rs, ∀ z ∈ nearL v.V rs, z.size ≤ 281474976710656) := Lib.hid (fun rs z hz => by
    unfold nearL at hz
    obtain ⟨r, -, hz⟩ := List.mem_flatMap.1 hz
    exact Nat.le_trans (users_small (hv.of_ r).1 z hz) (by omega))
  have hrl : (roomsV v.V user).length ≤ 20 := Nat.le_trans (roomsV_len _ _) hv.len
  have HUL : Hid (∀ r, (usersL (ofL v.V r)).length ≤ 20) := Lib.hid (fun r => Nat.le_trans (usersL_len _) (hv.of_ r).2)
  have HQ := Lib.hid (viewRoomsOf_any CA CR h.low hi user hu)
  have HI := Lib.hid hi
  clear h hi hv
  generalize roomsV v.V user = rs at HQ HRS hrl ⊢
  go_enter Tryz.func40, Tryz.ntmps40
  go_wp2_with fail
  go_at_call 38
  refine HQ.out.mono ?_
  rintro e w1 ⟨rv, rfl, hm, hk, hnew⟩
  obtain ⟨Ar, cr, rfl, hc1, hc2, -⟩ := id hm.shape
  unfold maxLen at hc2
  have HS0 : Hid (PeS C w wb w1 vs ts (.slice Ar rs.length cr) (.slice none 0 0) rs []) := Lib.hid ⟨hk.with (t := Th.mine LT wb.heap.size (.slice none 0 0) []) (Lies.Mine.nil _ _) (fun k hk => by cases hk), fun k hk => by cases hk⟩
  clear hm hk hnew HQ
  go_wp2_with fail
  go_loopw [12, 5, 7] (fun x u _ wr => ∃ (a : Nat) (ns : List ByteArray) (A : Option Addr) (c : Nat), x = .int .i64 (a : Int) ∧ u = .slice A ns.length c ∧ a ≤ rs.length ∧ Hid (ns = nearL v.V (rs.take a)) ∧ Hid (PeS C w wb wr vs ts (.slice Ar rs.length cr) u rs ns)) (fun x _ _ _ => rs.length - (intOf x).toNat)
  case atStart => exact ⟨0, [], none, 0, rfl, rfl, Nat.zero_le _, Lib.hid rfl, HS0⟩
  case round =>
    obtain ⟨a, ns, A, c, rfl, rfl, ha, HN, HA⟩ := hrel
    clear HS0
    have hnl : ns.length ≤ 400 := by
      have := HNL.out (rs.take a)
      rw [← HN.out, List.length_take] at this
      have : min a rs.length * 20 ≤ 20 * 20 := Nat.mul_le_mul_right _ (by omega)
      omega
    by_cases hax : a < rs.length
    · have q1 : decide ((a : Int) < (rs.length : Int)) = true := decide_eq_true (by omega)
      have hx : rs[a]? = some rs[a] := List.getElem?_eq_getElem hax
      generalize rs[a] = r at hx
      have HX := Lib.hid hx
      have hrow : LT.Slice wr (.slice Ar rs.length cr) rs := (show LT.Mine wr wb.heap.size (.slice Ar rs.length cr) rs from HA.out.kv.is (List.mem_cons_of_mem _ List.mem_cons_self)).slice
      obtain ⟨bo, oo, hbo', hbo, hco⟩ := text_at hrow hx
      have hiy := index_any (P := Tryz.prog) knT (by decide) (b := bo) (off := oo) (cap := cr) hax
      simp only [LT] at hiy
      rw [Nat.mul_one, ← hbo'] at hiy
      clear hbo'
      have HQ := Lib.hid (viewUsers_any CA HA.out.kv HI.out r (HRS.out r (List.mem_of_getElem? hx)))
      have HUR := Lib.hid (HUL.out r)
      have HNS : Hid (nearL v.V (rs.take (a + 1)) = ns ++ usersL (ofL v.V r)) := Lib.hid (by
        rw [List.take_add_one, hx, HN.out]
        exact nearL_snoc _ _ _)
      generalize usersL (ofL v.V r) = us at HQ HUR HNS
      clear hx hrow
      go_wp2_with fail
      go_at_call 27
      refine HQ.out.mono ?_
      rintro e w4 ⟨uv, rfl, hk4, hn4⟩
      have hrow4 : LT.Slice w4 uv us := hk4.is List.mem_cons_self
      obtain ⟨Au, cu, rfl, -⟩ := id hrow4
      have HK4 := Lib.hid (show Kv C w w4 vs (Th.mine LT wb.heap.size (.slice A ns.length c) ns :: Th.row LT (.slice Au us.length cu) us :: Th.mine LT wb.heap.size (.slice Ar rs.length cr) rs :: Th.low wb.heap.size :: ts) from hk4.swap)
      have HM4 := Lib.hid (show LT.Mine w4 wb.heap.size (.slice A ns.length c) ns from HK4.out.is List.mem_cons_self)
      have HR4 := Lib.hid hrow4
      have hs4 : wb.heap.size ≤ w4.heap.size := HK4.out.is (List.mem_cons_of_mem _ (List.mem_cons_of_mem _ (List.mem_cons_of_mem _ List.mem_cons_self)))
      have HNW : Hid (∀ k, 0 < us.length ∧ (Value.slice Au us.length cu).ownBlock = some k → wr.heap.size ≤ k) := Lib.hid hn4
      have HOL : Hid (∀ k, (Value.slice A ns.length c).ownBlock = some k → k < wr.heap.size) := Lib.hid (fun k hk => ((show LT.Mine wr wb.heap.size (.slice A ns.length c) ns from HA.out.kv.is List.mem_cons_self).lt k hk).2)
      have HFA := Lib.hid HA.out.far
      have HOR : Hid (∀ k, (Value.slice Ar rs.length cr).ownBlock = some k → k < w4.heap.size) := Lib.hid (fun k hk => ((show LT.Mine w4 wb.heap.size (.slice Ar rs.length cr) rs from HK4.out.is (List.mem_cons_of_mem _ (List.mem_cons_of_mem _ List.mem_cons_self))).lt k hk).2)
      clear hk4 hn4 hrow4 HQ HA hco
      go_wp2_with (at_builtin; refine wpList_puts rfl knT (.tmp 16) (.tmp 19) 31 rfl (v := .slice A ns.length c) rfl HM4.out hs4 (.slice Au us.length cu) us us.length rfl rfl (HR4.out.srcN knT rfl) (by have := HUR.out; omega) ?_; intro A7 c7 w7 m7 g7 o7; have HN7 : Hid (PeS C w wb w7 vs ts (.slice Ar rs.length cr) (.slice A7 (ns.length + us.length) c7) rs (ns ++ us)) := (by
        refine Lib.hid ⟨(HK4.out.put (t' := Th.mine LT wb.heap.size (.slice A7 (ns.length + us.length) c7) (ns ++ us)) g7 (fun k hk => ⟨hk, Nat.le_trans HWB.out (HM4.out.lt k hk).1, fun u hu hk' => ?_⟩) m7 (fun k hk => o7 k hk)).less (fun t ht => ?_), fun k hk e => ?_⟩
        · rcases List.mem_cons.1 hu with rfl | hu
          · have h1 := HNW.out k hk'
            have h2 := HOL.out k hk
            omega
          · rcases List.mem_cons.1 hu with rfl | hu
            · exact HFA.out k hk hk'
            · rcases List.mem_cons.1 hu with rfl | hu
              · exact hk'
              · have h1 := HTS.out u hu k hk'
                have h2 := (HM4.out.lt k hk).1
                omega
        · rcases List.mem_cons.1 ht with rfl | ht
          · exact List.mem_cons_self
          · exact List.mem_cons_of_mem _ (List.mem_cons_of_mem _ ht)
        · rcases o7 k hk with hh | hh
          · exact HFA.out k hh e
          · have := HOR.out k e
            omega); clear m7 g7 o7)
      refine ⟨⟨a + 1, ns ++ us, A7, c7, by go_num, by rw [List.length_append], by omega, Lib.hid HNS.out.symm, HN7⟩, ?_⟩
      simp [intOf]; omega
    · have q1 : decide ((a : Int) < (rs.length : Int)) = false := decide_eq_false (by omega)
      have hend : ns = nearL v.V rs := by
        rw [HN.out, List.take_of_length_le (by omega)]
      have HM := Lib.hid (show LT.Mine wr wb.heap.size (.slice A ns.length c) ns from HA.out.kv.is List.mem_cons_self)
      have HH := Lib.hid (homes_any (.slice A ns.length c) ns wr HM.out.slice (by omega) (by rw [hend]; exact HSM.out rs))
      have HE := Lib.hid hend
      have HLO : wb.heap.size ≤ wr.heap.size := HA.out.kv.is (List.mem_cons_of_mem _ (List.mem_cons_of_mem _ List.mem_cons_self))
      clear hend
      go_wp2_with fail
      go_at_call 74
      refine HH.out.mono ?_
      rintro e w4 ⟨hv, rfl, hm4, hb4⟩
      have HT : Hid (KvT C w wb w4 vs ts (Th.row LT hv (homesL (nearL v.V rs)))) := Lib.hid ⟨(HA.out.kv.add (t := Th.row LT hv (homesL (nearL v.V rs))) hb4 (by rw [← HE.out]; exact hm4.slice) (fun k hk => .inl (hm4.lt k hk.2).1)).less (fun t ht => by
        rcases List.mem_cons.1 ht with rfl | ht
        · exact List.mem_cons_self
        · exact List.mem_cons_of_mem _ (List.mem_cons_of_mem _ (List.mem_cons_of_mem _ (List.mem_cons_of_mem _ ht)))), fun k hk => Nat.le_trans HLO (hm4.lt k hk.2).1⟩
      obtain ⟨Ah, ch, rfl, -⟩ := id hm4.shape
      clear hm4 hb4 HH
      go_wp2_with fail
      go_ret
      exact ⟨_, rfl, HT.out⟩
end
end Go.Proofs.YtjiecjpepiknmaaGreat
