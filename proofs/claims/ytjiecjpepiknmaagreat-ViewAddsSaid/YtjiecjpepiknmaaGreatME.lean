/-
  Package name: bytes that may stand, servers.
-/
import Derived.Test.YtjiecjpepiknmaaGreatRows
import Derived.Test.YtjiecjpepiknmaaGreatMA
import Derived.WalkKit
import Derived.WalkSpells
import Derived.WalkLawsBesides
import Derived.Lib.Bytealg
import Derived.Lib.Hide
import Derived.Laws.BytesArg
import Derived.Deep.RegionHeld3
import Derived.Deep.DeepCutAuto
namespace Go.Proofs.YtjiecjpepiknmaaGreat
open Go.RowKit
set_option linter.unusedVariables false
set_option linter.unusedSimpArgs false
set_option maxRecDepth 20000

set_option maxHeartbeats 400000 in
theorem low_any (c : Int) (w : World) (h0 : 0 ≤ c) (h1 : c ≤ 255) :
    Calls Tryz.prog 142 #[.int .u8 c] w fun e w' => e = .returned (.bool (lowI c)) ∧ w = w' := by
  have hd : (97 ≤ c ∧ c ≤ 122) ∨ (48 ≤ c ∧ c ≤ 57) ∨ (122 < c) ∨ (57 < c ∧ c < 97) ∨ (c < 48) := by omega
  rcases hd with h | h | h | h | h
  all_goals
    go_enter Tryz.func142, Tryz.ntmps142
    go_wp2
    go_ret
    refine ⟨?_, rfl⟩
    simp [lowI]
    all_goals first | omega | (rw [Bool.eq_iff_iff]; simp; omega)

set_option maxHeartbeats 400000 in
theorem plain_any (c : Int) (w : World) (h0 : 0 ≤ c) (h1 : c ≤ 255) :
    Calls Tryz.prog 172 #[.int .u8 c] w fun e w' => e = .returned (.bool (lowI c)) ∧ w = w' := by
  have hd : (97 ≤ c ∧ c ≤ 122) ∨ (48 ≤ c ∧ c ≤ 57) ∨ (122 < c) ∨ (57 < c ∧ c < 97) ∨ (c < 48) := by omega
  rcases hd with h | h | h | h | h
  all_goals
    go_enter Tryz.func172, Tryz.ntmps172
    go_wp2
    go_ret
    refine ⟨?_, rfl⟩
    simp [lowI]
    all_goals first | omega | (rw [Bool.eq_iff_iff]; simp; omega)

set_option maxHeartbeats 400000 in
theorem indexByte_lite (s : ByteArray) (c : Int) (w : World) :
    Calls Tryz.prog 187 #[.string s, .int .u8 c] w fun e w' => e = .returned (.int .i64 (Lib.indexByte s.data.toList c.toNat.toUInt8)) ∧ w = w' := by
  go_enter Tryz.func187, Tryz.ntmps187
  go_wp2
  rw [run_callFunc_extern Tryz.func194 (by kernel_rfl) (by kernel_rfl) (by kernel_rfl) (e := Extern.BytealgIndexByte.indexByte) (by kernel_rfl), Lib.run_indexByteString]
  simp only [Result.andThen]
  rw [Oper.upon_value]
  go_wp2
  go_ret
  exact ⟨rfl, rfl⟩

set_option maxHeartbeats 400000 in
theorem indexByte_any (s : ByteArray) (c : Int) (w : World) :
    Calls Tryz.prog 175 #[.string s, .int .u8 c] w fun e w' => e = .returned (.int .i64 (Lib.indexByte s.data.toList c.toNat.toUInt8)) ∧ w = w' := by
  go_enter Tryz.func175, Tryz.ntmps175
  go_wp2_with fail
  refine (indexByte_lite s c _).mono ?_
  rintro e w' ⟨rfl, rfl⟩
  go_wp2
  go_ret
  exact ⟨rfl, rfl⟩

set_option maxHeartbeats 400000 in
theorem signed_any (c : Int) (w : World) :
    Calls Tryz.prog 160 #[.int .u8 c] w fun e w' => e = .returned (.bool (c == 64 || c == 33)) ∧ w = w' := by
  cases h : (c == 64) <;> cases h2 : (c == 33)
  all_goals
    go_enter Tryz.func160, Tryz.ntmps160
    go_wp2
    go_ret
    exact ⟨rfl, rfl⟩

/-- A text of one byte. -/
def byteS (c : Int) : ByteArray := strOfNums [c]
theorem byteS_size (c : Int) : (byteS c).size = 1 := rfl
theorem conv_byte (c : Int) (w : World) : (convert 121 9 (.slice (some ⟨w.heap.size, 0, none⟩) 1 1)).run Tryz.prog (w.alloc (.cells #[.int .u8 c] 5)) = .ok (.string (byteS c)) (w.alloc (.cells #[.int .u8 c] 5)) :=
  run_convert_bytes_arg (P := Tryz.prog) _ 121 5 Tryz.underlying121 Tryz.underlying5 w.heap.size 0 1 1 [c] rfl (fun i hi => by
    obtain rfl : i = 0 := by omega
    simp) 9 Tryz.underlying9
end Go.Proofs.YtjiecjpepiknmaaGreat

namespace Go.Proofs.YtjiecjpepiknmaaGreat
open Go.RowKit
set_option linter.unusedVariables false
set_option linter.unusedSimpArgs false
set_option maxRecDepth 20000

set_option maxHeartbeats 400000 in
theorem with_any (c : Int) (bp bm : Addr) (more : ByteArray) (w : World) (h0 : 0 ≤ c) (h1 : c ≤ 255)
    (hp : w.cell? bp = some (.func (.func 172) #[] #[])) (hm : w.cell? bm = some (.string more)) :
    Calls Tryz.prog 174 #[.int .u8 c, .pointer (some bp), .pointer (some bm)] w fun e w' => e = .returned (.bool (withI more c)) ∧ w = w' := by
  cases hl : lowI c
  · have hL : withI more c = decide (0 ≤ Lib.indexByte more.data.toList c.toNat.toUInt8) := by simp [withI, hl]
    rw [hL]
    have HL := Lib.hid hl
    clear hl hL
    go_enter Tryz.func174, Tryz.ntmps174
    go_wp2_with fail
    refine (plain_any c _ h0 h1).mono ?_
    rintro e w' ⟨rfl, rfl⟩
    rw [HL.out]
    go_wp2_with fail
    refine (indexByte_any more c _).mono ?_
    rintro e w' ⟨rfl, rfl⟩
    go_wp2
    go_ret
    exact ⟨rfl, rfl⟩
  · have hL : withI more c = true := by simp [withI, hl]
    rw [hL]
    have HL := Lib.hid hl
    clear hl hL
    go_enter Tryz.func174, Tryz.ntmps174
    go_wp2_with fail
    refine (plain_any c _ h0 h1).mono ?_
    rintro e w' ⟨rfl, rfl⟩
    rw [HL.out]
    go_wp2
    go_ret
    exact ⟨rfl, rfl⟩

set_option maxHeartbeats 400000 in
theorem event_any (c : Int) (bd bp bm : Addr) (more : ByteArray) (w : World) (h0 : 0 ≤ c) (h1 : c ≤ 255)
    (hd : w.cell? bd = some (.func (.func 174) #[] #[.pointer (some bp), .pointer (some bm)]))
    (hp : w.cell? bp = some (.func (.func 172) #[] #[])) (hm : w.cell? bm = some (.string more)) :
    Calls Tryz.prog 176 #[.int .u8 c, .pointer (some bd)] w fun e w' => e = .returned (.bool (eventI more c)) ∧ w = w' := by
  cases hl : withI more c
  · have hL : eventI more c = (decide (65 ≤ c) && decide (c ≤ 90)) := by simp [eventI, hl]
    rw [hL]
    have HL := Lib.hid hl
    clear hl hL
    by_cases h65 : 65 ≤ c
    all_goals
      go_enter Tryz.func176, Tryz.ntmps176
      go_wp2_with fail
      refine (with_any c bp bm more _ h0 h1 hp hm).mono ?_
      rintro e w' ⟨rfl, rfl⟩
      rw [HL.out]
      go_wp2
      go_ret
      refine ⟨?_, rfl⟩
      simp
      all_goals omega
  · have hL : eventI more c = true := by simp [eventI, hl]
    rw [hL]
    have HL := Lib.hid hl
    clear hl hL
    go_enter Tryz.func176, Tryz.ntmps176
    go_wp2_with fail
    refine (with_any c bp bm more _ h0 h1 hp hm).mono ?_
    rintro e w' ⟨rfl, rfl⟩
    rw [HL.out]
    go_wp2
    go_ret
    exact ⟨rfl, rfl⟩

set_option maxHeartbeats 400000 in
theorem make_with (bp : Addr) (more : ByteArray) (w : World) :
    Calls Tryz.prog 173 #[.string more, .pointer (some bp)] w fun e w' => e = .returned (.func (.func 174) #[] #[.pointer (some bp), .pointer (some ⟨w.heap.size, 0, none⟩)]) ∧ w' = w.alloc (.cells #[.string more] 9) := by
  have hmf : ∀ (fn : Fn) (first cap : Array Value) (w : World), (Instr.makeFunc fn first cap).run Tryz.prog w = .ok (.func fn first cap) w := fun _ _ _ _ => rfl
  go_enter Tryz.func173, Tryz.ntmps173
  go_wp2
  go_ret
  exact ⟨rfl, rfl⟩

/-- What is known of the array's four closures, and of what they hold, in a world: a part's bytes, a server's, a server's first and last, an event's. -/
structure Made (w : World) (v : Value) : Prop where
  ex : ∃ bp b0 b1 b2 bd : Addr, v = .agg #[.func (.func 174) #[] #[.pointer (some bp), .pointer (some b1)], .func (.func 174) #[] #[.pointer (some bp), .pointer (some b2)], .func (.func 172) #[] #[], .func (.func 176) #[] #[.pointer (some bd)]]
    ∧ w.cell? bp = some (.func (.func 172) #[] #[]) ∧ w.cell? b0 = some (.string ⟨#[45, 95]⟩) ∧ w.cell? b1 = some (.string ⟨#[46, 45, 95]⟩) ∧ w.cell? b2 = some (.string ⟨#[46, 45]⟩)
    ∧ w.cell? bd = some (.func (.func 174) #[] #[.pointer (some bp), .pointer (some b0)])

/-- It answers such an array, and turns nothing that was there. -/
def MadePost (w : World) (e : Ending) (w' : World) : Prop := ∃ v, e = .returned v ∧ Made w' v ∧ Below w.heap.size w w'

set_option maxHeartbeats 1600000 in
theorem stands_any (w : World) : Calls Tryz.prog 164 #[] w (MadePost w) := by
  have hmf : ∀ (fn : Fn) (first cap : Array Value) (w : World), (Instr.makeFunc fn first cap).run Tryz.prog w = .ok (.func fn first cap) w := fun _ _ _ _ => rfl
  have hsf := fun (a : Addr) (f : Fn) (c : Array Value) (w : World) => run_store Tryz.prog w a (.func f #[] c) .plain rfl
  go_enter Tryz.func164, Tryz.ntmps164
  go_wp2_with fail
  refine (make_with _ _ _).mono ?_
  rintro e w' ⟨rfl, rfl⟩
  go_wp2_with fail
  go_region_held3 (fun w' => w'.cell? ⟨w.heap.size + 1, 0, none⟩ = some (.func (.func 172) #[] #[])) (simp [World.cell?_alloc_past, World.cell?_alloc_at])
    (first | (go_at_call 173; refine (make_with _ _ _).mono ?_; rintro e w' ⟨rfl, rfl⟩))
  all_goals
    go_wp2
    refine bodyPost_ret (v := .agg #[.func (.func 174) #[] #[.pointer (some ⟨w.heap.size + 1, 0, none⟩), .pointer (some ⟨w.heap.size + 1 + 1 + 1 + 1, 0, none⟩)], .func (.func 174) #[] #[.pointer (some ⟨w.heap.size + 1, 0, none⟩), .pointer (some ⟨w.heap.size + 1 + 1 + 1 + 1 + 1, 0, none⟩)], .func (.func 172) #[] #[], .func (.func 176) #[] #[.pointer (some ⟨w.heap.size + 1 + 1 + 1, 0, none⟩)]]) (by simp [results, Tryz.results164, go_sem]) rfl ?_
    refine ⟨_, rfl, ⟨⟨⟨w.heap.size + 1, 0, none⟩, ⟨w.heap.size + 1 + 1, 0, none⟩, ⟨w.heap.size + 1 + 1 + 1 + 1, 0, none⟩, ⟨w.heap.size + 1 + 1 + 1 + 1 + 1, 0, none⟩, ⟨w.heap.size + 1 + 1 + 1, 0, none⟩, rfl, ?_, ?_, ?_, ?_, ?_⟩⟩, ?_⟩
    iterate 5 (simp [World.cell?_alloc_past, World.cell?_alloc_at])
    repeat (first | exact Below.refl _ _ | refine Below.drew ?_ | refine Below.alloc ?_ (by simp; try omega) _)
end Go.Proofs.YtjiecjpepiknmaaGreat

namespace Go.Proofs.YtjiecjpepiknmaaGreat
open Go.RowKit
set_option linter.unusedVariables false
set_option linter.unusedSimpArgs false
set_option maxRecDepth 20000

/-- A text's answer, and nothing that was there has turned. -/
def BoolPost (b : Bool) (w : World) (e : Ending) (w' : World) : Prop := e = .returned (.bool b) ∧ Below w.heap.size w w'

theorem may_part (c : Int) (bp bm : Addr) (w : World) (h0 : 0 ≤ c) (h1 : c ≤ 255)
    (hp : w.cell? bp = some (.func (.func 172) #[] #[])) (hm : w.cell? bm = some (.string ⟨#[46, 45, 95]⟩)) :
    Calls Tryz.prog 174 #[.int .u8 c, .pointer (some bp), .pointer (some bm)] w fun e w' => e = .returned (.bool (partI c)) ∧ w = w' :=
  with_any c bp bm _ w h0 h1 hp hm
theorem may_host (c : Int) (bp bm : Addr) (w : World) (h0 : 0 ≤ c) (h1 : c ≤ 255)
    (hp : w.cell? bp = some (.func (.func 172) #[] #[])) (hm : w.cell? bm = some (.string ⟨#[46, 45]⟩)) :
    Calls Tryz.prog 174 #[.int .u8 c, .pointer (some bp), .pointer (some bm)] w fun e w' => e = .returned (.bool (hostI c)) ∧ w = w' :=
  with_any c bp bm _ w h0 h1 hp hm
theorem may_sign (c : Int) (bd bp bm : Addr) (w : World) (h0 : 0 ≤ c) (h1 : c ≤ 255)
    (hd : w.cell? bd = some (.func (.func 174) #[] #[.pointer (some bp), .pointer (some bm)]))
    (hp : w.cell? bp = some (.func (.func 172) #[] #[])) (hm : w.cell? bm = some (.string ⟨#[45, 95]⟩)) :
    Calls Tryz.prog 176 #[.int .u8 c, .pointer (some bd)] w fun e w' => e = .returned (.bool (signI c)) ∧ w = w' :=
  event_any c bd bp bm _ w h0 h1 hd hp hm

set_option maxHeartbeats 1600000 in
theorem filled_part (s : ByteArray) (w : World) (hs : s.size ≤ maxLen) :
    Calls Tryz.prog 146 #[.int .i64 0, .string s] w (BoolPost (filledB partI s) w) := by
  unfold maxLen at hs
  have hi : ∀ (x0 x1 x2 x3 : Value) (w : World), (Instr.index 183 (.agg #[x0, x1, x2, x3]) (.int .i64 0)).run Tryz.prog w = .ok x0 w := fun _ _ _ _ _ => by kernel_rfl
  by_cases h1 : s.size < 1
  · rw [filledB_no _ _ (.inl h1)]
    go_enter Tryz.func146, Tryz.ntmps146
    go_wp2
    go_ret
    exact ⟨rfl, Below.refl _ _⟩
  · by_cases h2 : 16 < s.size
    · rw [filledB_no _ _ (.inr h2)]
      go_enter Tryz.func146, Tryz.ntmps146
      go_wp2
      go_ret
      exact ⟨rfl, Below.refl _ _⟩
    · rw [filledB_in _ _ (by omega) (by omega)]
      have q1 : decide ((s.size : Int) < 1) = false := by simp; omega
      have q2 : decide ((16 : Int) < (s.size : Int)) = false := by simp; omega
      go_enter Tryz.func146, Tryz.ntmps146
      go_wp2_with fail
      refine (stands_any _).mono ?_
      rintro e w1 ⟨v, rfl, ⟨bp, b0, b1, b2, bd, rfl, hp, hb0, hb1, hb2, hbd⟩, hbel⟩
      go_wp2_with fail
      go_loop [20] (fun i => ∃ k : Nat, k ≤ s.size ∧ i = .int .i64 k ∧ allI partI (s.data.toList.take k) = true) (fun i => s.size - (intOf i).toNat)
      case atStart => exact ⟨0, Nat.zero_le _, rfl, by simp [allI]⟩
      case round =>
        obtain ⟨k, hk, rfl, hall⟩ := hrel
        have Hall := Lib.hid hall
        clear hall
        by_cases hlt : k < s.size
        · have hb : (s[k].toNat : Int) ≤ 255 := by have := s[k].toNat_lt; omega
          cases hv : partI (s[k].toNat : Int)
          · have Hv := Lib.hid hv
            have Hf := Lib.hid (allI_stop partI s k hlt hv)
            clear hv
            go_wp2_with fail
            refine (may_part _ bp b1 _ (by omega) hb hp hb1).mono ?_
            rintro e w' ⟨rfl, rfl⟩
            rw [Hv.out]
            go_wp2
            go_ret
            rw [Hf.out]
            exact ⟨rfl, hbel⟩
          · have Hv := Lib.hid hv
            have Hf := Lib.hid (allI_step partI s k hlt Hall.out hv)
            clear hv
            go_wp2_with fail
            refine (may_part _ bp b1 _ (by omega) hb hp hb1).mono ?_
            rintro e w' ⟨rfl, rfl⟩
            rw [Hv.out]
            go_wp2
            go_round
            case rel => exact ⟨k + 1, by omega, by go_num, Hf.out⟩
            case measure => simp [intOf]; omega
        · have Hf := Lib.hid (allI_full partI s k (by omega) Hall.out)
          go_wp2
          go_ret
          rw [Hf.out]
          exact ⟨rfl, hbel⟩

set_option maxHeartbeats 1600000 in
theorem filled_host (s : ByteArray) (w : World) (hs : s.size ≤ maxLen) :
    Calls Tryz.prog 146 #[.int .i64 1, .string s] w (BoolPost (filledB hostI s) w) := by
  unfold maxLen at hs
  have hi : ∀ (x0 x1 x2 x3 : Value) (w : World), (Instr.index 183 (.agg #[x0, x1, x2, x3]) (.int .i64 1)).run Tryz.prog w = .ok x1 w := fun _ _ _ _ _ => by kernel_rfl
  by_cases h1 : s.size < 1
  · rw [filledB_no _ _ (.inl h1)]
    go_enter Tryz.func146, Tryz.ntmps146
    go_wp2
    go_ret
    exact ⟨rfl, Below.refl _ _⟩
  · by_cases h2 : 16 < s.size
    · rw [filledB_no _ _ (.inr h2)]
      go_enter Tryz.func146, Tryz.ntmps146
      go_wp2
      go_ret
      exact ⟨rfl, Below.refl _ _⟩
    · rw [filledB_in _ _ (by omega) (by omega)]
      have q1 : decide ((s.size : Int) < 1) = false := by simp; omega
      have q2 : decide ((16 : Int) < (s.size : Int)) = false := by simp; omega
      go_enter Tryz.func146, Tryz.ntmps146
      go_wp2_with fail
      refine (stands_any _).mono ?_
      rintro e w1 ⟨v, rfl, ⟨bp, b0, b1, b2, bd, rfl, hp, hb0, hb1, hb2, hbd⟩, hbel⟩
      go_wp2_with fail
      go_loop [20] (fun i => ∃ k : Nat, k ≤ s.size ∧ i = .int .i64 k ∧ allI hostI (s.data.toList.take k) = true) (fun i => s.size - (intOf i).toNat)
      case atStart => exact ⟨0, Nat.zero_le _, rfl, by simp [allI]⟩
      case round =>
        obtain ⟨k, hk, rfl, hall⟩ := hrel
        have Hall := Lib.hid hall
        clear hall
        by_cases hlt : k < s.size
        · have hb : (s[k].toNat : Int) ≤ 255 := by have := s[k].toNat_lt; omega
          cases hv : hostI (s[k].toNat : Int)
          · have Hv := Lib.hid hv
            have Hf := Lib.hid (allI_stop hostI s k hlt hv)
            clear hv
            go_wp2_with fail
            refine (may_host _ bp b2 _ (by omega) hb hp hb2).mono ?_
            rintro e w' ⟨rfl, rfl⟩
            rw [Hv.out]
            go_wp2
            go_ret
            rw [Hf.out]
            exact ⟨rfl, hbel⟩
          · have Hv := Lib.hid hv
            have Hf := Lib.hid (allI_step hostI s k hlt Hall.out hv)
            clear hv
            go_wp2_with fail
            refine (may_host _ bp b2 _ (by omega) hb hp hb2).mono ?_
            rintro e w' ⟨rfl, rfl⟩
            rw [Hv.out]
            go_wp2
            go_round
            case rel => exact ⟨k + 1, by omega, by go_num, Hf.out⟩
            case measure => simp [intOf]; omega
        · have Hf := Lib.hid (allI_full hostI s k (by omega) Hall.out)
          go_wp2
          go_ret
          rw [Hf.out]
          exact ⟨rfl, hbel⟩

set_option maxHeartbeats 1600000 in
theorem filled_sign (s : ByteArray) (w : World) (hs : s.size ≤ maxLen) :
    Calls Tryz.prog 146 #[.int .i64 3, .string s] w (BoolPost (filledB signI s) w) := by
  unfold maxLen at hs
  have hi : ∀ (x0 x1 x2 x3 : Value) (w : World), (Instr.index 183 (.agg #[x0, x1, x2, x3]) (.int .i64 3)).run Tryz.prog w = .ok x3 w := fun _ _ _ _ _ => by kernel_rfl
  by_cases h1 : s.size < 1
  · rw [filledB_no _ _ (.inl h1)]
    go_enter Tryz.func146, Tryz.ntmps146
    go_wp2
    go_ret
    exact ⟨rfl, Below.refl _ _⟩
  · by_cases h2 : 16 < s.size
    · rw [filledB_no _ _ (.inr h2)]
      go_enter Tryz.func146, Tryz.ntmps146
      go_wp2
      go_ret
      exact ⟨rfl, Below.refl _ _⟩
    · rw [filledB_in _ _ (by omega) (by omega)]
      have q1 : decide ((s.size : Int) < 1) = false := by simp; omega
      have q2 : decide ((16 : Int) < (s.size : Int)) = false := by simp; omega
      go_enter Tryz.func146, Tryz.ntmps146
      go_wp2_with fail
      refine (stands_any _).mono ?_
      rintro e w1 ⟨v, rfl, ⟨bp, b0, b1, b2, bd, rfl, hp, hb0, hb1, hb2, hbd⟩, hbel⟩
      go_wp2_with fail
      go_loop [20] (fun i => ∃ k : Nat, k ≤ s.size ∧ i = .int .i64 k ∧ allI signI (s.data.toList.take k) = true) (fun i => s.size - (intOf i).toNat)
      case atStart => exact ⟨0, Nat.zero_le _, rfl, by simp [allI]⟩
      case round =>
        obtain ⟨k, hk, rfl, hall⟩ := hrel
        have Hall := Lib.hid hall
        clear hall
        by_cases hlt : k < s.size
        · have hb : (s[k].toNat : Int) ≤ 255 := by have := s[k].toNat_lt; omega
          cases hv : signI (s[k].toNat : Int)
          · have Hv := Lib.hid hv
            have Hf := Lib.hid (allI_stop signI s k hlt hv)
            clear hv
            go_wp2_with fail
            refine (may_sign _ bd bp b0 _ (by omega) hb hbd hp hb0).mono ?_
            rintro e w' ⟨rfl, rfl⟩
            rw [Hv.out]
            go_wp2
            go_ret
            rw [Hf.out]
            exact ⟨rfl, hbel⟩
          · have Hv := Lib.hid hv
            have Hf := Lib.hid (allI_step signI s k hlt Hall.out hv)
            clear hv
            go_wp2_with fail
            refine (may_sign _ bd bp b0 _ (by omega) hb hbd hp hb0).mono ?_
            rintro e w' ⟨rfl, rfl⟩
            rw [Hv.out]
            go_wp2
            go_round
            case rel => exact ⟨k + 1, by omega, by go_num, Hf.out⟩
            case measure => simp [intOf]; omega
        · have Hf := Lib.hid (allI_full signI s k (by omega) Hall.out)
          go_wp2
          go_ret
          rw [Hf.out]
          exact ⟨rfl, hbel⟩

end Go.Proofs.YtjiecjpepiknmaaGreat

namespace Go.Proofs.YtjiecjpepiknmaaGreat
open Go.RowKit
set_option linter.unusedVariables false
set_option linter.unusedSimpArgs false
set_option maxRecDepth 20000

set_option maxHeartbeats 1600000 in
theorem server_any (s : ByteArray) (w : World) (hs : s.size ≤ maxLen) :
    Calls Tryz.prog 162 #[.string s] w (BoolPost (serverB s) w) := by
  have hi : ∀ (x0 x1 x2 x3 : Value) (w : World), (Instr.index 183 (.agg #[x0, x1, x2, x3]) (.int .i64 2)).run Tryz.prog w = .ok x2 w := fun _ _ _ _ _ => by kernel_rfl
  cases hf : filledB hostI s
  · have Hs := Lib.hid (serverB_no s hf)
    have Hf := Lib.hid hf
    clear hf
    go_enter Tryz.func162, Tryz.ntmps162
    go_wp2_with fail
    refine (filled_host s _ hs).mono ?_
    rintro e w1 ⟨rfl, hb1⟩
    rw [Hf.out]
    go_wp2
    go_ret
    rw [Hs.out]
    exact ⟨rfl, hb1⟩
  · obtain ⟨z1, z2⟩ := filledB_size hf
    have hb0 : (s[0].toNat : Int) ≤ 255 := by have := s[0].toNat_lt; omega
    have hbl : (s[s.size - 1].toNat : Int) ≤ 255 := by have := s[s.size - 1].toNat_lt; omega
    have hyes := serverB_yes s hf z1
    have Hf := Lib.hid hf
    clear hf
    cases h0 : lowI (s[0].toNat : Int)
    · rw [h0] at hyes
      have Hs := Lib.hid hyes
      have H0 := Lib.hid h0
      clear hyes h0
      go_enter Tryz.func162, Tryz.ntmps162
      go_wp2_with fail
      refine (filled_host s _ hs).mono ?_
      rintro e w1 ⟨rfl, hb1⟩
      rw [Hf.out]
      go_wp2_with fail
      refine (stands_any _).mono ?_
      rintro e w2 ⟨v, rfl, ⟨bp, b0, b1, b2, bd, rfl, hp, hb0', hb1', hb2', hbd⟩, hbel⟩
      go_wp2_with fail
      refine (plain_any _ _ (by omega) hb0).mono ?_
      rintro e w' ⟨rfl, rfl⟩
      rw [H0.out]
      go_wp2
      go_ret
      rw [Hs.out]
      exact ⟨rfl, hb1.trans (hbel.mono hb1.size)⟩
    · rw [h0] at hyes
      have Hs := Lib.hid hyes
      have H0 := Lib.hid h0
      clear hyes h0
      go_enter Tryz.func162, Tryz.ntmps162
      go_wp2_with fail
      refine (filled_host s _ hs).mono ?_
      rintro e w1 ⟨rfl, hb1⟩
      rw [Hf.out]
      go_wp2_with fail
      refine (stands_any _).mono ?_
      rintro e w2 ⟨v, rfl, ⟨bp, b0, b1, b2, bd, rfl, hp, hb0', hb1', hb2', hbd⟩, hbel⟩
      go_wp2_with fail
      refine (plain_any _ _ (by omega) hb0).mono ?_
      rintro e w' ⟨rfl, rfl⟩
      rw [H0.out]
      go_wp2_with fail
      trace_state
      refine (plain_any _ _ (by omega) hbl).mono ?_
      rintro e w' ⟨rfl, rfl⟩
      go_wp2
      go_ret
      rw [Hs.out]
      exact ⟨rfl, hb1.trans (hbel.mono hb1.size)⟩
end Go.Proofs.YtjiecjpepiknmaaGreat
