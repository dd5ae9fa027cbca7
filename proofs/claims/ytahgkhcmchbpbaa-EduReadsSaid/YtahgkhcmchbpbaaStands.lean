/-
  The closures of package name: what each of the four that stand in its array answers for a byte, and that the array is made of them, in new memory.
-/
import Derived.Test.YtahgkhcmchbpbaaLeaf
import Derived.Deep.RegionHeld3
import Derived.Deep.DeepCutAuto
namespace Go.Proofs.Ytahgkhcmchbpbaa
open Go.RowKit
set_option linter.unusedVariables false
set_option linter.unusedSimpArgs false
set_option maxRecDepth 4000

set_option maxHeartbeats 400000 in
theorem with_any (c : Int) (bp bm : Addr) (more : ByteArray) (w : World) (h0 : 0 ≤ c) (h1 : c ≤ 255)
    (hp : w.cell? bp = some (.func (.func 88) #[] #[])) (hm : w.cell? bm = some (.string more)) :
    Calls Try.prog 90 #[.int .u8 c, .pointer (some bp), .pointer (some bm)] w fun e w' => e = .returned (.bool (withI more c)) ∧ w = w' := by
  cases hl : lowI c
  · have hL : withI more c = decide (0 ≤ Lib.indexByte more.data.toList c.toNat.toUInt8) := by simp [withI, hl]
    rw [hL]
    have HL := Lib.hid hl
    clear hl hL
    go_enter Try.func90, Try.ntmps90
    go_wp2_with fail
    refine (plain_any c _ h0 h1).mono ?_
    rintro e w' ⟨rfl, rfl⟩
    rw [HL.out]
    go_wp2_with fail
    refine (indexByte_any more c _).mono ?_
    rintro e w' ⟨rfl, rfl⟩
    go_wp2
    go_ret
    exact ⟨rfl, rfl⟩
  · have hL : withI more c = true := by simp [withI, hl]
    rw [hL]
    have HL := Lib.hid hl
    clear hl hL
    go_enter Try.func90, Try.ntmps90
    go_wp2_with fail
    refine (plain_any c _ h0 h1).mono ?_
    rintro e w' ⟨rfl, rfl⟩
    rw [HL.out]
    go_wp2
    go_ret
    exact ⟨rfl, rfl⟩

set_option maxHeartbeats 400000 in
theorem event_any (c : Int) (bd bp bm : Addr) (more : ByteArray) (w : World) (h0 : 0 ≤ c) (h1 : c ≤ 255)
    (hd : w.cell? bd = some (.func (.func 90) #[] #[.pointer (some bp), .pointer (some bm)]))
    (hp : w.cell? bp = some (.func (.func 88) #[] #[])) (hm : w.cell? bm = some (.string more)) :
    Calls Try.prog 92 #[.int .u8 c, .pointer (some bd)] w fun e w' => e = .returned (.bool (eventI more c)) ∧ w = w' := by
  cases hl : withI more c
  · have hL : eventI more c = (decide (65 ≤ c) && decide (c ≤ 90)) := by simp [eventI, hl]
    rw [hL]
    have HL := Lib.hid hl
    clear hl hL
    by_cases h65 : 65 ≤ c
    all_goals
      go_enter Try.func92, Try.ntmps92
      go_wp2_with fail
      refine (with_any c bp bm more _ h0 h1 hp hm).mono ?_
      rintro e w' ⟨rfl, rfl⟩
      rw [HL.out]
      go_wp2
      go_ret
      refine ⟨?_, rfl⟩
      simp
      all_goals omega
  · have hL : eventI more c = true := by simp [eventI, hl]
    rw [hL]
    have HL := Lib.hid hl
    clear hl hL
    go_enter Try.func92, Try.ntmps92
    go_wp2_with fail
    refine (with_any c bp bm more _ h0 h1 hp hm).mono ?_
    rintro e w' ⟨rfl, rfl⟩
    rw [HL.out]
    go_wp2
    go_ret
    exact ⟨rfl, rfl⟩

set_option maxHeartbeats 400000 in
theorem make_with (bp : Addr) (more : ByteArray) (w : World) :
    Calls Try.prog 89 #[.string more, .pointer (some bp)] w fun e w' => e = .returned (.func (.func 90) #[] #[.pointer (some bp), .pointer (some ⟨w.heap.size, 0, none⟩)]) ∧ w' = w.alloc (.cells #[.string more] 9) := by
  have hmf : ∀ (fn : Fn) (first cap : Array Value) (w : World), (Instr.makeFunc fn first cap).run Try.prog w = .ok (.func fn first cap) w := fun _ _ _ _ => rfl
  go_enter Try.func89, Try.ntmps89
  go_wp2
  go_ret
  exact ⟨rfl, rfl⟩

/-- What is known of the array's four closures, and of what they hold, in a world: a part's bytes, a server's, a server's first and last, an event's. -/
structure Made (w : World) (v : Value) : Prop where
  ex : ∃ bp b0 b1 b2 bd : Addr, v = .agg #[.func (.func 90) #[] #[.pointer (some bp), .pointer (some b1)], .func (.func 90) #[] #[.pointer (some bp), .pointer (some b2)], .func (.func 88) #[] #[], .func (.func 92) #[] #[.pointer (some bd)]]
    ∧ w.cell? bp = some (.func (.func 88) #[] #[]) ∧ w.cell? b0 = some (.string ⟨#[45, 95]⟩) ∧ w.cell? b1 = some (.string ⟨#[46, 45, 95]⟩) ∧ w.cell? b2 = some (.string ⟨#[46, 45]⟩)
    ∧ w.cell? bd = some (.func (.func 90) #[] #[.pointer (some bp), .pointer (some b0)])

/-- It answers such an array, and turns nothing that was there. -/
def MadePost (w : World) (e : Ending) (w' : World) : Prop := ∃ v, e = .returned v ∧ Made w' v ∧ Below w.heap.size w w'

set_option maxHeartbeats 1600000 in
theorem stands_any (w : World) : Calls Try.prog 85 #[] w (MadePost w) := by
  have hmf : ∀ (fn : Fn) (first cap : Array Value) (w : World), (Instr.makeFunc fn first cap).run Try.prog w = .ok (.func fn first cap) w := fun _ _ _ _ => rfl
  have hsf := fun (a : Addr) (f : Fn) (c : Array Value) (w : World) => run_store Try.prog w a (.func f #[] c) .plain rfl
  go_enter Try.func85, Try.ntmps85
  go_wp2_with fail
  refine (make_with _ _ _).mono ?_
  rintro e w' ⟨rfl, rfl⟩
  go_wp2_with fail
  go_region_held3 (fun w' => w'.cell? ⟨w.heap.size + 1, 0, none⟩ = some (.func (.func 88) #[] #[])) (simp [World.cell?_alloc_past, World.cell?_alloc_at])
    (first | (go_at_call 89; refine (make_with _ _ _).mono ?_; rintro e w' ⟨rfl, rfl⟩))
  all_goals
    go_wp2
    refine bodyPost_ret (v := .agg #[.func (.func 90) #[] #[.pointer (some ⟨w.heap.size + 1, 0, none⟩), .pointer (some ⟨w.heap.size + 1 + 1 + 1 + 1, 0, none⟩)], .func (.func 90) #[] #[.pointer (some ⟨w.heap.size + 1, 0, none⟩), .pointer (some ⟨w.heap.size + 1 + 1 + 1 + 1 + 1, 0, none⟩)], .func (.func 88) #[] #[], .func (.func 92) #[] #[.pointer (some ⟨w.heap.size + 1 + 1 + 1, 0, none⟩)]]) (by simp [results, Try.results85, go_sem]) rfl ?_
    refine ⟨_, rfl, ⟨⟨⟨w.heap.size + 1, 0, none⟩, ⟨w.heap.size + 1 + 1, 0, none⟩, ⟨w.heap.size + 1 + 1 + 1 + 1, 0, none⟩, ⟨w.heap.size + 1 + 1 + 1 + 1 + 1, 0, none⟩, ⟨w.heap.size + 1 + 1 + 1, 0, none⟩, rfl, ?_, ?_, ?_, ?_, ?_⟩⟩, ?_⟩
    iterate 5 (simp [World.cell?_alloc_past, World.cell?_alloc_at])
    repeat (first | exact Below.refl _ _ | refine Below.drew ?_ | refine Below.alloc ?_ (by simp; try omega) _)
end Go.Proofs.Ytahgkhcmchbpbaa
