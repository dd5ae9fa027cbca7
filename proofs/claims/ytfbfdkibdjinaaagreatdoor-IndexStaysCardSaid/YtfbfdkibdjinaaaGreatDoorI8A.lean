/-
  sync.Once; what is ahead, plain; words of bits; aheadBehind.
-/
import Derived.Test.YtfbfdkibdjinaaaGreatDoorRows
import Derived.Tactics
import Derived.Tactics2
import Derived.Defers
import Derived.Laws.Pointers
import Derived.Laws.LoneSync
import Derived.Laws.NewBlocks
import Derived.RegionTactic
import Derived.RegionCalls
import Derived.Deep.DeepCutAuto
import Derived.Test.YtfbfdkibdjinaaaGreatDoorB0
import Derived.Test.YtfbfdkibdjinaaaGreatDoorB3
import Derived.Test.YtfbfdkibdjinaaaGreatDoorB7
import Derived.Test.YtfbfdkibdjinaaaGreatDoorC1
import Derived.BigQuiet
import Derived.Deep.OwnRows
import Derived.BigRegion
namespace Go.Proofs.YtfbfdkibdjinaaaGreatDoor
set_option maxRecDepth 20000
open Go.RowKit
set_option linter.unusedVariables false
set_option linter.unusedSimpArgs false

theorem mark_disable (w : World) : (callFunc 122 #[]).run Tryz.prog w = .ok (.value (.tuple #[])) w := run_call_mark0 Tryz.func122 (by kernel_rfl) (by kernel_rfl) (by kernel_rfl) .disable (by kernel_rfl) w
theorem mark_enable (w : World) : (callFunc 124 #[]).run Tryz.prog w = .ok (.value (.tuple #[])) w := run_call_mark0 Tryz.func124 (by kernel_rfl) (by kernel_rfl) (by kernel_rfl) .enable (by kernel_rfl) w
theorem mark_acquire (a : Addr) (w : World) : (callFunc 125 #[.pointer (some a)]).run Tryz.prog w = .ok (.value (.tuple #[])) w := run_call_marked Tryz.func125 (by kernel_rfl) (by kernel_rfl) (by kernel_rfl) .acquire (by kernel_rfl) a w
theorem mark_release (a : Addr) (w : World) : (callFunc 127 #[.pointer (some a)]).run Tryz.prog w = .ok (.value (.tuple #[])) w := run_call_marked Tryz.func127 (by kernel_rfl) (by kernel_rfl) (by kernel_rfl) .releaseMerge (by kernel_rfl) a w

/-- The word that says that it is done is stored, in a deferred call. -/
theorem done_stored (a : Addr) (x : Value) (u : FrameMode) (w : World) (hc : w.cell? a = some x) (hz : w.frozen? a = false) :
    CallsD Tryz.prog 88 #[.pointer (some a), .bool true] u w fun e u' w' => u' = u ∧ (e = .returned (.tuple #[]) ∧ w' = w.drew.setCell a (.int .u32 1)) := by
  have hc' : w.drew.cell? a = some x := by go_simp
  have hz' : w.drew.frozen? a = false := by go_simp
  have hst := run_call_store (P := Tryz.prog) Tryz.func103 (by kernel_rfl) (by kernel_rfl) (by kernel_rfl) (by kernel_rfl) (k := .u32) (y := 1) hc' hz'
  go_enter_d Tryz.func88, Tryz.ntmps88
  go_wp2
  go_region_calls
  all_goals (go_end0; exact ⟨rfl, rfl⟩)
/-- The lock is let go, in a deferred call. -/
theorem lock_let (a : Addr) (u : FrameMode) (w : World) (hc : w.cell? a = some (.int .i32 1)) (hz : w.frozen? a = false) :
    CallsD Tryz.prog 87 #[.pointer (some a)] u w fun e u' w' => u' = u ∧ (e = .returned (.tuple #[]) ∧ w' = w.setCell a (.int .i32 0)) := by
  have hd := mark_disable
  have he := mark_enable
  have hr := mark_release
  have hadd := run_call_add (P := Tryz.prog) Tryz.func128 (by kernel_rfl) (by kernel_rfl) (by kernel_rfl) .i32 (by kernel_rfl) (y := -1) (s := 0) hc hz (by simp [go_sem]; rfl)
  have hcv := run_convert_to_unsafe (P := Tryz.prog) (src := 164) (dst := 168) Tryz.underlying164 Tryz.underlying168 (by kernel_rfl) hc
  go_enter_d Tryz.func87, Tryz.ntmps87
  go_wp2
  go_end0
  go_wp2
  go_end0
  exact ⟨rfl, rfl⟩
/-- A lock that is free is taken. -/
theorem lock_free (a : Addr) (w : World) (hc : w.cell? a = some (.int .i32 0)) (hz : w.frozen? a = false) :
    Calls Tryz.prog 86 #[.pointer (some a)] w fun e w' => e = .returned (.tuple #[]) ∧ w' = w.setCell a (.int .i32 1) := by
  have hd := mark_disable
  have he := mark_enable
  have ha := mark_acquire
  have hcas := run_call_cas_hit (P := Tryz.prog) Tryz.func123 (by kernel_rfl) (by kernel_rfl) (by kernel_rfl) .i32 (by kernel_rfl) (y := 1) hc hz
  have hc' : (w.setCell a (.int .i32 1)).cell? a = some (.int .i32 1) := World.cell?_setCell_same w a _ hc
  have hcv := run_convert_to_unsafe (P := Tryz.prog) (src := 164) (dst := 168) Tryz.underlying164 Tryz.underlying168 (by kernel_rfl) hc'
  go_enter Tryz.func86, Tryz.ntmps86
  go_wp2
  first | go_end0 | (simp only [Exit.inBlock, Exit.then]; refine bodyPost_ret (results_none rfl _ _ _) rfl ?_) | refine bodyPost_ret (results_none rfl _ _ _) rfl ?_
  go_wp2
  go_end0
  exact ⟨rfl, rfl⟩
end Go.Proofs.YtfbfdkibdjinaaaGreatDoor

namespace Go.Proofs.YtfbfdkibdjinaaaGreatDoor
set_option maxRecDepth 20000
open Go.RowKit
set_option linter.unusedVariables false
set_option linter.unusedSimpArgs false

/-- An index in its block: its row, the parents of its events, the Once's word and lock, its pasts. -/
def IxB (row par : Value) (d st : Int) (m : Value) : Obj := .cells #[row, par, .int .u32 d, .int .i32 st, .int .u32 0, m] 73 (0, 0)
theorem load_word (a : Addr) (d : Int) (w : World) (h0 : w.cell? a = some (.int .u32 d)) :
    Calls Tryz.prog 72 #[.pointer (some a)] w fun e w' => e = .returned (.bool (d != 0)) ∧ w' = w := by
  have hl := run_call_load (P := Tryz.prog) Tryz.func85 (by kernel_rfl) (by kernel_rfl) (by kernel_rfl) .u32 (by kernel_rfl) h0
  go_enter Tryz.func72, Tryz.ntmps72
  go_wp2
  go_ret
  exact ⟨rfl, rfl⟩
theorem ixb_set3 {w : World} {g : Nat} {row par m : Value} {d st : Int} (h : w.heap[g]? = some (IxB row par d st m)) (x : Int) : (w.setCell ⟨g, 3, none⟩ (.int .i32 x)).heap[g]? = some (IxB row par d x m) := by
  obtain ⟨cur, z1, z2, z3⟩ := sm_at g 73 [.int .i32 x] 3 w _ h (by show 4 ≤ 6; omega)
  have z5 : cur = #[row, par, .int .u32 d, .int .i32 x, .int .u32 0, m] := Array.toList_inj.1 z3
  rw [z5] at z1
  exact z1
theorem ixb_set2 {w : World} {g : Nat} {row par m : Value} {d st : Int} (h : w.heap[g]? = some (IxB row par d st m)) (x : Int) : (w.setCell ⟨g, 2, none⟩ (.int .u32 x)).heap[g]? = some (IxB row par x st m) := by
  obtain ⟨cur, z1, z2, z3⟩ := sm_at g 73 [.int .u32 x] 2 w _ h (by show 3 ≤ 6; omega)
  have z5 : cur = #[row, par, .int .u32 x, .int .i32 st, .int .u32 0, m] := Array.toList_inj.1 z3
  rw [z5] at z1
  exact z1
set_option maxHeartbeats 1600000 in
theorem slow_any (g : Nat) (pl : Addr) (row par m : Value) (R : World → Prop) (w : World) (hw : w.heap[g]? = some (IxB row par 0 0 m))
    (hin : Calls Tryz.prog 51 #[.pointer (some pl)] (w.setCell ⟨g, 3, none⟩ (.int .i32 1)) (fun e W' => e = .returned (.tuple #[]) ∧ R W'))
    (hR : ∀ W', R W' → ∃ r p m', W'.heap[g]? = some (IxB r p 0 1 m')) :
    Calls Tryz.prog 73 #[.pointer (some ⟨g, 2, none⟩), .func (.func 51) #[] #[.pointer (some pl)]] w fun e w' => e = .returned (.tuple #[]) ∧ ∃ W', R W' ∧ w' = (W'.drew.setCell ⟨g, 2, none⟩ (.int .u32 1)).setCell ⟨g, 3, none⟩ (.int .i32 0) := by
  have h1 : w.cell? ⟨g, 3, none⟩ = some (.int .i32 0) := cell_at hw 3
  have f1 : w.frozen? ⟨g, 3, none⟩ = false := free_at hw 3
  have hw2 := ixb_set3 hw 1
  have h0 : (w.setCell ⟨g, 3, none⟩ (.int .i32 1)).cell? ⟨g, 2, none⟩ = some (.int .u32 0) := cell_at hw2 2
  have HIN := Lib.hid hin
  have HR := Lib.hid hR
  clear hin hR
  go_enter_defers Tryz.func73, Tryz.ntmps73
  go_wp2_with fail
  go_at_call 86
  refine (lock_free ⟨g, 3, none⟩ w h1 f1).mono ?_
  rintro e w1 ⟨rfl, rfl⟩
  go_wp2_with fail
  go_at_call 72
  refine (load_word ⟨g, 2, none⟩ 0 _ h0).mono ?_
  rintro e w1 ⟨rfl, rfl⟩
  go_wp2_with fail
  refine HIN.out.mono ?_
  rintro e W1 ⟨rfl, hr⟩
  obtain ⟨r', p', m', hW⟩ := HR.out W1 hr
  have HW := Lib.hid hW
  clear hW HIN hw2 h0 h1 f1
  go_wp2_with fail
  refine leaves_cons (f := 88) (args := #[.pointer (some ⟨g, 2, none⟩), .bool true]) (by simp) (by simp [go_sem]) ?_
  refine (done_stored ⟨g, 2, none⟩ (.int .u32 0) .returning _ (cell_at HW.out 2) (free_at HW.out 2)).mono ?_
  rintro e u' w'' ⟨rfl, rfl, rfl⟩
  have HW2 : Hid ((W1.drew.setCell ⟨g, 2, none⟩ (.int .u32 1)).heap[g]? = some (IxB r' p' 1 1 m')) := Lib.hid (ixb_set2 (w := W1.drew) HW.out 1)
  refine leaves_cons (f := 87) (args := #[.pointer (some ⟨g, 3, none⟩)]) (by simp [settle]) (by simp [go_sem]) ?_
  refine (lock_let ⟨g, 3, none⟩ _ _ (cell_at HW2.out 3) (free_at HW2.out 3)).mono ?_
  rintro e u' w'' ⟨rfl, rfl, rfl⟩
  simp [Leaves, settle, results, Tryz.results73]
  exact ⟨W1, hr, rfl⟩
/-- Do, the first time. -/
theorem do_first (g : Nat) (pl : Addr) (row par m : Value) (R : World → Prop) (w : World) (hw : w.heap[g]? = some (IxB row par 0 0 m))
    (hin : Calls Tryz.prog 51 #[.pointer (some pl)] (w.setCell ⟨g, 3, none⟩ (.int .i32 1)) (fun e W' => e = .returned (.tuple #[]) ∧ R W'))
    (hR : ∀ W', R W' → ∃ r p m', W'.heap[g]? = some (IxB r p 0 1 m')) :
    Calls Tryz.prog 50 #[.pointer (some ⟨g, 2, none⟩), .func (.func 51) #[] #[.pointer (some pl)]] w fun e w' => e = .returned (.tuple #[]) ∧ ∃ W', R W' ∧ w' = (W'.drew.setCell ⟨g, 2, none⟩ (.int .u32 1)).setCell ⟨g, 3, none⟩ (.int .i32 0) := by
  have HS := Lib.hid (slow_any g pl row par m R w hw hin hR)
  have h0 : w.cell? ⟨g, 2, none⟩ = some (.int .u32 0) := cell_at hw 2
  clear hin hR hw
  go_enter Tryz.func50, Tryz.ntmps50
  go_wp2_with fail
  go_at_call 72
  refine (load_word ⟨g, 2, none⟩ 0 _ h0).mono ?_
  rintro e w1 ⟨rfl, rfl⟩
  go_wp2_with fail
  go_at_call 73
  refine HS.out.mono ?_
  rintro e w1 ⟨rfl, hh⟩
  go_wp2_with fail
  go_end0
  exact ⟨rfl, hh⟩
/-- Do, from then on. -/
theorem do_done (g : Nat) (row par m fv : Value) (w : World) (hw : w.heap[g]? = some (IxB row par 1 0 m)) :
    Calls Tryz.prog 50 #[.pointer (some ⟨g, 2, none⟩), fv] w fun e w' => e = .returned (.tuple #[]) ∧ w' = w := by
  have h0 : w.cell? ⟨g, 2, none⟩ = some (.int .u32 1) := cell_at hw 2
  clear hw
  go_enter Tryz.func50, Tryz.ntmps50
  go_wp2_with fail
  go_at_call 72
  refine (load_word ⟨g, 2, none⟩ 1 _ h0).mono ?_
  rintro e w1 ⟨rfl, rfl⟩
  go_wp2_with fail
  go_end0
  exact ⟨rfl, rfl⟩
end Go.Proofs.YtfbfdkibdjinaaaGreatDoor

namespace Go.Proofs.YtfbfdkibdjinaaaGreatDoor
set_option linter.unusedVariables false
set_option linter.unusedSimpArgs false

/-- a is ahead of b, over at most n steps. -/
def aheadN (l : List Ev) : Nat → ByteArray → ByteArray → Prop
  | 0, _, _ => False
  | n + 1, a, b => ∃ e ∈ l, e.id = b ∧ ∃ p ∈ e.parents, a = p ∨ aheadN l n a p
def AheadR (l : List Ev) (a b : ByteArray) : Prop := ∃ n, aheadN l n a b
noncomputable def aheadB (l : List Ev) (a b : ByteArray) : Bool := @decide (AheadR l a b) (Classical.propDecidable _)
theorem aheadB_iff {l : List Ev} {a b : ByteArray} : aheadB l a b = true ↔ AheadR l a b := by
  unfold aheadB
  exact @decide_eq_true_iff _ (Classical.propDecidable _)
section
variable {room : ByteArray} {l l' : List Ev} {e : Ev} {a b c p : ByteArray}
theorem valid_par (hv : Valid room l) (he : e ∈ l) (hp : p ∈ e.parents) : hasE l p = true := by
  obtain ⟨i, hi⟩ := List.getElem?_of_mem he
  obtain ⟨x, hx, hxi⟩ := has_iff.1 ((err_zero (hv i e hi)).2.2.2.1 p hp)
  exact has_iff.2 ⟨x, List.mem_of_mem_take hx, hxi⟩
theorem aheadN_less (hv : Valid room l) : ∀ (n : Nat) (a b : ByteArray), aheadN l n a b → depthL l a < depthL l b
  | 0, _, _, h => h.elim
  | n + 1, a, b, ⟨e, he, hid, p, hp, h⟩ => by
    have h1 := depth_less hv he hp
    rw [hid] at h1
    rcases h with rfl | h
    · exact h1
    · exact Nat.lt_trans (aheadN_less hv n a p h) h1
theorem AheadR.less (hv : Valid room l) (h : AheadR l a b) : depthL l a < depthL l b := by
  obtain ⟨n, h⟩ := h
  exact aheadN_less hv n a b h
theorem AheadR.irrefl (hv : Valid room l) (h : AheadR l a a) : False := Nat.lt_irrefl _ (h.less hv)
theorem AheadR.ne (hv : Valid room l) (h : AheadR l a b) : a ≠ b := fun e => by subst e; exact h.irrefl hv
theorem AheadR.par (he : e ∈ l) (hp : p ∈ e.parents) : AheadR l p e.id := ⟨1, e, he, rfl, p, hp, .inl rfl⟩
theorem AheadR.more (he : e ∈ l) (hp : p ∈ e.parents) (h : AheadR l a p) : AheadR l a e.id := by
  obtain ⟨n, h⟩ := h
  exact ⟨n + 1, e, he, rfl, p, hp, .inr h⟩
theorem aheadN_trans (h : AheadR l a b) : ∀ (n : Nat) (c : ByteArray), aheadN l n b c → AheadR l a c
  | 0, _, k => k.elim
  | n + 1, c, ⟨e, he, hid, p, hp, k⟩ => by
    rw [← hid]
    rcases k with rfl | k
    · exact AheadR.more he hp h
    · exact AheadR.more he hp (aheadN_trans h n p k)
theorem AheadR.trans (h : AheadR l a b) (k : AheadR l b c) : AheadR l a c := by
  obtain ⟨n, k⟩ := k
  exact aheadN_trans h n c k
theorem AheadR.last (h : AheadR l a b) : hasE l b = true := by
  obtain ⟨n, h⟩ := h
  cases n with
  | zero => exact h.elim
  | succ n =>
    obtain ⟨e, he, hid, -⟩ := h
    exact has_iff.2 ⟨e, he, hid⟩
theorem aheadN_first (hv : Valid room l) : ∀ (n : Nat) (a b : ByteArray), aheadN l n a b → hasE l a = true
  | 0, _, _, h => h.elim
  | n + 1, a, b, ⟨e, he, hid, p, hp, h⟩ => by
    rcases h with rfl | h
    · exact valid_par hv he hp
    · exact aheadN_first hv n a p h
theorem AheadR.first (hv : Valid room l) (h : AheadR l a b) : hasE l a = true := by
  obtain ⟨n, h⟩ := h
  exact aheadN_first hv n a b h
theorem ahead_iff (hv : Valid room l) (he : e ∈ l) : AheadR l a e.id ↔ ∃ p ∈ e.parents, a = p ∨ AheadR l a p := by
  constructor
  · rintro ⟨n, h⟩
    cases n with
    | zero => exact h.elim
    | succ n =>
      obtain ⟨e', he', hid, p, hp, h⟩ := h
      have hee : e' = e := valid_ids hv he' he hid
      subst hee
      exact ⟨p, hp, h.imp id (fun h => ⟨n, h⟩)⟩
  · rintro ⟨p, hp, rfl | h⟩
    · exact AheadR.par he hp
    · exact AheadR.more he hp h
theorem aheadN_same (hm : ∀ e, e ∈ l → e ∈ l') : ∀ (n : Nat) (a b : ByteArray), aheadN l n a b → aheadN l' n a b
  | 0, _, _, h => h.elim
  | n + 1, a, b, ⟨e, he, hid, p, hp, h⟩ => ⟨e, hm e he, hid, p, hp, h.imp id (aheadN_same hm n a p)⟩
theorem ahead_same (hm : ∀ e, e ∈ l ↔ e ∈ l') (a b : ByteArray) : aheadB l a b = aheadB l' a b := by
  rw [Bool.eq_iff_iff, aheadB_iff, aheadB_iff]
  exact ⟨fun ⟨n, h⟩ => ⟨n, aheadN_same (fun e => (hm e).1) n a b h⟩, fun ⟨n, h⟩ => ⟨n, aheadN_same (fun e => (hm e).2) n a b h⟩⟩
/-- In the row of positions, each ID stands once, and parents stand earlier. -/
theorem row_id {s : List Ev} {i j : Nat} {f : Ev} (hs : Sorted l s) (hi : s[i]? = some e) (hj : s[j]? = some f) (h : e.id = f.id) : i = j := by
  have key : ∀ {i j : Nat} {e f : Ev}, s[i]? = some e → s[j]? = some f → e.id = f.id → ¬ i < j := by
    intro i j e f hi hj h hlt
    obtain ⟨h1, h2⟩ := List.getElem?_eq_some_iff.1 hi
    obtain ⟨h3, h4⟩ := List.getElem?_eq_some_iff.1 hj
    have := List.pairwise_iff_getElem.1 hs i j h1 h3 hlt
    rw [h2, h4, h, pos_irrefl] at this
    cases this
  have h1 := key hi hj h
  have h2 := key hj hi h.symm
  omega
theorem row_idx {s : List Ev} {i : Nat} (hs : Sorted l s) (hi : s[i]? = some e) : idx s e.id = some i :=
  idx_hit hi rfl (fun j y hj hy h => by have := row_id hs hy hi h; omega)
theorem row_par (hv : Valid room l) {i : Nat} (hi : (allL l)[i]? = some e) (hp : p ∈ e.parents) : ∃ j f, j < i ∧ (allL l)[j]? = some f ∧ f.id = p := by
  have hr := allL_row hv
  have he : e ∈ l := (hr.2 e).1 (List.mem_of_getElem? hi)
  obtain ⟨f, hf, hfp⟩ := has_iff.1 (valid_par hv he hp)
  obtain ⟨j, hj⟩ := List.getElem?_of_mem ((hr.2 f).2 hf)
  have hd := depth_less hv he hp
  refine ⟨j, f, ?_, hj, hfp⟩
  rcases Nat.lt_trichotomy j i with h | h | h
  · exact h
  · subst h
    rw [hi] at hj
    injection hj with hj
    subst hj
    rw [hfp] at hd
    omega
  · obtain ⟨h1, h2⟩ := List.getElem?_eq_some_iff.1 hi
    obtain ⟨h3, h4⟩ := List.getElem?_eq_some_iff.1 hj
    have := List.pairwise_iff_getElem.1 hr.1 i j h1 h3 h
    rw [h2, h4, pos_iff] at this
    simp only [posL] at this
    rw [hfp] at this
    omega
end
/-- A past: an event's place, the words of its set. -/
structure Pst where
  place : Nat
  ws : List Nat
def zeroP : Pst := ⟨0, []⟩
def Pst.word (p : Pst) : Nat := p.ws.headD 0
def foldW (ps : List Pst) : Nat := ps.foldl (fun a p => (a ||| 2 ^ p.place) ||| p.word) 0
def behindW (ps : List Pst) : List Nat := if ps.length = 0 then [] else [foldW ps]
theorem foldW_bit (j : Nat) : ∀ (ps : List Pst) (a : Nat), (ps.foldl (fun a p => (a ||| 2 ^ p.place) ||| p.word) a).testBit j = (a.testBit j || ps.any (fun p => decide (p.place = j) || p.word.testBit j))
  | [], a => by simp
  | p :: t, a => by
    rw [List.foldl_cons, foldW_bit j t, Nat.testBit_or, Nat.testBit_or, Nat.testBit_two_pow, List.any_cons]
    cases a.testBit j <;> cases decide (p.place = j) <;> cases p.word.testBit j <;> simp
theorem behind_word (ps : List Pst) (i : Nat) : Pst.word ⟨i, behindW ps⟩ = foldW ps := by
  unfold Pst.word behindW
  split
  · next h =>
    have : ps = [] := List.eq_nil_of_length_eq_zero h
    subst this
    rfl
  · rfl
def lookP (s : List Ev) (P : List Pst) (q : ByteArray) : Pst := match idx s q with | some j => P.getD j zeroP | none => zeroP
def parsAt (s : List Ev) (n : Nat) : List ByteArray := (s[n]?.map Ev.parents).getD []
def pastsA (s : List Ev) : Nat → List Pst
  | 0 => []
  | n + 1 => pastsA s n ++ [⟨n, behindW ((parsAt s n).map (lookP s (pastsA s n)))⟩]
def pastI (s : List Ev) (i : Nat) : Pst := ⟨i, behindW ((parsAt s i).map (lookP s (pastsA s i)))⟩
theorem pastsA_len (s : List Ev) : ∀ n, (pastsA s n).length = n
  | 0 => rfl
  | n + 1 => by rw [pastsA, List.length_append, pastsA_len s n]; rfl
theorem pastsA_get (s : List Ev) : ∀ (n i : Nat), i < n → (pastsA s n)[i]? = some (pastI s i)
  | 0, i, h => by omega
  | n + 1, i, h => by
    rw [pastsA]
    by_cases hi : i < n
    · rw [List.getElem?_append_left (by rw [pastsA_len]; exact hi)]
      exact pastsA_get s n i hi
    · obtain rfl : i = n := by omega
      rw [List.getElem?_append_right (by rw [pastsA_len]; exact Nat.le_refl _), pastsA_len, Nat.sub_self]
      rfl
theorem look_past {l s : List Ev} {n j : Nat} {f : Ev} (hs : Sorted l s) (hj : s[j]? = some f) (hn : j < n) : lookP s (pastsA s n) f.id = pastI s j := by
  unfold lookP
  rw [row_idx hs hj]
  simp only [List.getD_eq_getElem?_getD, pastsA_get s n j hn, Option.getD_some]
theorem past_bit {room : ByteArray} {l : List Ev} (hv : Valid room l) : ∀ (i : Nat) (e : Ev), (allL l)[i]? = some e → ∀ j, (pastI (allL l) i).word.testBit j = true ↔ ∃ f, (allL l)[j]? = some f ∧ AheadR l f.id e.id := by
  intro i
  induction i using Nat.strongRecOn with
  | ind i ih =>
  intro e he j
  have hr := allL_row hv
  have hem : e ∈ l := (hr.2 e).1 (List.mem_of_getElem? he)
  have hpar : parsAt (allL l) i = e.parents := by unfold parsAt; rw [he]; rfl
  unfold pastI
  rw [behind_word, foldW, foldW_bit, Nat.zero_testBit, Bool.false_or, hpar, List.any_map, List.any_eq_true]
  constructor
  · rintro ⟨q, hq, h⟩
    obtain ⟨jq, fq, hlt, hfq, hid⟩ := row_par hv he hq
    simp only [Function.comp, Bool.or_eq_true, decide_eq_true_eq] at h
    rw [← hid, look_past hr.1 hfq hlt] at h
    rcases h with h | h
    · simp only [pastI] at h
      subst h
      exact ⟨fq, hfq, by rw [hid]; exact AheadR.par hem hq⟩
    · obtain ⟨f, hf, hah⟩ := (ih jq hlt fq hfq j).1 h
      rw [hid] at hah
      exact ⟨f, hf, AheadR.more hem hq hah⟩
  · rintro ⟨f, hf, hah⟩
    obtain ⟨q, hq, h⟩ := (ahead_iff hv hem).1 hah
    obtain ⟨jq, fq, hlt, hfq, hid⟩ := row_par hv he hq
    refine ⟨q, hq, ?_⟩
    simp only [Function.comp, Bool.or_eq_true, decide_eq_true_eq]
    rw [← hid, look_past hr.1 hfq hlt]
    rcases h with h | h
    · exact .inl (row_id hr.1 hfq hf (hid.trans h.symm))
    · exact .inr ((ih jq hlt fq hfq j).2 ⟨f, hf, by rw [hid]; exact h⟩)
theorem past_lt {room : ByteArray} {l : List Ev} (hv : Valid room l) (hl : l.length ≤ 9) {i : Nat} {e : Ev} (he : (allL l)[i]? = some e) : (pastI (allL l) i).word < 512 := by
  refine Nat.lt_pow_two_of_testBit (n := 9) _ (fun j hj => ?_)
  cases h : (pastI (allL l) i).word.testBit j with
  | false => rfl
  | true =>
    obtain ⟨f, hf, -⟩ := (past_bit hv i e he j).1 h
    have := (List.getElem?_eq_some_iff.1 hf).1
    rw [allL_len] at this
    omega
/-- The IDs at a word's places. -/
def namedL (s : List Ev) (W : Nat) : List ByteArray := (List.range s.length).filterMap (fun j => if W.testBit j then (s[j]?).map Ev.id else none)
theorem namedL_is (s : List Ev) (W : Nat) (q : Ev → Bool) (h : ∀ (j : Nat) f, s[j]? = some f → W.testBit j = q f) : namedL s W = (s.filter q).map Ev.id := by
  unfold namedL
  have h1 : s = (List.range s.length).filterMap (fun j => s[j]?) := by
    apply List.ext_getElem?
    intro i
    by_cases hi : i < s.length
    · have h2 : (List.range s.length).filterMap (fun j => s[j]?) = (List.range s.length).attach.map (fun j => s[j.1]'(List.mem_range.1 j.2)) := by
        conv => lhs; rw [← List.attach_map_subtype_val (List.range s.length)]
        rw [List.filterMap_map]
        rw [show ((fun j => s[j]?) ∘ fun (x : {x // x ∈ List.range s.length}) => x.1) = fun x => some (s[x.1]'(List.mem_range.1 x.2)) from funext (fun x => List.getElem?_eq_getElem (List.mem_range.1 x.2))]
        rw [List.filterMap_eq_map']
      rw [h2]
      simp [hi]
    · rw [List.getElem?_eq_none (by omega), List.getElem?_eq_none]
      exact Nat.le_trans (List.length_filterMap_le _ _) (by rw [List.length_range]; omega)
  conv => rhs; rw [h1]
  rw [List.filter_filterMap, List.map_filterMap]
  congr 1
  funext j
  cases hj : s[j]? with
  | none => simp
  | some f => rw [h j f hj]; cases hq : q f <;> simp [Option.filter, hq]
end Go.Proofs.YtfbfdkibdjinaaaGreatDoor

namespace Go.Proofs.YtfbfdkibdjinaaaGreatDoor
set_option maxRecDepth 20000
open Go.RowKit
set_option linter.unusedVariables false
set_option linter.unusedSimpArgs false

/-- A row of words. -/
def LU : Lies Nat := ⟨110, 1, fun x => [.int .u64 (x : Int)], fun _ => rfl, fun x u hu => by
  simp only [List.mem_singleton] at hu
  subst hu
  rfl⟩
theorem knU : Kn Tryz.prog LU 77 (.int .u64 0) 8 := ⟨Tryz.underlying77, by kernel_rfl, rfl, by decide⟩

theorem div64 {p : Nat} (hp : p < 9) : (p : Int).tdiv 64 = 0 := Int.tdiv_eq_zero_of_lt (by omega) (by omega)
theorem mod64 {p : Nat} (hp : p < 9) : (p : Int).tmod 64 = (p : Int) := Int.tmod_eq_of_lt (by omega) (by omega)
theorem bit_isF : ∀ W : Fin 512, ∀ p : Fin 9, (bits BinOp.and IntKind.u64 (((W.val : Nat) : Int) / 2 ^ p.val) 1 == 1) = W.val.testBit p.val := by decide +kernel
theorem bit_is {W p : Nat} (hW : W < 512) (hp : p < 9) : (bits BinOp.and IntKind.u64 ((W : Int) / 2 ^ p) 1 == 1) = W.testBit p := bit_isF ⟨W, hW⟩ ⟨p, hp⟩
set_option maxHeartbeats 800000 in
theorem has_none (A : Option Addr) (c : Nat) (p : Nat) (w : World) (hp : p < 9) (hc : c ≤ 9223372036854775807) :
    Calls Tryz.prog 32 #[.slice A 0 c, .int .i64 (p : Int)] w fun e w' => e = .returned (.bool false) ∧ w' = w := by
  have q0 := div64 hp
  go_enter Tryz.func32, Tryz.ntmps32
  go_wp2_with fail
  go_ret
  exact ⟨rfl, rfl⟩
set_option maxHeartbeats 800000 in
theorem has_one (b off : Nat) (c W p : Nat) (w : World) (hp : p < 9) (hW : W < 512) (hc : c ≤ 9223372036854775807) (h : w.cell? ⟨b, off, none⟩ = some (.int .u64 (W : Int))) :
    Calls Tryz.prog 32 #[.slice (some ⟨b, off, none⟩) 1 c, .int .i64 (p : Int)] w fun e w' => e = .returned (.bool (W.testBit p)) ∧ w' = w := by
  have hix := index_any (P := Tryz.prog) knU (by decide) (b := b) (off := off) (cap := c) (i := 0) (len := 1) (by omega)
  simp only [LU] at hix
  have q0 := div64 hp
  have q1 := mod64 hp
  go_enter Tryz.func32, Tryz.ntmps32
  go_wp2_with fail
  rw [bit_is hW hp]
  go_ret
  exact ⟨rfl, rfl⟩
end Go.Proofs.YtfbfdkibdjinaaaGreatDoor

namespace Go.Proofs.YtfbfdkibdjinaaaGreatDoor
set_option maxRecDepth 20000
open Go.RowKit
set_option linter.unusedVariables false
set_option linter.unusedSimpArgs false

/-- What the table says. -/
def tabL : List Nat := [0, 1, 56, 2, 57, 49, 28, 3, 61, 58, 42, 50, 38, 29, 17, 4, 62, 47, 59, 36, 45, 43, 51, 22, 53, 39, 33, 30, 24, 18, 12, 5, 63, 55, 48, 27, 60, 41, 37, 16, 46, 35, 44, 21, 52, 32, 23, 11, 54, 26, 40, 15, 34, 20, 31, 10, 25, 14, 19, 9, 13, 8, 7, 6]
/-- The table lies where it was laid. -/
def TabW (w : World) : Prop := 0 < w.heap.size ∧ ∀ i, i < 64 → w.cell? ⟨0, i, none⟩ = some (.int .u8 ((tabL.getD i 0 : Nat) : Int))
theorem TabW.below {w w' : World} {B : Nat} (h : TabW w) (hb : Below B w w') (h0 : 0 < B) : TabW w' := by
  have hl := hb.size
  exact ⟨Nat.lt_of_lt_of_le h.1 hl, fun i hi => (World.cell?_of_block (a := ⟨0, i, none⟩) (hb.block 0 h0)).trans (h.2 i hi)⟩
theorem TabW.turn {own : World → Nat → Nat → Prop} {w w' : World} {g : Nat} (h : TabW w) (ht : TurnD own w w' g) (h0 : ¬ own w g 0) : TabW w' :=
  ⟨Nat.lt_of_lt_of_le h.1 ht.size, fun i hi => (World.cell?_of_block (a := ⟨0, i, none⟩) (ht.block 0 h.1 h0)).trans (h.2 i hi)⟩
/-- The lowest bit. -/
def tzN (V : Nat) : Nat := ((List.range 9).find? (fun i => V.testBit i)).getD 0
def dbN (V : Nat) : Nat := [0, 1, 3, 7, 15, 31, 63, 62, 61].getD (tzN V) 0
theorem db_isF : ∀ V : Fin 512, V.val ≠ 0 → IntKind.u64.wrap (bits BinOp.and IntKind.u64 ((V.val : Nat) : Int) (IntKind.u64.wrap (-((V.val : Nat) : Int))) * 285870213051353865) / 288230376151711744 = ((dbN V.val : Nat) : Int) ∧ dbN V.val < 64 ∧ tabL.getD (dbN V.val) 0 = tzN V.val ∧ tzN V.val < 9 := by decide +kernel

set_option maxHeartbeats 800000 in
theorem tz_any (V : Nat) (w : World) (hV : V < 512) (h0 : 0 < V) (ht : TabW w) :
    Calls Tryz.prog 53 #[.int .u64 (V : Int)] w fun e w' => e = .returned (.int .i64 (tzN V : Int)) ∧ w' = w := by
  have q0 : ((V : Int) == 0) = false := by rw [beq_eq_false_iff_ne]; omega
  obtain ⟨q1, q2, q3, q4⟩ := db_isF ⟨V, hV⟩ (by show V ≠ 0; omega)
  simp only [] at q1 q2 q3 q4
  generalize dbN V = n at q1 q2 q3
  have q5 := ht.2 n q2
  rw [q3] at q5
  generalize tzN V = z at q4 q5
  clear ht q3
  go_enter Tryz.func53, Tryz.ntmps53
  go_wp2_with fail
  go_ret
  exact ⟨rfl, rfl⟩
end Go.Proofs.YtfbfdkibdjinaaaGreatDoor

namespace Go.Proofs.YtfbfdkibdjinaaaGreatDoor
set_option maxRecDepth 20000
open Go.RowKit
set_option linter.unusedVariables false
set_option linter.unusedSimpArgs false

theorem ofInt_u64 {a : Nat} (ha : a < 512) : (BitVec.ofInt 64 (a : Int)).toNat = a := by
  rw [BitVec.ofInt_natCast, BitVec.toNat_ofNat]; exact Nat.mod_eq_of_lt (by omega)
theorem or_lt {a b : Nat} (ha : a < 512) (hb : b < 512) : a ||| b < 512 := Nat.or_lt_two_pow (n := 9) ha hb
theorem bits_or {a b : Nat} (ha : a < 512) (hb : b < 512) : bits BinOp.or IntKind.u64 (a : Int) (b : Int) = ((a ||| b : Nat) : Int) := by
  show IntKind.u64.wrap ((BitVec.ofInt 64 (a : Int) ||| BitVec.ofInt 64 (b : Int)).toNat : Int) = _
  have := or_lt ha hb
  rw [BitVec.toNat_or, ofInt_u64 ha, ofInt_u64 hb, IntKind.wrap_u64]
  omega
theorem and_lt {a b : Nat} (ha : a < 512) : a &&& b < 512 := Nat.lt_of_le_of_lt Nat.and_le_left ha
theorem bits_and {a b : Nat} (ha : a < 512) (hb : b < 512) : bits BinOp.and IntKind.u64 (a : Int) (b : Int) = ((a &&& b : Nat) : Int) := by
  show IntKind.u64.wrap ((BitVec.ofInt 64 (a : Int) &&& BitVec.ofInt 64 (b : Int)).toNat : Int) = _
  have := and_lt (b := b) ha
  rw [BitVec.toNat_and, ofInt_u64 ha, ofInt_u64 hb, IntKind.wrap_u64]
  omega
theorem pow_lt {p : Nat} (hp : p < 9) : 2 ^ p < 512 := by
  have := Nat.pow_lt_pow_right (a := 2) (by omega) hp
  omega
theorem pow_wrap {p : Nat} (hp : p < 9) : IntKind.u64.wrap (2 ^ p) = ((2 ^ p : Nat) : Int) := by
  have h1 := pow_lt hp
  have h2 : (2 : Int) ^ p = ((2 ^ p : Nat) : Int) := by simp
  rw [IntKind.wrap_u64, h2]
  generalize 2 ^ p = m at h1
  omega

theorem made_one : madeCells #[Value.int .u64 0] 1 = #[Value.int .u64 0] := by kernel_rfl
/-- A past, and where its set lies. -/
structure PsV where
  p : Pst
  A : Option Addr
  c : Nat
def PsV.sv (x : PsV) : Value := .slice x.A x.p.ws.length x.c
def PsV.val (x : PsV) : Value := .agg #[.int .i64 (x.p.place : Int), x.sv]
def LP : Lies PsV := ⟨79, 2, fun x => [.int .i64 (x.p.place : Int), x.sv], fun _ => rfl, fun x u hu => by
  simp only [List.mem_cons, List.not_mem_nil, or_false] at hu
  rcases hu with rfl | rfl <;> rfl⟩
theorem knP : Kn Tryz.prog LP 123 (.agg #[.int .i64 0, .slice none 0 0]) 32 := ⟨Tryz.underlying123, by kernel_rfl, rfl, by decide⟩
structure Pst.ok (p : Pst) : Prop where
  place : p.place < 9
  len : p.ws.length ≤ 1
  lt : ∀ W ∈ p.ws, W < 512
theorem Pst.ok.word_lt {p : Pst} (h : p.ok) : p.word < 512 := by
  unfold Pst.word
  cases hw : p.ws with
  | nil => show 0 < 512; omega
  | cons W t => exact h.lt W (by rw [hw]; exact List.mem_cons_self)
def PsV.at (x : PsV) (w : World) : Prop := LU.Slice w x.sv x.p.ws ∧ x.p.ok
theorem PsV.at.below {x : PsV} {w w' : World} (h : x.at w) (hb : Below w.heap.size w w') : x.at w' := ⟨h.1.below hb, h.2⟩
def foldT (xs : List PsV) (a : Nat) : Nat := foldW ((xs.map PsV.p).take a)
theorem foldT_lt {w : World} {xs : List PsV} (h : ∀ x ∈ xs, x.at w) (a : Nat) : foldT xs a < 512 := by
  unfold foldT foldW
  refine Nat.lt_pow_two_of_testBit (n := 9) _ (fun j hj => ?_)
  rw [foldW_bit, Nat.zero_testBit, Bool.false_or, List.any_eq_false]
  intro p hp
  obtain ⟨x, hx, rfl⟩ := List.mem_map.1 (List.mem_of_mem_take hp)
  have hk := (h x hx).2
  have h1 : x.p.word.testBit j = false := Nat.testBit_lt_two_pow (Nat.lt_of_lt_of_le hk.word_lt (Nat.pow_le_pow_right (n := 2) (by omega) hj))
  have h2 := hk.place
  simp [h1]
  omega
theorem foldT_succ {xs : List PsV} {a : Nat} {x : PsV} (h : xs[a]? = some x) : foldT xs (a + 1) = (foldT xs a ||| 2 ^ x.p.place) ||| x.p.word := by
  unfold foldT foldW
  rw [List.take_add_one, List.getElem?_map, h, List.foldl_append]
  rfl

set_option maxHeartbeats 1600000 in
theorem aheadBehind_any (v : Value) (xs : List PsV) (w : World) (h : LP.Slice w v xs) (hx : ∀ x ∈ xs, x.at w) (hl : xs.length ≤ 1000) :
    Calls Tryz.prog 74 #[v] w fun e w' => ∃ A c, e = .returned (.slice A (behindW (xs.map PsV.p)).length c) ∧ LU.Mine w' w.heap.size (.slice A (behindW (xs.map PsV.p)).length c) (behindW (xs.map PsV.p)) ∧ Below w.heap.size w w' := by
  obtain ⟨A0, c0, rfl, h1, h2, -⟩ := id h
  have hc0 : c0 ≤ 9223372036854775807 := by unfold maxLen at h2; omega
  have HS := Lib.hid h
  have HX := Lib.hid hx
  clear h hx h2
  go_enter Tryz.func74, Tryz.ntmps74
  go_wp2_with fail
  go_loopw [3, 13] (fun n i wr => ∃ a : Nat, i = .int .i64 (a : Int) ∧ a ≤ xs.length ∧ n = .int .i64 (if a = 0 then 0 else 1) ∧ Hid (Below w.heap.size w wr)) (fun _ i _ => xs.length - (intOf i).toNat)
  case atStart => exact ⟨0, rfl, Nat.zero_le _, rfl, Lib.hid (Below.refl _ _)⟩
  case round =>
    obtain ⟨a, rfl, ha, rfl, HB⟩ := hrel
    by_cases hax : a < xs.length
    · have q1 : decide ((a : Int) < (xs.length : Int)) = true := decide_eq_true (by omega)
      have hx : xs[a]? = some xs[a] := List.getElem?_eq_getElem hax
      generalize xs[a] = x at hx
      have hpl := (HX.out x (List.mem_of_getElem? hx)).2.place
      obtain ⟨b, off, rfl, hb, hr⟩ := HS.out.at hx
      have hix := index_any (P := Tryz.prog) knP (by decide) (b := b) (off := off) (cap := c0) hax
      simp only [LP] at hix
      have e0 : wr.cell? ⟨b, off + a * 2, none⟩ = some (.int .i64 (x.p.place : Int)) := (HB.out.cell (p := ⟨b, off + a * 2, none⟩) hb).trans (hr 0 _ rfl)
      have e1 : wr.cell? ⟨b, off + a * 2 + 1, none⟩ = some (.slice x.A x.p.ws.length x.c) := (HB.out.cell (p := ⟨b, off + a * 2 + 1, none⟩) hb).trans (hr 1 _ rfl)
      have q2 := div64 hpl
      have HN := Lib.hid (HB.out.trans ((below_new wr (.cells #[.int .i64 (x.p.place : Int), .slice x.A x.p.ws.length x.c] 79)).mono HB.out.size))
      clear hx hr
      have HW1 : Hid ((if a + 1 = 0 then 0 else 1 : Int) = 1) := Lib.hid (if_neg (by omega))
      have HW2 : Hid ((if a = 0 then 0 else 1 : Int) = 0 ∨ (if a = 0 then 0 else 1 : Int) = 1) := Lib.hid (by split <;> simp)
      generalize (if a = 0 then 0 else 1 : Int) = wd at HW2 ⊢
      rcases HW2.out with rfl | rfl
      all_goals
        go_wp2_with fail
        refine ⟨⟨a + 1, by go_num, by omega, by rw [HW1.out] <;> rfl, HN⟩, ?_⟩
        simp [intOf]; omega
    · have q1 : decide ((a : Int) < (xs.length : Int)) = false := decide_eq_false (by omega)
      obtain rfl : a = xs.length := by omega
      have HB0 := HB
      by_cases h0 : xs.length = 0
      · rw [if_pos h0]
        have hmk := run_make_row' (P := Tryz.prog) 77 110 (.int .u64 0) 8 Tryz.underlying77 (by kernel_rfl) rfl .i64 .i64 0 (by omega) (by omega)
        rw [show ((0 : Nat) : Int) = 0 from rfl] at hmk
        have hxn : xs = [] := List.eq_nil_of_length_eq_zero h0
        have HBN := Lib.hid (HB.out.trans ((below_new wr (.cells (madeCells #[.int .u64 0] 0) 110)).mono HB.out.size))
        have HM : Hid (LU.Mine (wr.alloc (.cells (madeCells #[.int .u64 0] 0) 110)) w.heap.size (.slice (some ⟨wr.heap.size, 0, none⟩) 0 0) []) := Lib.hid (.inr ⟨wr.heap.size, 0, 0, _, rfl, HB.out.size, heap_alloc_new wr _, Nat.le_refl _, Nat.zero_le _, by simp [LU], by simp [Lies.vs]⟩)
        have q2 : decide ((0 : Int) < (xs.length : Int)) = false := decide_eq_false (by omega)
        go_upto_region 8 with (fail)
        clear hmk q1
        generalize wr.alloc _ = w2 at HBN HM ⊢
        go_wp2_with fail
        go_loopw [28] (fun i wr => i = .int .i64 0 ∧ wr = w2) (fun i _ => 0)
        case atStart => exact ⟨rfl, rfl⟩
        case round =>
          obtain ⟨rfl, rfl⟩ := hrel
          go_wp2_with fail
          go_ret
          have hz : behindW (xs.map PsV.p) = [] := by rw [hxn]; rfl
          rw [hz]
          exact ⟨_, _, rfl, HM.out, HBN.out⟩
      · rw [if_neg h0]
        have hmk := run_make_row' (P := Tryz.prog) 77 110 (.int .u64 0) 8 Tryz.underlying77 (by kernel_rfl) rfl .i64 .i64 1 (by omega) (by omega)
        rw [show ((1 : Nat) : Int) = 1 from rfl] at hmk
        have HBN := Lib.hid (HB.out.trans ((below_new wr (.cells (madeCells #[.int .u64 0] 1) 110)).mono HB.out.size))
        have HM : Hid ((wr.alloc (.cells (madeCells #[.int .u64 0] 1) 110)).heap[wr.heap.size]? = some (.cells #[.int .u64 ((foldT xs 0 : Nat) : Int)] 110 (0, 0))) := Lib.hid (by have h := heap_alloc_new wr (.cells (madeCells #[.int .u64 0] 1) 110); rw [made_one] at h ⊢; exact h)
        have hlo := HB.out.size
        go_upto_region 8 with (fail)
        clear hmk q1
        generalize wr.alloc _ = w2 at HBN HM ⊢
        generalize wr.heap.size = Bw at HM hlo ⊢
        go_wp2_with fail
        go_loopw [28] (fun i wr => ∃ a : Nat, i = .int .i64 (a : Int) ∧ a ≤ xs.length ∧ Hid (Below w.heap.size w wr) ∧ Hid (wr.heap[Bw]? = some (.cells #[.int .u64 ((foldT xs a : Nat) : Int)] 110 (0, 0)))) (fun i _ => xs.length - (intOf i).toNat)
        case atStart => exact ⟨0, rfl, Nat.zero_le _, HBN, HM⟩
        case round =>
          obtain ⟨w0, hw0⟩ : ∃ w0, w0 = wr := ⟨_, rfl⟩
          subst hw0
          obtain ⟨a, rfl, ha, HB2, HM2⟩ := hrel
          clear HB HBN HM
          by_cases hax : a < xs.length
          · have q1 : decide ((a : Int) < (xs.length : Int)) = true := decide_eq_true (by omega)
            have hx : xs[a]? = some xs[a] := List.getElem?_eq_getElem hax
            generalize xs[a] = x at hx
            have hat := HX.out x (List.mem_of_getElem? hx)
            have hfl := foldT_lt HX.out a
            have hfs := foldT_succ hx
            obtain ⟨⟨pl, ws⟩, xA, xc⟩ := x
            have hpl : pl < 9 := hat.2.place
            have hwn : ws.length ≤ 1 := hat.2.len
            have hwt : ∀ W ∈ ws, W < 512 := hat.2.lt
            have hus : LU.Slice w (.slice xA ws.length xc) ws := hat.1
            have HFS : Hid (foldT xs (a + 1) = (foldT xs a ||| 2 ^ pl) ||| ws.headD 0) := Lib.hid hfs
            have hxc : xc ≤ 9223372036854775807 := by
              obtain ⟨A', c', he, -, h2, -⟩ := hus
              injection he with _ _ h3
              unfold maxLen at h2
              omega
            obtain ⟨b, off, rfl, hb, hr⟩ := HS.out.at hx
            have hix := index_any (P := Tryz.prog) knP (by decide) (b := b) (off := off) (cap := c0) hax
            simp only [LP] at hix
            have e0 : w0.cell? ⟨b, off + a * 2, none⟩ = some (.int .i64 (pl : Int)) := (HB2.out.cell (p := ⟨b, off + a * 2, none⟩) hb).trans (hr 0 _ rfl)
            have e1 : w0.cell? ⟨b, off + a * 2 + 1, none⟩ = some (.slice xA ws.length xc) := (HB2.out.cell (p := ⟨b, off + a * 2 + 1, none⟩) hb).trans (hr 1 _ rfl)
            have hbn := below_new w0 (.cells #[.int .i64 (pl : Int), .slice xA ws.length xc] 79)
            have HN := Lib.hid (HB2.out.trans (hbn.mono HB2.out.size))
            have HMN := Lib.hid ((hbn.block Bw (smem_lt HM2.out)).trans HM2.out)
            have HBX := Lib.hid (heap_alloc_new w0 (.cells #[.int .i64 (pl : Int), .slice xA ws.length xc] 79))
            have hne : Bw ≠ w0.heap.size := by have := smem_lt HM2.out; omega
            have q4 := pow_wrap hpl
            have q5 := bits_or hfl (pow_lt hpl)
            have hol := or_lt hfl (pow_lt hpl)
            generalize 2 ^ pl = m at q4 q5 hol HFS
            generalize hfo : foldT xs (a + 1) = fo' at HFS
            have HFO := Lib.hid hfo
            clear hfo
            have HUS := Lib.hid hus
            clear hx hr hbn hat hfs hus
            go_upto_region 11 with (fail)
            generalize w0.alloc _ = w3 at HN HMN HBX ⊢
            generalize w0.heap.size = B8 at HBX hne ⊢
            have p0 : w3.cell? ⟨B8, 0, none⟩ = some (.int .i64 (pl : Int)) := cell_at HBX.out 0
            have m0 : w3.cell? ⟨Bw, 0, none⟩ = some (.int .u64 ((foldT xs a : Nat) : Int)) := cell_at HMN.out 0
            have f0 : w3.frozen? ⟨Bw, 0, none⟩ = false := free_at HMN.out 0
            have hiw := index_any (P := Tryz.prog) knU (by decide) (b := Bw) (off := 0) (cap := 1) (i := 0) (len := 1) (by omega)
            simp only [LU] at hiw
            have q2 := div64 hpl
            have q3 := mod64 hpl
            clear e0 e1
            generalize foldT xs a = fo at HMN q5 hol HFS hfl m0
            have HB4 : Hid (Below w.heap.size w ((w3.setCell ⟨Bw, 0, none⟩ (.int .u64 ((fo ||| m : Nat) : Int))).drew)) := Lib.hid (HN.out.grown (sm_grown w3 Bw 0 [.int .u64 ((fo ||| m : Nat) : Int)]) HN.out.size (fun k hk => by injection hk with hk; omega)).drew
            have HM4 : Hid (((w3.setCell ⟨Bw, 0, none⟩ (.int .u64 ((fo ||| m : Nat) : Int))).drew).heap[Bw]? = some (.cells #[.int .u64 ((fo ||| m : Nat) : Int)] 110 (0, 0))) := Lib.hid (by
              obtain ⟨cur, z1, z2, z3⟩ := sm_at Bw 110 [.int .u64 ((fo ||| m : Nat) : Int)] 0 w3 _ HMN.out (Nat.le_refl 1)
              have z5 : cur = #[.int .u64 ((fo ||| m : Nat) : Int)] := Array.toList_inj.1 z3
              rw [z5] at z1
              exact z1)
            have HX4 : Hid (((w3.setCell ⟨Bw, 0, none⟩ (.int .u64 ((fo ||| m : Nat) : Int))).drew).heap[B8]? = some (.cells #[.int .i64 (pl : Int), .slice xA ws.length xc] 79 (0, 0))) := Lib.hid (((sm_grown w3 Bw 0 [.int .u64 ((fo ||| m : Nat) : Int)]).block B8 (smem_lt HBX.out) (fun e => hne (by injection e with e; exact e.symm))).trans HBX.out)
            clear HMN HBX HM2 HB2
            generalize (fo ||| m : Nat) = n0 at q5 hol HFS HB4 HM4 HX4
            go_region
            generalize World.drew _ = w4 at HB4 HM4 HX4 ⊢
            clear p0 m0 f0 q2 q3 q4 q5 HN
            have x1 : w4.cell? ⟨B8, 1, none⟩ = some (.slice xA ws.length xc) := cell_at HX4.out 1
            go_wp2_with fail
            go_loopw [47] (fun i wr => ∃ k : Nat, i = .int .i64 (k : Int) ∧ k ≤ ws.length ∧ Hid (Below w.heap.size w wr) ∧ Hid (∃ n, wr.heap[Bw]? = some (.cells #[.int .u64 ((n : Nat) : Int)] 110 (0, 0)) ∧ n < 512 ∧ ((k = 0 ∧ n = n0) ∨ (k = 1 ∧ n = n0 ||| ws.headD 0)))) (fun i _ => ws.length - (intOf i).toNat)
            case atStart => exact ⟨0, rfl, Nat.zero_le _, HB4, Lib.hid ⟨n0, HM4.out, hol, .inl ⟨rfl, rfl⟩⟩⟩
            case round =>
              obtain ⟨k, rfl, hk, HB5, HN5⟩ := hrel
              obtain ⟨n, hn1, hn2, hn3⟩ := HN5.out
              have HM5 := Lib.hid hn1
              have HN6 := Lib.hid hn3
              clear HN5 hn1 hn3 HB4 HM4 HX4 x1
              by_cases hkl : k < ws.length
              · have q6 : decide ((k : Int) < (ws.length : Int)) = true := decide_eq_true (by omega)
                obtain rfl : k = 0 := by omega
                cases ws with
                | nil => simp at hkl
                | cons W tl =>
                  obtain rfl : tl = [] := by cases tl with
                    | nil => rfl
                    | cons _ _ => simp at hwn
                  obtain ⟨b2, o2, rfl, hb2, hr2⟩ := HUS.out.at (i := 0) (x := W) rfl
                  have hWl := hwt W (by simp)
                  have g0 : wr.cell? ⟨b2, o2, none⟩ = some (.int .u64 (W : Int)) := (HB5.out.cell (p := ⟨b2, o2, none⟩) hb2).trans (by have := hr2 0 _ rfl; simpa only [LU, Nat.zero_mul, Nat.add_zero] using this)
                  have hi2 := index_any (P := Tryz.prog) knU (by decide) (b := b2) (off := o2) (cap := xc) (i := 0) (len := 1) (by omega)
                  simp only [LU] at hi2
                  have m5 : wr.cell? ⟨Bw, 0, none⟩ = some (.int .u64 (n : Int)) := cell_at HM5.out 0
                  have f5 : wr.frozen? ⟨Bw, 0, none⟩ = false := free_at HM5.out 0
                  have q7 := bits_or hn2 hWl
                  have HL7 := Lib.hid (or_lt hn2 hWl)
                  have HNE : Hid (n ||| W = n0 ||| W) := Lib.hid (by rcases HN6.out with ⟨-, h⟩ | ⟨h, -⟩; rw [h]; omega)
                  generalize (n ||| W : Nat) = n7 at q7 HL7 HNE
                  have HB7 : Hid (Below w.heap.size w (wr.setCell ⟨Bw, 0, none⟩ (.int .u64 (n7 : Int)))) := Lib.hid (HB5.out.grown (sm_grown wr Bw 0 [.int .u64 (n7 : Int)]) HB5.out.size (fun k hk => by injection hk with hk; omega))
                  have HM7 : Hid ((wr.setCell ⟨Bw, 0, none⟩ (.int .u64 (n7 : Int))).heap[Bw]? = some (.cells #[.int .u64 (n7 : Int)] 110 (0, 0))) := Lib.hid (by
                    obtain ⟨cur, z1, z2, z3⟩ := sm_at Bw 110 [.int .u64 (n7 : Int)] 0 wr _ HM5.out (Nat.le_refl 1)
                    have z5 : cur = #[.int .u64 (n7 : Int)] := Array.toList_inj.1 z3
                    rw [z5] at z1
                    exact z1)
                  clear hr2 HM5 HN6 HB5
                  go_wp2_with fail
                  refine ⟨⟨1, by go_num, by simp, HB7, Lib.hid ⟨n7, HM7.out, HL7.out, .inr ⟨rfl, HNE.out⟩⟩⟩, ?_⟩
                  simp [intOf]
              · have q6 : decide ((k : Int) < (ws.length : Int)) = false := decide_eq_false (by omega)
                have HFE : Hid (n = fo') := Lib.hid (by
                  rw [HFS.out]
                  rcases HN6.out with ⟨h1, h2⟩ | ⟨h1, h2⟩
                  · have : ws = [] := List.eq_nil_of_length_eq_zero (by omega)
                    rw [h2, this]; simp
                  · exact h2)
                go_wp2_with fail
                refine ⟨⟨a + 1, by go_num, by omega, HB5, Lib.hid (by rw [HFO.out, ← HFE.out]; exact HM5.out)⟩, ?_⟩
                simp [intOf]; omega
          · have q1 : decide ((a : Int) < (xs.length : Int)) = false := decide_eq_false (by omega)
            obtain rfl : a = xs.length := by omega
            go_wp2_with fail
            go_ret
            have hz : behindW (xs.map PsV.p) = [foldT xs xs.length] := by
              unfold behindW foldT
              rw [if_neg (by rw [List.length_map]; exact h0), List.take_of_length_le (by rw [List.length_map]; exact Nat.le_refl _)]
            rw [hz]
            exact ⟨_, _, rfl, .inr ⟨Bw, 0, 1, _, rfl, hlo, HM2.out, Nat.le_refl _, by unfold maxLen; omega, by simp [LU], by simp [Lies.vs, LU]⟩, HB2.out⟩
end Go.Proofs.YtfbfdkibdjinaaaGreatDoor
