/-
  What the statements stand on, part ZB1.
-/
import Derived.Test.YtnnapkakbdpkaaaGreatZA30
set_option linter.unusedVariables false
set_option linter.unusedSimpArgs false
namespace Go.Proofs.YtnnapkakbdpkaaaGreat
set_option maxRecDepth 20000
section
variable {α : Type} (key : α → ByteArray)
def putKStep (x : α) (p : Bool × List α) (y : α) : Bool × List α :=
 let q : Bool × List α := if (!p.1 && leS (key x) (key y)) = true then (true, p.2 ++ [x]) else p
 (q.1, if key y = key x then q.2 else q.2 ++ [y])
def putKTo (x : α) (l : List α) (n : Nat) : Bool × List α := (l.take n).foldl (putKStep key x) (false, [])
variable {key}
theorem putKTo_succ {x : α} {l : List α} {n : Nat} {y : α} (h : l[n]? = some y) : putKTo key x l (n + 1) = putKStep key x (putKTo key x l n) y := by
 unfold putKTo
 rw [List.take_add_one, h, List.foldl_append]
 rfl
theorem putKStep_done (x : α) : ∀ (l pre : List α), l.foldl (putKStep key x) (true, pre) = (true, pre ++ l.filter (fun y => !decide (key y = key x)))
 | [], pre => by simp
 | y :: r, pre => by
  rw [List.foldl_cons]
  have h1 : putKStep key x (true, pre) y = (true, if key y = key x then pre else pre ++ [y]) := by
   unfold putKStep
   simp
  rw [h1, putKStep_done x r]
  by_cases hx : key y = key x
  ·simp [hx, List.filter_cons]
  ·simp [hx, List.filter_cons]
theorem putKStep_all (x : α) : ∀ (l pre : List α), (let p := l.foldl (putKStep key x) (false, pre); if p.1 = true then p.2 else p.2 ++ [x]) = pre ++ putK key x l
 | [], pre => by simp [putK]
 | y :: r, pre => by
  rw [List.foldl_cons]
  unfold putK
  cases hb : leS (key x) (key y)
  ·have hx : key y ≠ key x := fun e => by
    rw [e] at hb
    have := leS_iff.2 (List.lt_irrefl (key x).toList)
    rw [hb] at this; cases this
   have h1 : putKStep key x (false, pre) y = (false, pre ++ [y]) := by
    unfold putKStep
    simp [hb, hx]
   rw [h1, cond_false]
   have := putKStep_all x r (pre ++ [y])
   simp only [List.append_assoc, List.singleton_append] at this
   exact this
  ·have h1 : putKStep key x (false, pre) y = (true, if key y = key x then pre ++ [x] else pre ++ [x] ++ [y]) := by
    unfold putKStep
    simp [hb]
   rw [h1, cond_true, putKStep_done]
   by_cases hx : key y = key x
   ·simp [hx, List.filter_cons]
   ·simp [hx, List.filter_cons]
theorem putKTo_all (x : α) (l : List α) : (if (putKTo key x l l.length).1 = true then (putKTo key x l l.length).2 else (putKTo key x l l.length).2 ++ [x]) = putK key x l := by
 have h := putKStep_all (key := key) x l []
 unfold putKTo
 rw [List.take_length]
 simpa using h
theorem putKTo_mem {x : α} {l : List α} : ∀ (n : Nat) (z : α), z ∈ (putKTo key x l n).2 → z = x ∨ z ∈ l
 | 0, z, h => by simp [putKTo] at h
 | n + 1, z, h => by
  cases hx : l[n]? with
  | none =>
   have h2 : putKTo key x l (n + 1) = putKTo key x l n := by
    unfold putKTo
    rw [List.take_add_one, hx]
    simp
   rw [h2] at h
   exact putKTo_mem n z h
  | some y =>
   rw [putKTo_succ hx] at h
   have hxl := List.mem_of_getElem? hx
   have hq : z ∈ (if (!(putKTo key x l n).1 && leS (key x) (key y)) = true then (true, (putKTo key x l n).2 ++ [x]) else putKTo key x l n).2 → z = x ∨ z ∈ l := by
    split
    ·intro h
     simp only [List.mem_append, List.mem_singleton] at h
     rcases h with h | h
     ·exact putKTo_mem n z h
     ·exact .inl h
    ·exact putKTo_mem n z
   unfold putKStep at h
   simp only at h
   split at h
   ·exact hq h
   ·rcases List.mem_append.1 h with h | h
    ·exact hq h
    ·rw [List.mem_singleton.1 h]; exact .inr hxl
end
end Go.Proofs.YtnnapkakbdpkaaaGreat

namespace Go.Proofs.YtnnapkakbdpkaaaGreat
set_option maxRecDepth 20000
open Go.RowKit Go.Maps Go.ChangeMaps
theorem knM : Kn Tryz.prog LM 34 zeroM 80 := ⟨Tryz.underlying34, by kernel_rfl, rfl, by decide⟩
theorem range6 {w : World} {b o : Nat} {m : Mk} (h : w.rangeAt b o m.cells) : w.cell? ⟨b, o, none⟩ = some (.string m.k.room) ∧ w.cell? ⟨b, o + 1, none⟩ = some (.string m.k.user) ∧ w.cell? ⟨b, o + 2, none⟩ = some (.string m.k.thread) ∧ w.cell? ⟨b, o + 3, none⟩ = some (.bool m.k.priv) ∧ w.cell? ⟨b, o + 4, none⟩ = some (.int .i64 m.po.depth) ∧ w.cell? ⟨b, o + 5, none⟩ = some (.string m.po.id) :=
 ⟨h 0 _ rfl, h 1 _ rfl, h 2 _ rfl, h 3 _ rfl, h 4 _ rfl, h 5 _ rfl⟩
section
variable {w w' : World} {r r' : RI}
end
section
variable {w w' wr : World} {rs : List RI} {ts ts' : List Th} {r r' : RI} {i : Nat} {t : Th}
end
end Go.Proofs.YtnnapkakbdpkaaaGreat

namespace Go.Proofs.YtnnapkakbdpkaaaGreat
set_option maxRecDepth 20000
open Go.RowKit Go.Maps Go.ChangeMaps
def idxA {α : Type} (p : α → Bool) (us : List α) : Int := match us.findIdx? p with
 | some i => (i : Int)
 | none => -1
section
variable {α : Type} {p : α → Bool} {us zs : List α} {x : α} {i j a k : Nat}
theorem idxA_hit (hx : us[a]? = some x) (hp : p x = true) (hn : ∀ (j : Nat) y, j < a → us[j]? = some y → p y = false) : idxA p us = (a : Int) := by
 have h : us.findIdx? p = some a := by
  obtain ⟨hl, he⟩ := List.getElem?_eq_some_iff.1 hx
  rw [List.findIdx?_eq_some_iff_getElem]
  exact ⟨hl, by rw [he]; exact hp, fun j hj => by rw [hn j _ hj (List.getElem?_eq_getElem _)]; decide⟩
 unfold idxA
 rw [h]
theorem idxA_miss (hn : ∀ (j : Nat) y, us[j]? = some y → p y = false) : idxA p us = -1 := by
 have h : us.findIdx? p = none := by
  rw [List.findIdx?_eq_none_iff]
  intro x hx
  obtain ⟨j, hj, he⟩ := List.getElem_of_mem hx
  exact hn j x (by rw [List.getElem?_eq_getElem hj, he])
 unfold idxA
 rw [h]
end
end Go.Proofs.YtnnapkakbdpkaaaGreat

namespace Go.Proofs.YtnnapkakbdpkaaaGreat
set_option maxRecDepth 20000
open Go.RowKit Go.Maps Go.ChangeMaps
set_option maxHeartbeats 1600000 in
theorem refBk_any (a b : Rk) (w : World) : Calls Tryz.prog 67 #[a.val, b.val] w fun e w' => e = .returned (.bool (beforeK a b)) ∧ Gr w w' := by
 have HT := Lib.hid (TwoB.start w (.cells #[.string a.room, .string a.user, .string a.thread, .bool a.priv] 97 (0, 0)) (.cells #[.string b.room, .string b.user, .string b.thread, .bool b.priv] 97 (0, 0)))
 have HU : Hid (beforeK a b = bif a.room.toList == b.room.toList then bif a.user.toList == b.user.toList then bif a.thread.toList == b.thread.toList then !a.priv && b.priv else Op.bytesLess a.thread.toList b.thread.toList else Op.bytesLess a.user.toList b.user.toList else Op.bytesLess a.room.toList b.room.toList) := Lib.hid rfl
 generalize beforeK a b = res at HU ⊢
 unfold Rk.val
 go_enter Tryz.func67, Tryz.ntmps67
 go_upto_region 1 with (fail)
 generalize World.alloc _ _ = w1 at HT ⊢
 generalize w.heap.size + 1 = B3 at HT ⊢
 generalize hB2 : w.heap.size = B2 at HT ⊢
 have a0 : w1.cell? ⟨B2, 0, none⟩ = some (.string a.room) := cell_at HT.out.bo.box 0
 have a1 : w1.cell? ⟨B2, 1, none⟩ = some (.string a.user) := cell_at HT.out.bo.box 1
 have a2 : w1.cell? ⟨B2, 2, none⟩ = some (.string a.thread) := cell_at HT.out.bo.box 2
 have a3 : w1.cell? ⟨B2, 3, none⟩ = some (.bool a.priv) := cell_at HT.out.bo.box 3
 have b0 : w1.cell? ⟨B3, 0, none⟩ = some (.string b.room) := cell_at HT.out.res 0
 have b1 : w1.cell? ⟨B3, 1, none⟩ = some (.string b.user) := cell_at HT.out.res 1
 have b2 : w1.cell? ⟨B3, 2, none⟩ = some (.string b.thread) := cell_at HT.out.res 2
 have b3 : w1.cell? ⟨B3, 3, none⟩ = some (.bool b.priv) := cell_at HT.out.res 3
 have n1 : (a.room.toList != b.room.toList) = !(a.room.toList == b.room.toList) := rfl
 have n2 : (a.user.toList != b.user.toList) = !(a.user.toList == b.user.toList) := rfl
 have n3 : (a.thread.toList != b.thread.toList) = !(a.thread.toList == b.thread.toList) := rfl
 generalize q1 : (a.room.toList == b.room.toList) = e1 at HU n1
 cases e1
 ·rw [Bool.not_false] at n1
  clear n2 n3
  go_wp2_with fail
  go_ret
  exact ⟨by rw [HU.out]; rfl, HT.out.gr⟩
 rw [Bool.not_true] at n1
 generalize q2 : (a.user.toList == b.user.toList) = e2 at HU n2
 cases e2
 ·rw [Bool.not_false] at n2
  clear n3
  go_wp2_with fail
  go_ret
  exact ⟨by rw [HU.out]; rfl, HT.out.gr⟩
 rw [Bool.not_true] at n2
 generalize q3 : (a.thread.toList == b.thread.toList) = e3 at HU n3
 cases e3
 ·rw [Bool.not_false] at n3
  go_wp2_with fail
  go_ret
  exact ⟨by rw [HU.out]; rfl, HT.out.gr⟩
 rw [Bool.not_true] at n3
 generalize a.priv = pa at HU a3
 cases pa
 ·go_wp2_with fail
  go_ret
  exact ⟨by rw [HU.out]; rfl, HT.out.gr⟩
 ·go_wp2_with fail
  go_ret
  exact ⟨by rw [HU.out]; rfl, HT.out.gr⟩
def idxM (l : List Mk) (k : Rk) : Int := idxA (fun m => decide (m.k = k)) l
theorem idxM_cases (l : List Mk) (k : Rk) : (idxM l k = -1 ∧ getM l k = none) ∨ ∃ (i : Nat) (m : Mk), idxM l k = (i : Int) ∧ l[i]? = some m ∧ m.k = k ∧ getM l k = some m.po := by
 unfold idxM
 cases h : l.findIdx? (fun m => decide (m.k = k)) with
 | none =>
  refine .inl ⟨by unfold idxA; rw [h], getM_none.2 ?_⟩
  rw [List.findIdx?_eq_none_iff] at h
  intro m hm
  have := h m hm
  simpa using this
 | some i =>
  refine .inr ⟨i, ?_⟩
  have h' := h
  rw [List.findIdx?_eq_some_iff_getElem] at h'
  obtain ⟨hi, hp, hn⟩ := h'
  refine ⟨l[i], by unfold idxA; rw [h], List.getElem?_eq_getElem hi, by simpa using hp, ?_⟩
  unfold getM
  have : l.find? (fun m => decide (m.k = k)) = some l[i] := by
   rw [List.find?_eq_some_iff_getElem]
   exact ⟨hp, i, hi, rfl, fun j hj => by have := hn j hj; simpa using this⟩
  rw [this]
  rfl
set_option maxHeartbeats 1600000 in
theorem refGetM_any (v : Value) (l : List Mk) (k : Rk) (w : World) (h : LM.Slice w v l) :
  Calls Tryz.prog 66 #[v, k.val] w fun e w' => e = .returned (.int .i64 (idxM l k)) ∧ Gr w w' := by
 obtain ⟨A, cap, rfl, h1, h2, -⟩ := id h
 unfold maxLen at h2
 have HR := Lib.hid h
 have HB := Lib.hid (heap_alloc_new w (.cells #[.string k.room, .string k.user, .string k.thread, .bool k.priv] 97))
 have HG := Lib.hid ((Gr.refl w).alloc (.cells #[.string k.room, .string k.user, .string k.thread, .bool k.priv] 97))
 unfold Rk.val
 clear h
 go_enter Tryz.func66, Tryz.ntmps66
 go_wp2_with fail
 generalize World.alloc _ _ = w1 at HB HG ⊢
 generalize w.heap.size = B3 at HB ⊢
 go_loopw [5] (fun i wr => ∃ a : Nat, i = .int .i64 (a : Int) ∧ a ≤ l.length ∧ Hid (Gr w wr ∧ wr.heap[B3]? = some (.cells #[.string k.room, .string k.user, .string k.thread, .bool k.priv] 97 (0, 0))) ∧ Hid (∀ (j : Nat) y, j < a → l[j]? = some y → decide (y.k = k) = false)) (fun i _ => l.length - (intOf i).toNat)
 case atStart => exact ⟨0, rfl, Nat.zero_le _, Lib.hid ⟨HG.out, HB.out⟩, Lib.hid (fun j y hj => by omega)⟩
 case round =>
  obtain ⟨a, rfl, ha, HA, HN⟩ := hrel
  clear HB HG
  by_cases hax : a < l.length
  ·have q1 : decide ((a : Int) < (l.length : Int)) = true := decide_eq_true (by omega)
   have hx : l[a]? = some l[a] := List.getElem?_eq_getElem hax
   generalize l[a] = x at hx
   have HX := Lib.hid hx
   obtain ⟨bo, oo, rfl, hbo, hco⟩ := (HR.out.below HA.out.1.below).at hx
   have hiy := index_any (P := Tryz.prog) knM (by decide) (b := bo) (off := oo) (cap := cap) hax
   simp only [LM] at hiy hco
   obtain ⟨a0, a1, a2, a3, -, -⟩ := range6 hco
   have b0 : wr.cell? ⟨B3, 0, none⟩ = some (.string k.room) := cell_at HA.out.2 0
   have b1 : wr.cell? ⟨B3, 1, none⟩ = some (.string k.user) := cell_at HA.out.2 1
   have b2 : wr.cell? ⟨B3, 2, none⟩ = some (.string k.thread) := cell_at HA.out.2 2
   have b3 : wr.cell? ⟨B3, 3, none⟩ = some (.bool k.priv) := cell_at HA.out.2 3
   have hq := eqlK x.k k
   generalize hp : decide (x.k = k) = pp at hq
   clear hx hco
   go_upto_region 4 with (fail)
   go_quiet (fail)
   cases pp
   ·have HN2 : Hid (∀ (j : Nat) y, j < a + 1 → l[j]? = some y → decide (y.k = k) = false) := Lib.hid (fun j y hj hy => by
     by_cases hja : j = a
     ·subst hja
      rw [HX.out] at hy
      injection hy with hy
      rw [← hy]; exact hp
     ·exact HN.out j y (by omega) hy)
    have HA2 : ∀ d, Hid (Gr w (wr.drewN d) ∧ (wr.drewN d).heap[B3]? = some (.cells #[.string k.room, .string k.user, .string k.thread, .bool k.priv] 97 (0, 0))) := fun d => Lib.hid ⟨HA.out.1.drewN d, HA.out.2⟩
    clear hp hq
    go_wp2_with fail
    refine ⟨⟨a + 1, by go_num, by omega, HA2 _, HN2⟩, ?_⟩
    simp [intOf]; omega
   ·have HF : Hid (idxM l k = (a : Int)) := Lib.hid (idxA_hit HX.out hp HN.out)
    clear hp hq
    go_wp2_with fail
    go_ret
    exact ⟨by rw [HF.out]; rfl, HA.out.1.drewN _⟩
  ·have q1 : decide ((a : Int) < (l.length : Int)) = false := decide_eq_false (by omega)
   have HF : Hid (idxM l k = -1) := Lib.hid (idxA_miss (fun j y hy => HN.out j y (by have := (List.getElem?_eq_some_iff.1 hy).1; omega) hy))
   go_wp2_with fail
   go_ret
   exact ⟨by rw [HF.out]; rfl, HA.out.1⟩
end Go.Proofs.YtnnapkakbdpkaaaGreat
