/-
  The document's Odd: an event of a dag with one thing another one.
-/
import Derived.Test.YtjiecjpepiknmaaGreatDagFew
namespace Go.Proofs.YtjiecjpepiknmaaGreat
set_option maxRecDepth 20000
open Go.RowKit
set_option linter.unusedVariables false
set_option linter.unusedSimpArgs false

def lonelyE (room : ByteArray) : Ev := ⟨⟨#[36, 120]⟩, room, [], ⟨#[]⟩, ⟨#[64, 97, 58, 115, 49]⟩, 0⟩
/-- Which event is turned. -/
def baseE (room : ByteArray) (l : List Ev) (k : Int) : Ev := l.getD (aroundN k (l.length : Int)) (lonelyE room)
/-- What is turned. -/
def turnE (x r : Ev) : Nat → Ev
  | 0 => ⟨r.id, x.room, x.parents, x.thread, x.user, x.does⟩
  | 1 => ⟨x.id, r.room, x.parents, x.thread, x.user, x.does⟩
  | 2 => ⟨x.id, x.room, x.parents, x.thread, r.user, x.does⟩
  | 3 => ⟨x.id, x.room, x.parents, r.thread, x.user, x.does⟩
  | 4 => ⟨x.id, x.room, x.parents, x.thread, x.user, r.does⟩
  | 5 => ⟨x.id, x.room, r.parents, x.thread, x.user, x.does⟩
  | 6 => ⟨⟨#[36, 121]⟩, x.room, x.parents, eventS r.does, x.user, 0⟩
  | _ => ⟨⟨#[36, 122]⟩, x.room, [eventS r.does], x.thread, x.user, x.does⟩
def oddE (room : ByteArray) (l : List Ev) (k which : Int) (raw : Ev) : Ev := turnE (baseE room l k) (fewE raw) (aroundN which 8)
theorem eventS_size (n : Int) : (eventS n).size ≤ maxLen := by
  have h : ∀ k : Fin 9, (eventK k.val).size ≤ 3 := by decide +kernel
  have := h ⟨aroundN n 9, aroundN_lt n (m := 9) (by decide)⟩
  unfold maxLen
  exact Nat.le_trans this (by omega)
theorem six_at {wr : World} {b : Nat} {cs : Array Value} {t : TypeId} (h : wr.heap[b]? = some (.cells cs t (0, 0))) (hs : cs.size = 6) (a0 a1 a2 a3 a4 a5 : Value) : (wr.setCells b 0 [a0, a1, a2, a3, a4, a5]).heap[b]? = some (.cells #[a0, a1, a2, a3, a4, a5] t (0, 0)) := by
  obtain ⟨cur, z1, z2, z3⟩ := sm_at b t [a0, a1, a2, a3, a4, a5] 0 wr _ h (by rw [hs]; exact Nat.le_refl 6)
  rw [z1]
  have : cur = #[a0, a1, a2, a3, a4, a5] := by
    apply Array.toList_inj.1
    rw [z3, List.take_zero, List.nil_append, List.drop_of_length_le (by rw [Array.length_toList, hs]; exact Nat.le_refl 6), List.append_nil]
  rw [this]
theorem lit_mine (w : World) (s : ByteArray) : LT.Mine (w.alloc (.cells #[.string s] 9)) w.heap.size (.slice (some ⟨w.heap.size, 0, none⟩) 1 1) [s] :=
  .inr ⟨w.heap.size, 0, 1, #[.string s], rfl, Nat.le_refl _, heap_alloc_new w _, Nat.le_refl _, by unfold maxLen; omega, by simp [LT], rfl⟩
/-- The four blocks of Odd. -/
structure OdS (w wr : World) (B4 B7 B8 B9 : Nat) (room : ByteArray) (v : Value) (rs es : Array Value) : Prop where
  n47 : B4 ≠ B7
  n49 : B4 ≠ B9
  n78 : B7 ≠ B8
  n79 : B7 ≠ B9
  n89 : B8 ≠ B9
  lo7 : w.heap.size ≤ B7
  lo8 : w.heap.size ≤ B8
  lo9 : w.heap.size ≤ B9
  b4 : wr.heap[B4]? = some (.cells #[.string room, v] 36 (0, 0))
  b7 : wr.heap[B7]? = some (.cells rs 33 (0, 0))
  b8 : wr.heap[B8]? = some (.cells #[.string ⟨#[]⟩, .string ⟨#[]⟩, .slice none 0 0, .string ⟨#[]⟩, .string ⟨#[]⟩, .int .i64 0] 33 (0, 0))
  b9 : wr.heap[B9]? = some (.cells es 33 (0, 0))
  below : Below w.heap.size w wr
section
variable {w wr w2 : World} {B4 B7 B8 B9 : Nat} {room : ByteArray} {v : Value} {rs es : Array Value}
theorem OdS.on (h : OdS w wr B4 B7 B8 B9 room v rs es) (hb : Below wr.heap.size wr w2) : OdS w w2 B4 B7 B8 B9 room v rs es :=
  ⟨h.n47, h.n49, h.n78, h.n79, h.n89, h.lo7, h.lo8, h.lo9, (hb.block B4 (smem_lt h.b4)).trans h.b4, (hb.block B7 (smem_lt h.b7)).trans h.b7, (hb.block B8 (smem_lt h.b8)).trans h.b8, (hb.block B9 (smem_lt h.b9)).trans h.b9, h.below.trans (hb.mono h.below.size)⟩
theorem OdS.set (h : OdS w wr B4 B7 B8 B9 room v rs es) (i : Nat) (u : Value) : OdS w (wr.setCell ⟨B9, i, none⟩ u) B4 B7 B8 B9 room v rs (es.setIfInBounds i u) :=
  ⟨h.n47, h.n49, h.n78, h.n79, h.n89, h.lo7, h.lo8, h.lo9, (Below.heap_setCell wr _ u B4 h.n49).trans h.b4, (Below.heap_setCell wr _ u B7 h.n79).trans h.b7, (Below.heap_setCell wr _ u B8 h.n89).trans h.b8, heap_set h.b9 i u, h.below.grown (sm_grown wr B9 i [u]) h.below.size (fun k hk => by injection hk with hk; have := h.lo9; omega)⟩
theorem OdS.set9 (h : OdS w wr B4 B7 B8 B9 room v rs es) (hs : es.size = 6) (a0 a1 a2 a3 a4 a5 : Value) : OdS w (wr.setCells B9 0 [a0, a1, a2, a3, a4, a5]) B4 B7 B8 B9 room v rs #[a0, a1, a2, a3, a4, a5] :=
  ⟨h.n47, h.n49, h.n78, h.n79, h.n89, h.lo7, h.lo8, h.lo9, (sm_far B9 B4 h.n49 _ 0 wr).trans h.b4, (sm_far B9 B7 h.n79 _ 0 wr).trans h.b7, (sm_far B9 B8 h.n89 _ 0 wr).trans h.b8, six_at h.b9 hs .., h.below.grown (sm_grown wr B9 0 _) h.below.size (fun k hk => by injection hk with hk; have := h.lo9; omega)⟩
theorem OdS.set7 (h : OdS w wr B4 B7 B8 B9 room v rs es) (hs : rs.size = 6) (a0 a1 a2 a3 a4 a5 : Value) : OdS w (wr.setCells B7 0 [a0, a1, a2, a3, a4, a5]) B4 B7 B8 B9 room v #[a0, a1, a2, a3, a4, a5] es :=
  ⟨h.n47, h.n49, h.n78, h.n79, h.n89, h.lo7, h.lo8, h.lo9, (sm_far B7 B4 h.n47 _ 0 wr).trans h.b4, six_at h.b7 hs .., (sm_far B7 B8 h.n78.symm _ 0 wr).trans h.b8, (sm_far B7 B9 h.n79.symm _ 0 wr).trans h.b9, h.below.grown (sm_grown wr B7 0 _) h.below.size (fun k hk => by injection hk with hk; have := h.lo7; omega)⟩
theorem OdS.start (w : World) (room : ByteArray) (v : Value) (rs es : Array Value) : OdS w ((((w.alloc (.cells #[.string room, v] 36)).alloc (.cells rs 33)).alloc (.cells #[.string ⟨#[]⟩, .string ⟨#[]⟩, .slice none 0 0, .string ⟨#[]⟩, .string ⟨#[]⟩, .int .i64 0] 33)).alloc (.cells es 33)) w.heap.size (w.heap.size + 1) (w.heap.size + 1 + 1) (w.heap.size + 1 + 1 + 1) room v rs es := by
  have s1 : ∀ (u : World) (o : Obj), (u.alloc o).heap.size = u.heap.size + 1 := fun u o => by simp
  refine ⟨by omega, by omega, by omega, by omega, by omega, by omega, by omega, by omega, ?_, ?_, ?_, ?_, ((Gr.refl w).alloc _ |>.alloc _ |>.alloc _ |>.alloc _).below⟩
  · rw [heap_alloc_old _ _ (by simp only [s1]; omega), heap_alloc_old _ _ (by simp only [s1]; omega), heap_alloc_old _ _ (by simp only [s1]; omega)]
    exact heap_alloc_new _ _
  · rw [heap_alloc_old _ _ (by simp only [s1]; omega), heap_alloc_old _ _ (by simp only [s1]; omega), show w.heap.size + 1 = (w.alloc (.cells #[.string room, v] 36)).heap.size by simp only [s1]]
    exact heap_alloc_new _ _
  · rw [heap_alloc_old _ _ (by simp only [s1]; omega), show w.heap.size + 1 + 1 = ((w.alloc (.cells #[.string room, v] 36)).alloc (.cells rs 33)).heap.size by simp only [s1]]
    exact heap_alloc_new _ _
  · have := heap_alloc_new (((w.alloc (.cells #[.string room, v] 36)).alloc (.cells rs 33)).alloc (.cells #[.string ⟨#[]⟩, .string ⟨#[]⟩, .slice none 0 0, .string ⟨#[]⟩, .string ⟨#[]⟩, .int .i64 0] 33)) (.cells es 33)
    simp only [s1] at this
    exact this
/-- The answer is laid. -/
theorem OdS.answer (h : OdS w wr B4 B7 B8 B9 room v rs es) (a0 a1 a2 a3 a4 a5 : Value) : ∀ W, W = wr.setCells B8 0 [a0, a1, a2, a3, a4, a5] → W.cell? ⟨B8, 0, none⟩ = some a0 ∧ W.cell? ⟨B8, 1, none⟩ = some a1 ∧ W.cell? ⟨B8, 2, none⟩ = some a2 ∧ W.cell? ⟨B8, 3, none⟩ = some a3 ∧ W.cell? ⟨B8, 4, none⟩ = some a4 ∧ W.cell? ⟨B8, 5, none⟩ = some a5 ∧ Below w.heap.size w W ∧ wr.grownBy W (some B8) := by
  rintro W rfl
  have z1 := six_at h.b8 rfl a0 a1 a2 a3 a4 a5
  exact ⟨cell_at z1 0, cell_at z1 1, cell_at z1 2, cell_at z1 3, cell_at z1 4, cell_at z1 5, h.below.grown (sm_grown wr B8 0 _) h.below.size (fun k hk => by injection hk with hk; have := h.lo8; omega), sm_grown wr B8 0 _⟩
end

set_option maxHeartbeats 3200000 in
theorem refOdd_any (room : ByteArray) (v : Value) (xs : List EvV) (k which : Int) (raw : EvV) (w : World) (h : EvsS w v xs) (hl : xs.length ≤ 1000) (hro : room.size ≤ maxLen) (hk0 : -9223372036854775808 ≤ k) (hk1 : k ≤ 9223372036854775807) (hw0 : -9223372036854775808 ≤ which) (hw1 : which ≤ 9223372036854775807) (hr : raw.at w) :
    Calls Tryz.prog 9 #[.agg #[.string room, v], .int .i64 k, .int .i64 which, raw.val] w fun e w' => ∃ y : EvV, e = .returned y.val ∧ y.at w' ∧ y.ev = oddE room (evs xs) k which raw.ev ∧ Below w.heap.size w w' ∧ ∀ j, y.pv.ownBlock = some j → (∃ z ∈ xs, z.pv.ownBlock = some j ∧ z.ev.parents = y.ev.parents) ∨ w.heap.size ≤ j := by
  obtain ⟨A, cap, rfl, h1, h2, h3, _⟩ := id h.1
  unfold maxLen at h2
  have HE := Lib.hid h
  have HR := Lib.hid hr
  have HS := Lib.hid (OdS.start w room (.slice A xs.length cap) #[.string raw.ev.id, .string raw.ev.room, raw.pv, .string raw.ev.thread, .string raw.ev.user, .int .i64 raw.ev.does] #[.string ⟨#[36, 120]⟩, .string room, .slice none 0 0, .string ⟨#[]⟩, .string ⟨#[64, 97, 58, 115, 49]⟩, .int .i64 0])
  have HCH := Lib.hid (fun W => around_any which 8 W hw0 hw1 (by decide) (by decide))
  have hz8 : aroundI which 8 = 0 ∨ aroundI which 8 = 1 ∨ aroundI which 8 = 2 ∨ aroundI which 8 = 3 ∨ aroundI which 8 = 4 ∨ aroundI which 8 = 5 ∨ aroundI which 8 = 6 ∨ aroundI which 8 = 7 := by
    have := aroundI_bd which 8 (by decide)
    omega
  have HZN : Hid (aroundN which 8 = (aroundI which 8).toNat) := Lib.hid rfl
  generalize aroundI which 8 = z at HCH hz8 HZN
  clear h h3 hr
  unfold EvV.val EvV.pv at *
  go_enter Tryz.func9, Tryz.ntmps9
  have s1 : ∀ (u : World) (o : Obj), (u.alloc o).heap.size = u.heap.size + 1 := fun u o => by simp
  go_upto_region 1 with (fail)
  have c0 : (((w.alloc (.cells #[.string room, .slice A xs.length cap] 36)).alloc (.cells #[.string raw.ev.id, .string raw.ev.room, .slice raw.A raw.ev.parents.length raw.cap, .string raw.ev.thread, .string raw.ev.user, .int .i64 raw.ev.does] 33)).alloc (.cells #[.string ⟨#[]⟩, .string ⟨#[]⟩, .slice none 0 0, .string ⟨#[]⟩, .string ⟨#[]⟩, .int .i64 0] 33)).cell? ⟨w.heap.size, 0, none⟩ = some (.string room) := cell_at ((heap_alloc_old (((w.alloc (.cells #[.string room, .slice A xs.length cap] 36)).alloc (.cells #[.string raw.ev.id, .string raw.ev.room, .slice raw.A raw.ev.parents.length raw.cap, .string raw.ev.thread, .string raw.ev.user, .int .i64 raw.ev.does] 33)).alloc (.cells #[.string ⟨#[]⟩, .string ⟨#[]⟩, .slice none 0 0, .string ⟨#[]⟩, .string ⟨#[]⟩, .int .i64 0] 33)) (.cells #[.string ⟨#[]⟩, .string ⟨#[]⟩, .slice none 0 0, .string ⟨#[]⟩, .string ⟨#[]⟩, .int .i64 0] 33) (by simp only [s1]; omega)).symm.trans (OdS.start w room (.slice A xs.length cap) #[.string raw.ev.id, .string raw.ev.room, .slice raw.A raw.ev.parents.length raw.cap, .string raw.ev.thread, .string raw.ev.user, .int .i64 raw.ev.does] #[.string ⟨#[]⟩, .string ⟨#[]⟩, .slice none 0 0, .string ⟨#[]⟩, .string ⟨#[]⟩, .int .i64 0]).b4) 0
  clear s1
  go_upto_region 2 with (fail)
  clear c0
  generalize World.alloc _ _ = w5 at HS ⊢
  generalize w.heap.size + 1 + 1 + 1 = B9 at HS ⊢
  generalize w.heap.size + 1 + 1 = B8 at HS ⊢
  generalize w.heap.size + 1 = B7 at HS ⊢
  generalize hB4 : w.heap.size = B4 at HS ⊢
  have d1 : w5.cell? ⟨B4, 1, none⟩ = some (.slice A xs.length cap) := cell_at HS.out.b4 1
  by_cases hx0 : 0 < xs.length
  · have q1 : decide ((0 : Int) < (xs.length : Int)) = true := decide_eq_true (by omega)
    have hal := aroundN_lt k hx0
    have HAK := Lib.hid (fun W => around_any k (xs.length : Int) W hk0 hk1 (by omega) (by omega))
    rw [around_nat k hx0] at HAK
    have HBE : Hid (baseE room (evs xs) k = (evs xs).getD (aroundN k (xs.length : Int)) (lonelyE room)) := Lib.hid (by unfold baseE; rw [evs_len])
    generalize aroundN k (xs.length : Int) = t at hal HAK HBE
    have hx : xs[t]? = some xs[t] := List.getElem?_eq_getElem hal
    generalize xs[t] = x at hx
    have HX0 := Lib.hid (HE.out.2 x (List.mem_of_getElem? hx))
    have HPF : Hid (∀ j, (Value.slice x.A x.ev.parents.length x.cap).ownBlock = some j → ∃ z ∈ xs, z.pv.ownBlock = some j ∧ z.ev.parents = x.ev.parents) := Lib.hid (fun j hj => ⟨x, List.mem_of_getElem? hx, hj, rfl⟩)
    have HXB : Hid (x.ev = baseE room (evs xs) k) := Lib.hid (by rw [HBE.out, List.getD_eq_getElem?_getD, evs_get hx]; rfl)
    obtain ⟨b, off, rfl, hb, hr⟩ := ev_at HE.out hx
    have hix := index_any (P := Tryz.prog) knV (by decide) (b := b) (off := off) (cap := cap) hal
    simp only [LV] at hix
    obtain ⟨e0, e1, e2, e3, e4, e5⟩ := ev_cells (w := w5) (fun j u hu => (HS.out.below.cell (p := ⟨b, off + t * 6 + j, none⟩) hb).trans (hr j u hu))
    unfold EvV.pv at e2
    clear hx hr HBE
    go_upto_region 3 with (fail)
    refine wp_region_held_drew (S := fun W' => W'.cell? ⟨B4, 1, none⟩ = some (.slice (some ⟨b, off, none⟩) xs.length cap) ∧ W'.cell? ⟨b, off + t * 6, none⟩ = some (.string x.ev.id) ∧ W'.cell? ⟨b, off + t * 6 + 1, none⟩ = some (.string x.ev.room) ∧ W'.cell? ⟨b, off + t * 6 + 2, none⟩ = some (.slice x.A x.ev.parents.length x.cap) ∧ W'.cell? ⟨b, off + t * 6 + 3, none⟩ = some (.string x.ev.thread) ∧ W'.cell? ⟨b, off + t * 6 + 4, none⟩ = some (.string x.ev.user) ∧ W'.cell? ⟨b, off + t * 6 + 5, none⟩ = some (.int .i64 x.ev.does)) (by kernel_rfl) ⟨d1, e0, e1, e2, e3, e4, e5⟩ (fun hS => ?_)
    replace HS := Lib.hid (HS.out.on ((Gr.refl _).drew).below)
    clear d1 e0 e1 e2 e3 e4 e5
    generalize World.drew _ = wd at HS hS ⊢
    have i0 : (0 : Int) ≤ (t : Int) := by omega
    have i1 : (t : Int) < (xs.length : Int) := by omega
    have hne : b ≠ B9 := by have := HS.out.lo9; omega
    refine wpAnyH_take (i := 0) (oi := ⟨some 17, _, _, _, _, _⟩) (v := ?vx1) rfl (by kernel_rfl) (by kernel_rfl) (by kernel_rfl) (fun _ _ _ h => h) (Or.inl ⟨by rfl, ?yx1⟩) hS ?rx1
    case yx1 =>
      intro wx hSx
      go_simp
      try with_reducible rfl
    try simp only [Act.put, List.setIfInBounds_toArray, List.set_cons_zero, List.set_cons_succ]
    refine wpAnyH_take (i := 1) (oi := ⟨some 18, _, _, _, _, _⟩) (v := ?vx2) rfl (by kernel_rfl) (by kernel_rfl) (by kernel_rfl) (fun _ _ _ h => h) (Or.inl ⟨by rfl, ?yx2⟩) hS ?rx2
    case yx2 =>
      intro wx hSx
      obtain ⟨s0, s1, s2, s3, s4, s5, s6⟩ := hSx
      go_simp
      try with_reducible rfl
    try simp only [Act.put, List.setIfInBounds_toArray, List.set_cons_zero, List.set_cons_succ]
    refine wpAnyH_take (i := 2) (oi := ⟨some 19, _, _, _, _, _⟩) (v := ?vx3) rfl (by kernel_rfl) (by kernel_rfl) (by kernel_rfl) (fun _ _ _ h => h) (Or.inl ⟨by rfl, ?yx3⟩) hS ?rx3
    case yx3 =>
      intro wx hSx
      go_simp
      try with_reducible rfl
    try simp only [Act.put, List.setIfInBounds_toArray, List.set_cons_zero, List.set_cons_succ]
    refine wpAnyH_take (i := 3) (oi := ⟨some 20, _, _, _, _, _⟩) (v := ?vx4) rfl (by kernel_rfl) (by kernel_rfl) (by kernel_rfl) (fun _ _ _ h => h) (Or.inl ⟨by rfl, ?yx4⟩) hS ?rx4
    case yx4 =>
      intro wx hSx
      go_simp
      try with_reducible rfl
    try simp only [Act.put, List.setIfInBounds_toArray, List.set_cons_zero, List.set_cons_succ]
    refine wpAnyH_take (i := 4) (oi := ⟨some 21, _, _, _, _, _⟩) (v := ?vx5) rfl (by kernel_rfl) (by kernel_rfl) (by kernel_rfl) (fun _ _ _ h => h) (Or.inl ⟨by rfl, ?yx5⟩) hS ?rx5
    case yx5 =>
      intro wx hSx
      obtain ⟨s0, s1, s2, s3, s4, s5, s6⟩ := hSx
      go_simp
      try with_reducible rfl
    try simp only [Act.put, List.setIfInBounds_toArray, List.set_cons_zero, List.set_cons_succ]
    refine wpAnyH_take (i := 5) (oi := ⟨some 22, _, _, _, _, _⟩) (v := ?vx6) rfl (by kernel_rfl) (by kernel_rfl) (by kernel_rfl) (fun _ _ _ h => h) (Or.inl ⟨by rfl, ?yx6⟩) hS ?rx6
    case yx6 =>
      intro wx hSx
      go_simp
      try with_reducible rfl
    try simp only [Act.put, List.setIfInBounds_toArray, List.set_cons_zero, List.set_cons_succ]
    refine wpAnyH_ready (rs := [6]) (by kernel_rfl) (by simp) ?_
    refine (AllReadyH.cons (o := ⟨some 23, _, _, _, _, _⟩) rfl (fun K hK => ?way7) AllReadyH.nil)
    case way7 =>
      go_simp
      refine (HAK.out _).mono ?_
      rintro e w' ⟨rfl, rfl⟩
      have hSn := hS
      refine hK.out _ _ hSn (fun _ => ?_)
      clear hK K
      try simp only [Act.put, List.setIfInBounds_toArray, List.set_cons_zero, List.set_cons_succ]
      refine wpAnyH_take (i := 7) (oi := ⟨some 24, _, _, _, _, _⟩) (v := ?vx8) rfl (by kernel_rfl) (by kernel_rfl) (by kernel_rfl) (fun _ _ _ h => h) (Or.inl ⟨by rfl, ?yx8⟩) hS ?rx8
      case yx8 =>
        intro wx hSx
        go_simp
        try with_reducible rfl
      try simp only [Act.put, List.setIfInBounds_toArray, List.set_cons_zero, List.set_cons_succ]
      refine wpAnyH_take (i := 8) (oi := ⟨some 25, _, _, _, _, _⟩) (v := ?vx9) rfl (by kernel_rfl) (by kernel_rfl) (by kernel_rfl) (fun _ _ _ h => h) (Or.inl ⟨by rfl, ?yx9⟩) hS ?rx9
      case yx9 =>
        intro wx hSx
        obtain ⟨s0, s1, s2, s3, s4, s5, s6⟩ := hSx
        go_simp
        try with_reducible rfl
      try simp only [Act.put, List.setIfInBounds_toArray, List.set_cons_zero, List.set_cons_succ]
      refine wpAnyH_ready (rs := [9]) (by kernel_rfl) (by simp) ?_
      refine (AllReadyH.cons (o := ⟨none, _, _, _, _, _⟩) rfl (fun K hK => ?way10) AllReadyH.nil)
      case way10 =>
        have r0 : wd.cell? ⟨B9, 0, none⟩ = some (.string ⟨#[36, 120]⟩) := cell_at HS.out.b9 0
        have f0 : wd.frozen? ⟨B9, 0, none⟩ = false := free_at HS.out.b9 0
        have r1 : wd.cell? ⟨B9, 1, none⟩ = some (.string room) := cell_at HS.out.b9 1
        have f1 : wd.frozen? ⟨B9, 1, none⟩ = false := free_at HS.out.b9 1
        have r2 : wd.cell? ⟨B9, 2, none⟩ = some (.slice none 0 0) := cell_at HS.out.b9 2
        have f2 : wd.frozen? ⟨B9, 2, none⟩ = false := free_at HS.out.b9 2
        have r3 : wd.cell? ⟨B9, 3, none⟩ = some (.string ⟨#[]⟩) := cell_at HS.out.b9 3
        have f3 : wd.frozen? ⟨B9, 3, none⟩ = false := free_at HS.out.b9 3
        have r4 : wd.cell? ⟨B9, 4, none⟩ = some (.string ⟨#[64, 97, 58, 115, 49]⟩) := cell_at HS.out.b9 4
        have f4 : wd.frozen? ⟨B9, 4, none⟩ = false := free_at HS.out.b9 4
        have r5 : wd.cell? ⟨B9, 5, none⟩ = some (.int .i64 0) := cell_at HS.out.b9 5
        have f5 : wd.frozen? ⟨B9, 5, none⟩ = false := free_at HS.out.b9 5
        have kp : ∀ (p : Addr) (u : Value), p.block ≠ B9 → wd.cell? p = some u → (wd.setCells B9 0 [.string x.ev.id, .string x.ev.room, .slice x.A x.ev.parents.length x.cap, .string x.ev.thread, .string x.ev.user, .int .i64 x.ev.does]).cell? p = some u := fun p u hp hu => (World.cell?_of_block (a := p) (sm_far B9 p.block hp _ 0 wd)).trans hu
        have hSn := And.intro (kp _ _ HS.out.n49 hS.1) (And.intro (kp _ _ hne hS.2.1) (And.intro (kp _ _ hne hS.2.2.1) (And.intro (kp _ _ hne hS.2.2.2.1) (And.intro (kp _ _ hne hS.2.2.2.2.1) (And.intro (kp _ _ hne hS.2.2.2.2.2.1) (kp _ _ hne hS.2.2.2.2.2.2))))))
        replace HS := Lib.hid (HS.out.set9 rfl (.string x.ev.id) (.string x.ev.room) (.slice x.A x.ev.parents.length x.cap) (.string x.ev.thread) (.string x.ev.user) (.int .i64 x.ev.does))
        clear kp hS
        simp only [World.setCells] at HS hSn
        go_simp
        clear r0 r1 r2 r3 r4 r5 f0 f1 f2 f3 f4 f5
        generalize World.setCell _ _ _ = w6 at HS hSn ⊢
        refine hK.out _ _ hSn (fun _ => ?_)
        clear hK K
        try simp only [Act.put, List.setIfInBounds_toArray, List.set_cons_zero, List.set_cons_succ]
        refine wpAnyH_done (by kernel_rfl) ?_ _
        clear hSn
        go_upto_region 4 with (fail)
        have m0 : w6.cell? ⟨B7, 0, none⟩ = some (.string raw.ev.id) := cell_at HS.out.b7 0
        have m1 : w6.cell? ⟨B7, 1, none⟩ = some (.string raw.ev.room) := cell_at HS.out.b7 1
        have m2 : w6.cell? ⟨B7, 2, none⟩ = some (.slice raw.A raw.ev.parents.length raw.cap) := cell_at HS.out.b7 2
        have m3 : w6.cell? ⟨B7, 3, none⟩ = some (.string raw.ev.thread) := cell_at HS.out.b7 3
        have m4 : w6.cell? ⟨B7, 4, none⟩ = some (.string raw.ev.user) := cell_at HS.out.b7 4
        have m5 : w6.cell? ⟨B7, 5, none⟩ = some (.int .i64 raw.ev.does) := cell_at HS.out.b7 5
        have HW6 := Lib.hid HS.out.below
        have hB7l : B7 < w6.heap.size := smem_lt HS.out.b7
        have hB8l : B8 < w6.heap.size := smem_lt HS.out.b8
        have hB9l : B9 < w6.heap.size := smem_lt HS.out.b9
        have HFW := Lib.hid (refFewE_any raw w6 (HR.out.below HW6.out))
        unfold EvV.val EvV.pv at HFW
        go_wp2_with fail
        go_at_call 50
        refine (HFW.out).mono ?_
        rintro e w7 ⟨r, rfl, ra, re, rm, rb⟩
        replace HS := Lib.hid (HS.out.on rb)
        have HRE := Lib.hid re
        have HRO := Lib.hid ra.2
        have HRM := Lib.hid rm
        clear ra re rm rb m0 m1 m2 m3 m4 m5 HFW
        have m0 : w7.cell? ⟨B7, 0, none⟩ = some (.string raw.ev.id) := cell_at HS.out.b7 0
        have mf0 : w7.frozen? ⟨B7, 0, none⟩ = false := free_at HS.out.b7 0
        have m1 : w7.cell? ⟨B7, 1, none⟩ = some (.string raw.ev.room) := cell_at HS.out.b7 1
        have mf1 : w7.frozen? ⟨B7, 1, none⟩ = false := free_at HS.out.b7 1
        have m2 : w7.cell? ⟨B7, 2, none⟩ = some (.slice raw.A raw.ev.parents.length raw.cap) := cell_at HS.out.b7 2
        have mf2 : w7.frozen? ⟨B7, 2, none⟩ = false := free_at HS.out.b7 2
        have m3 : w7.cell? ⟨B7, 3, none⟩ = some (.string raw.ev.thread) := cell_at HS.out.b7 3
        have mf3 : w7.frozen? ⟨B7, 3, none⟩ = false := free_at HS.out.b7 3
        have m4 : w7.cell? ⟨B7, 4, none⟩ = some (.string raw.ev.user) := cell_at HS.out.b7 4
        have mf4 : w7.frozen? ⟨B7, 4, none⟩ = false := free_at HS.out.b7 4
        have m5 : w7.cell? ⟨B7, 5, none⟩ = some (.int .i64 raw.ev.does) := cell_at HS.out.b7 5
        have mf5 : w7.frozen? ⟨B7, 5, none⟩ = false := free_at HS.out.b7 5
        replace HS := Lib.hid (HS.out.set7 rfl (.string r.ev.id) (.string r.ev.room) (.slice r.A r.ev.parents.length r.cap) (.string r.ev.thread) (.string r.ev.user) (.int .i64 r.ev.does))
        replace HRM := Lib.hid (HRM.out.grown (sm_grown w7 B7 0 [.string r.ev.id, .string r.ev.room, .slice r.A r.ev.parents.length r.cap, .string r.ev.thread, .string r.ev.user, .int .i64 r.ev.does]) (fun k hk he => by injection he with he; have := (HRM.out.lt k hk).1; omega))
        simp only [World.setCells] at HS HRM
        go_upto_region 5 with (fail)
        clear m0 m1 m2 m3 m4 m5 mf0 mf1 mf2 mf3 mf4 mf5
        generalize World.setCell _ _ _ = w8 at HS HRM ⊢
        go_upto_region 8 with (go_at_call 49; refine (HCH.out _).mono ?_; rintro e w' ⟨rfl, rfl⟩)
        rcases hz8 with rfl | rfl | rfl | rfl | rfl | rfl | rfl | rfl
        · have p7 : w8.cell? ⟨B7, 0, none⟩ = some (.string r.ev.id) := cell_at HS.out.b7 0
          have p9 : w8.cell? ⟨B9, 0, none⟩ = some (.string x.ev.id) := cell_at HS.out.b9 0
          have pf : w8.frozen? ⟨B9, 0, none⟩ = false := free_at HS.out.b9 0
          replace HS := Lib.hid (HS.out.set 0 (.string r.ev.id))
          simp only [List.setIfInBounds_toArray, List.set_cons_succ, List.set_cons_zero] at HS
          go_upto_region 24 with (fail)
          clear p7 p9 pf
          generalize w8.setCell _ _ = w9 at HS ⊢
          have g0 : w9.cell? ⟨B9, 0, none⟩ = some (.string r.ev.id) := cell_at HS.out.b9 0
          have g1 : w9.cell? ⟨B9, 1, none⟩ = some (.string x.ev.room) := cell_at HS.out.b9 1
          have g2 : w9.cell? ⟨B9, 2, none⟩ = some (.slice x.A x.ev.parents.length x.cap) := cell_at HS.out.b9 2
          have g3 : w9.cell? ⟨B9, 3, none⟩ = some (.string x.ev.thread) := cell_at HS.out.b9 3
          have g4 : w9.cell? ⟨B9, 4, none⟩ = some (.string x.ev.user) := cell_at HS.out.b9 4
          have g5 : w9.cell? ⟨B9, 5, none⟩ = some (.int .i64 x.ev.does) := cell_at HS.out.b9 5
          have r0 : w9.cell? ⟨B8, 0, none⟩ = some (.string ⟨#[]⟩) := cell_at HS.out.b8 0
          have rf0 : w9.frozen? ⟨B8, 0, none⟩ = false := free_at HS.out.b8 0
          have r1 : w9.cell? ⟨B8, 1, none⟩ = some (.string ⟨#[]⟩) := cell_at HS.out.b8 1
          have rf1 : w9.frozen? ⟨B8, 1, none⟩ = false := free_at HS.out.b8 1
          have r2 : w9.cell? ⟨B8, 2, none⟩ = some (.slice none 0 0) := cell_at HS.out.b8 2
          have rf2 : w9.frozen? ⟨B8, 2, none⟩ = false := free_at HS.out.b8 2
          have r3 : w9.cell? ⟨B8, 3, none⟩ = some (.string ⟨#[]⟩) := cell_at HS.out.b8 3
          have rf3 : w9.frozen? ⟨B8, 3, none⟩ = false := free_at HS.out.b8 3
          have r4 : w9.cell? ⟨B8, 4, none⟩ = some (.string ⟨#[]⟩) := cell_at HS.out.b8 4
          have rf4 : w9.frozen? ⟨B8, 4, none⟩ = false := free_at HS.out.b8 4
          have r5 : w9.cell? ⟨B8, 5, none⟩ = some (.int .i64 0) := cell_at HS.out.b8 5
          have rf5 : w9.frozen? ⟨B8, 5, none⟩ = false := free_at HS.out.b8 5
          have HAN := Lib.hid (HS.out.answer (.string r.ev.id) (.string x.ev.room) (.slice x.A x.ev.parents.length x.cap) (.string x.ev.thread) (.string x.ev.user) (.int .i64 x.ev.does) _ rfl)
          simp only [World.setCells] at HAN
          go_wp2_with fail
          clear g0 g1 g2 g3 g4 g5 r0 r1 r2 r3 r4 r5 rf0 rf1 rf2 rf3 rf4 rf5
          generalize World.setCell _ _ _ = wA at HAN ⊢
          obtain ⟨k0, k1, k2, k3, k4, k5, k6, k7⟩ := HAN.out
          obtain ⟨x1, x2, x3, x4, x5, x6⟩ := HX0.out.2
          obtain ⟨y1, y2, y3, y4, y5, y6⟩ := HRO.out
          refine bodyPost_ret (v := .agg #[.string r.ev.id, .string x.ev.room, .slice x.A x.ev.parents.length x.cap, .string x.ev.thread, .string x.ev.user, .int .i64 x.ev.does]) ?_ rfl ?_
          · simp [results, Tryz.results9, go_sem, k0, k1, k2, k3, k4, k5]
          · exact ⟨⟨⟨r.ev.id, x.ev.room, x.ev.parents, x.ev.thread, x.ev.user, x.ev.does⟩, x.A, x.cap⟩, rfl, ⟨(HX0.out.below k6).1, ⟨y1, x2, x3, x4, x5, x6⟩⟩, (by unfold oddE; rw [← HXB.out, ← HRE.out, HZN.out]; rfl), k6, (fun j hj => .inl (HPF.out j hj))⟩
        · have p7 : w8.cell? ⟨B7, 1, none⟩ = some (.string r.ev.room) := cell_at HS.out.b7 1
          have p9 : w8.cell? ⟨B9, 1, none⟩ = some (.string x.ev.room) := cell_at HS.out.b9 1
          have pf : w8.frozen? ⟨B9, 1, none⟩ = false := free_at HS.out.b9 1
          replace HS := Lib.hid (HS.out.set 1 (.string r.ev.room))
          simp only [List.setIfInBounds_toArray, List.set_cons_succ, List.set_cons_zero] at HS
          go_upto_region 24 with (fail)
          clear p7 p9 pf
          generalize w8.setCell _ _ = w9 at HS ⊢
          have g0 : w9.cell? ⟨B9, 0, none⟩ = some (.string x.ev.id) := cell_at HS.out.b9 0
          have g1 : w9.cell? ⟨B9, 1, none⟩ = some (.string r.ev.room) := cell_at HS.out.b9 1
          have g2 : w9.cell? ⟨B9, 2, none⟩ = some (.slice x.A x.ev.parents.length x.cap) := cell_at HS.out.b9 2
          have g3 : w9.cell? ⟨B9, 3, none⟩ = some (.string x.ev.thread) := cell_at HS.out.b9 3
          have g4 : w9.cell? ⟨B9, 4, none⟩ = some (.string x.ev.user) := cell_at HS.out.b9 4
          have g5 : w9.cell? ⟨B9, 5, none⟩ = some (.int .i64 x.ev.does) := cell_at HS.out.b9 5
          have r0 : w9.cell? ⟨B8, 0, none⟩ = some (.string ⟨#[]⟩) := cell_at HS.out.b8 0
          have rf0 : w9.frozen? ⟨B8, 0, none⟩ = false := free_at HS.out.b8 0
          have r1 : w9.cell? ⟨B8, 1, none⟩ = some (.string ⟨#[]⟩) := cell_at HS.out.b8 1
          have rf1 : w9.frozen? ⟨B8, 1, none⟩ = false := free_at HS.out.b8 1
          have r2 : w9.cell? ⟨B8, 2, none⟩ = some (.slice none 0 0) := cell_at HS.out.b8 2
          have rf2 : w9.frozen? ⟨B8, 2, none⟩ = false := free_at HS.out.b8 2
          have r3 : w9.cell? ⟨B8, 3, none⟩ = some (.string ⟨#[]⟩) := cell_at HS.out.b8 3
          have rf3 : w9.frozen? ⟨B8, 3, none⟩ = false := free_at HS.out.b8 3
          have r4 : w9.cell? ⟨B8, 4, none⟩ = some (.string ⟨#[]⟩) := cell_at HS.out.b8 4
          have rf4 : w9.frozen? ⟨B8, 4, none⟩ = false := free_at HS.out.b8 4
          have r5 : w9.cell? ⟨B8, 5, none⟩ = some (.int .i64 0) := cell_at HS.out.b8 5
          have rf5 : w9.frozen? ⟨B8, 5, none⟩ = false := free_at HS.out.b8 5
          have HAN := Lib.hid (HS.out.answer (.string x.ev.id) (.string r.ev.room) (.slice x.A x.ev.parents.length x.cap) (.string x.ev.thread) (.string x.ev.user) (.int .i64 x.ev.does) _ rfl)
          simp only [World.setCells] at HAN
          go_wp2_with fail
          clear g0 g1 g2 g3 g4 g5 r0 r1 r2 r3 r4 r5 rf0 rf1 rf2 rf3 rf4 rf5
          generalize World.setCell _ _ _ = wA at HAN ⊢
          obtain ⟨k0, k1, k2, k3, k4, k5, k6, k7⟩ := HAN.out
          obtain ⟨x1, x2, x3, x4, x5, x6⟩ := HX0.out.2
          obtain ⟨y1, y2, y3, y4, y5, y6⟩ := HRO.out
          refine bodyPost_ret (v := .agg #[.string x.ev.id, .string r.ev.room, .slice x.A x.ev.parents.length x.cap, .string x.ev.thread, .string x.ev.user, .int .i64 x.ev.does]) ?_ rfl ?_
          · simp [results, Tryz.results9, go_sem, k0, k1, k2, k3, k4, k5]
          · exact ⟨⟨⟨x.ev.id, r.ev.room, x.ev.parents, x.ev.thread, x.ev.user, x.ev.does⟩, x.A, x.cap⟩, rfl, ⟨(HX0.out.below k6).1, ⟨x1, y2, x3, x4, x5, x6⟩⟩, (by unfold oddE; rw [← HXB.out, ← HRE.out, HZN.out]; rfl), k6, (fun j hj => .inl (HPF.out j hj))⟩
        · have p7 : w8.cell? ⟨B7, 4, none⟩ = some (.string r.ev.user) := cell_at HS.out.b7 4
          have p9 : w8.cell? ⟨B9, 4, none⟩ = some (.string x.ev.user) := cell_at HS.out.b9 4
          have pf : w8.frozen? ⟨B9, 4, none⟩ = false := free_at HS.out.b9 4
          replace HS := Lib.hid (HS.out.set 4 (.string r.ev.user))
          simp only [List.setIfInBounds_toArray, List.set_cons_succ, List.set_cons_zero] at HS
          go_upto_region 24 with (fail)
          clear p7 p9 pf
          generalize w8.setCell _ _ = w9 at HS ⊢
          have g0 : w9.cell? ⟨B9, 0, none⟩ = some (.string x.ev.id) := cell_at HS.out.b9 0
          have g1 : w9.cell? ⟨B9, 1, none⟩ = some (.string x.ev.room) := cell_at HS.out.b9 1
          have g2 : w9.cell? ⟨B9, 2, none⟩ = some (.slice x.A x.ev.parents.length x.cap) := cell_at HS.out.b9 2
          have g3 : w9.cell? ⟨B9, 3, none⟩ = some (.string x.ev.thread) := cell_at HS.out.b9 3
          have g4 : w9.cell? ⟨B9, 4, none⟩ = some (.string r.ev.user) := cell_at HS.out.b9 4
          have g5 : w9.cell? ⟨B9, 5, none⟩ = some (.int .i64 x.ev.does) := cell_at HS.out.b9 5
          have r0 : w9.cell? ⟨B8, 0, none⟩ = some (.string ⟨#[]⟩) := cell_at HS.out.b8 0
          have rf0 : w9.frozen? ⟨B8, 0, none⟩ = false := free_at HS.out.b8 0
          have r1 : w9.cell? ⟨B8, 1, none⟩ = some (.string ⟨#[]⟩) := cell_at HS.out.b8 1
          have rf1 : w9.frozen? ⟨B8, 1, none⟩ = false := free_at HS.out.b8 1
          have r2 : w9.cell? ⟨B8, 2, none⟩ = some (.slice none 0 0) := cell_at HS.out.b8 2
          have rf2 : w9.frozen? ⟨B8, 2, none⟩ = false := free_at HS.out.b8 2
          have r3 : w9.cell? ⟨B8, 3, none⟩ = some (.string ⟨#[]⟩) := cell_at HS.out.b8 3
          have rf3 : w9.frozen? ⟨B8, 3, none⟩ = false := free_at HS.out.b8 3
          have r4 : w9.cell? ⟨B8, 4, none⟩ = some (.string ⟨#[]⟩) := cell_at HS.out.b8 4
          have rf4 : w9.frozen? ⟨B8, 4, none⟩ = false := free_at HS.out.b8 4
          have r5 : w9.cell? ⟨B8, 5, none⟩ = some (.int .i64 0) := cell_at HS.out.b8 5
          have rf5 : w9.frozen? ⟨B8, 5, none⟩ = false := free_at HS.out.b8 5
          have HAN := Lib.hid (HS.out.answer (.string x.ev.id) (.string x.ev.room) (.slice x.A x.ev.parents.length x.cap) (.string x.ev.thread) (.string r.ev.user) (.int .i64 x.ev.does) _ rfl)
          simp only [World.setCells] at HAN
          go_wp2_with fail
          clear g0 g1 g2 g3 g4 g5 r0 r1 r2 r3 r4 r5 rf0 rf1 rf2 rf3 rf4 rf5
          generalize World.setCell _ _ _ = wA at HAN ⊢
          obtain ⟨k0, k1, k2, k3, k4, k5, k6, k7⟩ := HAN.out
          obtain ⟨x1, x2, x3, x4, x5, x6⟩ := HX0.out.2
          obtain ⟨y1, y2, y3, y4, y5, y6⟩ := HRO.out
          refine bodyPost_ret (v := .agg #[.string x.ev.id, .string x.ev.room, .slice x.A x.ev.parents.length x.cap, .string x.ev.thread, .string r.ev.user, .int .i64 x.ev.does]) ?_ rfl ?_
          · simp [results, Tryz.results9, go_sem, k0, k1, k2, k3, k4, k5]
          · exact ⟨⟨⟨x.ev.id, x.ev.room, x.ev.parents, x.ev.thread, r.ev.user, x.ev.does⟩, x.A, x.cap⟩, rfl, ⟨(HX0.out.below k6).1, ⟨x1, x2, x3, y4, x5, x6⟩⟩, (by unfold oddE; rw [← HXB.out, ← HRE.out, HZN.out]; rfl), k6, (fun j hj => .inl (HPF.out j hj))⟩
        · have p7 : w8.cell? ⟨B7, 3, none⟩ = some (.string r.ev.thread) := cell_at HS.out.b7 3
          have p9 : w8.cell? ⟨B9, 3, none⟩ = some (.string x.ev.thread) := cell_at HS.out.b9 3
          have pf : w8.frozen? ⟨B9, 3, none⟩ = false := free_at HS.out.b9 3
          replace HS := Lib.hid (HS.out.set 3 (.string r.ev.thread))
          simp only [List.setIfInBounds_toArray, List.set_cons_succ, List.set_cons_zero] at HS
          go_upto_region 24 with (fail)
          clear p7 p9 pf
          generalize w8.setCell _ _ = w9 at HS ⊢
          have g0 : w9.cell? ⟨B9, 0, none⟩ = some (.string x.ev.id) := cell_at HS.out.b9 0
          have g1 : w9.cell? ⟨B9, 1, none⟩ = some (.string x.ev.room) := cell_at HS.out.b9 1
          have g2 : w9.cell? ⟨B9, 2, none⟩ = some (.slice x.A x.ev.parents.length x.cap) := cell_at HS.out.b9 2
          have g3 : w9.cell? ⟨B9, 3, none⟩ = some (.string r.ev.thread) := cell_at HS.out.b9 3
          have g4 : w9.cell? ⟨B9, 4, none⟩ = some (.string x.ev.user) := cell_at HS.out.b9 4
          have g5 : w9.cell? ⟨B9, 5, none⟩ = some (.int .i64 x.ev.does) := cell_at HS.out.b9 5
          have r0 : w9.cell? ⟨B8, 0, none⟩ = some (.string ⟨#[]⟩) := cell_at HS.out.b8 0
          have rf0 : w9.frozen? ⟨B8, 0, none⟩ = false := free_at HS.out.b8 0
          have r1 : w9.cell? ⟨B8, 1, none⟩ = some (.string ⟨#[]⟩) := cell_at HS.out.b8 1
          have rf1 : w9.frozen? ⟨B8, 1, none⟩ = false := free_at HS.out.b8 1
          have r2 : w9.cell? ⟨B8, 2, none⟩ = some (.slice none 0 0) := cell_at HS.out.b8 2
          have rf2 : w9.frozen? ⟨B8, 2, none⟩ = false := free_at HS.out.b8 2
          have r3 : w9.cell? ⟨B8, 3, none⟩ = some (.string ⟨#[]⟩) := cell_at HS.out.b8 3
          have rf3 : w9.frozen? ⟨B8, 3, none⟩ = false := free_at HS.out.b8 3
          have r4 : w9.cell? ⟨B8, 4, none⟩ = some (.string ⟨#[]⟩) := cell_at HS.out.b8 4
          have rf4 : w9.frozen? ⟨B8, 4, none⟩ = false := free_at HS.out.b8 4
          have r5 : w9.cell? ⟨B8, 5, none⟩ = some (.int .i64 0) := cell_at HS.out.b8 5
          have rf5 : w9.frozen? ⟨B8, 5, none⟩ = false := free_at HS.out.b8 5
          have HAN := Lib.hid (HS.out.answer (.string x.ev.id) (.string x.ev.room) (.slice x.A x.ev.parents.length x.cap) (.string r.ev.thread) (.string x.ev.user) (.int .i64 x.ev.does) _ rfl)
          simp only [World.setCells] at HAN
          go_wp2_with fail
          clear g0 g1 g2 g3 g4 g5 r0 r1 r2 r3 r4 r5 rf0 rf1 rf2 rf3 rf4 rf5
          generalize World.setCell _ _ _ = wA at HAN ⊢
          obtain ⟨k0, k1, k2, k3, k4, k5, k6, k7⟩ := HAN.out
          obtain ⟨x1, x2, x3, x4, x5, x6⟩ := HX0.out.2
          obtain ⟨y1, y2, y3, y4, y5, y6⟩ := HRO.out
          refine bodyPost_ret (v := .agg #[.string x.ev.id, .string x.ev.room, .slice x.A x.ev.parents.length x.cap, .string r.ev.thread, .string x.ev.user, .int .i64 x.ev.does]) ?_ rfl ?_
          · simp [results, Tryz.results9, go_sem, k0, k1, k2, k3, k4, k5]
          · exact ⟨⟨⟨x.ev.id, x.ev.room, x.ev.parents, r.ev.thread, x.ev.user, x.ev.does⟩, x.A, x.cap⟩, rfl, ⟨(HX0.out.below k6).1, ⟨x1, x2, y3, x4, x5, x6⟩⟩, (by unfold oddE; rw [← HXB.out, ← HRE.out, HZN.out]; rfl), k6, (fun j hj => .inl (HPF.out j hj))⟩
        · have p7 : w8.cell? ⟨B7, 5, none⟩ = some (.int .i64 r.ev.does) := cell_at HS.out.b7 5
          have p9 : w8.cell? ⟨B9, 5, none⟩ = some (.int .i64 x.ev.does) := cell_at HS.out.b9 5
          have pf : w8.frozen? ⟨B9, 5, none⟩ = false := free_at HS.out.b9 5
          replace HS := Lib.hid (HS.out.set 5 (.int .i64 r.ev.does))
          simp only [List.setIfInBounds_toArray, List.set_cons_succ, List.set_cons_zero] at HS
          go_upto_region 24 with (fail)
          clear p7 p9 pf
          generalize w8.setCell _ _ = w9 at HS ⊢
          have g0 : w9.cell? ⟨B9, 0, none⟩ = some (.string x.ev.id) := cell_at HS.out.b9 0
          have g1 : w9.cell? ⟨B9, 1, none⟩ = some (.string x.ev.room) := cell_at HS.out.b9 1
          have g2 : w9.cell? ⟨B9, 2, none⟩ = some (.slice x.A x.ev.parents.length x.cap) := cell_at HS.out.b9 2
          have g3 : w9.cell? ⟨B9, 3, none⟩ = some (.string x.ev.thread) := cell_at HS.out.b9 3
          have g4 : w9.cell? ⟨B9, 4, none⟩ = some (.string x.ev.user) := cell_at HS.out.b9 4
          have g5 : w9.cell? ⟨B9, 5, none⟩ = some (.int .i64 r.ev.does) := cell_at HS.out.b9 5
          have r0 : w9.cell? ⟨B8, 0, none⟩ = some (.string ⟨#[]⟩) := cell_at HS.out.b8 0
          have rf0 : w9.frozen? ⟨B8, 0, none⟩ = false := free_at HS.out.b8 0
          have r1 : w9.cell? ⟨B8, 1, none⟩ = some (.string ⟨#[]⟩) := cell_at HS.out.b8 1
          have rf1 : w9.frozen? ⟨B8, 1, none⟩ = false := free_at HS.out.b8 1
          have r2 : w9.cell? ⟨B8, 2, none⟩ = some (.slice none 0 0) := cell_at HS.out.b8 2
          have rf2 : w9.frozen? ⟨B8, 2, none⟩ = false := free_at HS.out.b8 2
          have r3 : w9.cell? ⟨B8, 3, none⟩ = some (.string ⟨#[]⟩) := cell_at HS.out.b8 3
          have rf3 : w9.frozen? ⟨B8, 3, none⟩ = false := free_at HS.out.b8 3
          have r4 : w9.cell? ⟨B8, 4, none⟩ = some (.string ⟨#[]⟩) := cell_at HS.out.b8 4
          have rf4 : w9.frozen? ⟨B8, 4, none⟩ = false := free_at HS.out.b8 4
          have r5 : w9.cell? ⟨B8, 5, none⟩ = some (.int .i64 0) := cell_at HS.out.b8 5
          have rf5 : w9.frozen? ⟨B8, 5, none⟩ = false := free_at HS.out.b8 5
          have HAN := Lib.hid (HS.out.answer (.string x.ev.id) (.string x.ev.room) (.slice x.A x.ev.parents.length x.cap) (.string x.ev.thread) (.string x.ev.user) (.int .i64 r.ev.does) _ rfl)
          simp only [World.setCells] at HAN
          go_wp2_with fail
          clear g0 g1 g2 g3 g4 g5 r0 r1 r2 r3 r4 r5 rf0 rf1 rf2 rf3 rf4 rf5
          generalize World.setCell _ _ _ = wA at HAN ⊢
          obtain ⟨k0, k1, k2, k3, k4, k5, k6, k7⟩ := HAN.out
          obtain ⟨x1, x2, x3, x4, x5, x6⟩ := HX0.out.2
          obtain ⟨y1, y2, y3, y4, y5, y6⟩ := HRO.out
          refine bodyPost_ret (v := .agg #[.string x.ev.id, .string x.ev.room, .slice x.A x.ev.parents.length x.cap, .string x.ev.thread, .string x.ev.user, .int .i64 r.ev.does]) ?_ rfl ?_
          · simp [results, Tryz.results9, go_sem, k0, k1, k2, k3, k4, k5]
          · exact ⟨⟨⟨x.ev.id, x.ev.room, x.ev.parents, x.ev.thread, x.ev.user, r.ev.does⟩, x.A, x.cap⟩, rfl, ⟨(HX0.out.below k6).1, ⟨x1, x2, x3, x4, x5, y6⟩⟩, (by unfold oddE; rw [← HXB.out, ← HRE.out, HZN.out]; rfl), k6, (fun j hj => .inl (HPF.out j hj))⟩
        · have p7 : w8.cell? ⟨B7, 2, none⟩ = some (.slice r.A r.ev.parents.length r.cap) := cell_at HS.out.b7 2
          have p9 : w8.cell? ⟨B9, 2, none⟩ = some (.slice x.A x.ev.parents.length x.cap) := cell_at HS.out.b9 2
          have pf : w8.frozen? ⟨B9, 2, none⟩ = false := free_at HS.out.b9 2
          have HRN := Lib.hid (HRM.out.grown (sm_grown w8 B9 2 [.slice r.A r.ev.parents.length r.cap]) (fun k hk he => by injection he with he; have := (HRM.out.lt k hk).1; omega))
          simp only [World.setCells] at HRN
          replace HS := Lib.hid (HS.out.set 2 (.slice r.A r.ev.parents.length r.cap))
          simp only [List.setIfInBounds_toArray, List.set_cons_succ, List.set_cons_zero] at HS
          go_upto_region 24 with (fail)
          clear p7 p9 pf
          generalize w8.setCell _ _ = w9 at HS HRN ⊢
          have g0 : w9.cell? ⟨B9, 0, none⟩ = some (.string x.ev.id) := cell_at HS.out.b9 0
          have g1 : w9.cell? ⟨B9, 1, none⟩ = some (.string x.ev.room) := cell_at HS.out.b9 1
          have g2 : w9.cell? ⟨B9, 2, none⟩ = some (.slice r.A r.ev.parents.length r.cap) := cell_at HS.out.b9 2
          have g3 : w9.cell? ⟨B9, 3, none⟩ = some (.string x.ev.thread) := cell_at HS.out.b9 3
          have g4 : w9.cell? ⟨B9, 4, none⟩ = some (.string x.ev.user) := cell_at HS.out.b9 4
          have g5 : w9.cell? ⟨B9, 5, none⟩ = some (.int .i64 x.ev.does) := cell_at HS.out.b9 5
          have r0 : w9.cell? ⟨B8, 0, none⟩ = some (.string ⟨#[]⟩) := cell_at HS.out.b8 0
          have rf0 : w9.frozen? ⟨B8, 0, none⟩ = false := free_at HS.out.b8 0
          have r1 : w9.cell? ⟨B8, 1, none⟩ = some (.string ⟨#[]⟩) := cell_at HS.out.b8 1
          have rf1 : w9.frozen? ⟨B8, 1, none⟩ = false := free_at HS.out.b8 1
          have r2 : w9.cell? ⟨B8, 2, none⟩ = some (.slice none 0 0) := cell_at HS.out.b8 2
          have rf2 : w9.frozen? ⟨B8, 2, none⟩ = false := free_at HS.out.b8 2
          have r3 : w9.cell? ⟨B8, 3, none⟩ = some (.string ⟨#[]⟩) := cell_at HS.out.b8 3
          have rf3 : w9.frozen? ⟨B8, 3, none⟩ = false := free_at HS.out.b8 3
          have r4 : w9.cell? ⟨B8, 4, none⟩ = some (.string ⟨#[]⟩) := cell_at HS.out.b8 4
          have rf4 : w9.frozen? ⟨B8, 4, none⟩ = false := free_at HS.out.b8 4
          have r5 : w9.cell? ⟨B8, 5, none⟩ = some (.int .i64 0) := cell_at HS.out.b8 5
          have rf5 : w9.frozen? ⟨B8, 5, none⟩ = false := free_at HS.out.b8 5
          have HAN := Lib.hid (HS.out.answer (.string x.ev.id) (.string x.ev.room) (.slice r.A r.ev.parents.length r.cap) (.string x.ev.thread) (.string x.ev.user) (.int .i64 x.ev.does) _ rfl)
          simp only [World.setCells] at HAN
          go_wp2_with fail
          clear g0 g1 g2 g3 g4 g5 r0 r1 r2 r3 r4 r5 rf0 rf1 rf2 rf3 rf4 rf5
          generalize World.setCell _ _ _ = wA at HAN ⊢
          obtain ⟨k0, k1, k2, k3, k4, k5, k6, k7⟩ := HAN.out
          have HRF := Lib.hid (HRN.out.grown k7 (fun k hk he => by injection he with he; have := (HRN.out.lt k hk).1; omega))
          obtain ⟨x1, x2, x3, x4, x5, x6⟩ := HX0.out.2
          obtain ⟨y1, y2, y3, y4, y5, y6⟩ := HRO.out
          refine bodyPost_ret (v := .agg #[.string x.ev.id, .string x.ev.room, .slice r.A r.ev.parents.length r.cap, .string x.ev.thread, .string x.ev.user, .int .i64 x.ev.does]) ?_ rfl ?_
          · simp [results, Tryz.results9, go_sem, k0, k1, k2, k3, k4, k5]
          · exact ⟨⟨⟨x.ev.id, x.ev.room, r.ev.parents, x.ev.thread, x.ev.user, x.ev.does⟩, r.A, r.cap⟩, rfl, ⟨HRF.out.slice, ⟨x1, x2, x3, x4, y5, x6⟩⟩, (by unfold oddE; rw [← HXB.out, ← HRE.out, HZN.out]; rfl), k6, (fun j hj => .inr (by have h8 := (HRF.out.lt j hj).1; have h9 := HW6.out.size; omega))⟩
        · have p7 : w8.cell? ⟨B7, 5, none⟩ = some (.int .i64 r.ev.does) := cell_at HS.out.b7 5
          have p9 : w8.cell? ⟨B9, 0, none⟩ = some (.string x.ev.id) := cell_at HS.out.b9 0
          have pf : w8.frozen? ⟨B9, 0, none⟩ = false := free_at HS.out.b9 0
          replace HS := Lib.hid (HS.out.set 0 (.string ⟨#[36, 121]⟩))
          simp only [List.setIfInBounds_toArray, List.set_cons_succ, List.set_cons_zero] at HS
          go_upto_region 22 with (fail)
          clear p7 p9 pf
          generalize w8.setCell _ _ = wb at HS ⊢
          have p7 : wb.cell? ⟨B7, 5, none⟩ = some (.int .i64 r.ev.does) := cell_at HS.out.b7 5
          go_wp2_with fail
          go_at_call 25
          refine (eventOf_any r.ev.does _ HRO.out.2.2.2.2.2.1 HRO.out.2.2.2.2.2.2).mono ?_
          rintro e wc ⟨rfl, bc⟩
          replace HS := Lib.hid (HS.out.on bc)
          clear p7 bc
          have hes := eventS_size r.ev.does
          have HES : Hid (∃ s, s = eventS r.ev.does) := Lib.hid ⟨_, rfl⟩
          have HTE : Hid (turnE x.ev r.ev 6 = ⟨⟨#[36, 121]⟩, x.ev.room, x.ev.parents, eventS r.ev.does, x.ev.user, 0⟩) := Lib.hid rfl
          generalize eventS r.ev.does = s at hes HTE ⊢
          have p9 : wc.cell? ⟨B9, 3, none⟩ = some (.string x.ev.thread) := cell_at HS.out.b9 3
          have pf : wc.frozen? ⟨B9, 3, none⟩ = false := free_at HS.out.b9 3
          replace HS := Lib.hid (HS.out.set 3 (.string s))
          simp only [List.setIfInBounds_toArray, List.set_cons_succ, List.set_cons_zero] at HS
          go_upto_region 23 with (fail)
          clear p9 pf
          generalize wc.setCell _ _ = we at HS ⊢
          have p9 : we.cell? ⟨B9, 5, none⟩ = some (.int .i64 x.ev.does) := cell_at HS.out.b9 5
          have pf : we.frozen? ⟨B9, 5, none⟩ = false := free_at HS.out.b9 5
          replace HS := Lib.hid (HS.out.set 5 (.int .i64 0))
          simp only [List.setIfInBounds_toArray, List.set_cons_succ, List.set_cons_zero] at HS
          go_upto_region 24 with (fail)
          clear p9 pf
          generalize we.setCell _ _ = w9 at HS ⊢
          have g0 : w9.cell? ⟨B9, 0, none⟩ = some (.string ⟨#[36, 121]⟩) := cell_at HS.out.b9 0
          have g1 : w9.cell? ⟨B9, 1, none⟩ = some (.string x.ev.room) := cell_at HS.out.b9 1
          have g2 : w9.cell? ⟨B9, 2, none⟩ = some (.slice x.A x.ev.parents.length x.cap) := cell_at HS.out.b9 2
          have g3 : w9.cell? ⟨B9, 3, none⟩ = some (.string s) := cell_at HS.out.b9 3
          have g4 : w9.cell? ⟨B9, 4, none⟩ = some (.string x.ev.user) := cell_at HS.out.b9 4
          have g5 : w9.cell? ⟨B9, 5, none⟩ = some (.int .i64 0) := cell_at HS.out.b9 5
          have r0 : w9.cell? ⟨B8, 0, none⟩ = some (.string ⟨#[]⟩) := cell_at HS.out.b8 0
          have rf0 : w9.frozen? ⟨B8, 0, none⟩ = false := free_at HS.out.b8 0
          have r1 : w9.cell? ⟨B8, 1, none⟩ = some (.string ⟨#[]⟩) := cell_at HS.out.b8 1
          have rf1 : w9.frozen? ⟨B8, 1, none⟩ = false := free_at HS.out.b8 1
          have r2 : w9.cell? ⟨B8, 2, none⟩ = some (.slice none 0 0) := cell_at HS.out.b8 2
          have rf2 : w9.frozen? ⟨B8, 2, none⟩ = false := free_at HS.out.b8 2
          have r3 : w9.cell? ⟨B8, 3, none⟩ = some (.string ⟨#[]⟩) := cell_at HS.out.b8 3
          have rf3 : w9.frozen? ⟨B8, 3, none⟩ = false := free_at HS.out.b8 3
          have r4 : w9.cell? ⟨B8, 4, none⟩ = some (.string ⟨#[]⟩) := cell_at HS.out.b8 4
          have rf4 : w9.frozen? ⟨B8, 4, none⟩ = false := free_at HS.out.b8 4
          have r5 : w9.cell? ⟨B8, 5, none⟩ = some (.int .i64 0) := cell_at HS.out.b8 5
          have rf5 : w9.frozen? ⟨B8, 5, none⟩ = false := free_at HS.out.b8 5
          have HAN := Lib.hid (HS.out.answer (.string ⟨#[36, 121]⟩) (.string x.ev.room) (.slice x.A x.ev.parents.length x.cap) (.string s) (.string x.ev.user) (.int .i64 0) _ rfl)
          simp only [World.setCells] at HAN
          go_wp2_with fail
          clear g0 g1 g2 g3 g4 g5 r0 r1 r2 r3 r4 r5 rf0 rf1 rf2 rf3 rf4 rf5
          generalize World.setCell _ _ _ = wA at HAN ⊢
          obtain ⟨k0, k1, k2, k3, k4, k5, k6, k7⟩ := HAN.out
          obtain ⟨x1, x2, x3, x4, x5, x6⟩ := HX0.out.2
          obtain ⟨y1, y2, y3, y4, y5, y6⟩ := HRO.out
          refine bodyPost_ret (v := .agg #[.string ⟨#[36, 121]⟩, .string x.ev.room, .slice x.A x.ev.parents.length x.cap, .string s, .string x.ev.user, .int .i64 0]) ?_ rfl ?_
          · simp [results, Tryz.results9, go_sem, k0, k1, k2, k3, k4, k5]
          · exact ⟨⟨⟨⟨#[36, 121]⟩, x.ev.room, x.ev.parents, s, x.ev.user, 0⟩, x.A, x.cap⟩, rfl, ⟨(HX0.out.below k6).1, ⟨(show 2 ≤ maxLen by unfold maxLen; omega), x2, hes, x4, x5, ⟨(show (-9223372036854775808 : Int) ≤ 0 by decide), (show (0 : Int) ≤ 9223372036854775807 by decide)⟩⟩⟩, (by unfold oddE; rw [← HXB.out, ← HRE.out, HZN.out]; exact HTE.out.symm), k6, (fun j hj => .inl (HPF.out j hj))⟩
        · have p9 : w8.cell? ⟨B9, 0, none⟩ = some (.string x.ev.id) := cell_at HS.out.b9 0
          have pf : w8.frozen? ⟨B9, 0, none⟩ = false := free_at HS.out.b9 0
          replace HS := Lib.hid (HS.out.set 0 (.string ⟨#[36, 122]⟩))
          simp only [List.setIfInBounds_toArray, List.set_cons_succ, List.set_cons_zero] at HS
          go_upto_region 7 with (fail)
          clear p9 pf
          generalize w8.setCell _ _ = wb at HS ⊢
          have p7 : wb.cell? ⟨B7, 5, none⟩ = some (.int .i64 r.ev.does) := cell_at HS.out.b7 5
          go_wp2_with fail
          go_at_call 25
          refine (eventOf_any r.ev.does _ HRO.out.2.2.2.2.2.1 HRO.out.2.2.2.2.2.2).mono ?_
          rintro e wc ⟨rfl, bc⟩
          replace HS := Lib.hid (HS.out.on bc)
          clear p7 bc
          have hes := eventS_size r.ev.does
          have HTE : Hid (turnE x.ev r.ev 7 = ⟨⟨#[36, 122]⟩, x.ev.room, [eventS r.ev.does], x.ev.thread, x.ev.user, x.ev.does⟩) := Lib.hid rfl
          generalize eventS r.ev.does = s at hes HTE ⊢
          have hB9c : B9 < wc.heap.size := smem_lt HS.out.b9
          have hB8c : B8 < wc.heap.size := smem_lt HS.out.b8
          have HSA := Lib.hid (HS.out.on (below_new wc (.cells #[.string s] 9)))
          have p9 : (wc.alloc (.cells #[.string s] 9)).cell? ⟨B9, 2, none⟩ = some (.slice x.A x.ev.parents.length x.cap) := cell_at HSA.out.b9 2
          have pf : (wc.alloc (.cells #[.string s] 9)).frozen? ⟨B9, 2, none⟩ = false := free_at HSA.out.b9 2
          have hsz := (sm_size B9 [.slice (some ⟨wc.heap.size, 0, none⟩) 1 1] 2 wc).1
          simp only [World.setCells] at hsz
          have HLM := Lib.hid (lit_mine (wc.setCell ⟨B9, 2, none⟩ (.slice (some ⟨wc.heap.size, 0, none⟩) 1 1)) s)
          rw [hsz] at HLM
          replace HS := Lib.hid (HS.out.set 2 (.slice (some ⟨wc.heap.size, 0, none⟩) 1 1))
          simp only [List.setIfInBounds_toArray, List.set_cons_succ, List.set_cons_zero] at HS
          replace HS := Lib.hid (HS.out.on (below_new _ (.cells #[.string s] 9)))
          clear HSA hsz
          go_upto_region 24 with (fail)
          clear p9 pf
          generalize World.alloc _ _ = w9 at HS HLM ⊢
          generalize wc.heap.size = Bs at HS HLM hB8c ⊢
          have g0 : w9.cell? ⟨B9, 0, none⟩ = some (.string ⟨#[36, 122]⟩) := cell_at HS.out.b9 0
          have g1 : w9.cell? ⟨B9, 1, none⟩ = some (.string x.ev.room) := cell_at HS.out.b9 1
          have g2 : w9.cell? ⟨B9, 2, none⟩ = some (.slice (some ⟨Bs, 0, none⟩) 1 1) := cell_at HS.out.b9 2
          have g3 : w9.cell? ⟨B9, 3, none⟩ = some (.string x.ev.thread) := cell_at HS.out.b9 3
          have g4 : w9.cell? ⟨B9, 4, none⟩ = some (.string x.ev.user) := cell_at HS.out.b9 4
          have g5 : w9.cell? ⟨B9, 5, none⟩ = some (.int .i64 x.ev.does) := cell_at HS.out.b9 5
          have r0 : w9.cell? ⟨B8, 0, none⟩ = some (.string ⟨#[]⟩) := cell_at HS.out.b8 0
          have rf0 : w9.frozen? ⟨B8, 0, none⟩ = false := free_at HS.out.b8 0
          have r1 : w9.cell? ⟨B8, 1, none⟩ = some (.string ⟨#[]⟩) := cell_at HS.out.b8 1
          have rf1 : w9.frozen? ⟨B8, 1, none⟩ = false := free_at HS.out.b8 1
          have r2 : w9.cell? ⟨B8, 2, none⟩ = some (.slice none 0 0) := cell_at HS.out.b8 2
          have rf2 : w9.frozen? ⟨B8, 2, none⟩ = false := free_at HS.out.b8 2
          have r3 : w9.cell? ⟨B8, 3, none⟩ = some (.string ⟨#[]⟩) := cell_at HS.out.b8 3
          have rf3 : w9.frozen? ⟨B8, 3, none⟩ = false := free_at HS.out.b8 3
          have r4 : w9.cell? ⟨B8, 4, none⟩ = some (.string ⟨#[]⟩) := cell_at HS.out.b8 4
          have rf4 : w9.frozen? ⟨B8, 4, none⟩ = false := free_at HS.out.b8 4
          have r5 : w9.cell? ⟨B8, 5, none⟩ = some (.int .i64 0) := cell_at HS.out.b8 5
          have rf5 : w9.frozen? ⟨B8, 5, none⟩ = false := free_at HS.out.b8 5
          have HAN := Lib.hid (HS.out.answer (.string ⟨#[36, 122]⟩) (.string x.ev.room) (.slice (some ⟨Bs, 0, none⟩) 1 1) (.string x.ev.thread) (.string x.ev.user) (.int .i64 x.ev.does) _ rfl)
          simp only [World.setCells] at HAN
          go_wp2_with fail
          clear g0 g1 g2 g3 g4 g5 r0 r1 r2 r3 r4 r5 rf0 rf1 rf2 rf3 rf4 rf5
          generalize World.setCell _ _ _ = wA at HAN ⊢
          obtain ⟨k0, k1, k2, k3, k4, k5, k6, k7⟩ := HAN.out
          have HLF := Lib.hid (HLM.out.grown k7 (fun k hk he => by injection he with he; have := (HLM.out.lt k hk).1; omega))
          obtain ⟨x1, x2, x3, x4, x5, x6⟩ := HX0.out.2
          obtain ⟨y1, y2, y3, y4, y5, y6⟩ := HRO.out
          refine bodyPost_ret (v := .agg #[.string ⟨#[36, 122]⟩, .string x.ev.room, .slice (some ⟨Bs, 0, none⟩) 1 1, .string x.ev.thread, .string x.ev.user, .int .i64 x.ev.does]) ?_ rfl ?_
          · simp [results, Tryz.results9, go_sem, k0, k1, k2, k3, k4, k5]
          · exact ⟨⟨⟨⟨#[36, 122]⟩, x.ev.room, [s], x.ev.thread, x.ev.user, x.ev.does⟩, some ⟨Bs, 0, none⟩, 1⟩, rfl, ⟨HLF.out.slice, ⟨(show 2 ≤ maxLen by unfold maxLen; omega), x2, x3, x4, (fun p hp => by rw [List.mem_singleton.1 hp]; exact hes), x6⟩⟩, (by unfold oddE; rw [← HXB.out, ← HRE.out, HZN.out]; exact HTE.out.symm), k6, (fun j hj => .inr (by have h8 := (HLF.out.lt j hj).1; have h9 := HS.out.lo8; omega))⟩
  · have q1 : decide ((0 : Int) < (xs.length : Int)) = false := decide_eq_false (by omega)
    go_upto_region 4 with (fail)
    clear d1
    have hx0' : xs = [] := List.length_eq_zero_iff.1 (by omega)
    have HX : Hid (∃ x : EvV, x = ⟨lonelyE room, none, 0⟩) := Lib.hid ⟨_, rfl⟩
    obtain ⟨x, hx⟩ := HX.out
    have HPF : Hid (∀ j, (Value.slice x.A x.ev.parents.length x.cap).ownBlock = some j → ∃ z ∈ xs, z.pv.ownBlock = some j ∧ z.ev.parents = x.ev.parents) := Lib.hid (fun j hj => by rw [hx] at hj; cases hj)
    have HX0 : Hid (x.at w) := Lib.hid (by rw [hx]; exact ⟨Lies.Slice.nil w, (show 2 ≤ maxLen by unfold maxLen; omega), hro, Nat.zero_le _, (show 5 ≤ maxLen by unfold maxLen; omega), fun p hp => absurd hp List.not_mem_nil, (show (-9223372036854775808 : Int) ≤ 0 by decide), (show (0 : Int) ≤ 9223372036854775807 by decide)⟩)
    have HXB : Hid (x.ev = baseE room (evs xs) k) := Lib.hid (by rw [hx, hx0']; rfl)
    replace HS : Hid (OdS w w5 B4 B7 B8 B9 room (.slice A xs.length cap) #[.string raw.ev.id, .string raw.ev.room, .slice raw.A raw.ev.parents.length raw.cap, .string raw.ev.thread, .string raw.ev.user, .int .i64 raw.ev.does] #[.string x.ev.id, .string x.ev.room, .slice x.A x.ev.parents.length x.cap, .string x.ev.thread, .string x.ev.user, .int .i64 x.ev.does]) := Lib.hid (by rw [hx]; exact HS.out)
    clear hx hx0' HX
    generalize w5 = w6 at HS ⊢
    have m0 : w6.cell? ⟨B7, 0, none⟩ = some (.string raw.ev.id) := cell_at HS.out.b7 0
    have m1 : w6.cell? ⟨B7, 1, none⟩ = some (.string raw.ev.room) := cell_at HS.out.b7 1
    have m2 : w6.cell? ⟨B7, 2, none⟩ = some (.slice raw.A raw.ev.parents.length raw.cap) := cell_at HS.out.b7 2
    have m3 : w6.cell? ⟨B7, 3, none⟩ = some (.string raw.ev.thread) := cell_at HS.out.b7 3
    have m4 : w6.cell? ⟨B7, 4, none⟩ = some (.string raw.ev.user) := cell_at HS.out.b7 4
    have m5 : w6.cell? ⟨B7, 5, none⟩ = some (.int .i64 raw.ev.does) := cell_at HS.out.b7 5
    have HW6 := Lib.hid HS.out.below
    have hB7l : B7 < w6.heap.size := smem_lt HS.out.b7
    have hB8l : B8 < w6.heap.size := smem_lt HS.out.b8
    have hB9l : B9 < w6.heap.size := smem_lt HS.out.b9
    have HFW := Lib.hid (refFewE_any raw w6 (HR.out.below HW6.out))
    unfold EvV.val EvV.pv at HFW
    go_wp2_with fail
    go_at_call 50
    refine (HFW.out).mono ?_
    rintro e w7 ⟨r, rfl, ra, re, rm, rb⟩
    replace HS := Lib.hid (HS.out.on rb)
    have HRE := Lib.hid re
    have HRO := Lib.hid ra.2
    have HRM := Lib.hid rm
    clear ra re rm rb m0 m1 m2 m3 m4 m5 HFW
    have m0 : w7.cell? ⟨B7, 0, none⟩ = some (.string raw.ev.id) := cell_at HS.out.b7 0
    have mf0 : w7.frozen? ⟨B7, 0, none⟩ = false := free_at HS.out.b7 0
    have m1 : w7.cell? ⟨B7, 1, none⟩ = some (.string raw.ev.room) := cell_at HS.out.b7 1
    have mf1 : w7.frozen? ⟨B7, 1, none⟩ = false := free_at HS.out.b7 1
    have m2 : w7.cell? ⟨B7, 2, none⟩ = some (.slice raw.A raw.ev.parents.length raw.cap) := cell_at HS.out.b7 2
    have mf2 : w7.frozen? ⟨B7, 2, none⟩ = false := free_at HS.out.b7 2
    have m3 : w7.cell? ⟨B7, 3, none⟩ = some (.string raw.ev.thread) := cell_at HS.out.b7 3
    have mf3 : w7.frozen? ⟨B7, 3, none⟩ = false := free_at HS.out.b7 3
    have m4 : w7.cell? ⟨B7, 4, none⟩ = some (.string raw.ev.user) := cell_at HS.out.b7 4
    have mf4 : w7.frozen? ⟨B7, 4, none⟩ = false := free_at HS.out.b7 4
    have m5 : w7.cell? ⟨B7, 5, none⟩ = some (.int .i64 raw.ev.does) := cell_at HS.out.b7 5
    have mf5 : w7.frozen? ⟨B7, 5, none⟩ = false := free_at HS.out.b7 5
    replace HS := Lib.hid (HS.out.set7 rfl (.string r.ev.id) (.string r.ev.room) (.slice r.A r.ev.parents.length r.cap) (.string r.ev.thread) (.string r.ev.user) (.int .i64 r.ev.does))
    replace HRM := Lib.hid (HRM.out.grown (sm_grown w7 B7 0 [.string r.ev.id, .string r.ev.room, .slice r.A r.ev.parents.length r.cap, .string r.ev.thread, .string r.ev.user, .int .i64 r.ev.does]) (fun k hk he => by injection he with he; have := (HRM.out.lt k hk).1; omega))
    simp only [World.setCells] at HS HRM
    go_upto_region 5 with (fail)
    clear m0 m1 m2 m3 m4 m5 mf0 mf1 mf2 mf3 mf4 mf5
    generalize World.setCell _ _ _ = w8 at HS HRM ⊢
    go_upto_region 8 with (go_at_call 49; refine (HCH.out _).mono ?_; rintro e w' ⟨rfl, rfl⟩)
    rcases hz8 with rfl | rfl | rfl | rfl | rfl | rfl | rfl | rfl
    · have p7 : w8.cell? ⟨B7, 0, none⟩ = some (.string r.ev.id) := cell_at HS.out.b7 0
      have p9 : w8.cell? ⟨B9, 0, none⟩ = some (.string x.ev.id) := cell_at HS.out.b9 0
      have pf : w8.frozen? ⟨B9, 0, none⟩ = false := free_at HS.out.b9 0
      replace HS := Lib.hid (HS.out.set 0 (.string r.ev.id))
      simp only [List.setIfInBounds_toArray, List.set_cons_succ, List.set_cons_zero] at HS
      go_upto_region 24 with (fail)
      clear p7 p9 pf
      generalize w8.setCell _ _ = w9 at HS ⊢
      have g0 : w9.cell? ⟨B9, 0, none⟩ = some (.string r.ev.id) := cell_at HS.out.b9 0
      have g1 : w9.cell? ⟨B9, 1, none⟩ = some (.string x.ev.room) := cell_at HS.out.b9 1
      have g2 : w9.cell? ⟨B9, 2, none⟩ = some (.slice x.A x.ev.parents.length x.cap) := cell_at HS.out.b9 2
      have g3 : w9.cell? ⟨B9, 3, none⟩ = some (.string x.ev.thread) := cell_at HS.out.b9 3
      have g4 : w9.cell? ⟨B9, 4, none⟩ = some (.string x.ev.user) := cell_at HS.out.b9 4
      have g5 : w9.cell? ⟨B9, 5, none⟩ = some (.int .i64 x.ev.does) := cell_at HS.out.b9 5
      have r0 : w9.cell? ⟨B8, 0, none⟩ = some (.string ⟨#[]⟩) := cell_at HS.out.b8 0
      have rf0 : w9.frozen? ⟨B8, 0, none⟩ = false := free_at HS.out.b8 0
      have r1 : w9.cell? ⟨B8, 1, none⟩ = some (.string ⟨#[]⟩) := cell_at HS.out.b8 1
      have rf1 : w9.frozen? ⟨B8, 1, none⟩ = false := free_at HS.out.b8 1
      have r2 : w9.cell? ⟨B8, 2, none⟩ = some (.slice none 0 0) := cell_at HS.out.b8 2
      have rf2 : w9.frozen? ⟨B8, 2, none⟩ = false := free_at HS.out.b8 2
      have r3 : w9.cell? ⟨B8, 3, none⟩ = some (.string ⟨#[]⟩) := cell_at HS.out.b8 3
      have rf3 : w9.frozen? ⟨B8, 3, none⟩ = false := free_at HS.out.b8 3
      have r4 : w9.cell? ⟨B8, 4, none⟩ = some (.string ⟨#[]⟩) := cell_at HS.out.b8 4
      have rf4 : w9.frozen? ⟨B8, 4, none⟩ = false := free_at HS.out.b8 4
      have r5 : w9.cell? ⟨B8, 5, none⟩ = some (.int .i64 0) := cell_at HS.out.b8 5
      have rf5 : w9.frozen? ⟨B8, 5, none⟩ = false := free_at HS.out.b8 5
      have HAN := Lib.hid (HS.out.answer (.string r.ev.id) (.string x.ev.room) (.slice x.A x.ev.parents.length x.cap) (.string x.ev.thread) (.string x.ev.user) (.int .i64 x.ev.does) _ rfl)
      simp only [World.setCells] at HAN
      go_wp2_with fail
      clear g0 g1 g2 g3 g4 g5 r0 r1 r2 r3 r4 r5 rf0 rf1 rf2 rf3 rf4 rf5
      generalize World.setCell _ _ _ = wA at HAN ⊢
      obtain ⟨k0, k1, k2, k3, k4, k5, k6, k7⟩ := HAN.out
      obtain ⟨x1, x2, x3, x4, x5, x6⟩ := HX0.out.2
      obtain ⟨y1, y2, y3, y4, y5, y6⟩ := HRO.out
      refine bodyPost_ret (v := .agg #[.string r.ev.id, .string x.ev.room, .slice x.A x.ev.parents.length x.cap, .string x.ev.thread, .string x.ev.user, .int .i64 x.ev.does]) ?_ rfl ?_
      · simp [results, Tryz.results9, go_sem, k0, k1, k2, k3, k4, k5]
      · exact ⟨⟨⟨r.ev.id, x.ev.room, x.ev.parents, x.ev.thread, x.ev.user, x.ev.does⟩, x.A, x.cap⟩, rfl, ⟨(HX0.out.below k6).1, ⟨y1, x2, x3, x4, x5, x6⟩⟩, (by unfold oddE; rw [← HXB.out, ← HRE.out, HZN.out]; rfl), k6, (fun j hj => .inl (HPF.out j hj))⟩
    · have p7 : w8.cell? ⟨B7, 1, none⟩ = some (.string r.ev.room) := cell_at HS.out.b7 1
      have p9 : w8.cell? ⟨B9, 1, none⟩ = some (.string x.ev.room) := cell_at HS.out.b9 1
      have pf : w8.frozen? ⟨B9, 1, none⟩ = false := free_at HS.out.b9 1
      replace HS := Lib.hid (HS.out.set 1 (.string r.ev.room))
      simp only [List.setIfInBounds_toArray, List.set_cons_succ, List.set_cons_zero] at HS
      go_upto_region 24 with (fail)
      clear p7 p9 pf
      generalize w8.setCell _ _ = w9 at HS ⊢
      have g0 : w9.cell? ⟨B9, 0, none⟩ = some (.string x.ev.id) := cell_at HS.out.b9 0
      have g1 : w9.cell? ⟨B9, 1, none⟩ = some (.string r.ev.room) := cell_at HS.out.b9 1
      have g2 : w9.cell? ⟨B9, 2, none⟩ = some (.slice x.A x.ev.parents.length x.cap) := cell_at HS.out.b9 2
      have g3 : w9.cell? ⟨B9, 3, none⟩ = some (.string x.ev.thread) := cell_at HS.out.b9 3
      have g4 : w9.cell? ⟨B9, 4, none⟩ = some (.string x.ev.user) := cell_at HS.out.b9 4
      have g5 : w9.cell? ⟨B9, 5, none⟩ = some (.int .i64 x.ev.does) := cell_at HS.out.b9 5
      have r0 : w9.cell? ⟨B8, 0, none⟩ = some (.string ⟨#[]⟩) := cell_at HS.out.b8 0
      have rf0 : w9.frozen? ⟨B8, 0, none⟩ = false := free_at HS.out.b8 0
      have r1 : w9.cell? ⟨B8, 1, none⟩ = some (.string ⟨#[]⟩) := cell_at HS.out.b8 1
      have rf1 : w9.frozen? ⟨B8, 1, none⟩ = false := free_at HS.out.b8 1
      have r2 : w9.cell? ⟨B8, 2, none⟩ = some (.slice none 0 0) := cell_at HS.out.b8 2
      have rf2 : w9.frozen? ⟨B8, 2, none⟩ = false := free_at HS.out.b8 2
      have r3 : w9.cell? ⟨B8, 3, none⟩ = some (.string ⟨#[]⟩) := cell_at HS.out.b8 3
      have rf3 : w9.frozen? ⟨B8, 3, none⟩ = false := free_at HS.out.b8 3
      have r4 : w9.cell? ⟨B8, 4, none⟩ = some (.string ⟨#[]⟩) := cell_at HS.out.b8 4
      have rf4 : w9.frozen? ⟨B8, 4, none⟩ = false := free_at HS.out.b8 4
      have r5 : w9.cell? ⟨B8, 5, none⟩ = some (.int .i64 0) := cell_at HS.out.b8 5
      have rf5 : w9.frozen? ⟨B8, 5, none⟩ = false := free_at HS.out.b8 5
      have HAN := Lib.hid (HS.out.answer (.string x.ev.id) (.string r.ev.room) (.slice x.A x.ev.parents.length x.cap) (.string x.ev.thread) (.string x.ev.user) (.int .i64 x.ev.does) _ rfl)
      simp only [World.setCells] at HAN
      go_wp2_with fail
      clear g0 g1 g2 g3 g4 g5 r0 r1 r2 r3 r4 r5 rf0 rf1 rf2 rf3 rf4 rf5
      generalize World.setCell _ _ _ = wA at HAN ⊢
      obtain ⟨k0, k1, k2, k3, k4, k5, k6, k7⟩ := HAN.out
      obtain ⟨x1, x2, x3, x4, x5, x6⟩ := HX0.out.2
      obtain ⟨y1, y2, y3, y4, y5, y6⟩ := HRO.out
      refine bodyPost_ret (v := .agg #[.string x.ev.id, .string r.ev.room, .slice x.A x.ev.parents.length x.cap, .string x.ev.thread, .string x.ev.user, .int .i64 x.ev.does]) ?_ rfl ?_
      · simp [results, Tryz.results9, go_sem, k0, k1, k2, k3, k4, k5]
      · exact ⟨⟨⟨x.ev.id, r.ev.room, x.ev.parents, x.ev.thread, x.ev.user, x.ev.does⟩, x.A, x.cap⟩, rfl, ⟨(HX0.out.below k6).1, ⟨x1, y2, x3, x4, x5, x6⟩⟩, (by unfold oddE; rw [← HXB.out, ← HRE.out, HZN.out]; rfl), k6, (fun j hj => .inl (HPF.out j hj))⟩
    · have p7 : w8.cell? ⟨B7, 4, none⟩ = some (.string r.ev.user) := cell_at HS.out.b7 4
      have p9 : w8.cell? ⟨B9, 4, none⟩ = some (.string x.ev.user) := cell_at HS.out.b9 4
      have pf : w8.frozen? ⟨B9, 4, none⟩ = false := free_at HS.out.b9 4
      replace HS := Lib.hid (HS.out.set 4 (.string r.ev.user))
      simp only [List.setIfInBounds_toArray, List.set_cons_succ, List.set_cons_zero] at HS
      go_upto_region 24 with (fail)
      clear p7 p9 pf
      generalize w8.setCell _ _ = w9 at HS ⊢
      have g0 : w9.cell? ⟨B9, 0, none⟩ = some (.string x.ev.id) := cell_at HS.out.b9 0
      have g1 : w9.cell? ⟨B9, 1, none⟩ = some (.string x.ev.room) := cell_at HS.out.b9 1
      have g2 : w9.cell? ⟨B9, 2, none⟩ = some (.slice x.A x.ev.parents.length x.cap) := cell_at HS.out.b9 2
      have g3 : w9.cell? ⟨B9, 3, none⟩ = some (.string x.ev.thread) := cell_at HS.out.b9 3
      have g4 : w9.cell? ⟨B9, 4, none⟩ = some (.string r.ev.user) := cell_at HS.out.b9 4
      have g5 : w9.cell? ⟨B9, 5, none⟩ = some (.int .i64 x.ev.does) := cell_at HS.out.b9 5
      have r0 : w9.cell? ⟨B8, 0, none⟩ = some (.string ⟨#[]⟩) := cell_at HS.out.b8 0
      have rf0 : w9.frozen? ⟨B8, 0, none⟩ = false := free_at HS.out.b8 0
      have r1 : w9.cell? ⟨B8, 1, none⟩ = some (.string ⟨#[]⟩) := cell_at HS.out.b8 1
      have rf1 : w9.frozen? ⟨B8, 1, none⟩ = false := free_at HS.out.b8 1
      have r2 : w9.cell? ⟨B8, 2, none⟩ = some (.slice none 0 0) := cell_at HS.out.b8 2
      have rf2 : w9.frozen? ⟨B8, 2, none⟩ = false := free_at HS.out.b8 2
      have r3 : w9.cell? ⟨B8, 3, none⟩ = some (.string ⟨#[]⟩) := cell_at HS.out.b8 3
      have rf3 : w9.frozen? ⟨B8, 3, none⟩ = false := free_at HS.out.b8 3
      have r4 : w9.cell? ⟨B8, 4, none⟩ = some (.string ⟨#[]⟩) := cell_at HS.out.b8 4
      have rf4 : w9.frozen? ⟨B8, 4, none⟩ = false := free_at HS.out.b8 4
      have r5 : w9.cell? ⟨B8, 5, none⟩ = some (.int .i64 0) := cell_at HS.out.b8 5
      have rf5 : w9.frozen? ⟨B8, 5, none⟩ = false := free_at HS.out.b8 5
      have HAN := Lib.hid (HS.out.answer (.string x.ev.id) (.string x.ev.room) (.slice x.A x.ev.parents.length x.cap) (.string x.ev.thread) (.string r.ev.user) (.int .i64 x.ev.does) _ rfl)
      simp only [World.setCells] at HAN
      go_wp2_with fail
      clear g0 g1 g2 g3 g4 g5 r0 r1 r2 r3 r4 r5 rf0 rf1 rf2 rf3 rf4 rf5
      generalize World.setCell _ _ _ = wA at HAN ⊢
      obtain ⟨k0, k1, k2, k3, k4, k5, k6, k7⟩ := HAN.out
      obtain ⟨x1, x2, x3, x4, x5, x6⟩ := HX0.out.2
      obtain ⟨y1, y2, y3, y4, y5, y6⟩ := HRO.out
      refine bodyPost_ret (v := .agg #[.string x.ev.id, .string x.ev.room, .slice x.A x.ev.parents.length x.cap, .string x.ev.thread, .string r.ev.user, .int .i64 x.ev.does]) ?_ rfl ?_
      · simp [results, Tryz.results9, go_sem, k0, k1, k2, k3, k4, k5]
      · exact ⟨⟨⟨x.ev.id, x.ev.room, x.ev.parents, x.ev.thread, r.ev.user, x.ev.does⟩, x.A, x.cap⟩, rfl, ⟨(HX0.out.below k6).1, ⟨x1, x2, x3, y4, x5, x6⟩⟩, (by unfold oddE; rw [← HXB.out, ← HRE.out, HZN.out]; rfl), k6, (fun j hj => .inl (HPF.out j hj))⟩
    · have p7 : w8.cell? ⟨B7, 3, none⟩ = some (.string r.ev.thread) := cell_at HS.out.b7 3
      have p9 : w8.cell? ⟨B9, 3, none⟩ = some (.string x.ev.thread) := cell_at HS.out.b9 3
      have pf : w8.frozen? ⟨B9, 3, none⟩ = false := free_at HS.out.b9 3
      replace HS := Lib.hid (HS.out.set 3 (.string r.ev.thread))
      simp only [List.setIfInBounds_toArray, List.set_cons_succ, List.set_cons_zero] at HS
      go_upto_region 24 with (fail)
      clear p7 p9 pf
      generalize w8.setCell _ _ = w9 at HS ⊢
      have g0 : w9.cell? ⟨B9, 0, none⟩ = some (.string x.ev.id) := cell_at HS.out.b9 0
      have g1 : w9.cell? ⟨B9, 1, none⟩ = some (.string x.ev.room) := cell_at HS.out.b9 1
      have g2 : w9.cell? ⟨B9, 2, none⟩ = some (.slice x.A x.ev.parents.length x.cap) := cell_at HS.out.b9 2
      have g3 : w9.cell? ⟨B9, 3, none⟩ = some (.string r.ev.thread) := cell_at HS.out.b9 3
      have g4 : w9.cell? ⟨B9, 4, none⟩ = some (.string x.ev.user) := cell_at HS.out.b9 4
      have g5 : w9.cell? ⟨B9, 5, none⟩ = some (.int .i64 x.ev.does) := cell_at HS.out.b9 5
      have r0 : w9.cell? ⟨B8, 0, none⟩ = some (.string ⟨#[]⟩) := cell_at HS.out.b8 0
      have rf0 : w9.frozen? ⟨B8, 0, none⟩ = false := free_at HS.out.b8 0
      have r1 : w9.cell? ⟨B8, 1, none⟩ = some (.string ⟨#[]⟩) := cell_at HS.out.b8 1
      have rf1 : w9.frozen? ⟨B8, 1, none⟩ = false := free_at HS.out.b8 1
      have r2 : w9.cell? ⟨B8, 2, none⟩ = some (.slice none 0 0) := cell_at HS.out.b8 2
      have rf2 : w9.frozen? ⟨B8, 2, none⟩ = false := free_at HS.out.b8 2
      have r3 : w9.cell? ⟨B8, 3, none⟩ = some (.string ⟨#[]⟩) := cell_at HS.out.b8 3
      have rf3 : w9.frozen? ⟨B8, 3, none⟩ = false := free_at HS.out.b8 3
      have r4 : w9.cell? ⟨B8, 4, none⟩ = some (.string ⟨#[]⟩) := cell_at HS.out.b8 4
      have rf4 : w9.frozen? ⟨B8, 4, none⟩ = false := free_at HS.out.b8 4
      have r5 : w9.cell? ⟨B8, 5, none⟩ = some (.int .i64 0) := cell_at HS.out.b8 5
      have rf5 : w9.frozen? ⟨B8, 5, none⟩ = false := free_at HS.out.b8 5
      have HAN := Lib.hid (HS.out.answer (.string x.ev.id) (.string x.ev.room) (.slice x.A x.ev.parents.length x.cap) (.string r.ev.thread) (.string x.ev.user) (.int .i64 x.ev.does) _ rfl)
      simp only [World.setCells] at HAN
      go_wp2_with fail
      clear g0 g1 g2 g3 g4 g5 r0 r1 r2 r3 r4 r5 rf0 rf1 rf2 rf3 rf4 rf5
      generalize World.setCell _ _ _ = wA at HAN ⊢
      obtain ⟨k0, k1, k2, k3, k4, k5, k6, k7⟩ := HAN.out
      obtain ⟨x1, x2, x3, x4, x5, x6⟩ := HX0.out.2
      obtain ⟨y1, y2, y3, y4, y5, y6⟩ := HRO.out
      refine bodyPost_ret (v := .agg #[.string x.ev.id, .string x.ev.room, .slice x.A x.ev.parents.length x.cap, .string r.ev.thread, .string x.ev.user, .int .i64 x.ev.does]) ?_ rfl ?_
      · simp [results, Tryz.results9, go_sem, k0, k1, k2, k3, k4, k5]
      · exact ⟨⟨⟨x.ev.id, x.ev.room, x.ev.parents, r.ev.thread, x.ev.user, x.ev.does⟩, x.A, x.cap⟩, rfl, ⟨(HX0.out.below k6).1, ⟨x1, x2, y3, x4, x5, x6⟩⟩, (by unfold oddE; rw [← HXB.out, ← HRE.out, HZN.out]; rfl), k6, (fun j hj => .inl (HPF.out j hj))⟩
    · have p7 : w8.cell? ⟨B7, 5, none⟩ = some (.int .i64 r.ev.does) := cell_at HS.out.b7 5
      have p9 : w8.cell? ⟨B9, 5, none⟩ = some (.int .i64 x.ev.does) := cell_at HS.out.b9 5
      have pf : w8.frozen? ⟨B9, 5, none⟩ = false := free_at HS.out.b9 5
      replace HS := Lib.hid (HS.out.set 5 (.int .i64 r.ev.does))
      simp only [List.setIfInBounds_toArray, List.set_cons_succ, List.set_cons_zero] at HS
      go_upto_region 24 with (fail)
      clear p7 p9 pf
      generalize w8.setCell _ _ = w9 at HS ⊢
      have g0 : w9.cell? ⟨B9, 0, none⟩ = some (.string x.ev.id) := cell_at HS.out.b9 0
      have g1 : w9.cell? ⟨B9, 1, none⟩ = some (.string x.ev.room) := cell_at HS.out.b9 1
      have g2 : w9.cell? ⟨B9, 2, none⟩ = some (.slice x.A x.ev.parents.length x.cap) := cell_at HS.out.b9 2
      have g3 : w9.cell? ⟨B9, 3, none⟩ = some (.string x.ev.thread) := cell_at HS.out.b9 3
      have g4 : w9.cell? ⟨B9, 4, none⟩ = some (.string x.ev.user) := cell_at HS.out.b9 4
      have g5 : w9.cell? ⟨B9, 5, none⟩ = some (.int .i64 r.ev.does) := cell_at HS.out.b9 5
      have r0 : w9.cell? ⟨B8, 0, none⟩ = some (.string ⟨#[]⟩) := cell_at HS.out.b8 0
      have rf0 : w9.frozen? ⟨B8, 0, none⟩ = false := free_at HS.out.b8 0
      have r1 : w9.cell? ⟨B8, 1, none⟩ = some (.string ⟨#[]⟩) := cell_at HS.out.b8 1
      have rf1 : w9.frozen? ⟨B8, 1, none⟩ = false := free_at HS.out.b8 1
      have r2 : w9.cell? ⟨B8, 2, none⟩ = some (.slice none 0 0) := cell_at HS.out.b8 2
      have rf2 : w9.frozen? ⟨B8, 2, none⟩ = false := free_at HS.out.b8 2
      have r3 : w9.cell? ⟨B8, 3, none⟩ = some (.string ⟨#[]⟩) := cell_at HS.out.b8 3
      have rf3 : w9.frozen? ⟨B8, 3, none⟩ = false := free_at HS.out.b8 3
      have r4 : w9.cell? ⟨B8, 4, none⟩ = some (.string ⟨#[]⟩) := cell_at HS.out.b8 4
      have rf4 : w9.frozen? ⟨B8, 4, none⟩ = false := free_at HS.out.b8 4
      have r5 : w9.cell? ⟨B8, 5, none⟩ = some (.int .i64 0) := cell_at HS.out.b8 5
      have rf5 : w9.frozen? ⟨B8, 5, none⟩ = false := free_at HS.out.b8 5
      have HAN := Lib.hid (HS.out.answer (.string x.ev.id) (.string x.ev.room) (.slice x.A x.ev.parents.length x.cap) (.string x.ev.thread) (.string x.ev.user) (.int .i64 r.ev.does) _ rfl)
      simp only [World.setCells] at HAN
      go_wp2_with fail
      clear g0 g1 g2 g3 g4 g5 r0 r1 r2 r3 r4 r5 rf0 rf1 rf2 rf3 rf4 rf5
      generalize World.setCell _ _ _ = wA at HAN ⊢
      obtain ⟨k0, k1, k2, k3, k4, k5, k6, k7⟩ := HAN.out
      obtain ⟨x1, x2, x3, x4, x5, x6⟩ := HX0.out.2
      obtain ⟨y1, y2, y3, y4, y5, y6⟩ := HRO.out
      refine bodyPost_ret (v := .agg #[.string x.ev.id, .string x.ev.room, .slice x.A x.ev.parents.length x.cap, .string x.ev.thread, .string x.ev.user, .int .i64 r.ev.does]) ?_ rfl ?_
      · simp [results, Tryz.results9, go_sem, k0, k1, k2, k3, k4, k5]
      · exact ⟨⟨⟨x.ev.id, x.ev.room, x.ev.parents, x.ev.thread, x.ev.user, r.ev.does⟩, x.A, x.cap⟩, rfl, ⟨(HX0.out.below k6).1, ⟨x1, x2, x3, x4, x5, y6⟩⟩, (by unfold oddE; rw [← HXB.out, ← HRE.out, HZN.out]; rfl), k6, (fun j hj => .inl (HPF.out j hj))⟩
    · have p7 : w8.cell? ⟨B7, 2, none⟩ = some (.slice r.A r.ev.parents.length r.cap) := cell_at HS.out.b7 2
      have p9 : w8.cell? ⟨B9, 2, none⟩ = some (.slice x.A x.ev.parents.length x.cap) := cell_at HS.out.b9 2
      have pf : w8.frozen? ⟨B9, 2, none⟩ = false := free_at HS.out.b9 2
      have HRN := Lib.hid (HRM.out.grown (sm_grown w8 B9 2 [.slice r.A r.ev.parents.length r.cap]) (fun k hk he => by injection he with he; have := (HRM.out.lt k hk).1; omega))
      simp only [World.setCells] at HRN
      replace HS := Lib.hid (HS.out.set 2 (.slice r.A r.ev.parents.length r.cap))
      simp only [List.setIfInBounds_toArray, List.set_cons_succ, List.set_cons_zero] at HS
      go_upto_region 24 with (fail)
      clear p7 p9 pf
      generalize w8.setCell _ _ = w9 at HS HRN ⊢
      have g0 : w9.cell? ⟨B9, 0, none⟩ = some (.string x.ev.id) := cell_at HS.out.b9 0
      have g1 : w9.cell? ⟨B9, 1, none⟩ = some (.string x.ev.room) := cell_at HS.out.b9 1
      have g2 : w9.cell? ⟨B9, 2, none⟩ = some (.slice r.A r.ev.parents.length r.cap) := cell_at HS.out.b9 2
      have g3 : w9.cell? ⟨B9, 3, none⟩ = some (.string x.ev.thread) := cell_at HS.out.b9 3
      have g4 : w9.cell? ⟨B9, 4, none⟩ = some (.string x.ev.user) := cell_at HS.out.b9 4
      have g5 : w9.cell? ⟨B9, 5, none⟩ = some (.int .i64 x.ev.does) := cell_at HS.out.b9 5
      have r0 : w9.cell? ⟨B8, 0, none⟩ = some (.string ⟨#[]⟩) := cell_at HS.out.b8 0
      have rf0 : w9.frozen? ⟨B8, 0, none⟩ = false := free_at HS.out.b8 0
      have r1 : w9.cell? ⟨B8, 1, none⟩ = some (.string ⟨#[]⟩) := cell_at HS.out.b8 1
      have rf1 : w9.frozen? ⟨B8, 1, none⟩ = false := free_at HS.out.b8 1
      have r2 : w9.cell? ⟨B8, 2, none⟩ = some (.slice none 0 0) := cell_at HS.out.b8 2
      have rf2 : w9.frozen? ⟨B8, 2, none⟩ = false := free_at HS.out.b8 2
      have r3 : w9.cell? ⟨B8, 3, none⟩ = some (.string ⟨#[]⟩) := cell_at HS.out.b8 3
      have rf3 : w9.frozen? ⟨B8, 3, none⟩ = false := free_at HS.out.b8 3
      have r4 : w9.cell? ⟨B8, 4, none⟩ = some (.string ⟨#[]⟩) := cell_at HS.out.b8 4
      have rf4 : w9.frozen? ⟨B8, 4, none⟩ = false := free_at HS.out.b8 4
      have r5 : w9.cell? ⟨B8, 5, none⟩ = some (.int .i64 0) := cell_at HS.out.b8 5
      have rf5 : w9.frozen? ⟨B8, 5, none⟩ = false := free_at HS.out.b8 5
      have HAN := Lib.hid (HS.out.answer (.string x.ev.id) (.string x.ev.room) (.slice r.A r.ev.parents.length r.cap) (.string x.ev.thread) (.string x.ev.user) (.int .i64 x.ev.does) _ rfl)
      simp only [World.setCells] at HAN
      go_wp2_with fail
      clear g0 g1 g2 g3 g4 g5 r0 r1 r2 r3 r4 r5 rf0 rf1 rf2 rf3 rf4 rf5
      generalize World.setCell _ _ _ = wA at HAN ⊢
      obtain ⟨k0, k1, k2, k3, k4, k5, k6, k7⟩ := HAN.out
      have HRF := Lib.hid (HRN.out.grown k7 (fun k hk he => by injection he with he; have := (HRN.out.lt k hk).1; omega))
      obtain ⟨x1, x2, x3, x4, x5, x6⟩ := HX0.out.2
      obtain ⟨y1, y2, y3, y4, y5, y6⟩ := HRO.out
      refine bodyPost_ret (v := .agg #[.string x.ev.id, .string x.ev.room, .slice r.A r.ev.parents.length r.cap, .string x.ev.thread, .string x.ev.user, .int .i64 x.ev.does]) ?_ rfl ?_
      · simp [results, Tryz.results9, go_sem, k0, k1, k2, k3, k4, k5]
      · exact ⟨⟨⟨x.ev.id, x.ev.room, r.ev.parents, x.ev.thread, x.ev.user, x.ev.does⟩, r.A, r.cap⟩, rfl, ⟨HRF.out.slice, ⟨x1, x2, x3, x4, y5, x6⟩⟩, (by unfold oddE; rw [← HXB.out, ← HRE.out, HZN.out]; rfl), k6, (fun j hj => .inr (by have h8 := (HRF.out.lt j hj).1; have h9 := HW6.out.size; omega))⟩
    · have p7 : w8.cell? ⟨B7, 5, none⟩ = some (.int .i64 r.ev.does) := cell_at HS.out.b7 5
      have p9 : w8.cell? ⟨B9, 0, none⟩ = some (.string x.ev.id) := cell_at HS.out.b9 0
      have pf : w8.frozen? ⟨B9, 0, none⟩ = false := free_at HS.out.b9 0
      replace HS := Lib.hid (HS.out.set 0 (.string ⟨#[36, 121]⟩))
      simp only [List.setIfInBounds_toArray, List.set_cons_succ, List.set_cons_zero] at HS
      go_upto_region 22 with (fail)
      clear p7 p9 pf
      generalize w8.setCell _ _ = wb at HS ⊢
      have p7 : wb.cell? ⟨B7, 5, none⟩ = some (.int .i64 r.ev.does) := cell_at HS.out.b7 5
      go_wp2_with fail
      go_at_call 25
      refine (eventOf_any r.ev.does _ HRO.out.2.2.2.2.2.1 HRO.out.2.2.2.2.2.2).mono ?_
      rintro e wc ⟨rfl, bc⟩
      replace HS := Lib.hid (HS.out.on bc)
      clear p7 bc
      have hes := eventS_size r.ev.does
      have HES : Hid (∃ s, s = eventS r.ev.does) := Lib.hid ⟨_, rfl⟩
      have HTE : Hid (turnE x.ev r.ev 6 = ⟨⟨#[36, 121]⟩, x.ev.room, x.ev.parents, eventS r.ev.does, x.ev.user, 0⟩) := Lib.hid rfl
      generalize eventS r.ev.does = s at hes HTE ⊢
      have p9 : wc.cell? ⟨B9, 3, none⟩ = some (.string x.ev.thread) := cell_at HS.out.b9 3
      have pf : wc.frozen? ⟨B9, 3, none⟩ = false := free_at HS.out.b9 3
      replace HS := Lib.hid (HS.out.set 3 (.string s))
      simp only [List.setIfInBounds_toArray, List.set_cons_succ, List.set_cons_zero] at HS
      go_upto_region 23 with (fail)
      clear p9 pf
      generalize wc.setCell _ _ = we at HS ⊢
      have p9 : we.cell? ⟨B9, 5, none⟩ = some (.int .i64 x.ev.does) := cell_at HS.out.b9 5
      have pf : we.frozen? ⟨B9, 5, none⟩ = false := free_at HS.out.b9 5
      replace HS := Lib.hid (HS.out.set 5 (.int .i64 0))
      simp only [List.setIfInBounds_toArray, List.set_cons_succ, List.set_cons_zero] at HS
      go_upto_region 24 with (fail)
      clear p9 pf
      generalize we.setCell _ _ = w9 at HS ⊢
      have g0 : w9.cell? ⟨B9, 0, none⟩ = some (.string ⟨#[36, 121]⟩) := cell_at HS.out.b9 0
      have g1 : w9.cell? ⟨B9, 1, none⟩ = some (.string x.ev.room) := cell_at HS.out.b9 1
      have g2 : w9.cell? ⟨B9, 2, none⟩ = some (.slice x.A x.ev.parents.length x.cap) := cell_at HS.out.b9 2
      have g3 : w9.cell? ⟨B9, 3, none⟩ = some (.string s) := cell_at HS.out.b9 3
      have g4 : w9.cell? ⟨B9, 4, none⟩ = some (.string x.ev.user) := cell_at HS.out.b9 4
      have g5 : w9.cell? ⟨B9, 5, none⟩ = some (.int .i64 0) := cell_at HS.out.b9 5
      have r0 : w9.cell? ⟨B8, 0, none⟩ = some (.string ⟨#[]⟩) := cell_at HS.out.b8 0
      have rf0 : w9.frozen? ⟨B8, 0, none⟩ = false := free_at HS.out.b8 0
      have r1 : w9.cell? ⟨B8, 1, none⟩ = some (.string ⟨#[]⟩) := cell_at HS.out.b8 1
      have rf1 : w9.frozen? ⟨B8, 1, none⟩ = false := free_at HS.out.b8 1
      have r2 : w9.cell? ⟨B8, 2, none⟩ = some (.slice none 0 0) := cell_at HS.out.b8 2
      have rf2 : w9.frozen? ⟨B8, 2, none⟩ = false := free_at HS.out.b8 2
      have r3 : w9.cell? ⟨B8, 3, none⟩ = some (.string ⟨#[]⟩) := cell_at HS.out.b8 3
      have rf3 : w9.frozen? ⟨B8, 3, none⟩ = false := free_at HS.out.b8 3
      have r4 : w9.cell? ⟨B8, 4, none⟩ = some (.string ⟨#[]⟩) := cell_at HS.out.b8 4
      have rf4 : w9.frozen? ⟨B8, 4, none⟩ = false := free_at HS.out.b8 4
      have r5 : w9.cell? ⟨B8, 5, none⟩ = some (.int .i64 0) := cell_at HS.out.b8 5
      have rf5 : w9.frozen? ⟨B8, 5, none⟩ = false := free_at HS.out.b8 5
      have HAN := Lib.hid (HS.out.answer (.string ⟨#[36, 121]⟩) (.string x.ev.room) (.slice x.A x.ev.parents.length x.cap) (.string s) (.string x.ev.user) (.int .i64 0) _ rfl)
      simp only [World.setCells] at HAN
      go_wp2_with fail
      clear g0 g1 g2 g3 g4 g5 r0 r1 r2 r3 r4 r5 rf0 rf1 rf2 rf3 rf4 rf5
      generalize World.setCell _ _ _ = wA at HAN ⊢
      obtain ⟨k0, k1, k2, k3, k4, k5, k6, k7⟩ := HAN.out
      obtain ⟨x1, x2, x3, x4, x5, x6⟩ := HX0.out.2
      obtain ⟨y1, y2, y3, y4, y5, y6⟩ := HRO.out
      refine bodyPost_ret (v := .agg #[.string ⟨#[36, 121]⟩, .string x.ev.room, .slice x.A x.ev.parents.length x.cap, .string s, .string x.ev.user, .int .i64 0]) ?_ rfl ?_
      · simp [results, Tryz.results9, go_sem, k0, k1, k2, k3, k4, k5]
      · exact ⟨⟨⟨⟨#[36, 121]⟩, x.ev.room, x.ev.parents, s, x.ev.user, 0⟩, x.A, x.cap⟩, rfl, ⟨(HX0.out.below k6).1, ⟨(show 2 ≤ maxLen by unfold maxLen; omega), x2, hes, x4, x5, ⟨(show (-9223372036854775808 : Int) ≤ 0 by decide), (show (0 : Int) ≤ 9223372036854775807 by decide)⟩⟩⟩, (by unfold oddE; rw [← HXB.out, ← HRE.out, HZN.out]; exact HTE.out.symm), k6, (fun j hj => .inl (HPF.out j hj))⟩
    · have p9 : w8.cell? ⟨B9, 0, none⟩ = some (.string x.ev.id) := cell_at HS.out.b9 0
      have pf : w8.frozen? ⟨B9, 0, none⟩ = false := free_at HS.out.b9 0
      replace HS := Lib.hid (HS.out.set 0 (.string ⟨#[36, 122]⟩))
      simp only [List.setIfInBounds_toArray, List.set_cons_succ, List.set_cons_zero] at HS
      go_upto_region 7 with (fail)
      clear p9 pf
      generalize w8.setCell _ _ = wb at HS ⊢
      have p7 : wb.cell? ⟨B7, 5, none⟩ = some (.int .i64 r.ev.does) := cell_at HS.out.b7 5
      go_wp2_with fail
      go_at_call 25
      refine (eventOf_any r.ev.does _ HRO.out.2.2.2.2.2.1 HRO.out.2.2.2.2.2.2).mono ?_
      rintro e wc ⟨rfl, bc⟩
      replace HS := Lib.hid (HS.out.on bc)
      clear p7 bc
      have hes := eventS_size r.ev.does
      have HTE : Hid (turnE x.ev r.ev 7 = ⟨⟨#[36, 122]⟩, x.ev.room, [eventS r.ev.does], x.ev.thread, x.ev.user, x.ev.does⟩) := Lib.hid rfl
      generalize eventS r.ev.does = s at hes HTE ⊢
      have hB9c : B9 < wc.heap.size := smem_lt HS.out.b9
      have hB8c : B8 < wc.heap.size := smem_lt HS.out.b8
      have HSA := Lib.hid (HS.out.on (below_new wc (.cells #[.string s] 9)))
      have p9 : (wc.alloc (.cells #[.string s] 9)).cell? ⟨B9, 2, none⟩ = some (.slice x.A x.ev.parents.length x.cap) := cell_at HSA.out.b9 2
      have pf : (wc.alloc (.cells #[.string s] 9)).frozen? ⟨B9, 2, none⟩ = false := free_at HSA.out.b9 2
      have hsz := (sm_size B9 [.slice (some ⟨wc.heap.size, 0, none⟩) 1 1] 2 wc).1
      simp only [World.setCells] at hsz
      have HLM := Lib.hid (lit_mine (wc.setCell ⟨B9, 2, none⟩ (.slice (some ⟨wc.heap.size, 0, none⟩) 1 1)) s)
      rw [hsz] at HLM
      replace HS := Lib.hid (HS.out.set 2 (.slice (some ⟨wc.heap.size, 0, none⟩) 1 1))
      simp only [List.setIfInBounds_toArray, List.set_cons_succ, List.set_cons_zero] at HS
      replace HS := Lib.hid (HS.out.on (below_new _ (.cells #[.string s] 9)))
      clear HSA hsz
      go_upto_region 24 with (fail)
      clear p9 pf
      generalize World.alloc _ _ = w9 at HS HLM ⊢
      generalize wc.heap.size = Bs at HS HLM hB8c ⊢
      have g0 : w9.cell? ⟨B9, 0, none⟩ = some (.string ⟨#[36, 122]⟩) := cell_at HS.out.b9 0
      have g1 : w9.cell? ⟨B9, 1, none⟩ = some (.string x.ev.room) := cell_at HS.out.b9 1
      have g2 : w9.cell? ⟨B9, 2, none⟩ = some (.slice (some ⟨Bs, 0, none⟩) 1 1) := cell_at HS.out.b9 2
      have g3 : w9.cell? ⟨B9, 3, none⟩ = some (.string x.ev.thread) := cell_at HS.out.b9 3
      have g4 : w9.cell? ⟨B9, 4, none⟩ = some (.string x.ev.user) := cell_at HS.out.b9 4
      have g5 : w9.cell? ⟨B9, 5, none⟩ = some (.int .i64 x.ev.does) := cell_at HS.out.b9 5
      have r0 : w9.cell? ⟨B8, 0, none⟩ = some (.string ⟨#[]⟩) := cell_at HS.out.b8 0
      have rf0 : w9.frozen? ⟨B8, 0, none⟩ = false := free_at HS.out.b8 0
      have r1 : w9.cell? ⟨B8, 1, none⟩ = some (.string ⟨#[]⟩) := cell_at HS.out.b8 1
      have rf1 : w9.frozen? ⟨B8, 1, none⟩ = false := free_at HS.out.b8 1
      have r2 : w9.cell? ⟨B8, 2, none⟩ = some (.slice none 0 0) := cell_at HS.out.b8 2
      have rf2 : w9.frozen? ⟨B8, 2, none⟩ = false := free_at HS.out.b8 2
      have r3 : w9.cell? ⟨B8, 3, none⟩ = some (.string ⟨#[]⟩) := cell_at HS.out.b8 3
      have rf3 : w9.frozen? ⟨B8, 3, none⟩ = false := free_at HS.out.b8 3
      have r4 : w9.cell? ⟨B8, 4, none⟩ = some (.string ⟨#[]⟩) := cell_at HS.out.b8 4
      have rf4 : w9.frozen? ⟨B8, 4, none⟩ = false := free_at HS.out.b8 4
      have r5 : w9.cell? ⟨B8, 5, none⟩ = some (.int .i64 0) := cell_at HS.out.b8 5
      have rf5 : w9.frozen? ⟨B8, 5, none⟩ = false := free_at HS.out.b8 5
      have HAN := Lib.hid (HS.out.answer (.string ⟨#[36, 122]⟩) (.string x.ev.room) (.slice (some ⟨Bs, 0, none⟩) 1 1) (.string x.ev.thread) (.string x.ev.user) (.int .i64 x.ev.does) _ rfl)
      simp only [World.setCells] at HAN
      go_wp2_with fail
      clear g0 g1 g2 g3 g4 g5 r0 r1 r2 r3 r4 r5 rf0 rf1 rf2 rf3 rf4 rf5
      generalize World.setCell _ _ _ = wA at HAN ⊢
      obtain ⟨k0, k1, k2, k3, k4, k5, k6, k7⟩ := HAN.out
      have HLF := Lib.hid (HLM.out.grown k7 (fun k hk he => by injection he with he; have := (HLM.out.lt k hk).1; omega))
      obtain ⟨x1, x2, x3, x4, x5, x6⟩ := HX0.out.2
      obtain ⟨y1, y2, y3, y4, y5, y6⟩ := HRO.out
      refine bodyPost_ret (v := .agg #[.string ⟨#[36, 122]⟩, .string x.ev.room, .slice (some ⟨Bs, 0, none⟩) 1 1, .string x.ev.thread, .string x.ev.user, .int .i64 x.ev.does]) ?_ rfl ?_
      · simp [results, Tryz.results9, go_sem, k0, k1, k2, k3, k4, k5]
      · exact ⟨⟨⟨⟨#[36, 122]⟩, x.ev.room, [s], x.ev.thread, x.ev.user, x.ev.does⟩, some ⟨Bs, 0, none⟩, 1⟩, rfl, ⟨HLF.out.slice, ⟨(show 2 ≤ maxLen by unfold maxLen; omega), x2, x3, x4, (fun p hp => by rw [List.mem_singleton.1 hp]; exact hes), x6⟩⟩, (by unfold oddE; rw [← HXB.out, ← HRE.out, HZN.out]; exact HTE.out.symm), k6, (fun j hj => .inr (by have h8 := (HLF.out.lt j hj).1; have h9 := HS.out.lo8; omega))⟩
end Go.Proofs.YtjiecjpepiknmaaGreat
