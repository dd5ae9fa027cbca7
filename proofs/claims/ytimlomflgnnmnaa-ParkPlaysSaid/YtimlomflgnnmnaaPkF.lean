/-
  The document's park: Put.
-/
import Derived.Test.YtimlomflgnnmnaaPkD
namespace Go.Proofs.Ytimlomflgnnmnaa
set_option maxRecDepth 20000
open Go.RowKit
set_option linter.unusedVariables false
set_option linter.unusedSimpArgs false

theorem p_info : (Try.prog.info? 30).map (·.size) = some 3 := by kernel_rfl
theorem one3 (a c : Int) (A : Option Addr) (n k : Nat) : (#[.int .i64 a, .slice A n k, .int .i64 c] : Array Value).all (·.oneCell') = true := by simp [Value.oneCell']
theorem cells3 {w : World} {g : Nat} {t : TypeId} {x0 x1 x2 : Value} (h : w.heap[g]? = some (.cells #[x0, x1, x2] t (0, 0))) : w.cell? ⟨g, 0, none⟩ = some x0 ∧ w.cell? ⟨g, 1, none⟩ = some x1 ∧ w.cell? ⟨g, 2, none⟩ = some x2 := ⟨cell_at h 0, cell_at h 1, cell_at h 2⟩
/-- Four boxes: a park and an EDU that are handed in, those that are answered; all below block B0. -/
structure DpS (w W : World) (v : Value) (l : List Edu) (a c : Int) (cs : Array Value) (g2 g3 g4 g5 B0 : Nat) : Prop where
  below : Below w.heap.size w W
  row0 : LE.Slice w v l
  b2 : W.heap[g2]? = some (.cells #[.int .i64 a, v, .int .i64 c] 30 (0, 0))
  b3 : W.heap[g3]? = some (.cells cs 32 (0, 0))
  b4 : ∃ X : Array Value, X.size = 3 ∧ W.heap[g4]? = some (.cells X 30 (0, 0))
  b5 : ∃ X : Array Value, X.size = 11 ∧ W.heap[g5]? = some (.cells X 32 (0, 0))
  ne : (g2 ≠ g4 ∧ g2 ≠ g5) ∧ (g3 ≠ g4 ∧ g3 ≠ g5) ∧ g4 ≠ g5
  lo : w.heap.size ≤ g4 ∧ w.heap.size ≤ g5
  hi : g4 < B0 ∧ g5 < B0 ∧ B0 ≤ W.heap.size ∧ w.heap.size ≤ B0
section
variable {w W W' : World} {v : Value} {l : List Edu} {a c : Int} {cs : Array Value} {g2 g3 g4 g5 B0 : Nat}
theorem DpS.row (h : DpS w W v l a c cs g2 g3 g4 g5 B0) : LE.Slice W v l := h.row0.below h.below
theorem DpS.on (h : DpS w W v l a c cs g2 g3 g4 g5 B0) (hb : Below B0 W W') (h2 : g2 < B0 ∧ g3 < B0) : DpS w W' v l a c cs g2 g3 g4 g5 B0 := by
  obtain ⟨X, hX, h4⟩ := h.b4
  obtain ⟨Y, hY, h5⟩ := h.b5
  exact ⟨h.below.trans (hb.mono h.hi.2.2.2), h.row0, (hb.block _ h2.1).trans h.b2, (hb.block _ h2.2).trans h.b3, ⟨X, hX, (hb.block _ h.hi.1).trans h4⟩, ⟨Y, hY, (hb.block _ h.hi.2.1).trans h5⟩, h.ne, h.lo, h.hi.1, h.hi.2.1, Nat.le_trans h.hi.2.2.1 hb.size, h.hi.2.2.2⟩
theorem DpS.later (h : DpS w W v l a c cs g2 g3 g4 g5 B0) (hb : Below W.heap.size W W') : DpS w W' v l a c cs g2 g3 g4 g5 B0 := by
  obtain ⟨X, hX, h4⟩ := h.b4
  obtain ⟨Y, hY, h5⟩ := h.b5
  exact ⟨h.below.trans (hb.mono h.below.size), h.row0, (hb.block _ (smem_lt h.b2)).trans h.b2, (hb.block _ (smem_lt h.b3)).trans h.b3, ⟨X, hX, (hb.block _ (smem_lt h4)).trans h4⟩, ⟨Y, hY, (hb.block _ (smem_lt h5)).trans h5⟩, h.ne, h.lo, h.hi.1, h.hi.2.1, Nat.le_trans h.hi.2.2.1 hb.size, h.hi.2.2.2⟩
theorem DpS.set4 {X : Array Value} (h : DpS w W v l a c cs g2 g3 g4 g5 B0) (hX : X.size = 3) : DpS w (W.setRow g4 X) v l a c cs g2 g3 g4 g5 B0 ∧ (W.setRow g4 X).heap[g4]? = some (.cells X 30 (0, 0)) := by
  obtain ⟨X0, hX0, h4⟩ := h.b4
  obtain ⟨Y, hY, h5⟩ := h.b5
  have hr := setRow_heap W g4 X0 X _ _ h4
  have ho : ∀ k, k ≠ g4 → (W.setRow g4 X).heap[k]? = W.heap[k]? := fun k hk => setRow_other W g4 k X hk
  have hb : Below g4 W (W.setRow g4 X) := below_setRow (Below.refl _ _) (Nat.le_refl _) X
  exact ⟨⟨below_setRow h.below h.lo.1 X, h.row0, (ho _ h.ne.1.1).trans h.b2, (ho _ h.ne.2.1.1).trans h.b3, ⟨X, hX, hr⟩, ⟨Y, hY, (ho _ (fun e => h.ne.2.2 e.symm)).trans h5⟩, h.ne, h.lo, h.hi.1, h.hi.2.1, Nat.le_trans h.hi.2.2.1 hb.size, h.hi.2.2.2⟩, hr⟩
theorem DpS.set5 {X Y : Array Value} (h : DpS w W v l a c cs g2 g3 g4 g5 B0) (hX : X.size = 11) (h4 : W.heap[g4]? = some (.cells Y 30 (0, 0))) : DpS w (W.setRow g5 X) v l a c cs g2 g3 g4 g5 B0 ∧ (W.setRow g5 X).heap[g5]? = some (.cells X 32 (0, 0)) ∧ (W.setRow g5 X).heap[g4]? = some (.cells Y 30 (0, 0)) := by
  obtain ⟨Y0, hY0, h4'⟩ := h.b4
  obtain ⟨X0, hX0, h5⟩ := h.b5
  have hr := setRow_heap W g5 X0 X _ _ h5
  have ho : ∀ k, k ≠ g5 → (W.setRow g5 X).heap[k]? = W.heap[k]? := fun k hk => setRow_other W g5 k X hk
  have hb : Below g5 W (W.setRow g5 X) := below_setRow (Below.refl _ _) (Nat.le_refl _) X
  exact ⟨⟨below_setRow h.below h.lo.2 X, h.row0, (ho _ h.ne.1.2).trans h.b2, (ho _ h.ne.2.1.2).trans h.b3, ⟨Y0, hY0, (ho _ h.ne.2.2).trans h4'⟩, ⟨X, hX, hr⟩, h.ne, h.lo, h.hi.1, h.hi.2.1, Nat.le_trans h.hi.2.2.1 hb.size, h.hi.2.2.2⟩, hr, (ho _ h.ne.2.2).trans h4⟩
/-- A row from block B0 on stays while boxes are written. -/
theorem mine_row {u : Value} {us : List Edu} {g : Nat} {X : Array Value} (hm : LE.Mine W B0 u us) (hg : g < B0) : LE.Mine (W.setRow g X) B0 u us := hm.keep (fun k hk => setRow_other W g k X (by have := (hm.lt k hk).1; omega))
end
theorem heap_push (w : World) (o : Obj) {k : Nat} {x : Obj} (h : w.heap[k]? = some x) : (w.alloc o).heap[k]? = some x := (heap_alloc_old w o (smem_lt h)).trans h
theorem DpS.start (w : World) {v : Value} {l : List Edu} (hr : LE.Slice w v l) (a c : Int) (cs X4 X5 : Array Value) (h4 : X4.size = 3) (h5 : X5.size = 11) :
    DpS w ((((w.alloc (.cells #[.int .i64 a, v, .int .i64 c] 30)).alloc (.cells cs 32)).alloc (.cells X4 30)).alloc (.cells X5 32)) v l a c cs w.heap.size (w.heap.size + 1) (w.heap.size + 1 + 1) (w.heap.size + 1 + 1 + 1) (w.heap.size + 1 + 1 + 1 + 1) := by
  have e1 := heap_alloc_new w (.cells #[.int .i64 a, v, .int .i64 c] 30)
  have s1 := size_alloc1 w (.cells #[.int .i64 a, v, .int .i64 c] 30)
  have b1 := below_new w (.cells #[.int .i64 a, v, .int .i64 c] 30)
  generalize w.alloc (.cells #[.int .i64 a, v, .int .i64 c] 30) = w1 at *
  have e2 := heap_alloc_new w1 (.cells cs 32)
  have s2 := size_alloc1 w1 (.cells cs 32)
  have b2 := b1.trans ((below_new w1 (.cells cs 32)).mono (by omega))
  have e1 := heap_push w1 (.cells cs 32) e1
  generalize w1.alloc (.cells cs 32) = w2 at *
  have e3 := heap_alloc_new w2 (.cells X4 30)
  have s3 := size_alloc1 w2 (.cells X4 30)
  have b3 := b2.trans ((below_new w2 (.cells X4 30)).mono (by omega))
  have e1 := heap_push w2 (.cells X4 30) e1
  have e2 := heap_push w2 (.cells X4 30) e2
  generalize w2.alloc (.cells X4 30) = w3 at *
  have e4 := heap_alloc_new w3 (.cells X5 32)
  have s4 := size_alloc1 w3 (.cells X5 32)
  have b4 := b3.trans ((below_new w3 (.cells X5 32)).mono (by omega))
  have e1 := heap_push w3 (.cells X5 32) e1
  have e2 := heap_push w3 (.cells X5 32) e2
  have e3 := heap_push w3 (.cells X5 32) e3
  rw [show w1.heap.size = w.heap.size + 1 by omega] at e2
  rw [show w2.heap.size = w.heap.size + 1 + 1 by omega] at e3
  rw [show w3.heap.size = w.heap.size + 1 + 1 + 1 by omega] at e4
  exact ⟨b4, hr, e1, e2, ⟨X4, h4, e3⟩, ⟨X5, h5, e4⟩, by omega, by omega, by omega⟩
/-- What Put of the document answers: the same park, or one whose row is new. -/
def DocP (w w' : World) (v v' : Value) (p p' : Pk) : Prop := (v' = v ∧ p' = p) ∨ LE.Mine w' w.heap.size v' p'.l

set_option maxHeartbeats 6400000 in
theorem docPut_any {w : World} {v : Value} {p : Pk} (h : LE.Slice w v p.l) (e : Edu) (hl : p.l.length ≤ 100000) (hc : p.lost ≤ 100000) (hm : p.most ≤ 100000) :
    Calls Try.prog 15 #[.agg #[.int .i64 (p.most : Int), v, .int .i64 (p.lost : Int)], e.val] w fun x w' => ∃ v', x = .returned (.tuple #[.agg #[.int .i64 ((p.put e).most : Int), v', .int .i64 ((p.put e).lost : Int)], (p.gone e).val, .bool (p.goes e)]) ∧ DocP w w' v v' p (p.put e) ∧ Below w.heap.size w w' := by
  obtain ⟨most, l, lost⟩ := p
  simp only at hl hc hm h ⊢
  have HHit := Lib.hid (fun (a : Nat) (x : Edu) (hx : l[a]? = some x) (hq : eqE x e = true) => hasP_hit hx hq)
  have HMiss := Lib.hid (fun h => hasP_miss (l := l) (e := e) h)
  have HY := Lib.hid (fun hh => Pk.put_has (p := ⟨most, l, lost⟩) (e := e) hh)
  have HI := Lib.hid (fun hh ho => Pk.put_in (p := ⟨most, l, lost⟩) (e := e) hh ho)
  have HO := Lib.hid (fun hh ho => Pk.put_out (p := ⟨most, l, lost⟩) (e := e) hh ho)
  simp only at HY HI HO
  generalize Pk.put ⟨most, l, lost⟩ e = pp at *
  generalize Pk.goes ⟨most, l, lost⟩ e = gb at *
  generalize Pk.gone ⟨most, l, lost⟩ e = ge at *
  have HOV := Lib.hid (show Pk.over ⟨most, l, lost⟩ = decide (most < l.length + 1) from rfl)
  generalize Pk.over ⟨most, l, lost⟩ = ov at *
  generalize hasP l e = R at *
  have heq := fun x w => eql_edu x e w
  obtain ⟨A, cap, rfl, h1, h2, -⟩ := id h
  unfold maxLen at h2
  have HS := Lib.hid (DpS.start w h (most : Int) (lost : Int) e.cells.toArray #[.int .i64 0, .slice none 0 0, .int .i64 0] #[.int .i64 0, .string ⟨#[]⟩, .string ⟨#[]⟩, .string ⟨#[]⟩, .string ⟨#[]⟩, .bool false, .bool false, .int .i64 0, .int .i64 0, .int .i64 0, .int .i64 0] rfl rfl)
  obtain ⟨k, r, u, z, t, pr, o, s, y, c, m⟩ := e
  simp only [Edu.val, Edu.cells, zeroE] at *
  clear h
  go_enter Try.func15, Try.ntmps15
  go_upto_region 1 with (fail)
  generalize World.alloc _ _ = W at HS ⊢
  have HG := Lib.hid (show w.heap.size < w.heap.size + 1 + 1 + 1 + 1 ∧ w.heap.size + 1 < w.heap.size + 1 + 1 + 1 + 1 by omega)
  generalize w.heap.size + 1 + 1 + 1 + 1 = B0 at HS HG ⊢
  generalize w.heap.size + 1 + 1 + 1 = g5 at HS ⊢
  generalize w.heap.size + 1 + 1 = g4 at HS ⊢
  generalize w.heap.size + 1 = g3 at HS HG ⊢
  obtain ⟨g2, hg2⟩ : ∃ g, w.heap.size = g := ⟨_, rfl⟩
  have HLO : Hid (w.heap.size = g2) := Lib.hid hg2
  rw [hg2] at HS HG ⊢
  clear hg2
  go_wp2_with fail
  go_loopw [7] (fun i wr => ∃ a : Nat, i = .int .i64 (a : Int) ∧ a ≤ l.length ∧ Hid (DpS w wr (.slice A l.length cap) l (most : Int) (lost : Int) #[.int .i64 k, .string r, .string u, .string z, .string t, .bool pr, .bool o, .int .i64 s, .int .i64 y, .int .i64 c, .int .i64 m] g2 g3 g4 g5 B0) ∧ Hid (∀ (j : Nat) x, j < a → l[j]? = some x → eqE x ⟨k, r, u, z, t, pr, o, s, y, c, m⟩ = false)) (fun i _ => l.length - (intOf i).toNat)
  case atStart => exact ⟨0, rfl, Nat.zero_le _, HS, Lib.hid (fun j x hj => by omega)⟩
  case round =>
    obtain ⟨a, rfl, ha, HA, HN⟩ := hrel
    clear HS
    obtain ⟨c0, c1, c2⟩ := cells3 HA.out.b2
    by_cases hax : a < l.length
    · have q1 : decide ((a : Int) < (l.length : Int)) = true := decide_eq_true (by omega)
      have hx : l[a]? = some l[a] := List.getElem?_eq_getElem hax
      generalize l[a] = x at hx
      have HX := Lib.hid hx
      obtain ⟨bo, oo, rfl, hbo, hco⟩ := HA.out.row.at hx
      have hiy := index_any (P := Try.prog) knE (by decide) (b := bo) (off := oo) (cap := cap) hax
      simp only [LE] at hiy hco
      obtain ⟨a0, a1, a2, a3, a4, a5, a6, a7, a8, a9, a10⟩ := range11 hco
      obtain ⟨d0, d1, d2, d3, d4, d5, d6, d7, d8, d9, d10⟩ := cells11 HA.out.b3
      have heq := heq x
      have HSN : Hid (eqE x ⟨k, r, u, z, t, pr, o, s, y, c, m⟩ = false → ∀ (j : Nat) x, j < a + 1 → l[j]? = some x → eqE x ⟨k, r, u, z, t, pr, o, s, y, c, m⟩ = false) := Lib.hid (fun hf j x2 hj hy => by
        by_cases hja : j = a
        · subst hja
          rw [HX.out] at hy
          injection hy with hy
          rw [← hy]; exact hf
        · exact HN.out j x2 (by omega) hy)
      have HHA := Lib.hid (fun hq => HHit.out a x hx hq)
      clear hx hco
      generalize eqE x ⟨k, r, u, z, t, pr, o, s, y, c, m⟩ = M at heq HSN HHA
      obtain ⟨xk, xr, xu, xz, xt, xp, xo, xs, xy, xc, xm⟩ := x
      simp only at a0 a1 a2 a3 a4 a5 a6 a7 a8 a9 a10 heq
      go_wp2_with fail
      go_quiet (fail)
      clear d0 d1 d2 d3 d4 d5 d6 d7 d8 d9 d10 a0 a1 a2 a3 a4 a5 a6 a7 a8 a9 a10 heq hiy c0 c1 c2
      replace HA := Lib.hid (HA.out.later (below_drewN (Below.refl _ _) nq))
      generalize World.drewN _ _ = w1 at HA ⊢
      cases M
      · have HN2 := Lib.hid (HSN.out rfl)
        clear HSN HHA
        go_wp2_with fail
        refine ⟨⟨a + 1, by go_num, by omega, HA, HN2⟩, ?_⟩
        simp [intOf]; omega
      · have HF := HHA.out rfl
        subst HF
        clear HSN HHA HMiss HHit
        obtain ⟨rfl, rfl, rfl⟩ := HY.out (by trivial)
        clear HY HI HO HOV HN
        obtain ⟨c0, c1, c2⟩ := cells3 HA.out.b2
        obtain ⟨X4, hX4, hx4⟩ := HA.out.b4
        obtain ⟨HS4, H4⟩ := HA.out.set4 (X := #[.int .i64 (most : Int), .slice (some ⟨bo, oo, none⟩) l.length cap, .int .i64 (lost : Int)]) rfl
        obtain ⟨X5, hX5, hx5⟩ := HS4.b5
        obtain ⟨HS5, H5, H45⟩ := HS4.set5 (X := #[.int .i64 0, .string ⟨#[]⟩, .string ⟨#[]⟩, .string ⟨#[]⟩, .string ⟨#[]⟩, .bool false, .bool false, .int .i64 0, .int .i64 0, .int .i64 0, .int .i64 0]) rfl H4
        have HS5 := Lib.hid HS5
        have H5 := Lib.hid H5
        have H45 := Lib.hid H45
        replace hx4 := Lib.hid hx4
        replace hx5 := Lib.hid hx5
        clear HA HS4 H4
        go_wp2_with (first
          | refine wpList_store_row rfl 30 (.tmp 4) (.tmp 23) rfl g4 #[.int .i64 (most : Int), .slice (some ⟨bo, oo, none⟩) l.length cap, .int .i64 (lost : Int)] rfl rfl 30 X4 hx4.out p_info hX4 (one3 _ _ _ _ _) ?_
          | refine wpList_store_row rfl 32 (.tmp 5) (.tmp 24) rfl g5 #[.int .i64 0, .string ⟨#[]⟩, .string ⟨#[]⟩, .string ⟨#[]⟩, .string ⟨#[]⟩, .bool false, .bool false, .int .i64 0, .int .i64 0, .int .i64 0, .int .i64 0] rfl rfl 32 X5 hx5.out edu_info hX5 (one11 _ _ _ _ _ _ _ _ _ _ _) ?_)
        generalize hW2 : World.setRow _ _ _ = W3 at HS5 H5 H45 ⊢
        clear hW2
        obtain ⟨e0, e1, e2⟩ := cells3 H45.out
        obtain ⟨d0, d1, d2, d3, d4, d5, d6, d7, d8, d9, d10⟩ := cells11 H5.out
        refine bodyPost_ret (v := .tuple #[.agg #[.int .i64 (most : Int), .slice (some ⟨bo, oo, none⟩) l.length cap, .int .i64 (lost : Int)], .agg #[.int .i64 0, .string ⟨#[]⟩, .string ⟨#[]⟩, .string ⟨#[]⟩, .string ⟨#[]⟩, .bool false, .bool false, .int .i64 0, .int .i64 0, .int .i64 0, .int .i64 0], .bool false]) ?_ rfl ⟨_, rfl, .inl ⟨rfl, rfl⟩, HS5.out.below⟩
        simp [results, Try.results15, go_sem, e0, e1, e2, d0, d1, d2, d3, d4, d5, d6, d7, d8, d9, d10]
    · have q1 : decide ((a : Int) < (l.length : Int)) = false := decide_eq_false (by omega)
      have HF := HMiss.out (fun j x hj hx => HN.out j x (by omega) hx)
      subst HF
      replace HI := Lib.hid (HI.out (by trivial))
      replace HO := Lib.hid (HO.out (by trivial))
      clear HY HMiss HHit HN
      have HSR := Lib.hid (HA.out.row.srcN knE (n := l.length) rfl)
      have HLB := Lib.hid HA.out.hi.2.2.1
      clear heq
      go_upto_region 8 with (refine wpList_putsB rfl knE (.tmp 25) (.tmp 27) 22 rfl (.slice none 0 0) rfl [] (Lies.Mine.nil _ B0) HLB.out (.slice A l.length cap) l l.length rfl rfl HSR.out l.length (Nat.zero_add _) (by omega) l rfl (fun A2 cap2 w6 hm6 hb6 => ?_))
      replace HA := Lib.hid (HA.out.on hb6 HG.out)
      have HM6 := Lib.hid hm6
      clear hm6 hb6 HSR HLB c0 c1 c2 q1
      obtain ⟨d0, d1, d2, d3, d4, d5, d6, d7, d8, d9, d10⟩ := cells11 HA.out.b3
      have hsr : LE.Slice (w6.alloc (.cells #[.int .i64 k, .string r, .string u, .string z, .string t, .bool pr, .bool o, .int .i64 s, .int .i64 y, .int .i64 c, .int .i64 m] 32)) (.slice (some ⟨w6.heap.size, 0, none⟩) 1 1) [⟨k, r, u, z, t, pr, o, s, y, c, m⟩] := lit_slice (L := LE) w6 ⟨k, r, u, z, t, pr, o, s, y, c, m⟩ w6.heap.size rfl #[.int .i64 k, .string r, .string u, .string z, .string t, .bool pr, .bool o, .int .i64 s, .int .i64 y, .int .i64 c, .int .i64 m] rfl
      have HSR := Lib.hid (hsr.srcN knE (n := 1) rfl)
      have hbl := below_new w6 (.cells #[.int .i64 k, .string r, .string u, .string z, .string t, .bool pr, .bool o, .int .i64 s, .int .i64 y, .int .i64 c, .int .i64 m] 32)
      have HM7 := Lib.hid (HM6.out.below hbl)
      have HA7 := Lib.hid (HA.out.later hbl)
      have HLB := Lib.hid HA7.out.hi.2.2.1
      clear hsr hbl HM6 HA
      obtain ⟨l2, hl2⟩ : ∃ l2, l ++ [(⟨k, r, u, z, t, pr, o, s, y, c, m⟩ : Edu)] = l2 := ⟨_, rfl⟩
      obtain ⟨n, hnn⟩ : ∃ n, l.length + 1 = n := ⟨_, rfl⟩
      have hn : l2.length = n := by rw [← hl2, ← hnn]; simp
      have hnb : n ≤ 1000000 := by omega
      rw [hnn] at HOV
      rw [hl2] at HI HO
      have HNN := Lib.hid hnn
      have HL2 := Lib.hid hl2
      have HN := Lib.hid hn
      clear hnn hl2 hn
      go_upto_region 9 with (refine wpList_putsB rfl knE (.tmp 29) (.tmp 31) 22 rfl (.slice A2 l.length cap2) rfl l HM7.out HLB.out (.slice (some ⟨w6.heap.size, 0, none⟩) 1 1) [⟨k, r, u, z, t, pr, o, s, y, c, m⟩] 1 rfl rfl HSR.out n HNN.out hnb l2 HL2.out (fun A3 cap3 w8 hm8 hb8 => ?_))
      replace HA7 := Lib.hid (HA7.out.on hb8 HG.out)
      have HM8 := Lib.hid hm8
      clear hm8 hb8 HM7 HSR HLB d0 d1 d2 d3 d4 d5 d6 d7 d8 d9 d10
      obtain ⟨c0, c1, c2⟩ := cells3 HA7.out.b2
      cases ov
      · have q1 : decide ((most : Int) < (n : Int)) = false := decide_eq_false (by
          have := HOV.out
          rw [eq_comm, decide_eq_false_iff_not] at this
          omega)
        have q2 : decide (most < n) = false := HOV.out.symm
        obtain ⟨rfl, rfl, rfl⟩ := HI.out (by trivial)
        clear HI HO HOV
        obtain ⟨X4, hX4, hx4⟩ := HA7.out.b4
        obtain ⟨HS4, H4⟩ := HA7.out.set4 (X := #[.int .i64 (most : Int), .slice A3 n cap3, .int .i64 (lost : Int)]) rfl
        obtain ⟨X5, hX5, hx5⟩ := HS4.b5
        obtain ⟨HS5, H5, H45⟩ := HS4.set5 (X := #[.int .i64 0, .string ⟨#[]⟩, .string ⟨#[]⟩, .string ⟨#[]⟩, .string ⟨#[]⟩, .bool false, .bool false, .int .i64 0, .int .i64 0, .int .i64 0, .int .i64 0]) rfl H4
        have HM9 := Lib.hid (mine_row (X := #[.int .i64 0, .string ⟨#[]⟩, .string ⟨#[]⟩, .string ⟨#[]⟩, .string ⟨#[]⟩, .bool false, .bool false, .int .i64 0, .int .i64 0, .int .i64 0, .int .i64 0]) (mine_row (X := #[.int .i64 (most : Int), .slice A3 n cap3, .int .i64 (lost : Int)]) HM8.out HA7.out.hi.1) HA7.out.hi.2.1)
        have HLT : Hid (w.heap.size ≤ B0) := Lib.hid HA7.out.hi.2.2.2
        have HS5 := Lib.hid HS5
        have H5 := Lib.hid H5
        have H45 := Lib.hid H45
        replace hx4 := Lib.hid hx4
        replace hx5 := Lib.hid hx5
        clear HA7 HS4 H4 HM8
        go_wp2_with (first
          | refine wpList_store_row rfl 30 (.tmp 4) (.tmp 54) rfl g4 #[.int .i64 (most : Int), .slice A3 n cap3, .int .i64 (lost : Int)] rfl rfl 30 X4 hx4.out p_info hX4 (one3 _ _ _ _ _) ?_
          | refine wpList_store_row rfl 32 (.tmp 5) (.tmp 55) rfl g5 #[.int .i64 0, .string ⟨#[]⟩, .string ⟨#[]⟩, .string ⟨#[]⟩, .string ⟨#[]⟩, .bool false, .bool false, .int .i64 0, .int .i64 0, .int .i64 0, .int .i64 0] rfl rfl 32 X5 hx5.out edu_info hX5 (one11 _ _ _ _ _ _ _ _ _ _ _) ?_)
        generalize hW2 : World.setRow _ _ _ = W3 at HS5 H5 H45 HM9 ⊢
        clear hW2 c0 c1 c2 q1 q2
        obtain ⟨e0, e1, e2⟩ := cells3 H45.out
        obtain ⟨d0, d1, d2, d3, d4, d5, d6, d7, d8, d9, d10⟩ := cells11 H5.out
        refine bodyPost_ret (v := .tuple #[.agg #[.int .i64 (most : Int), .slice A3 n cap3, .int .i64 (lost : Int)], .agg #[.int .i64 0, .string ⟨#[]⟩, .string ⟨#[]⟩, .string ⟨#[]⟩, .string ⟨#[]⟩, .bool false, .bool false, .int .i64 0, .int .i64 0, .int .i64 0, .int .i64 0], .bool false]) ?_ rfl ⟨_, rfl, .inr (HM9.out.mono HLT.out), HS5.out.below⟩
        simp [results, Try.results15, go_sem, e0, e1, e2, d0, d1, d2, d3, d4, d5, d6, d7, d8, d9, d10]
      · have q1 : decide ((most : Int) < (n : Int)) = true := decide_eq_true (by
          have := HOV.out
          rw [eq_comm, decide_eq_true_eq] at this
          omega)
        have q2 : decide (most < n) = true := HOV.out.symm
        obtain ⟨rfl, rfl, rfl⟩ := HO.out (by trivial)
        clear HI HO HOV
        have hnz : 0 < l2.length := by have := HN.out; have := HNN.out; omega
        obtain ⟨x0, l3, rfl⟩ : ∃ x0 l3, l2 = x0 :: l3 := by
          cases l2 with
          | nil => simp at hnz
          | cons x0 l3 => exact ⟨x0, l3, rfl⟩
        obtain ⟨g9, o9, rfl⟩ : ∃ g9 o9, A3 = some ⟨g9, o9, none⟩ := by
          rcases id HM8.out with ⟨hv', hn'⟩ | ⟨g', off', cap', cur, hv', -⟩
          · cases hn'
          · injection hv' with e1 e2 e3
            exact ⟨g', off', e1⟩
        obtain ⟨xk, xr, xu, xz, xt, xp, xo, xs, xy, xc, xm⟩ := x0
        have HXA := Lib.hid (fun W (hm : LE.Mine W B0 (.slice (some ⟨g9, o9, none⟩) n cap3) (⟨xk, xr, xu, xz, xt, xp, xo, xs, xy, xc, xm⟩ :: l3)) => show W.rangeAt g9 o9 (Edu.cells ⟨xk, xr, xu, xz, xt, xp, xo, xs, xy, xc, xm⟩) from by
          obtain ⟨bo, oo, hbo', hbo, hco⟩ := hm.slice.at (i := 0) rfl
          injection hbo' with hbo'
          injection hbo' with hb1 hb2 _
          subst hb1 hb2
          simpa [LE] using hco)
        have hn0 : 0 < n := by have := HNN.out; omega
        have hix : ∀ w : World, (Instr.indexAt 22 (.slice (some ⟨g9, o9, none⟩) n cap3) (.int .i64 0)).run Try.prog w = .ok (.pointer (some ⟨g9, o9, none⟩)) w := fun w => by
          have := index_any (P := Try.prog) knE (by decide) (b := g9) (off := o9) (cap := cap3) hn0 w
          simpa [LE] using this
        have hsl : ∀ w, (Instr.sliceAt 22 (.slice (some ⟨g9, o9, none⟩) n cap3) (some (.int .i64 1)) none none).run Try.prog w = .ok (sliced (some ⟨g9, o9, none⟩) 1 n cap3 LE.c) w := fun w => slice_low (P := Try.prog) knE (some ⟨g9, o9, none⟩) n cap3 1 (by omega) w
        have HSB := Lib.hid (fun W (hm : LE.Mine W B0 (.slice (some ⟨g9, o9, none⟩) n cap3) (⟨xk, xr, xu, xz, xt, xp, xo, xs, xy, xc, xm⟩ :: l3)) => show LE.Mine W B0 (sliced (some ⟨g9, o9, none⟩) 1 n cap3 LE.c) (List.drop 1 (⟨xk, xr, xu, xz, xt, xp, xo, xs, xy, xc, xm⟩ :: l3)) from by
          have := hm.sub 1 n (by omega) (by rw [HN.out]; exact Nat.le_refl _)
          rw [List.take_of_length_le (by rw [HN.out]; exact Nat.le_refl _)] at this
          exact this)
        obtain ⟨A9, c9, hs9⟩ : ∃ A c, sliced (some ⟨g9, o9, none⟩) 1 n cap3 LE.c = .slice A (n - 1) c := ⟨_, _, rfl⟩
        rw [hs9] at hsl HSB
        clear hs9
        go_upto_region 10 with (fail)
        clear c0 c1 c2 q1 q2
        refine wp_region_held_drew (S := fun W => DpS w W (.slice A l.length cap) l (most : Int) (lost : Int) #[.int .i64 k, .string r, .string u, .string z, .string t, .bool pr, .bool o, .int .i64 s, .int .i64 y, .int .i64 c, .int .i64 m] g2 g3 g4 g5 B0 ∧ LE.Mine W B0 (.slice (some ⟨g9, o9, none⟩) n cap3) (⟨xk, xr, xu, xz, xt, xp, xo, xs, xy, xc, xm⟩ :: l3)) (by kernel_rfl) ⟨HA7.out.later (below_drew _), HM8.out.below (below_drew _)⟩ (fun hHeld => ?_)
        clear HA7 HM8
        generalize World.drew _ = wd at hHeld ⊢
        refine wpAnyH_take (i := 0) (oi := ⟨some 38, _, _, _, _, _⟩) (v := ?vp0) rfl (by kernel_rfl) (by kernel_rfl) (by kernel_rfl) (fun _ _ _ h => h) (Or.inl ⟨by rfl, ?yp0⟩) hHeld ?rp0
        case yp0 =>
          intro wx hSx
          go_simp
          try with_reducible rfl
        try simp only [Act.put, List.setIfInBounds_toArray, List.set_cons_zero, List.set_cons_succ]
        refine wpAnyH_take (i := 2) (oi := ⟨some 40, _, _, _, _, _⟩) (v := ?vp2) rfl (by kernel_rfl) (by kernel_rfl) (by kernel_rfl) (fun _ _ _ h => h) (Or.inl ⟨by rfl, ?yp2⟩) hHeld ?rp2
        case yp2 =>
          intro wx hSx
          go_simp
          try with_reducible rfl
        try simp only [Act.put, List.setIfInBounds_toArray, List.set_cons_zero, List.set_cons_succ]
        refine wpAnyH_take (i := 4) (oi := ⟨some 42, _, _, _, _, _⟩) (v := ?vp4) rfl (by kernel_rfl) (by kernel_rfl) (by kernel_rfl) (fun _ _ _ h => h) (Or.inl ⟨by rfl, ?yp4⟩) hHeld ?rp4
        case yp4 =>
          intro wx hSx
          go_simp
          try with_reducible rfl
        try simp only [Act.put, List.setIfInBounds_toArray, List.set_cons_zero, List.set_cons_succ]
        refine wpAnyH_take (i := 8) (oi := ⟨some 46, _, _, _, _, _⟩) (v := ?vp8) rfl (by kernel_rfl) (by kernel_rfl) (by kernel_rfl) (fun _ _ _ h => h) (Or.inl ⟨by rfl, ?yp8⟩) hHeld ?rp8
        case yp8 =>
          intro wx hSx
          go_simp
          try with_reducible rfl
        try simp only [Act.put, List.setIfInBounds_toArray, List.set_cons_zero, List.set_cons_succ]
        refine wpAnyH_take (i := 1) (oi := ⟨some 39, _, _, _, _, _⟩) (v := ?vp1) rfl (by kernel_rfl) (by kernel_rfl) (by kernel_rfl) (fun _ _ _ h => h) (Or.inl ⟨by rfl, ?yp1⟩) hHeld ?rp1
        case yp1 =>
          intro wx hSx
          obtain ⟨c0, c1, c2⟩ := cells3 hSx.1.b2
          go_simp
          try with_reducible rfl
        try simp only [Act.put, List.setIfInBounds_toArray, List.set_cons_zero, List.set_cons_succ]
        refine wpAnyH_take (i := 3) (oi := ⟨some 41, _, _, _, _, _⟩) (v := ?vp3) rfl (by kernel_rfl) (by kernel_rfl) (by kernel_rfl) (fun _ _ _ h => h) (Or.inl ⟨by rfl, ?yp3⟩) hHeld ?rp3
        case yp3 =>
          intro wx hSx
          go_simp
          try with_reducible rfl
        try simp only [Act.put, List.setIfInBounds_toArray, List.set_cons_zero, List.set_cons_succ]
        refine wpAnyH_take (i := 5) (oi := ⟨some 43, _, _, _, _, _⟩) (v := ?vp5) rfl (by kernel_rfl) (by kernel_rfl) (by kernel_rfl) (fun _ _ _ h => h) (Or.inl ⟨by rfl, ?yp5⟩) hHeld ?rp5
        case yp5 =>
          intro wx hSx
          obtain ⟨c0, c1, c2⟩ := cells3 hSx.1.b2
          go_simp
          try with_reducible rfl
        try simp only [Act.put, List.setIfInBounds_toArray, List.set_cons_zero, List.set_cons_succ]
        refine wpAnyH_take (i := 6) (oi := ⟨some 44, _, _, _, _, _⟩) (v := ?vp6) rfl (by kernel_rfl) (by kernel_rfl) (by kernel_rfl) (fun _ _ _ h => h) (Or.inl ⟨by rfl, ?yp6⟩) hHeld ?rp6
        case yp6 =>
          intro wx hSx
          have q := IntWalk.i64_in ((lost : Int) + 1) (by omega)
          go_simp
          try with_reducible rfl
        try simp only [Act.put, List.setIfInBounds_toArray, List.set_cons_zero, List.set_cons_succ]
        refine wpAnyH_take (i := 7) (oi := ⟨some 45, _, _, _, _, _⟩) (v := ?vp7) rfl (by kernel_rfl) (by kernel_rfl) (by kernel_rfl) (fun _ _ _ h => h) (Or.inl ⟨by rfl, ?yp7⟩) hHeld ?rp7
        case yp7 =>
          intro wx hSx
          go_simp
          try with_reducible rfl
        try simp only [Act.put, List.setIfInBounds_toArray, List.set_cons_zero, List.set_cons_succ]
        refine wpAnyH_take (i := 9) (oi := ⟨some 47, _, _, _, _, _⟩) (v := ?vp9) rfl (by kernel_rfl) (by kernel_rfl) (by kernel_rfl) (fun _ _ _ h => h) (Or.inl ⟨by rfl, ?yp9⟩) hHeld ?rp9
        case yp9 =>
          intro wx hSx
          go_simp
          try with_reducible rfl
        try simp only [Act.put, List.setIfInBounds_toArray, List.set_cons_zero, List.set_cons_succ]
        refine wpAnyH_take (i := 10) (oi := ⟨some 48, _, _, _, _, _⟩) (v := ?vp10) rfl (by kernel_rfl) (by kernel_rfl) (by kernel_rfl) (fun _ _ _ h => h) (Or.inl ⟨by rfl, ?yp10⟩) hHeld ?rp10
        case yp10 =>
          intro wx hSx
          obtain ⟨a0, a1, a2, a3, a4, a5, a6, a7, a8, a9, a10⟩ := range11 (HXA.out wx hSx.2)
          go_simp
          try with_reducible rfl
        try simp only [Act.put, List.setIfInBounds_toArray, List.set_cons_zero, List.set_cons_succ]
        try rw [IntWalk.i64_in ((lost : Int) + 1) (by omega)]
        refine wpAnyH_ready (rs := [11]) (by kernel_rfl) (by simp) ?_
        refine AllReadyH.cons (o := ⟨none, _, _, _, _, _⟩) rfl (fun K hK => ?_) AllReadyH.nil
        obtain ⟨X4, hX4, hx4⟩ := hHeld.1.b4
        obtain ⟨HS4, H4⟩ := hHeld.1.set4 (X := #[.int .i64 (most : Int), .slice A9 (n - 1) c9, .int .i64 ((lost : Int) + 1)]) rfl
        have HM4 := mine_row (X := #[.int .i64 (most : Int), .slice A9 (n - 1) c9, .int .i64 ((lost : Int) + 1)]) hHeld.2 hHeld.1.hi.1
        rw [if_pos (by rfl)]
        refine wp_store_row 30 (.tmp 4) (.tmp 45) rfl g4 #[.int .i64 (most : Int), .slice A9 (n - 1) c9, .int .i64 ((lost : Int) + 1)] rfl rfl 30 X4 hx4 p_info hX4 (one3 _ _ _ _ _) ?_
        refine hK.out _ _ ⟨HS4, HM4⟩ (fun hHeld => ?_)
        clear hK K hx4 HS4 HM4
        generalize World.setRow _ _ _ = w9 at H4 hHeld ⊢
        try simp only [Act.put, List.setIfInBounds_toArray, List.set_cons_zero, List.set_cons_succ]
        refine wpAnyH_ready (rs := [12]) (by kernel_rfl) (by simp) ?_
        refine AllReadyH.cons (o := ⟨none, _, _, _, _, _⟩) rfl (fun K hK => ?_) AllReadyH.nil
        obtain ⟨X5, hX5, hx5⟩ := hHeld.1.b5
        obtain ⟨HS5, H5, H45⟩ := hHeld.1.set5 (X := #[.int .i64 xk, .string xr, .string xu, .string xz, .string xt, .bool xp, .bool xo, .int .i64 xs, .int .i64 xy, .int .i64 xc, .int .i64 xm]) rfl H4
        have HM5 := mine_row (X := #[.int .i64 xk, .string xr, .string xu, .string xz, .string xt, .bool xp, .bool xo, .int .i64 xs, .int .i64 xy, .int .i64 xc, .int .i64 xm]) hHeld.2 hHeld.1.hi.2.1
        rw [if_pos (by rfl)]
        refine wp_store_row 32 (.tmp 5) (.tmp 48) rfl g5 #[.int .i64 xk, .string xr, .string xu, .string xz, .string xt, .bool xp, .bool xo, .int .i64 xs, .int .i64 xy, .int .i64 xc, .int .i64 xm] rfl rfl 32 X5 hx5 edu_info hX5 (one11 _ _ _ _ _ _ _ _ _ _ _) ?_
        refine hK.out _ _ ⟨HS5, HM5⟩ (fun hHeld => ?_)
        clear hK K hx5 HS5 HM5 H4
        generalize World.setRow _ _ _ = w10 at H5 H45 hHeld ⊢
        try simp only [Act.put, List.setIfInBounds_toArray, List.set_cons_zero, List.set_cons_succ]
        refine wpAnyH_take (i := 13) (oi := ⟨some 6, _, _, _, _, _⟩) (v := ?vp13) rfl (by kernel_rfl) (by kernel_rfl) (by kernel_rfl) (fun _ _ _ h => h) (Or.inl ⟨by rfl, ?yp13⟩) hHeld ?rp13
        case yp13 =>
          intro wx hSx
          go_simp
          try with_reducible rfl
        try simp only [Act.put, List.setIfInBounds_toArray, List.set_cons_zero, List.set_cons_succ]
        refine wpAnyH_done (by kernel_rfl) ?_ _
        have HS5 := Lib.hid hHeld
        clear hHeld
        obtain ⟨e0, e1, e2⟩ := cells3 H45
        obtain ⟨d0, d1, d2, d3, d4, d5, d6, d7, d8, d9, d10⟩ := cells11 H5
        clear hix hsl H45 H5
        go_wp2_with fail
        refine bodyPost_ret (v := .tuple #[.agg #[.int .i64 (most : Int), .slice A9 (n - 1) c9, .int .i64 ((lost : Int) + 1)], .agg #[.int .i64 xk, .string xr, .string xu, .string xz, .string xt, .bool xp, .bool xo, .int .i64 xs, .int .i64 xy, .int .i64 xc, .int .i64 xm], .bool true]) ?_ rfl ⟨_, by rfl, .inr ((HSB.out _ HS5.out.2).mono HS5.out.1.hi.2.2.2), HS5.out.1.below⟩
        simp [results, Try.results15, go_sem, e0, e1, e2, d0, d1, d2, d3, d4, d5, d6, d7, d8, d9, d10]
end Go.Proofs.Ytimlomflgnnmnaa
