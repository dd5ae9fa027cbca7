/-
  What the statements stand on, part ZA22.
-/
import Derived.Test.YtnnapkakbdpkaaaGreatZA21
set_option linter.unusedVariables false
set_option linter.unusedSimpArgs false
namespace Go.Proofs.YtnnapkakbdpkaaaGreat
set_option maxRecDepth 20000
open Go.RowKit
structure PutK (w w' : World) (B b : Nat) (v v' : Value) (p' : Pk) : Prop where
 pk : CPk w' B b v' p'
 turn : TurnP (ownP b v) w w'
 own : ∀ k, v'.ownBlock = some k → v.ownBlock = some k ∨ w.heap.size ≤ k
theorem Kp.putK {w w' wr : World} {b : Nat} {v v' : Value} {p p' : Pk} {ts : List Th} (h : Kp w wr b v p ts) (hk : PutK wr w' w.heap.size b v v' p') : Kp w w' b v' p' ts := h.turn hk.pk hk.turn hk.own
structure PuE (w wr : World) (B b : Nat) (v v' : Value) (p : Pk) (cs : Array Value) (g3 g4 : Nat) : Prop where
 k : PutK w wr B b v v' p
 b3 : wr.heap[g3]? = some (.cells cs 43 (0, 0))
 b4 : ∃ X : Array Value, X.size = 11 ∧ wr.heap[g4]? = some (.cells X 43 (0, 0))
 off : ¬ ownP b v' g3 ∧ ¬ ownP b v' g4
 lo : w.heap.size ≤ g3 ∧ w.heap.size ≤ g4 ∧ g3 ≠ g4
section
variable {w wr w2 : World} {B b g3 g4 : Nat} {v v1 v2 : Value} {p p2 : Pk} {cs : Array Value}
theorem PuE.later (h : PuE w wr B b v v1 p cs g3 g4) (hb : Below wr.heap.size wr w2) : PuE w w2 B b v v1 p cs g3 g4 := by
 obtain ⟨X, hX, h4⟩ := h.b4
 exact ⟨⟨h.k.pk.below hb, h.k.turn.later hb, h.k.own⟩, (hb.block _ (smem_lt h.b3)).trans h.b3, ⟨X, hX, (hb.block _ (smem_lt h4)).trans h4⟩, h.off, h.lo⟩
theorem PuE.next (h : PuE w wr B b v v1 p cs g3 g4) (hg : TurnP (ownP b v1) wr w2) (hc : CPk w2 B b v2 p2) (ho : ∀ k, v2.ownBlock = some k → v1.ownBlock = some k ∨ wr.heap.size ≤ k) : PuE w w2 B b v v2 p2 cs g3 g4 := by
 have hs := h.k.turn.size
 have hown : ∀ k, ownP b v1 k → ownP b v k ∨ w.heap.size ≤ k := fun k hk => by
  rcases hk with rfl | hk
  ·exact .inl (.inl rfl)
  ·rcases h.k.own k hk with h1 | h1
   ·exact .inl (.inr h1)
   ·exact .inr h1
 have hoff : ∀ g, ¬ ownP b v1 g → g < wr.heap.size → ¬ ownP b v2 g := fun g hn hl hk => by
  rcases hk with rfl | hk
  ·exact hn (.inl rfl)
  ·rcases ho g hk with h1 | h1
   ·exact hn (.inr h1)
   ·omega
 obtain ⟨X, hX, h4⟩ := h.b4
 refine ⟨⟨hc, ⟨hg.os.trans h.k.turn.os, hg.tape.trans h.k.turn.tape, hg.output.trans h.k.turn.output, Nat.le_trans hs hg.size, fun k hk hp => (hg.block k (Nat.lt_of_lt_of_le hk hs) (fun hh => ?_)).trans (h.k.turn.block k hk hp)⟩, fun k hk => ?_⟩, (hg.block g3 (smem_lt h.b3) h.off.1).trans h.b3, ⟨X, hX, (hg.block g4 (smem_lt h4) h.off.2).trans h4⟩, ⟨hoff _ h.off.1 (smem_lt h.b3), hoff _ h.off.2 (smem_lt h4)⟩, h.lo⟩
 ·rcases hown k hh with h1 | h1
  ·exact hp h1
  ·omega
 ·rcases ho k hk with h1 | h1
  ·exact h.k.own k h1
  ·exact .inr (Nat.le_trans hs h1)
theorem PuE.row {w6 : World} {l' : List Edu} (h : PuE w wr B b v v1 p cs g3 g4) (hm : LE.Mine w6 B v2 l') (hg : wr.grownBy w6 v1.ownBlock) (ho : ∀ k, v2.ownBlock = some k → v1.ownBlock = some k ∨ wr.heap.size ≤ k) (hk : ∀ e ∈ l', e.brief) :
  w6.heap[b]? = some (.cells #[.int .i64 (p.most : Int), v1, .int .i64 (p.lost : Int)] 139 (0, 0)) ∧ w6.heap[g3]? = some (.cells cs 43 (0, 0)) ∧ PuE w (w6.setCell ⟨b, 1, none⟩ v2) B b v v2 ⟨p.most, l', p.lost⟩ cs g3 g4 := by
 have hb6 := (hg.block b (smem_lt h.k.pk.hd) (fun e => h.k.pk.ne e.symm)).trans h.k.pk.hd
 refine ⟨hb6, (hg.block g3 (smem_lt h.b3) (fun e => h.off.1 (.inr e.symm))).trans h.b3, h.next ?_ ⟨?_, ?_, h.k.pk.lo, hk⟩ ho⟩
 ·have ht : TurnP (ownP b v1) wr w6 := (TurnP.of (Below.refl _ wr)).grown hg (fun k hk => .inl (.inr hk))
  exact ht.grown (sm_grown w6 b 1 [v2]) (fun k hk => by
   injection hk with hk
   exact .inl (.inl hk.symm))
 ·exact heap_set hb6 1 v2
 ·have hn := mineK_ne hb6 (by decide) hm
  exact hm.keep (fun k hk => Below.heap_setCell w6 _ v2 k (fun e => hn (by rw [hk]; exact congrArg some e)))
theorem PuE.more (h : PuE w wr B b v v1 p cs g3 g4) : PuE w (wr.setCell ⟨b, 2, none⟩ (.int .i64 ((p.lost : Int) + 1))) B b v v1 ⟨p.most, p.l, p.lost + 1⟩ cs g3 g4 := by
 refine h.next ?_ ⟨?_, ?_, h.k.pk.lo, h.k.pk.ok⟩ (fun k hk => .inl hk)
 ·exact (TurnP.of (Below.refl _ wr)).grown (sm_grown wr b 2 [.int .i64 ((p.lost : Int) + 1)]) (fun k hk => by
   injection hk with hk
   exact .inl (.inl hk.symm))
 ·exact heap_set h.k.pk.hd 2 _
 ·exact h.k.pk.row.keep (fun k hk => Below.heap_setCell wr _ _ k (fun e => h.k.pk.ne (by rw [hk]; exact congrArg some e)))
theorem PuE.box {X : Array Value} (h : PuE w wr B b v v1 p cs g3 g4) (hX : X.size = 11) : PuE w (wr.setRow g4 X) B b v v1 p cs g3 g4 ∧ (wr.setRow g4 X).heap[g4]? = some (.cells X 43 (0, 0)) := by
 obtain ⟨Y, hY, h4⟩ := h.b4
 have hr := setRow_heap wr g4 Y X _ _ h4
 have ho : ∀ k, k ≠ g4 → (wr.setRow g4 X).heap[k]? = wr.heap[k]? := fun k hk => setRow_other wr g4 k X hk
 have hb : Below g4 wr (wr.setRow g4 X) := below_setRow (Below.refl _ _) (Nat.le_refl _) X
 refine ⟨⟨⟨h.k.pk.keep (fun k hk => ho k (fun e => h.off.2 (e ▸ hk))), ⟨hb.os.trans h.k.turn.os, hb.tape.trans h.k.turn.tape, hb.output.trans h.k.turn.output, Nat.le_trans h.k.turn.size hb.size, fun k hk hp => (ho k (by have := h.lo.2.1; omega)).trans (h.k.turn.block k hk hp)⟩, h.k.own⟩, (ho _ h.lo.2.2).trans h.b3, ⟨X, hX, hr⟩, h.off, h.lo⟩, hr⟩
end
theorem CPk.start {w : World} {B b : Nat} {v : Value} {p : Pk} (h : CPk w B b v p) (a c : Array Value) (hc : c.size = 11) : PuE w ((w.alloc (.cells a 43)).alloc (.cells c 43)) B b v v p a w.heap.size (w.heap.size + 1) := by
 obtain ⟨h1, h2, h3, _⟩ := at_two (.cells a 43) (.cells c 43) (rfl : (w.alloc (.cells a 43)).alloc (.cells c 43) = _)
 have hb : Below w.heap.size w ((w.alloc (.cells a 43)).alloc (.cells c 43)) := ((Below.refl _ w).alloc (Nat.le_refl _) _).alloc (by simp) _
 refine ⟨⟨h.below hb, TurnP.of hb, fun k hk => .inl hk⟩, h1, ⟨c, hc, h2⟩, ⟨fun hk => ?_, fun hk => ?_⟩, Nat.le_refl _, by omega, by omega⟩
 ·have := (h.old hk).2; omega
 ·have := (h.old hk).2; omega
set_option maxHeartbeats 3200000 in
theorem pkPut_any {w : World} {B b : Nat} {v : Value} {p : Pk} (h : CPk w B b v p) (e : Edu) (he : e.brief) (hl : p.l.length ≤ 100000) (hc : p.lost ≤ 100000) (hm : p.most ≤ 100000) :
  Calls Tryz.prog 46 #[.pointer (some ⟨b, 0, none⟩), e.val] w fun x w' => x = .returned (.tuple #[(p.gone e).val, .bool (p.goes e)]) ∧ ∃ v', PutK w w' B b v v' (p.put e) := by
 have HS := Lib.hid (h.start e.cells.toArray zeroE.cells.toArray rfl)
 have HBR := Lib.hid he
 have HBK := Lib.hid h.ok
 have HOW := Lib.hid (fun W => ownE_any e W he)
 obtain ⟨most, l, lost⟩ := p
 simp only at hl hc hm HBK
 have HY := Lib.hid (fun hh => Pk.put_has (p := ⟨most, l, lost⟩) (e := e) hh)
 have HI := Lib.hid (fun hh ho => Pk.put_in (p := ⟨most, l, lost⟩) (e := e) hh ho)
 have HO := Lib.hid (fun hh ho => Pk.put_out (p := ⟨most, l, lost⟩) (e := e) hh ho)
 simp only at HY HI HO
 have HCO := Lib.hid (fun W u (hu : LE.Slice W u l) => containsE_any u l e W hu)
 generalize Pk.put ⟨most, l, lost⟩ e = pp at *
 generalize Pk.goes ⟨most, l, lost⟩ e = gb at *
 generalize Pk.gone ⟨most, l, lost⟩ e = ge at *
 have HOV := Lib.hid (show Pk.over ⟨most, l, lost⟩ = decide (most < l.length + 1) from rfl)
 generalize Pk.over ⟨most, l, lost⟩ = ov at *
 obtain ⟨k, r, u, z, t, pr, o, s, y, c, m⟩ := e
 simp only [Edu.val, Edu.cells, zeroE] at *
 clear h he
 go_enter Tryz.func46, Tryz.ntmps46
 go_upto_region 1 with (fail)
 generalize World.alloc _ _ = w1 at HS ⊢
 have hlo := HS.out.lo
 generalize w.heap.size + 1 = g4 at HS hlo ⊢
 obtain ⟨g3, hg3⟩ : ∃ g, w.heap.size = g := ⟨_, rfl⟩
 clear hg3
 have HLO := Lib.hid hlo
 clear hlo
 generalize w.heap.size = g3 at HS HLO ⊢
 refine wp_region_held_drew (S := fun W => PuE w W B b v v ⟨most, l, lost⟩ #[.int .i64 k, .string r, .string u, .string z, .string t, .bool pr, .bool o, .int .i64 s, .int .i64 y, .int .i64 c, .int .i64 m] g3 g4) (by kernel_rfl) (HS.out.later (below_drew w1)) (fun hHeld => ?_)
 clear HS
 generalize w1.drew = wd at hHeld ⊢
 refine wpAnyH_take (i := 0) (oi := ⟨some 7, _, _, _, _, _⟩) (v := ?va0) rfl (by kernel_rfl) (by kernel_rfl) (by kernel_rfl) (fun _ _ _ h => h) (Or.inl ⟨by rfl, ?ya0⟩) hHeld ?ra0
 case ya0 =>
  intro wx hSx
  go_simp
  try with_reducible rfl
 try simp only [actS]
 refine wpAnyH_take (i := 1) (oi := ⟨some 8, _, _, _, _, _⟩) (v := ?va1) rfl (by kernel_rfl) (by kernel_rfl) (by kernel_rfl) (fun _ _ _ h => h) (Or.inl ⟨by rfl, ?ya1⟩) hHeld ?ra1
 case ya1 =>
  intro wx hSx
  go_simp
  try with_reducible rfl
 try simp only [actS]
 refine wpAnyH_take (i := 2) (oi := ⟨some 9, _, _, _, _, _⟩) (v := ?va2) rfl (by kernel_rfl) (by kernel_rfl) (by kernel_rfl) (fun _ _ _ h => h) (Or.inl ⟨by rfl, ?ya2⟩) hHeld ?ra2
 case ya2 =>
  intro wx hSx
  go_simp
  try with_reducible rfl
 try simp only [actS]
 refine wpAnyH_take (i := 3) (oi := ⟨some 10, _, _, _, _, _⟩) (v := ?va3) rfl (by kernel_rfl) (by kernel_rfl) (by kernel_rfl) (fun _ _ _ h => h) (Or.inl ⟨by rfl, ?ya3⟩) hHeld ?ra3
 case ya3 =>
  intro wx hSx
  have z : wx.cell? ⟨b, 1, none⟩ = some v := cell_at hSx.k.pk.hd 1
  go_simp
  try with_reducible rfl
 try simp only [actS]
 refine wpAnyH_take (i := 4) (oi := ⟨some 11, _, _, _, _, _⟩) (v := ?va4) rfl (by kernel_rfl) (by kernel_rfl) (by kernel_rfl) (fun _ _ _ h => h) (Or.inl ⟨by rfl, ?ya4⟩) hHeld ?ra4
 case ya4 =>
  intro wx hSx
  obtain ⟨d0, d1, d2, d3, d4, d5, d6, d7, d8, d9, d10⟩ := cells11 hSx.b3
  go_simp
  try with_reducible rfl
 try simp only [actS]
 refine wpAnyH_ready (rs := [5]) (by kernel_rfl) (by simp) ?_
 refine AllReadyH.cons (o := ⟨some 12, _, _, _, _, _⟩) rfl (fun K hK => ?_) AllReadyH.nil
 have HC := HCO.out wd v hHeld.k.pk.row.slice
 go_simp
 refine HC.mono ?_
 rintro e w2 ⟨rfl, hb⟩
 refine hK.out _ _ (hHeld.later hb) (fun hHeld => ?_)
 clear hK K hb HC
 try simp only [actS]
 refine wpAnyH_done (by kernel_rfl) ?_ _
 have HS := Lib.hid hHeld
 clear hHeld HCO
 generalize hasP l _ = hp at HY HI HO ⊢
 cases hp
 ·replace HI := Lib.hid (HI.out rfl)
  replace HO := Lib.hid (HO.out rfl)
  clear HY
  go_upto_region 3 with (fail)
  have HS := Lib.hid (HS.out.later (below_drew _))
  refine wp_region_held_drew (S := fun W => W.heap[g3]? = some (.cells #[.int .i64 k, .string r, .string u, .string z, .string t, .bool pr, .bool o, .int .i64 s, .int .i64 y, .int .i64 c, .int .i64 m] 43 (0, 0))) (by kernel_rfl) HS.out.b3 (fun hHeld => ?_)
  generalize World.drew _ = wd3 at HS hHeld ⊢
  refine wpAnyH_take (i := 0) (oi := ⟨some 14, _, _, _, _, _⟩) (v := ?vb0) rfl (by kernel_rfl) (by kernel_rfl) (by kernel_rfl) (fun _ _ _ h => h) (Or.inl ⟨by rfl, ?yb0⟩) hHeld ?rb0
  case yb0 =>
   intro wx hSx
   go_simp
   try with_reducible rfl
  try simp only [actS]
  refine wpAnyH_take (i := 1) (oi := ⟨some 15, _, _, _, _, _⟩) (v := ?vb1) rfl (by kernel_rfl) (by kernel_rfl) (by kernel_rfl) (fun _ _ _ h => h) (Or.inl ⟨by rfl, ?yb1⟩) hHeld ?rb1
  case yb1 =>
   intro wx hSx
   go_simp
   try with_reducible rfl
  try simp only [actS]
  refine wpAnyH_take (i := 2) (oi := ⟨some 16, _, _, _, _, _⟩) (v := ?vb2) rfl (by kernel_rfl) (by kernel_rfl) (by kernel_rfl) (fun _ _ _ h => h) (Or.inl ⟨by rfl, ?yb2⟩) hHeld ?rb2
  case yb2 =>
   intro wx hSx
   go_simp
   try with_reducible rfl
  try simp only [actS]
  refine wpAnyH_take (i := 3) (oi := ⟨some 17, _, _, _, _, _⟩) (v := ?vb3) rfl (by kernel_rfl) (by kernel_rfl) (by kernel_rfl) (fun _ _ _ h => h) (Or.inl ⟨by rfl, ?yb3⟩) hHeld ?rb3
  case yb3 =>
   intro wx hSx
   go_simp
   try with_reducible rfl
  try simp only [actS]
  refine wpAnyH_take (i := 5) (oi := ⟨some 19, _, _, _, _, _⟩) (v := ?vb5) rfl (by kernel_rfl) (by kernel_rfl) (by kernel_rfl) (fun _ _ _ h => h) (Or.inl ⟨by rfl, ?yb5⟩) hHeld ?rb5
  case yb5 =>
   intro wx hSx
   obtain ⟨d0, d1, d2, d3, d4, d5, d6, d7, d8, d9, d10⟩ := cells11 hSx
   go_simp
   try with_reducible rfl
  try simp only [actS]
  refine wpAnyH_ready (rs := [4, 6]) (by kernel_rfl) (by simp) ?_
  refine AllReadyH.cons (o := ⟨some 18, _, _, _, _, _⟩) rfl (fun K hK => ?wayA) (AllReadyH.cons (o := ⟨some 20, _, _, _, _, _⟩) rfl (fun K hK => ?wayB) AllReadyH.nil)
  case wayA =>
   have z : World.cell? _ ⟨b, 1, none⟩ = some v := cell_at HS.out.k.pk.hd 1
   go_simp
   refine hK.out _ _ hHeld (fun hHeld => ?_)
   clear hK K z
   try simp only [actS]
   refine wpAnyH_ready (rs := [6]) (by kernel_rfl) (by simp) ?_
   refine AllReadyH.cons (o := ⟨some 20, _, _, _, _, _⟩) rfl (fun K hK => ?_) AllReadyH.nil
   go_simp
   refine (HOW.out _).mono ?_
   rintro e wB ⟨rfl, hb⟩
   replace HS := Lib.hid (HS.out.later hb)
   refine hK.out _ _ HS.out.b3 (fun hHeld => ?_)
   clear hK K hb
   try simp only [actS]
   refine wpAnyH_ready (rs := [7]) (by kernel_rfl) (by simp) ?_
   refine AllReadyH.cons (o := ⟨some 21, _, _, _, _, _⟩) rfl (fun K hK => ?_) AllReadyH.nil
   have hsr : LE.Slice (wB.alloc (.cells #[.int .i64 k, .string r, .string u, .string z, .string t, .bool pr, .bool o, .int .i64 s, .int .i64 y, .int .i64 c, .int .i64 m] 43)) (.slice (some ⟨wB.heap.size, 0, none⟩) 1 1) [⟨k, r, u, z, t, pr, o, s, y, c, m⟩] := lit_slice (L := LE) wB ⟨k, r, u, z, t, pr, o, s, y, c, m⟩ wB.heap.size rfl #[.int .i64 k, .string r, .string u, .string z, .string t, .bool pr, .bool o, .int .i64 s, .int .i64 y, .int .i64 c, .int .i64 m] rfl
   replace HS := Lib.hid (HS.out.later (below_new wB (.cells #[.int .i64 k, .string r, .string u, .string z, .string t, .bool pr, .bool o, .int .i64 s, .int .i64 y, .int .i64 c, .int .i64 m] 43)))
   go_simp
   generalize World.alloc _ _ = w5 at hsr HS ⊢
   generalize wB.heap.size = B5 at hsr ⊢
   refine hK.out _ _ HS.out.b3 (fun hHeld => ?_)
   clear hK K
   try simp only [actS]
   refine wpAnyH_ready (rs := [8]) (by kernel_rfl) (by simp) ?_
   refine AllReadyH.cons (o := ⟨some 22, _, _, _, _, _⟩) rfl (fun K hK => ?_) AllReadyH.nil
   have HSR := Lib.hid (hsr.srcN knE (n := 1) rfl)
   rw [if_pos (by rfl)]
   refine wp_puts knE (.tmp 18) (.tmp 21) 23 rfl rfl HS.out.k.pk.row (Nat.le_trans HS.out.k.pk.lo (Nat.le_of_lt (smem_lt HS.out.k.pk.hd))) (.slice (some ⟨B5, 0, none⟩) 1 1) [⟨k, r, u, z, t, pr, o, s, y, c, m⟩] 1 rfl rfl HSR.out (show l.length + 1 ≤ 1000000 by omega) (fun A2 cap2 w6 hm6 hg6 ho6 => ?_)
   obtain ⟨hb6, hg36, hs7⟩ := HS.out.row hm6 hg6 ho6 (fun x hx => by
    rcases List.mem_append.1 hx with hx | hx
    ·exact HBK.out x hx
    ·rw [List.mem_singleton] at hx
     rw [hx]
     exact HBR.out)
   simp only at hb6 hs7
   have HB6 := Lib.hid hb6
   have HS7 := Lib.hid hs7
   refine hK.out _ _ hg36 (fun hHeld => ?_)
   clear hK K hm6 hg6 ho6 hb6 hs7 hsr HSR HS hg36
   try simp only [actS]
   refine wpAnyH_take (i := 9) (oi := ⟨some 23, _, _, _, _, _⟩) (v := ?vbd9) rfl (by kernel_rfl) (by kernel_rfl) (by kernel_rfl) (fun _ _ _ h => h) (Or.inl ⟨by rfl, ?ybd9⟩) hHeld ?rbd9
   case ybd9 =>
    intro wx hSx
    go_simp
    try with_reducible rfl
   try simp only [actS]
   refine wpAnyH_take (i := 10) (oi := ⟨some 24, _, _, _, _, _⟩) (v := ?vbd10) rfl (by kernel_rfl) (by kernel_rfl) (by kernel_rfl) (fun _ _ _ h => h) (Or.inl ⟨by rfl, ?ybd10⟩) hHeld ?rbd10
   case ybd10 =>
    intro wx hSx
    go_simp
    try with_reducible rfl
   try simp only [actS]
   refine wpAnyH_ready (rs := [11]) (by kernel_rfl) (by simp) ?_
   refine AllReadyH.cons (o := ⟨none, _, _, _, _, _⟩) rfl (fun K hK => ?_) AllReadyH.nil
   have z1 : (w6.cell? ⟨b, 1, none⟩) = some v := cell_at HB6.out 1
   have z2 : (w6.frozen? ⟨b, 1, none⟩) = false := free_at HB6.out 1
   go_simp
   refine hK.out _ _ HS7.out.b3 (fun hHeld => ?_)
   clear hK K z1 z2 HB6
   try simp only [actS]
   refine wpAnyH_done (by kernel_rfl) ?_ _
   generalize World.setCell _ _ _ = w7 at HS7 ⊢
   have hn : (l ++ [(⟨k, r, u, z, t, pr, o, s, y, c, m⟩ : Edu)]).length = l.length + 1 := by simp
   generalize l ++ [(⟨k, r, u, z, t, pr, o, s, y, c, m⟩ : Edu)] = l2 at HI HO HS7 hn
   have HS := Lib.hid HS7.out
   clear HS7 HBK hHeld
   generalize hnn : l.length + 1 = n at *
   have c0 : w7.cell? ⟨b, 0, none⟩ = some (.int .i64 (most : Int)) := cell_at HS.out.k.pk.hd 0
   have c1 : w7.cell? ⟨b, 1, none⟩ = some (.slice A2 n cap2) := cell_at HS.out.k.pk.hd 1
   have c2 : w7.cell? ⟨b, 2, none⟩ = some (.int .i64 (lost : Int)) := cell_at HS.out.k.pk.hd 2
   cases ov
   ·have q1 : decide ((n : Int) ≤ (most : Int)) = true := decide_eq_true (by
     have := HOV.out
     rw [eq_comm, decide_eq_false_iff_not] at this
     omega)
    have q2 : decide (n ≤ most) = true := decide_eq_true (by rw [decide_eq_true_eq] at q1; omega)
    obtain ⟨rfl, rfl, rfl⟩ := HI.out rfl
    clear HI HO HOV
    go_upto_region 4 with (fail)
    go_quiet (fail)
    replace HS := Lib.hid (HS.out.later (below_drewN (Below.refl _ _) nq))
    clear c0 c1 c2
    generalize World.drewN _ _ = w8 at HS ⊢
    obtain ⟨X, hX, hx3⟩ := HS.out.b4
    obtain ⟨HS2, Hset⟩ := HS.out.box (X := #[.int .i64 0, .string ⟨#[]⟩, .string ⟨#[]⟩, .string ⟨#[]⟩, .string ⟨#[]⟩, .bool false, .bool false, .int .i64 0, .int .i64 0, .int .i64 0, .int .i64 0]) rfl
    have HS2 := Lib.hid HS2
    have Hset := Lib.hid Hset
    replace hx3 := Lib.hid hx3
    clear HS
    go_wp2_with (refine wpList_store_row rfl 43 (.tmp 4) (.tmp 35) rfl g4 #[.int .i64 0, .string ⟨#[]⟩, .string ⟨#[]⟩, .string ⟨#[]⟩, .string ⟨#[]⟩, .bool false, .bool false, .int .i64 0, .int .i64 0, .int .i64 0, .int .i64 0] rfl rfl 43 X hx3.out edu_info hX (one11 _ _ _ _ _ _ _ _ _ _ _) ?_)
    generalize hW2 : World.setRow _ _ _ = W3 at Hset HS2 ⊢
    clear hW2
    obtain ⟨d0, d1, d2, d3, d4, d5, d6, d7, d8, d9, d10⟩ := cells11 Hset.out
    go_wp2_with fail
    refine bodyPost_ret (v := .tuple #[.agg #[.int .i64 0, .string ⟨#[]⟩, .string ⟨#[]⟩, .string ⟨#[]⟩, .string ⟨#[]⟩, .bool false, .bool false, .int .i64 0, .int .i64 0, .int .i64 0, .int .i64 0], .bool false]) ?_ rfl ⟨rfl, _, HS2.out.k⟩
    simp [results, Tryz.results46, go_sem, d0, d1, d2, d3, d4, d5, d6, d7, d8, d9, d10]
   ·have q1 : decide ((n : Int) ≤ (most : Int)) = false := decide_eq_false (by
     have := HOV.out
     rw [eq_comm, decide_eq_true_eq] at this
     omega)
    have q2 : decide (n ≤ most) = false := decide_eq_false (by rw [decide_eq_false_iff_not] at q1; omega)
    obtain ⟨rfl, rfl, rfl⟩ := HO.out rfl
    clear HI HO HOV
    go_upto_region 4 with (fail)
    go_quiet (fail)
    replace HS := Lib.hid (HS.out.later (below_drewN (Below.refl _ _) nq))
    clear c0 c1 c2 q1 q2
    generalize World.drewN _ _ = w8 at HS ⊢
    obtain ⟨x0, l3, rfl⟩ : ∃ x0 l3, l2 = x0 :: l3 := by
     cases l2 with
     | nil => simp at hn; omega
     | cons x0 l3 => exact ⟨x0, l3, rfl⟩
    obtain ⟨xk, xr, xu, xz, xt, xp, xo, xs, xy, xc, xm⟩ := x0
    have hM := HS.out.k.pk.row
    obtain ⟨g9, o9, rfl⟩ : ∃ g9 o9, A2 = some ⟨g9, o9, none⟩ := by
     rcases hM with ⟨hv', hn'⟩ | ⟨g', off', cap', cur, hv', -⟩
     ·cases hn'
     ·injection hv' with e1 e2 e3
      exact ⟨g', off', e1⟩
    obtain ⟨bo, oo, hbo', hbo, hco⟩ := hM.slice.at (i := 0) rfl
    injection hbo' with hbo'
    injection hbo' with hb1 hb2 _
    subst hb1 hb2
    have hn0 : 0 < n := by omega
    have hix := fun w => index_any (P := Tryz.prog) knE (by decide) (b := g9) (off := o9) (cap := cap2) hn0 w
    simp only [LE] at hix hco
    obtain ⟨a0, a1, a2, a3, a4, a5, a6, a7, a8, a9, a10⟩ := range11 hco
    simp only [Nat.zero_mul, Nat.add_zero] at hix a0 a1 a2 a3 a4 a5 a6 a7 a8 a9 a10
    replace hix : ∀ w : World, (Instr.indexAt 23 (.slice (some ⟨g9, o9, none⟩) n cap2) (.int .i64 0)).run Tryz.prog w = .ok (.pointer (some ⟨g9, o9, none⟩)) w := hix
    have c1 : w8.cell? ⟨b, 1, none⟩ = some (.slice (some ⟨g9, o9, none⟩) n cap2) := cell_at HS.out.k.pk.hd 1
    have HX := Lib.hid (heap_alloc_new w8 (.cells #[.int .i64 xk, .string xr, .string xu, .string xz, .string xt, .bool xp, .bool xo, .int .i64 xs, .int .i64 xy, .int .i64 xc, .int .i64 xm] 43))
    have hltb : b < w8.heap.size := smem_lt HS.out.k.pk.hd
    have HS9 := Lib.hid (HS.out.later (below_new w8 (.cells #[.int .i64 xk, .string xr, .string xu, .string xz, .string xt, .bool xp, .bool xo, .int .i64 xs, .int .i64 xy, .int .i64 xc, .int .i64 xm] 43)))
    clear hM hco hn0
    go_upto_region 7 with (fail)
    generalize World.alloc _ _ = w9 at HX HS9 ⊢
    generalize w8.heap.size = g6 at HX hbo hltb ⊢
    clear HS a0 a1 a2 a3 a4 a5 a6 a7 a8 a9 a10 hix c1
    have c1 : w9.cell? ⟨b, 1, none⟩ = some (.slice (some ⟨g9, o9, none⟩) n cap2) := cell_at HS9.out.k.pk.hd 1
    have hnl : n = (⟨xk, xr, xu, xz, xt, xp, xo, xs, xy, xc, xm⟩ :: l3 : List Edu).length := by omega
    have HD := Lib.hid (deleteE_any B g9 o9 cap2 (⟨xk, xr, xu, xz, xt, xp, xo, xs, xy, xc, xm⟩ :: l3) w9 (by rw [← hnl]; exact HS9.out.k.pk.row) (by simp))
    rw [← hnl] at HD
    clear hnl
    go_wp2_with fail
    go_at_call 74
    refine HD.out.mono ?_
    rintro e wx ⟨rfl, hmd, hgd⟩
    obtain ⟨hbx, -, hsx⟩ := HS9.out.row hmd hgd (fun k hk => .inl hk) (fun x hx => HS9.out.k.pk.ok x (List.mem_of_mem_drop hx))
    have HX6 := Lib.hid ((hgd.block g6 (smem_lt HX.out) (fun e => by injection e with e; omega)).trans HX.out)
    have HSX := Lib.hid hsx
    have HBX := Lib.hid hbx
    generalize hdl : (List.drop 1 (⟨xk, xr, xu, xz, xt, xp, xo, xs, xy, xc, xm⟩ :: l3 : List Edu)) = l4 at *
    replace hdl := Lib.hid hdl
    clear c1 HD HS9 HX hmd hgd hbx hsx
    have z0 : wx.cell? ⟨b, 1, none⟩ = some (.slice (some ⟨g9, o9, none⟩) n cap2) := cell_at HBX.out 1
    have z1 : wx.frozen? ⟨b, 1, none⟩ = false := free_at HBX.out 1
    go_upto_region 8 with (fail)
    have HX7 := Lib.hid ((Below.heap_setCell wx ⟨b, 1, none⟩ (.slice (some ⟨g9, o9, none⟩) l4.length cap2) g6 (by simp only; omega)).trans HX6.out)
    generalize World.setCell _ _ _ = w10 at HSX HX7 ⊢
    clear z0 z1 HBX HX6
    have z0 : w10.cell? ⟨b, 2, none⟩ = some (.int .i64 (lost : Int)) := cell_at HSX.out.k.pk.hd 2
    have z1 : w10.frozen? ⟨b, 2, none⟩ = false := free_at HSX.out.k.pk.hd 2
    have HS11 := Lib.hid HSX.out.more
    simp only at HS11
    have HX8 := Lib.hid ((Below.heap_setCell w10 ⟨b, 2, none⟩ (.int .i64 ((lost : Int) + 1)) g6 (by simp only; omega)).trans HX7.out)
    clear HSX HX7
    go_upto_region 9 with (fail)
    generalize World.setCell _ _ _ = w11 at HS11 HX8 ⊢
    clear z0 z1
    obtain ⟨X, hX, hx3⟩ := HS11.out.b4
    obtain ⟨HS2, Hset⟩ := HS11.out.box (X := #[.int .i64 xk, .string xr, .string xu, .string xz, .string xt, .bool xp, .bool xo, .int .i64 xs, .int .i64 xy, .int .i64 xc, .int .i64 xm]) rfl
    have HS2 := Lib.hid HS2
    have Hset := Lib.hid Hset
    replace hx3 := Lib.hid hx3
    obtain ⟨a0, a1, a2, a3, a4, a5, a6, a7, a8, a9, a10⟩ := cells11 HX8.out
    clear HS11 HX8
    go_wp2_with (refine wpList_store_row rfl 43 (.tmp 4) (.tmp 57) rfl g4 #[.int .i64 xk, .string xr, .string xu, .string xz, .string xt, .bool xp, .bool xo, .int .i64 xs, .int .i64 xy, .int .i64 xc, .int .i64 xm] rfl rfl 43 X hx3.out edu_info hX (one11 _ _ _ _ _ _ _ _ _ _ _) ?_)
    generalize hW2 : World.setRow _ _ _ = W3 at Hset HS2 ⊢
    clear hW2
    clear a0 a1 a2 a3 a4 a5 a6 a7 a8 a9 a10
    obtain ⟨d0, d1, d2, d3, d4, d5, d6, d7, d8, d9, d10⟩ := cells11 Hset.out
    go_wp2_with fail
    refine bodyPost_ret (v := .tuple #[.agg #[.int .i64 xk, .string xr, .string xu, .string xz, .string xt, .bool xp, .bool xo, .int .i64 xs, .int .i64 xy, .int .i64 xc, .int .i64 xm], .bool true]) ?_ rfl ⟨rfl, _, by rw [hdl.out]; exact HS2.out.k⟩
    simp [results, Tryz.results46, go_sem, d0, d1, d2, d3, d4, d5, d6, d7, d8, d9, d10]
  case wayB =>
   go_simp
   refine (HOW.out _).mono ?_
   rintro e wB ⟨rfl, hb⟩
   replace HS := Lib.hid (HS.out.later hb)
   refine hK.out _ _ HS.out.b3 (fun hHeld => ?_)
   clear hK K hb
   try simp only [actS]
   refine wpAnyH_ready (rs := [4, 7]) (by kernel_rfl) (by simp) ?_
   refine AllReadyH.cons (o := ⟨some 18, _, _, _, _, _⟩) rfl (fun K hK => ?wayC) (AllReadyH.cons (o := ⟨some 21, _, _, _, _, _⟩) rfl (fun K hK => ?wayD) AllReadyH.nil)
   case wayC =>
    have z : World.cell? _ ⟨b, 1, none⟩ = some v := cell_at HS.out.k.pk.hd 1
    go_simp
    refine hK.out _ _ hHeld (fun hHeld => ?_)
    clear hK K z
    try simp only [actS]
    refine wpAnyH_ready (rs := [7]) (by kernel_rfl) (by simp) ?_
    refine AllReadyH.cons (o := ⟨some 21, _, _, _, _, _⟩) rfl (fun K hK => ?_) AllReadyH.nil
    have hsr : LE.Slice (wB.alloc (.cells #[.int .i64 k, .string r, .string u, .string z, .string t, .bool pr, .bool o, .int .i64 s, .int .i64 y, .int .i64 c, .int .i64 m] 43)) (.slice (some ⟨wB.heap.size, 0, none⟩) 1 1) [⟨k, r, u, z, t, pr, o, s, y, c, m⟩] := lit_slice (L := LE) wB ⟨k, r, u, z, t, pr, o, s, y, c, m⟩ wB.heap.size rfl #[.int .i64 k, .string r, .string u, .string z, .string t, .bool pr, .bool o, .int .i64 s, .int .i64 y, .int .i64 c, .int .i64 m] rfl
    replace HS := Lib.hid (HS.out.later (below_new wB (.cells #[.int .i64 k, .string r, .string u, .string z, .string t, .bool pr, .bool o, .int .i64 s, .int .i64 y, .int .i64 c, .int .i64 m] 43)))
    go_simp
    generalize World.alloc _ _ = w5 at hsr HS ⊢
    generalize wB.heap.size = B5 at hsr ⊢
    refine hK.out _ _ HS.out.b3 (fun hHeld => ?_)
    clear hK K
    try simp only [actS]
    refine wpAnyH_ready (rs := [8]) (by kernel_rfl) (by simp) ?_
    refine AllReadyH.cons (o := ⟨some 22, _, _, _, _, _⟩) rfl (fun K hK => ?_) AllReadyH.nil
    have HSR := Lib.hid (hsr.srcN knE (n := 1) rfl)
    rw [if_pos (by rfl)]
    refine wp_puts knE (.tmp 18) (.tmp 21) 23 rfl rfl HS.out.k.pk.row (Nat.le_trans HS.out.k.pk.lo (Nat.le_of_lt (smem_lt HS.out.k.pk.hd))) (.slice (some ⟨B5, 0, none⟩) 1 1) [⟨k, r, u, z, t, pr, o, s, y, c, m⟩] 1 rfl rfl HSR.out (show l.length + 1 ≤ 1000000 by omega) (fun A2 cap2 w6 hm6 hg6 ho6 => ?_)
    obtain ⟨hb6, hg36, hs7⟩ := HS.out.row hm6 hg6 ho6 (fun x hx => by
     rcases List.mem_append.1 hx with hx | hx
     ·exact HBK.out x hx
     ·rw [List.mem_singleton] at hx
      rw [hx]
      exact HBR.out)
    simp only at hb6 hs7
    have HB6 := Lib.hid hb6
    have HS7 := Lib.hid hs7
    refine hK.out _ _ hg36 (fun hHeld => ?_)
    clear hK K hm6 hg6 ho6 hb6 hs7 hsr HSR HS hg36
    try simp only [actS]
    refine wpAnyH_take (i := 9) (oi := ⟨some 23, _, _, _, _, _⟩) (v := ?vcd9) rfl (by kernel_rfl) (by kernel_rfl) (by kernel_rfl) (fun _ _ _ h => h) (Or.inl ⟨by rfl, ?ycd9⟩) hHeld ?rcd9
    case ycd9 =>
     intro wx hSx
     go_simp
     try with_reducible rfl
    try simp only [actS]
    refine wpAnyH_take (i := 10) (oi := ⟨some 24, _, _, _, _, _⟩) (v := ?vcd10) rfl (by kernel_rfl) (by kernel_rfl) (by kernel_rfl) (fun _ _ _ h => h) (Or.inl ⟨by rfl, ?ycd10⟩) hHeld ?rcd10
    case ycd10 =>
     intro wx hSx
     go_simp
     try with_reducible rfl
    try simp only [actS]
    refine wpAnyH_ready (rs := [11]) (by kernel_rfl) (by simp) ?_
    refine AllReadyH.cons (o := ⟨none, _, _, _, _, _⟩) rfl (fun K hK => ?_) AllReadyH.nil
    have z1 : (w6.cell? ⟨b, 1, none⟩) = some v := cell_at HB6.out 1
    have z2 : (w6.frozen? ⟨b, 1, none⟩) = false := free_at HB6.out 1
    go_simp
    refine hK.out _ _ HS7.out.b3 (fun hHeld => ?_)
    clear hK K z1 z2 HB6
    try simp only [actS]
    refine wpAnyH_done (by kernel_rfl) ?_ _
    generalize World.setCell _ _ _ = w7 at HS7 ⊢
    have hn : (l ++ [(⟨k, r, u, z, t, pr, o, s, y, c, m⟩ : Edu)]).length = l.length + 1 := by simp
    generalize l ++ [(⟨k, r, u, z, t, pr, o, s, y, c, m⟩ : Edu)] = l2 at HI HO HS7 hn
    have HS := Lib.hid HS7.out
    clear HS7 HBK hHeld
    generalize hnn : l.length + 1 = n at *
    have c0 : w7.cell? ⟨b, 0, none⟩ = some (.int .i64 (most : Int)) := cell_at HS.out.k.pk.hd 0
    have c1 : w7.cell? ⟨b, 1, none⟩ = some (.slice A2 n cap2) := cell_at HS.out.k.pk.hd 1
    have c2 : w7.cell? ⟨b, 2, none⟩ = some (.int .i64 (lost : Int)) := cell_at HS.out.k.pk.hd 2
    cases ov
    ·have q1 : decide ((n : Int) ≤ (most : Int)) = true := decide_eq_true (by
      have := HOV.out
      rw [eq_comm, decide_eq_false_iff_not] at this
      omega)
     have q2 : decide (n ≤ most) = true := decide_eq_true (by rw [decide_eq_true_eq] at q1; omega)
     obtain ⟨rfl, rfl, rfl⟩ := HI.out rfl
     clear HI HO HOV
     go_upto_region 4 with (fail)
     go_quiet (fail)
     replace HS := Lib.hid (HS.out.later (below_drewN (Below.refl _ _) nq))
     clear c0 c1 c2
     generalize World.drewN _ _ = w8 at HS ⊢
     obtain ⟨X, hX, hx3⟩ := HS.out.b4
     obtain ⟨HS2, Hset⟩ := HS.out.box (X := #[.int .i64 0, .string ⟨#[]⟩, .string ⟨#[]⟩, .string ⟨#[]⟩, .string ⟨#[]⟩, .bool false, .bool false, .int .i64 0, .int .i64 0, .int .i64 0, .int .i64 0]) rfl
     have HS2 := Lib.hid HS2
     have Hset := Lib.hid Hset
     replace hx3 := Lib.hid hx3
     clear HS
     go_wp2_with (refine wpList_store_row rfl 43 (.tmp 4) (.tmp 35) rfl g4 #[.int .i64 0, .string ⟨#[]⟩, .string ⟨#[]⟩, .string ⟨#[]⟩, .string ⟨#[]⟩, .bool false, .bool false, .int .i64 0, .int .i64 0, .int .i64 0, .int .i64 0] rfl rfl 43 X hx3.out edu_info hX (one11 _ _ _ _ _ _ _ _ _ _ _) ?_)
     generalize hW2 : World.setRow _ _ _ = W3 at Hset HS2 ⊢
     clear hW2
     obtain ⟨d0, d1, d2, d3, d4, d5, d6, d7, d8, d9, d10⟩ := cells11 Hset.out
     go_wp2_with fail
     refine bodyPost_ret (v := .tuple #[.agg #[.int .i64 0, .string ⟨#[]⟩, .string ⟨#[]⟩, .string ⟨#[]⟩, .string ⟨#[]⟩, .bool false, .bool false, .int .i64 0, .int .i64 0, .int .i64 0, .int .i64 0], .bool false]) ?_ rfl ⟨rfl, _, HS2.out.k⟩
     simp [results, Tryz.results46, go_sem, d0, d1, d2, d3, d4, d5, d6, d7, d8, d9, d10]
    ·have q1 : decide ((n : Int) ≤ (most : Int)) = false := decide_eq_false (by
      have := HOV.out
      rw [eq_comm, decide_eq_true_eq] at this
      omega)
     have q2 : decide (n ≤ most) = false := decide_eq_false (by rw [decide_eq_false_iff_not] at q1; omega)
     obtain ⟨rfl, rfl, rfl⟩ := HO.out rfl
     clear HI HO HOV
     go_upto_region 4 with (fail)
     go_quiet (fail)
     replace HS := Lib.hid (HS.out.later (below_drewN (Below.refl _ _) nq))
     clear c0 c1 c2 q1 q2
     generalize World.drewN _ _ = w8 at HS ⊢
     obtain ⟨x0, l3, rfl⟩ : ∃ x0 l3, l2 = x0 :: l3 := by
      cases l2 with
      | nil => simp at hn; omega
      | cons x0 l3 => exact ⟨x0, l3, rfl⟩
     obtain ⟨xk, xr, xu, xz, xt, xp, xo, xs, xy, xc, xm⟩ := x0
     have hM := HS.out.k.pk.row
     obtain ⟨g9, o9, rfl⟩ : ∃ g9 o9, A2 = some ⟨g9, o9, none⟩ := by
      rcases hM with ⟨hv', hn'⟩ | ⟨g', off', cap', cur, hv', -⟩
      ·cases hn'
      ·injection hv' with e1 e2 e3
       exact ⟨g', off', e1⟩
     obtain ⟨bo, oo, hbo', hbo, hco⟩ := hM.slice.at (i := 0) rfl
     injection hbo' with hbo'
     injection hbo' with hb1 hb2 _
     subst hb1 hb2
     have hn0 : 0 < n := by omega
     have hix := fun w => index_any (P := Tryz.prog) knE (by decide) (b := g9) (off := o9) (cap := cap2) hn0 w
     simp only [LE] at hix hco
     obtain ⟨a0, a1, a2, a3, a4, a5, a6, a7, a8, a9, a10⟩ := range11 hco
     simp only [Nat.zero_mul, Nat.add_zero] at hix a0 a1 a2 a3 a4 a5 a6 a7 a8 a9 a10
     replace hix : ∀ w : World, (Instr.indexAt 23 (.slice (some ⟨g9, o9, none⟩) n cap2) (.int .i64 0)).run Tryz.prog w = .ok (.pointer (some ⟨g9, o9, none⟩)) w := hix
     have c1 : w8.cell? ⟨b, 1, none⟩ = some (.slice (some ⟨g9, o9, none⟩) n cap2) := cell_at HS.out.k.pk.hd 1
     have HX := Lib.hid (heap_alloc_new w8 (.cells #[.int .i64 xk, .string xr, .string xu, .string xz, .string xt, .bool xp, .bool xo, .int .i64 xs, .int .i64 xy, .int .i64 xc, .int .i64 xm] 43))
     have hltb : b < w8.heap.size := smem_lt HS.out.k.pk.hd
     have HS9 := Lib.hid (HS.out.later (below_new w8 (.cells #[.int .i64 xk, .string xr, .string xu, .string xz, .string xt, .bool xp, .bool xo, .int .i64 xs, .int .i64 xy, .int .i64 xc, .int .i64 xm] 43)))
     clear hM hco hn0
     go_upto_region 7 with (fail)
     generalize World.alloc _ _ = w9 at HX HS9 ⊢
     generalize w8.heap.size = g6 at HX hbo hltb ⊢
     clear HS a0 a1 a2 a3 a4 a5 a6 a7 a8 a9 a10 hix c1
     have c1 : w9.cell? ⟨b, 1, none⟩ = some (.slice (some ⟨g9, o9, none⟩) n cap2) := cell_at HS9.out.k.pk.hd 1
     have hnl : n = (⟨xk, xr, xu, xz, xt, xp, xo, xs, xy, xc, xm⟩ :: l3 : List Edu).length := by omega
     have HD := Lib.hid (deleteE_any B g9 o9 cap2 (⟨xk, xr, xu, xz, xt, xp, xo, xs, xy, xc, xm⟩ :: l3) w9 (by rw [← hnl]; exact HS9.out.k.pk.row) (by simp))
     rw [← hnl] at HD
     clear hnl
     go_wp2_with fail
     go_at_call 74
     refine HD.out.mono ?_
     rintro e wx ⟨rfl, hmd, hgd⟩
     obtain ⟨hbx, -, hsx⟩ := HS9.out.row hmd hgd (fun k hk => .inl hk) (fun x hx => HS9.out.k.pk.ok x (List.mem_of_mem_drop hx))
     have HX6 := Lib.hid ((hgd.block g6 (smem_lt HX.out) (fun e => by injection e with e; omega)).trans HX.out)
     have HSX := Lib.hid hsx
     have HBX := Lib.hid hbx
     generalize hdl : (List.drop 1 (⟨xk, xr, xu, xz, xt, xp, xo, xs, xy, xc, xm⟩ :: l3 : List Edu)) = l4 at *
     replace hdl := Lib.hid hdl
     clear c1 HD HS9 HX hmd hgd hbx hsx
     have z0 : wx.cell? ⟨b, 1, none⟩ = some (.slice (some ⟨g9, o9, none⟩) n cap2) := cell_at HBX.out 1
     have z1 : wx.frozen? ⟨b, 1, none⟩ = false := free_at HBX.out 1
     go_upto_region 8 with (fail)
     have HX7 := Lib.hid ((Below.heap_setCell wx ⟨b, 1, none⟩ (.slice (some ⟨g9, o9, none⟩) l4.length cap2) g6 (by simp only; omega)).trans HX6.out)
     generalize World.setCell _ _ _ = w10 at HSX HX7 ⊢
     clear z0 z1 HBX HX6
     have z0 : w10.cell? ⟨b, 2, none⟩ = some (.int .i64 (lost : Int)) := cell_at HSX.out.k.pk.hd 2
     have z1 : w10.frozen? ⟨b, 2, none⟩ = false := free_at HSX.out.k.pk.hd 2
     have HS11 := Lib.hid HSX.out.more
     simp only at HS11
     have HX8 := Lib.hid ((Below.heap_setCell w10 ⟨b, 2, none⟩ (.int .i64 ((lost : Int) + 1)) g6 (by simp only; omega)).trans HX7.out)
     clear HSX HX7
     go_upto_region 9 with (fail)
     generalize World.setCell _ _ _ = w11 at HS11 HX8 ⊢
     clear z0 z1
     obtain ⟨X, hX, hx3⟩ := HS11.out.b4
     obtain ⟨HS2, Hset⟩ := HS11.out.box (X := #[.int .i64 xk, .string xr, .string xu, .string xz, .string xt, .bool xp, .bool xo, .int .i64 xs, .int .i64 xy, .int .i64 xc, .int .i64 xm]) rfl
     have HS2 := Lib.hid HS2
     have Hset := Lib.hid Hset
     replace hx3 := Lib.hid hx3
     obtain ⟨a0, a1, a2, a3, a4, a5, a6, a7, a8, a9, a10⟩ := cells11 HX8.out
     clear HS11 HX8
     go_wp2_with (refine wpList_store_row rfl 43 (.tmp 4) (.tmp 57) rfl g4 #[.int .i64 xk, .string xr, .string xu, .string xz, .string xt, .bool xp, .bool xo, .int .i64 xs, .int .i64 xy, .int .i64 xc, .int .i64 xm] rfl rfl 43 X hx3.out edu_info hX (one11 _ _ _ _ _ _ _ _ _ _ _) ?_)
     generalize hW2 : World.setRow _ _ _ = W3 at Hset HS2 ⊢
     clear hW2
     clear a0 a1 a2 a3 a4 a5 a6 a7 a8 a9 a10
     obtain ⟨d0, d1, d2, d3, d4, d5, d6, d7, d8, d9, d10⟩ := cells11 Hset.out
     go_wp2_with fail
     refine bodyPost_ret (v := .tuple #[.agg #[.int .i64 xk, .string xr, .string xu, .string xz, .string xt, .bool xp, .bool xo, .int .i64 xs, .int .i64 xy, .int .i64 xc, .int .i64 xm], .bool true]) ?_ rfl ⟨rfl, _, by rw [hdl.out]; exact HS2.out.k⟩
     simp [results, Tryz.results46, go_sem, d0, d1, d2, d3, d4, d5, d6, d7, d8, d9, d10]
   case wayD =>
    have hsr : LE.Slice (wB.alloc (.cells #[.int .i64 k, .string r, .string u, .string z, .string t, .bool pr, .bool o, .int .i64 s, .int .i64 y, .int .i64 c, .int .i64 m] 43)) (.slice (some ⟨wB.heap.size, 0, none⟩) 1 1) [⟨k, r, u, z, t, pr, o, s, y, c, m⟩] := lit_slice (L := LE) wB ⟨k, r, u, z, t, pr, o, s, y, c, m⟩ wB.heap.size rfl #[.int .i64 k, .string r, .string u, .string z, .string t, .bool pr, .bool o, .int .i64 s, .int .i64 y, .int .i64 c, .int .i64 m] rfl
    replace HS := Lib.hid (HS.out.later (below_new wB (.cells #[.int .i64 k, .string r, .string u, .string z, .string t, .bool pr, .bool o, .int .i64 s, .int .i64 y, .int .i64 c, .int .i64 m] 43)))
    go_simp
    generalize World.alloc _ _ = w5 at hsr HS ⊢
    generalize wB.heap.size = B5 at hsr ⊢
    refine hK.out _ _ HS.out.b3 (fun hHeld => ?_)
    clear hK K
    try simp only [actS]
    refine wpAnyH_ready (rs := [4]) (by kernel_rfl) (by simp) ?_
    refine AllReadyH.cons (o := ⟨some 18, _, _, _, _, _⟩) rfl (fun K hK => ?_) AllReadyH.nil
    have z : World.cell? _ ⟨b, 1, none⟩ = some v := cell_at HS.out.k.pk.hd 1
    go_simp
    refine hK.out _ _ hHeld (fun hHeld => ?_)
    clear hK K z
    try simp only [actS]
    refine wpAnyH_ready (rs := [8]) (by kernel_rfl) (by simp) ?_
    refine AllReadyH.cons (o := ⟨some 22, _, _, _, _, _⟩) rfl (fun K hK => ?_) AllReadyH.nil
    have HSR := Lib.hid (hsr.srcN knE (n := 1) rfl)
    rw [if_pos (by rfl)]
    refine wp_puts knE (.tmp 18) (.tmp 21) 23 rfl rfl HS.out.k.pk.row (Nat.le_trans HS.out.k.pk.lo (Nat.le_of_lt (smem_lt HS.out.k.pk.hd))) (.slice (some ⟨B5, 0, none⟩) 1 1) [⟨k, r, u, z, t, pr, o, s, y, c, m⟩] 1 rfl rfl HSR.out (show l.length + 1 ≤ 1000000 by omega) (fun A2 cap2 w6 hm6 hg6 ho6 => ?_)
    obtain ⟨hb6, hg36, hs7⟩ := HS.out.row hm6 hg6 ho6 (fun x hx => by
     rcases List.mem_append.1 hx with hx | hx
     ·exact HBK.out x hx
     ·rw [List.mem_singleton] at hx
      rw [hx]
      exact HBR.out)
    simp only at hb6 hs7
    have HB6 := Lib.hid hb6
    have HS7 := Lib.hid hs7
    refine hK.out _ _ hg36 (fun hHeld => ?_)
    clear hK K hm6 hg6 ho6 hb6 hs7 hsr HSR HS hg36
    try simp only [actS]
    refine wpAnyH_take (i := 9) (oi := ⟨some 23, _, _, _, _, _⟩) (v := ?vdd9) rfl (by kernel_rfl) (by kernel_rfl) (by kernel_rfl) (fun _ _ _ h => h) (Or.inl ⟨by rfl, ?ydd9⟩) hHeld ?rdd9
    case ydd9 =>
     intro wx hSx
     go_simp
     try with_reducible rfl
    try simp only [actS]
    refine wpAnyH_take (i := 10) (oi := ⟨some 24, _, _, _, _, _⟩) (v := ?vdd10) rfl (by kernel_rfl) (by kernel_rfl) (by kernel_rfl) (fun _ _ _ h => h) (Or.inl ⟨by rfl, ?ydd10⟩) hHeld ?rdd10
    case ydd10 =>
     intro wx hSx
     go_simp
     try with_reducible rfl
    try simp only [actS]
    refine wpAnyH_ready (rs := [11]) (by kernel_rfl) (by simp) ?_
    refine AllReadyH.cons (o := ⟨none, _, _, _, _, _⟩) rfl (fun K hK => ?_) AllReadyH.nil
    have z1 : (w6.cell? ⟨b, 1, none⟩) = some v := cell_at HB6.out 1
    have z2 : (w6.frozen? ⟨b, 1, none⟩) = false := free_at HB6.out 1
    go_simp
    refine hK.out _ _ HS7.out.b3 (fun hHeld => ?_)
    clear hK K z1 z2 HB6
    try simp only [actS]
    refine wpAnyH_done (by kernel_rfl) ?_ _
    generalize World.setCell _ _ _ = w7 at HS7 ⊢
    have hn : (l ++ [(⟨k, r, u, z, t, pr, o, s, y, c, m⟩ : Edu)]).length = l.length + 1 := by simp
    generalize l ++ [(⟨k, r, u, z, t, pr, o, s, y, c, m⟩ : Edu)] = l2 at HI HO HS7 hn
    have HS := Lib.hid HS7.out
    clear HS7 HBK hHeld
    generalize hnn : l.length + 1 = n at *
    have c0 : w7.cell? ⟨b, 0, none⟩ = some (.int .i64 (most : Int)) := cell_at HS.out.k.pk.hd 0
    have c1 : w7.cell? ⟨b, 1, none⟩ = some (.slice A2 n cap2) := cell_at HS.out.k.pk.hd 1
    have c2 : w7.cell? ⟨b, 2, none⟩ = some (.int .i64 (lost : Int)) := cell_at HS.out.k.pk.hd 2
    cases ov
    ·have q1 : decide ((n : Int) ≤ (most : Int)) = true := decide_eq_true (by
      have := HOV.out
      rw [eq_comm, decide_eq_false_iff_not] at this
      omega)
     have q2 : decide (n ≤ most) = true := decide_eq_true (by rw [decide_eq_true_eq] at q1; omega)
     obtain ⟨rfl, rfl, rfl⟩ := HI.out rfl
     clear HI HO HOV
     go_upto_region 4 with (fail)
     go_quiet (fail)
     replace HS := Lib.hid (HS.out.later (below_drewN (Below.refl _ _) nq))
     clear c0 c1 c2
     generalize World.drewN _ _ = w8 at HS ⊢
     obtain ⟨X, hX, hx3⟩ := HS.out.b4
     obtain ⟨HS2, Hset⟩ := HS.out.box (X := #[.int .i64 0, .string ⟨#[]⟩, .string ⟨#[]⟩, .string ⟨#[]⟩, .string ⟨#[]⟩, .bool false, .bool false, .int .i64 0, .int .i64 0, .int .i64 0, .int .i64 0]) rfl
     have HS2 := Lib.hid HS2
     have Hset := Lib.hid Hset
     replace hx3 := Lib.hid hx3
     clear HS
     go_wp2_with (refine wpList_store_row rfl 43 (.tmp 4) (.tmp 35) rfl g4 #[.int .i64 0, .string ⟨#[]⟩, .string ⟨#[]⟩, .string ⟨#[]⟩, .string ⟨#[]⟩, .bool false, .bool false, .int .i64 0, .int .i64 0, .int .i64 0, .int .i64 0] rfl rfl 43 X hx3.out edu_info hX (one11 _ _ _ _ _ _ _ _ _ _ _) ?_)
     generalize hW2 : World.setRow _ _ _ = W3 at Hset HS2 ⊢
     clear hW2
     obtain ⟨d0, d1, d2, d3, d4, d5, d6, d7, d8, d9, d10⟩ := cells11 Hset.out
     go_wp2_with fail
     refine bodyPost_ret (v := .tuple #[.agg #[.int .i64 0, .string ⟨#[]⟩, .string ⟨#[]⟩, .string ⟨#[]⟩, .string ⟨#[]⟩, .bool false, .bool false, .int .i64 0, .int .i64 0, .int .i64 0, .int .i64 0], .bool false]) ?_ rfl ⟨rfl, _, HS2.out.k⟩
     simp [results, Tryz.results46, go_sem, d0, d1, d2, d3, d4, d5, d6, d7, d8, d9, d10]
    ·have q1 : decide ((n : Int) ≤ (most : Int)) = false := decide_eq_false (by
      have := HOV.out
      rw [eq_comm, decide_eq_true_eq] at this
      omega)
     have q2 : decide (n ≤ most) = false := decide_eq_false (by rw [decide_eq_false_iff_not] at q1; omega)
     obtain ⟨rfl, rfl, rfl⟩ := HO.out rfl
     clear HI HO HOV
     go_upto_region 4 with (fail)
     go_quiet (fail)
     replace HS := Lib.hid (HS.out.later (below_drewN (Below.refl _ _) nq))
     clear c0 c1 c2 q1 q2
     generalize World.drewN _ _ = w8 at HS ⊢
     obtain ⟨x0, l3, rfl⟩ : ∃ x0 l3, l2 = x0 :: l3 := by
      cases l2 with
      | nil => simp at hn; omega
      | cons x0 l3 => exact ⟨x0, l3, rfl⟩
     obtain ⟨xk, xr, xu, xz, xt, xp, xo, xs, xy, xc, xm⟩ := x0
     have hM := HS.out.k.pk.row
     obtain ⟨g9, o9, rfl⟩ : ∃ g9 o9, A2 = some ⟨g9, o9, none⟩ := by
      rcases hM with ⟨hv', hn'⟩ | ⟨g', off', cap', cur, hv', -⟩
      ·cases hn'
      ·injection hv' with e1 e2 e3
       exact ⟨g', off', e1⟩
     obtain ⟨bo, oo, hbo', hbo, hco⟩ := hM.slice.at (i := 0) rfl
     injection hbo' with hbo'
     injection hbo' with hb1 hb2 _
     subst hb1 hb2
     have hn0 : 0 < n := by omega
     have hix := fun w => index_any (P := Tryz.prog) knE (by decide) (b := g9) (off := o9) (cap := cap2) hn0 w
     simp only [LE] at hix hco
     obtain ⟨a0, a1, a2, a3, a4, a5, a6, a7, a8, a9, a10⟩ := range11 hco
     simp only [Nat.zero_mul, Nat.add_zero] at hix a0 a1 a2 a3 a4 a5 a6 a7 a8 a9 a10
     replace hix : ∀ w : World, (Instr.indexAt 23 (.slice (some ⟨g9, o9, none⟩) n cap2) (.int .i64 0)).run Tryz.prog w = .ok (.pointer (some ⟨g9, o9, none⟩)) w := hix
     have c1 : w8.cell? ⟨b, 1, none⟩ = some (.slice (some ⟨g9, o9, none⟩) n cap2) := cell_at HS.out.k.pk.hd 1
     have HX := Lib.hid (heap_alloc_new w8 (.cells #[.int .i64 xk, .string xr, .string xu, .string xz, .string xt, .bool xp, .bool xo, .int .i64 xs, .int .i64 xy, .int .i64 xc, .int .i64 xm] 43))
     have hltb : b < w8.heap.size := smem_lt HS.out.k.pk.hd
     have HS9 := Lib.hid (HS.out.later (below_new w8 (.cells #[.int .i64 xk, .string xr, .string xu, .string xz, .string xt, .bool xp, .bool xo, .int .i64 xs, .int .i64 xy, .int .i64 xc, .int .i64 xm] 43)))
     clear hM hco hn0
     go_upto_region 7 with (fail)
     generalize World.alloc _ _ = w9 at HX HS9 ⊢
     generalize w8.heap.size = g6 at HX hbo hltb ⊢
     clear HS a0 a1 a2 a3 a4 a5 a6 a7 a8 a9 a10 hix c1
     have c1 : w9.cell? ⟨b, 1, none⟩ = some (.slice (some ⟨g9, o9, none⟩) n cap2) := cell_at HS9.out.k.pk.hd 1
     have hnl : n = (⟨xk, xr, xu, xz, xt, xp, xo, xs, xy, xc, xm⟩ :: l3 : List Edu).length := by omega
     have HD := Lib.hid (deleteE_any B g9 o9 cap2 (⟨xk, xr, xu, xz, xt, xp, xo, xs, xy, xc, xm⟩ :: l3) w9 (by rw [← hnl]; exact HS9.out.k.pk.row) (by simp))
     rw [← hnl] at HD
     clear hnl
     go_wp2_with fail
     go_at_call 74
     refine HD.out.mono ?_
     rintro e wx ⟨rfl, hmd, hgd⟩
     obtain ⟨hbx, -, hsx⟩ := HS9.out.row hmd hgd (fun k hk => .inl hk) (fun x hx => HS9.out.k.pk.ok x (List.mem_of_mem_drop hx))
     have HX6 := Lib.hid ((hgd.block g6 (smem_lt HX.out) (fun e => by injection e with e; omega)).trans HX.out)
     have HSX := Lib.hid hsx
     have HBX := Lib.hid hbx
     generalize hdl : (List.drop 1 (⟨xk, xr, xu, xz, xt, xp, xo, xs, xy, xc, xm⟩ :: l3 : List Edu)) = l4 at *
     replace hdl := Lib.hid hdl
     clear c1 HD HS9 HX hmd hgd hbx hsx
     have z0 : wx.cell? ⟨b, 1, none⟩ = some (.slice (some ⟨g9, o9, none⟩) n cap2) := cell_at HBX.out 1
     have z1 : wx.frozen? ⟨b, 1, none⟩ = false := free_at HBX.out 1
     go_upto_region 8 with (fail)
     have HX7 := Lib.hid ((Below.heap_setCell wx ⟨b, 1, none⟩ (.slice (some ⟨g9, o9, none⟩) l4.length cap2) g6 (by simp only; omega)).trans HX6.out)
     generalize World.setCell _ _ _ = w10 at HSX HX7 ⊢
     clear z0 z1 HBX HX6
     have z0 : w10.cell? ⟨b, 2, none⟩ = some (.int .i64 (lost : Int)) := cell_at HSX.out.k.pk.hd 2
     have z1 : w10.frozen? ⟨b, 2, none⟩ = false := free_at HSX.out.k.pk.hd 2
     have HS11 := Lib.hid HSX.out.more
     simp only at HS11
     have HX8 := Lib.hid ((Below.heap_setCell w10 ⟨b, 2, none⟩ (.int .i64 ((lost : Int) + 1)) g6 (by simp only; omega)).trans HX7.out)
     clear HSX HX7
     go_upto_region 9 with (fail)
     generalize World.setCell _ _ _ = w11 at HS11 HX8 ⊢
     clear z0 z1
     obtain ⟨X, hX, hx3⟩ := HS11.out.b4
     obtain ⟨HS2, Hset⟩ := HS11.out.box (X := #[.int .i64 xk, .string xr, .string xu, .string xz, .string xt, .bool xp, .bool xo, .int .i64 xs, .int .i64 xy, .int .i64 xc, .int .i64 xm]) rfl
     have HS2 := Lib.hid HS2
     have Hset := Lib.hid Hset
     replace hx3 := Lib.hid hx3
     obtain ⟨a0, a1, a2, a3, a4, a5, a6, a7, a8, a9, a10⟩ := cells11 HX8.out
     clear HS11 HX8
     go_wp2_with (refine wpList_store_row rfl 43 (.tmp 4) (.tmp 57) rfl g4 #[.int .i64 xk, .string xr, .string xu, .string xz, .string xt, .bool xp, .bool xo, .int .i64 xs, .int .i64 xy, .int .i64 xc, .int .i64 xm] rfl rfl 43 X hx3.out edu_info hX (one11 _ _ _ _ _ _ _ _ _ _ _) ?_)
     generalize hW2 : World.setRow _ _ _ = W3 at Hset HS2 ⊢
     clear hW2
     clear a0 a1 a2 a3 a4 a5 a6 a7 a8 a9 a10
     obtain ⟨d0, d1, d2, d3, d4, d5, d6, d7, d8, d9, d10⟩ := cells11 Hset.out
     go_wp2_with fail
     refine bodyPost_ret (v := .tuple #[.agg #[.int .i64 xk, .string xr, .string xu, .string xz, .string xt, .bool xp, .bool xo, .int .i64 xs, .int .i64 xy, .int .i64 xc, .int .i64 xm], .bool true]) ?_ rfl ⟨rfl, _, by rw [hdl.out]; exact HS2.out.k⟩
     simp [results, Tryz.results46, go_sem, d0, d1, d2, d3, d4, d5, d6, d7, d8, d9, d10]
 ·obtain ⟨rfl, rfl, rfl⟩ := HY.out rfl
  clear HY HI HO HOW
  obtain ⟨X, hX, hx3⟩ := HS.out.b4
  obtain ⟨HS2, Hset⟩ := HS.out.box (X := #[.int .i64 0, .string ⟨#[]⟩, .string ⟨#[]⟩, .string ⟨#[]⟩, .string ⟨#[]⟩, .bool false, .bool false, .int .i64 0, .int .i64 0, .int .i64 0, .int .i64 0]) rfl
  have HS2 := Lib.hid HS2
  have Hset := Lib.hid Hset
  replace hx3 := Lib.hid hx3
  clear HS
  go_wp2_with (refine wpList_store_row rfl 43 (.tmp 4) (.tmp 13) rfl g4 #[.int .i64 0, .string ⟨#[]⟩, .string ⟨#[]⟩, .string ⟨#[]⟩, .string ⟨#[]⟩, .bool false, .bool false, .int .i64 0, .int .i64 0, .int .i64 0, .int .i64 0] rfl rfl 43 X hx3.out edu_info hX (one11 _ _ _ _ _ _ _ _ _ _ _) ?_)
  generalize hW2 : World.setRow _ _ _ = W3 at Hset HS2 ⊢
  clear hW2
  obtain ⟨d0, d1, d2, d3, d4, d5, d6, d7, d8, d9, d10⟩ := cells11 Hset.out
  go_wp2_with fail
  refine bodyPost_ret (v := .tuple #[.agg #[.int .i64 0, .string ⟨#[]⟩, .string ⟨#[]⟩, .string ⟨#[]⟩, .string ⟨#[]⟩, .bool false, .bool false, .int .i64 0, .int .i64 0, .int .i64 0, .int .i64 0], .bool false]) ?_ rfl ⟨rfl, v, HS2.out.k⟩
  simp [results, Tryz.results46, go_sem, d0, d1, d2, d3, d4, d5, d6, d7, d8, d9, d10]
end Go.Proofs.YtnnapkakbdpkaaaGreat
