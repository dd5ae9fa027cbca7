/-
  What the statements stand on, part ZA25.
-/
import Derived.Test.YtnnapkakbdpkaaaGreatZA24
set_option linter.unusedVariables false
set_option linter.unusedSimpArgs false
namespace Go.Proofs.YtnnapkakbdpkaaaGreat
set_option maxRecDepth 20000
open Go.RowKit
structure MkS (w0 wr : World) (B7 : Nat) (id room : ByteArray) (pv : Value) (ts : List ByteArray) (th user : ByteArray) (does : Int) : Prop where
 below : Below w0.heap.size w0 wr
 lo7 : w0.heap.size ≤ B7
 b7 : wr.heap[B7]? = some (.cells #[.string id, .string room, pv, .string th, .string user, .int .i64 does] 52 (0, 0))
 row : LT.Mine wr w0.heap.size pv ts
section
variable {w0 wr w2 : World} {B7 : Nat} {id room th user : ByteArray} {pv : Value} {ts : List ByteArray} {does : Int}
theorem MkS.on (h : MkS w0 wr B7 id room pv ts th user does) (hb : Below wr.heap.size wr w2) : MkS w0 w2 B7 id room pv ts th user does :=
 ⟨h.below.trans (hb.mono h.below.size), h.lo7, (hb.block B7 (smem_lt h.b7)).trans h.b7, h.row.below hb⟩
theorem MkS.ne (h : MkS w0 wr B7 id room pv ts th user does) : ∀ k, pv.ownBlock = some k → k ≠ B7 := mine_ne h.row h.b7 (by decide)
theorem MkS.setThread (h : MkS w0 wr B7 id room pv ts th user does) (t : ByteArray) : MkS w0 (wr.setCell ⟨B7, 3, none⟩ (.string t)) B7 id room pv ts t user does :=
 ⟨h.below.grown (sm_grown wr B7 3 [.string t]) h.below.size (fun k hk => by injection hk with hk; have := h.lo7; omega), h.lo7, heap_set h.b7 3 _, h.row.grown (sm_grown wr B7 3 [.string t]) (fun k hk e => by injection e with e; exact h.ne k hk e)⟩
theorem MkS.setPar (h : MkS w0 wr B7 id room pv ts th user does) {pv' : Value} {ts' : List ByteArray} (hg : wr.grownBy w2 pv.ownBlock) (hm : LT.Mine w2 w0.heap.size pv' ts') : MkS w0 (w2.setCell ⟨B7, 2, none⟩ pv') B7 id room pv' ts' th user does := by
 have hb : w2.heap[B7]? = some (.cells #[.string id, .string room, pv, .string th, .string user, .int .i64 does] 52 (0, 0)) := (hg.block B7 (smem_lt h.b7) (fun e => h.ne B7 e.symm rfl)).trans h.b7
 have hbl : Below w0.heap.size w0 w2 := h.below.grown hg h.below.size (fun k hk => (h.row.lt k hk).1)
 exact ⟨hbl.grown (sm_grown w2 B7 2 [pv']) hbl.size (fun k hk => by injection hk with hk; have := h.lo7; omega), h.lo7, heap_set hb 2 _, hm.grown (sm_grown w2 B7 2 [pv']) (fun k hk e => by injection e with e; exact mine_ne hm hb (by decide) k hk e)⟩
end
def LB : Lies Bool := ⟨4, 1, fun x => [.bool x], fun _ => rfl, fun x u hu => by
 simp only [List.mem_cons, List.not_mem_nil, or_false] at hu
 subst hu; rfl⟩
theorem knB : Kn Tryz.prog LB 24 (.bool false) 1 := ⟨Tryz.underlying24, by kernel_rfl, rfl, by decide⟩
theorem made_falses (n : Nat) : (madeCells #[.bool false] n).toList = LB.vs (List.replicate n false) := by
 have h1 : (madeCells #[.bool false] n).toList = List.replicate n (.bool false) := by
  apply List.ext_getElem
  ·simp [madeCells]
  ·intro i h1 h2
   simp [madeCells, Nat.mod_one]
 rw [h1]
 clear h1
 induction n with
 | zero => rfl
 | succ n ih => rw [List.replicate_succ, List.replicate_succ, LB.vs_cons, ← ih]; rfl
theorem thr_no {g : Gp} {l : List Ev} (h : ¬ (aroundI g.does 3 = 0 ∧ 0 < l.length)) : thrM l g = ⟨#[]⟩ := by
 unfold thrM
 rw [if_neg h]
theorem thr_far {g : Gp} {l : List Ev} (h : aroundI g.does 3 = 0 ∧ 0 < l.length) (hk : l.length ≤ aroundN g.thread ((2 * l.length : Nat) : Int)) : thrM l g = ⟨#[]⟩ := by
 unfold thrM
 rw [if_pos h, List.getElem?_eq_none hk]
theorem thr_not {g : Gp} {l : List Ev} (h : aroundI g.does 3 = 0 ∧ 0 < l.length) (t : Ev) (ht : l[aroundN g.thread ((2 * l.length : Nat) : Int)]? = some t) (hn : ¬ (t.does = 0 ∧ t.thread = ⟨#[]⟩)) : thrM l g = ⟨#[]⟩ := by
 unfold thrM
 rw [if_pos h, ht]
 simp only
 rw [if_neg hn]
theorem thr_yes {g : Gp} {l : List Ev} (h : aroundI g.does 3 = 0 ∧ 0 < l.length) (t : Ev) (ht : l[aroundN g.thread ((2 * l.length : Nat) : Int)]? = some t) (hn : t.does = 0 ∧ t.thread = ⟨#[]⟩) : thrM l g = eventK (aroundN g.thread ((2 * l.length : Nat) : Int)) := by
 unfold thrM
 rw [if_pos h, ht]
 simp only
 rw [if_pos hn]
theorem not_both7 {s : ByteArray} (h1 : eventB s = true) (h2 : namedB 33 s = true) : False := by
 unfold eventB at h1
 unfold namedB at h2
 split at h1
 ·rename_i hz
  rw [dif_pos hz] at h2
  simp only [Bool.and_eq_true, beq_iff_eq] at h1 h2
  have e1 := h1.1
  have e2 := h2.1.1.1
  omega
 ·cases h1
theorem par_far {room : ByteArray} {xs : List EvV} (hv : Valid room (evs xs)) (hr : namedB 33 room = true) : ∀ x ∈ xs, ∀ p ∈ x.ev.parents, p ≠ ⟨#[]⟩ ∧ p ≠ room := by
 intro x hx p hp
 obtain ⟨i, hi, he⟩ := List.getElem_of_mem hx
 have h1 := (err_zero (hv i x.ev (by rw [List.getElem?_map, List.getElem?_eq_getElem hi, he]; rfl))).1
 rw [mayE_code] at h1
 simp only [Bool.and_eq_true] at h1
 have h4 := h1.1.1.2
 unfold behB at h4
 rw [Bool.and_eq_true] at h4
 obtain ⟨j, hj, hje⟩ := List.getElem_of_mem hp
 have h7 := (List.all_eq_true.1 h4.2) j (by rw [List.mem_range]; exact hj)
 rw [parB_code (List.getElem?_eq_getElem hj)] at h7
 simp only [Bool.and_eq_true] at h7
 rw [hje] at h7
 refine ⟨fun e => ?_, fun e => ?_⟩
 ·rw [e] at h7
  exact absurd h7.1.1 (by decide)
 ·rw [e] at h7
  exact not_both7 h7.1.1 hr
theorem EvsS.farD {wr W : World} {v : Value} {xs : List EvV} {B n c : Nat} {A : Option Addr} {r : ByteArray} {t : TypeId} (h : EvsS wr v xs) (hB : wr.heap[B]? = some (.cells #[.string r, .slice A n c] t (0, 0))) (hp : ∀ x ∈ xs, ∀ p ∈ x.ev.parents, p ≠ r) (hg : wr.grownBy W (some B)) : EvsS W v xs := by
 have hc : ∀ (b o : Nat) (u : Value), b < wr.heap.size → b ≠ B → wr.cell? ⟨b, o, none⟩ = some u → W.cell? ⟨b, o, none⟩ = some u := fun b o u hb hne hu => (World.cell?_of_block (a := ⟨b, o, none⟩) (hg.block b hb (fun e => hne (by injection e)))).trans hu
 have h1 : wr.cell? ⟨B, 1, none⟩ = some (.slice A n c) := cell_at hB 1
 have h2 : ∀ o, 2 ≤ o → wr.cell? ⟨B, o, none⟩ = none := fun o ho => by
  rw [cell_at hB o, Array.getElem?_eq_none (by simpa using ho)]
 have h0 : wr.cell? ⟨B, 0, none⟩ = some (.string r) := cell_at hB 0
 refine ⟨?_, fun x hx => ⟨?_, (h.2 x hx).2⟩⟩
 ·obtain ⟨A', cap, rfl, k1, k2, k3, k4⟩ := h.1
  refine ⟨A', cap, rfl, k1, k2, k3, fun hl => ?_⟩
  obtain ⟨b, off, hA, hb, hr⟩ := k4 hl
  have hne : b ≠ B := fun e => by
   subst e
   obtain ⟨y, ys, rfl⟩ := List.exists_cons_of_length_pos hl
   have e1 := hr 1 (.string y.ev.room) (by rw [LV.vs_cons]; rfl)
   cases off with
   | zero =>
    rw [Nat.zero_add, h1] at e1
    cases e1
   | succ o =>
    rw [h2 (o + 1 + 1) (by omega)] at e1
    cases e1
  exact ⟨b, off, hA, Nat.lt_of_lt_of_le hb hg.size, fun j u hu => hc b _ u hb hne (hr j u hu)⟩
 ·obtain ⟨A', cap, hv, k1, k2, k3, k4⟩ := (h.2 x hx).1
  refine ⟨A', cap, hv, k1, k2, k3, fun hl => ?_⟩
  obtain ⟨b, off, hA, hb, hr⟩ := k4 hl
  have hne : b ≠ B := fun e => by
   subst e
   obtain ⟨p, ps, hps⟩ := List.exists_cons_of_length_pos hl
   have e1 := hr 0 (.string p) (by rw [hps, LT.vs_cons]; rfl)
   have hpp := hp x hx p (by rw [hps]; exact List.mem_cons_self)
   rw [Nat.add_zero] at e1
   cases off with
   | zero =>
    rw [h0] at e1
    injection e1 with e1
    injection e1 with e1
    exact hpp e1.symm
   | succ o =>
    cases o with
    | zero => rw [Nat.zero_add, h1] at e1; cases e1
    | succ o => rw [h2 (o + 1 + 1) (by omega)] at e1; cases e1
  exact ⟨b, off, hA, Nat.lt_of_lt_of_le hb hg.size, fun j u hu => hc b _ u hb hne (hr j u hu)⟩
theorem MdS.next {w wr : World} {B4 B5 : Nat} {room : ByteArray} {v v2 : Value} {xs ys : List EvV} (h : MdS w wr B4 B5 room v xs) (he : EvsS wr v2 ys) (hp : ∀ x ∈ ys, ∀ p ∈ x.ev.parents, p ≠ ⟨#[]⟩ ∧ p ≠ room) : MdS w (wr.setCells B5 0 [.string room, v2]) B4 B5 room v2 ys := by
 have hg := sm_grown wr B5 0 [.string room, v2]
 obtain ⟨A, cap, hv, -⟩ := id h.row.1
 have h5 := h.b5
 rw [hv] at h5
 obtain ⟨cur, z1, z2, z3⟩ := sm_at B5 93 [.string room, v2] 0 wr _ h.b5 (Nat.le_refl 2)
 have z5 : cur = #[.string room, v2] := Array.toList_inj.1 z3
 rw [z5] at z1
 exact ⟨h.ne, h.lo4, h.lo5, (hg.block B4 (smem_lt h.b4) (fun e => h.ne (by injection e))).trans h.b4, z1, he.farD h5 (fun x hx p hq => (hp x hx p hq).2) hg, h.below.grown hg h.below.size (fun k hk => by injection hk with hk; have := h.lo5; omega)⟩
theorem on_cell {w : World} {B Bo i : Nat} {bs : List Bool} (h : LB.Mine w B (.slice (some ⟨Bo, 0, none⟩) 9 9) bs) (hi : i < bs.length) : ∃ b, w.cell? ⟨Bo, i, none⟩ = some (.bool b) ∧ w.frozen? ⟨Bo, i, none⟩ = false := by
 obtain ⟨b, off, e, _, hr⟩ := h.slice.at (List.getElem?_eq_getElem hi)
 injection e with e
 injection e with e1 e2 _
 subst e1 e2
 have h0 := hr 0 _ rfl
 have ht := h.there hi 0 (by decide)
 simp only [LB, Nat.zero_add, Nat.mul_one, Nat.add_zero] at h0 ht
 exact ⟨_, h0, ht.2⟩
theorem on_val {w : World} {B Bo i : Nat} {bs : List Bool} {b : Bool} (h : LB.Mine w B (.slice (some ⟨Bo, 0, none⟩) 9 9) bs) (hi : bs[i]? = some b) : w.cell? ⟨Bo, i, none⟩ = some (.bool b) := by
 obtain ⟨b', off, e, _, hr⟩ := h.slice.at hi
 injection e with e
 injection e with e1 e2 _
 subst e1 e2
 have h0 := hr 0 _ rfl
 simp only [LB, Nat.zero_add, Nat.mul_one, Nat.add_zero] at h0
 exact h0
theorem on_set {w : World} {B Bo i : Nat} {bs : List Bool} (h : LB.Mine w B (.slice (some ⟨Bo, 0, none⟩) 9 9) bs) (hi : i < bs.length) (b : Bool) : LB.Mine (w.setCell ⟨Bo, i, none⟩ (.bool b)) B (.slice (some ⟨Bo, 0, none⟩) 9 9) (bs.set i b) := by
 have := h.set hi b
 simp only [LB, World.setCells, Nat.zero_add, Nat.mul_one] at this
 exact this
theorem MkS.far {w0 wr : World} {B7 Bo : Nat} {id room th user : ByteArray} {pv : Value} {ts : List ByteArray} {does : Int} {bs : List Bool} (h : MkS w0 wr B7 id room pv ts th user does) (ho : LB.Mine wr w0.heap.size (.slice (some ⟨Bo, 0, none⟩) 9 9) bs) (i : Nat) (u : Value) : MkS w0 (wr.setCell ⟨Bo, i, none⟩ u) B7 id room pv ts th user does := by
 have hg := sm_grown wr Bo i [u]
 have hlo := (ho.lt Bo rfl).1
 have hbo : ∃ cur, wr.heap[Bo]? = some (.cells cur 4 (0, 0)) := by
  rcases ho with ⟨e, _⟩ | ⟨g, off, cap, cur, e, _, hh, _⟩
  ·cases e
  ·injection e with e
   injection e with e
   injection e with e1 _ _
   subst e1
   exact ⟨cur, hh⟩
 obtain ⟨cur, hbo⟩ := hbo
 have hne : B7 ≠ Bo := fun e => by
  have h1 := h.b7
  rw [e, hbo] at h1
  injection h1 with h1
  injection h1 with _ h1
  exact absurd h1 (by decide)
 exact ⟨h.below.grown hg h.below.size (fun k hk => by injection hk with hk; omega), h.lo7, (hg.block B7 (smem_lt h.b7) (fun e => hne (by injection e))).trans h.b7, h.row.grown hg (fun k hk e => by injection e with e; exact mine_ne h.row hbo (by decide) k hk e)⟩
theorem on_made {w : World} {B : Nat} {g : Gp} {i : Nat} (hB : B ≤ w.heap.size) : LB.Mine (w.alloc (.cells (madeCells #[.bool false] 9) 4)) B (.slice (some ⟨w.heap.size, 0, none⟩) 9 9) (onTo g i 0) := by
 refine .inr ⟨w.heap.size, 0, 9, _, by rw [onTo_len], hB, heap_alloc_new w _, by rw [onTo_len]; exact Nat.le_refl _, by unfold maxLen; omega, by simp [LB, madeCells], ?_⟩
 rw [onTo_zero, List.length_replicate, ← made_falses, List.drop_zero, List.take_of_length_le (by rw [Array.length_toList, size_madeCells]; exact Nat.le_of_eq (Nat.mul_one _).symm)]
theorem made_stored {w0 wr : World} {B7 : Nat} (hb : Below w0.heap.size w0 wr) (hlo : w0.heap.size ≤ B7) (hr : wr.heap[B7]? = some (.cells #[.string ⟨#[]⟩, .string ⟨#[]⟩, .slice none 0 0, .string ⟨#[]⟩, .string ⟨#[]⟩, .int .i64 0] 52 (0, 0))) (id room user : ByteArray) (does : Int) :
  ∀ W, W = wr.setCells B7 0 [.string id, .string room, .slice none 0 0, .string ⟨#[]⟩, .string user, .int .i64 does] → MkS w0 W B7 id room (.slice none 0 0) [] ⟨#[]⟩ user does := by
 rintro W rfl
 obtain ⟨cur, z1, z2, z3⟩ := sm_at B7 52 [.string id, .string room, .slice none 0 0, .string ⟨#[]⟩, .string user, .int .i64 does] 0 wr _ hr (Nat.le_refl 6)
 have z5 : cur = #[.string id, .string room, .slice none 0 0, .string ⟨#[]⟩, .string user, .int .i64 does] := Array.toList_inj.1 z3
 rw [z5] at z1
 exact ⟨hb.grown (sm_grown wr B7 0 _) hb.size (fun k hk => by injection hk with hk; omega), hlo, z1, .inl ⟨rfl, rfl⟩⟩
theorem g_at {w : World} {A : Option Addr} {n cap i : Nat} {gs : List GV} {x : GV} (h : GsS w (.slice A n cap) gs) (hi : gs[i]? = some x) : ∃ b off, A = some ⟨b, off, none⟩ ∧ b < w.heap.size ∧ w.cell? ⟨b, off + i * 4, none⟩ = some (.int .i64 x.g.user) ∧ w.cell? ⟨b, off + i * 4 + 1, none⟩ = some (.int .i64 x.g.does) ∧ w.cell? ⟨b, off + i * 4 + 2, none⟩ = some x.pv ∧ w.cell? ⟨b, off + i * 4 + 3, none⟩ = some (.int .i64 x.g.thread) := by
 obtain ⟨b, off, hA, hb, hr⟩ := h.1.at hi
 exact ⟨b, off, hA, hb, hr 0 _ rfl, hr 1 _ rfl, hr 2 _ rfl, hr 3 _ rfl⟩
set_option maxHeartbeats 6400000 in
theorem refMade_any (room : ByteArray) (v : Value) (gs : List GV) (w : World) (h : GsS w v gs) (hr : namedB 33 room = true) :
  Calls Tryz.prog 31 #[.string room, v] w fun e w' => ∃ (v' : Value) (xs : List EvV), e = .returned (.agg #[.string room, v']) ∧ EvsS w' v' xs ∧ evs xs = madeTo room (gps gs) (min gs.length 9) ∧ Below w.heap.size w w' ∧ ∀ y ∈ xs, ∀ k, y.pv.ownBlock = some k → w.heap.size ≤ k ∧ k < w'.heap.size := by
 have HG := Lib.hid h
 have HR := Lib.hid hr
 obtain ⟨A, cap, rfl, h5, hm, -⟩ := id h.1
 have hm1 : cap ≤ 9223372036854775807 := by unfold maxLen at hm; omega
 have HS := Lib.hid (MdS.start w room)
 clear h hr hm
 go_enter Tryz.func31, Tryz.ntmps31
 go_upto_region 2 with (fail)
 generalize World.alloc _ _ = w1 at HS ⊢
 generalize w.heap.size + 1 = B5 at HS ⊢
 generalize hB4 : w.heap.size = B4 at HS ⊢
 go_wp2_with fail
 go_loopw [6] (fun i wr => ∃ (a : Nat), i = .int .i64 (a : Int) ∧ a ≤ gs.length ∧ a ≤ 9 ∧ Hid (∃ v' xs, MdS w wr B4 B5 room v' xs ∧ evs xs = madeTo room (gps gs) a ∧ ∀ y ∈ xs, ∀ k, y.pv.ownBlock = some k → w.heap.size ≤ k ∧ k < wr.heap.size)) (fun i _ => gs.length - (intOf i).toNat)
 case atStart => exact ⟨0, rfl, Nat.zero_le _, Nat.zero_le _, Lib.hid ⟨_, [], HS.out, rfl, fun y hy => by cases hy⟩⟩
 case round =>
  obtain ⟨a, rfl, ha, ha9, HM⟩ := hrel
  by_cases hgo : a < gs.length ∧ a < 9
  ·obtain ⟨hal, ha8⟩ := hgo
   have q1 : decide ((a : Int) < (gs.length : Int)) = true := decide_eq_true (by omega)
   have q2 : decide ((a : Int) < 9) = true := decide_eq_true (by omega)
   have hg : gs[a]? = some gs[a] := List.getElem?_eq_getElem hal
   generalize gs[a] = x at hg
   have HXG := Lib.hid hg
   have HXA := Lib.hid (HG.out.2 x (List.mem_of_getElem? hg))
   obtain ⟨bg, og, rfl, hbg, hc0, hc1, hc2, hc3⟩ := g_at HG.out hg
   have hig := index_any (P := Tryz.prog) knG (by decide) (b := bg) (off := og) (cap := cap) hal
   simp only [LG] at hig
   have HC := Lib.hid (And.intro hc0 (And.intro hc1 (And.intro hc2 hc3)))
   obtain ⟨v', xs, hmd, hxs, hft⟩ := HM.out
   have HMD := Lib.hid hmd
   have HXS := Lib.hid hxs
   have HFT := Lib.hid hft
   clear hft HM hg hc0 hc1 hc2 hc3 hmd hxs
   go_upto_region 5 with (fail)
   go_cut [7] from 16 to 134 (fun s7 wx => ∃ B7, s7 = .pointer (some ⟨B7, 0, none⟩) ∧ Hid (MkS wr wx B7 (eventS (a : Int)) room (.slice none 0 0) [] ⟨#[]⟩ (userS x.g.user) (aroundI x.g.does 3)))
   case first =>
    have HE1 := Lib.hid (fun W => eventOf_any (a : Int) W (by omega) (by omega))
    have HE2 := Lib.hid (fun W => userOf_any x.g.user W HXA.out.2.1.1 HXA.out.2.1.2)
    have HE3 := Lib.hid (fun W => around_any x.g.does 3 W HXA.out.2.2.1.1 HXA.out.2.2.1.2 (by decide) (by decide))
    refine wp_region_held_drew (S := fun w' => Below wr.heap.size wr w') (by kernel_rfl) (Below.refl _ _).drew (fun hHeld => ?_)
    have hcs := HC.out
    have hw0 := HMD.out.below
    generalize wr.drew = wd at hHeld ⊢
    refine wpAnyH_take (i := 0) (oi := ⟨some 26, _, _, _, _, _⟩) (v := ?va0) rfl (by kernel_rfl) (by kernel_rfl) (by kernel_rfl) (fun _ _ _ h => h) (Or.inl ⟨by rfl, ?ya0⟩) hHeld ?ra0
    case ya0 =>
     intro wx hSx
     go_simp
     try with_reducible rfl
    try simp only [actS]
    refine wpAnyH_take (i := 2) (oi := ⟨some 28, _, _, _, _, _⟩) (v := ?va2) rfl (by kernel_rfl) (by kernel_rfl) (by kernel_rfl) (fun _ _ _ h => h) (Or.inl ⟨by rfl, ?ya2⟩) hHeld ?ra2
    case ya2 =>
     intro wx hSx
     go_simp
     try with_reducible rfl
    try simp only [actS]
    refine wpAnyH_take (i := 3) (oi := ⟨some 29, _, _, _, _, _⟩) (v := ?va3) rfl (by kernel_rfl) (by kernel_rfl) (by kernel_rfl) (fun _ _ _ h => h) (Or.inl ⟨by rfl, ?ya3⟩) hHeld ?ra3
    case ya3 =>
     intro wx hSx
     go_simp
     try with_reducible rfl
    try simp only [actS]
    refine wpAnyH_take (i := 4) (oi := ⟨some 30, _, _, _, _, _⟩) (v := ?va4) rfl (by kernel_rfl) (by kernel_rfl) (by kernel_rfl) (fun _ _ _ h => h) (Or.inl ⟨by rfl, ?ya4⟩) hHeld ?ra4
    case ya4 =>
     intro wx hSx
     go_simp
     try with_reducible rfl
    try simp only [actS]
    refine wpAnyH_take (i := 5) (oi := ⟨some 31, _, _, _, _, _⟩) (v := ?va5) rfl (by kernel_rfl) (by kernel_rfl) (by kernel_rfl) (fun _ _ _ h => h) (Or.inl ⟨by rfl, ?ya5⟩) hHeld ?ra5
    case ya5 =>
     intro wx hSx
     go_simp
     try with_reducible rfl
    try simp only [actS]
    refine wpAnyH_take (i := 6) (oi := ⟨some 32, _, _, _, _, _⟩) (v := ?va6) rfl (by kernel_rfl) (by kernel_rfl) (by kernel_rfl) (fun _ _ _ h => h) (Or.inl ⟨by rfl, ?ya6⟩) hHeld ?ra6
    case ya6 =>
     intro wx hSx
     go_simp
     try with_reducible rfl
    try simp only [actS]
    refine wpAnyH_take (i := 7) (oi := ⟨some 33, _, _, _, _, _⟩) (v := ?va7) rfl (by kernel_rfl) (by kernel_rfl) (by kernel_rfl) (fun _ _ _ h => h) (Or.inl ⟨by rfl, ?ya7⟩) hHeld ?ra7
    case ya7 =>
     intro wx hSx
     have z := (hSx.cell (p := ⟨bg, og + a * 4, none⟩) (Nat.lt_of_lt_of_le hbg hw0.size)).trans ((hw0.cell (p := ⟨bg, og + a * 4, none⟩) hbg).trans hcs.1)
     go_simp
     try with_reducible rfl
    try simp only [actS]
    refine wpAnyH_take (i := 9) (oi := ⟨some 35, _, _, _, _, _⟩) (v := ?va9) rfl (by kernel_rfl) (by kernel_rfl) (by kernel_rfl) (fun _ _ _ h => h) (Or.inl ⟨by rfl, ?ya9⟩) hHeld ?ra9
    case ya9 =>
     intro wx hSx
     go_simp
     try with_reducible rfl
    try simp only [actS]
    refine wpAnyH_take (i := 10) (oi := ⟨some 36, _, _, _, _, _⟩) (v := ?va10) rfl (by kernel_rfl) (by kernel_rfl) (by kernel_rfl) (fun _ _ _ h => h) (Or.inl ⟨by rfl, ?ya10⟩) hHeld ?ra10
    case ya10 =>
     intro wx hSx
     go_simp
     try with_reducible rfl
    try simp only [actS]
    refine wpAnyH_take (i := 11) (oi := ⟨some 37, _, _, _, _, _⟩) (v := ?va11) rfl (by kernel_rfl) (by kernel_rfl) (by kernel_rfl) (fun _ _ _ h => h) (Or.inl ⟨by rfl, ?ya11⟩) hHeld ?ra11
    case ya11 =>
     intro wx hSx
     go_simp
     try with_reducible rfl
    try simp only [actS]
    refine wpAnyH_take (i := 12) (oi := ⟨some 38, _, _, _, _, _⟩) (v := ?va12) rfl (by kernel_rfl) (by kernel_rfl) (by kernel_rfl) (fun _ _ _ h => h) (Or.inl ⟨by rfl, ?ya12⟩) hHeld ?ra12
    case ya12 =>
     intro wx hSx
     go_simp
     try with_reducible rfl
    try simp only [actS]
    refine wpAnyH_take (i := 13) (oi := ⟨some 39, _, _, _, _, _⟩) (v := ?va13) rfl (by kernel_rfl) (by kernel_rfl) (by kernel_rfl) (fun _ _ _ h => h) (Or.inl ⟨by rfl, ?ya13⟩) hHeld ?ra13
    case ya13 =>
     intro wx hSx
     have z := (hSx.cell (p := ⟨bg, og + a * 4 + 1, none⟩) (Nat.lt_of_lt_of_le hbg hw0.size)).trans ((hw0.cell (p := ⟨bg, og + a * 4 + 1, none⟩) hbg).trans hcs.2.1)
     go_simp
     try with_reducible rfl
    try simp only [actS]
    refine wpAnyH_ready (rs := [1, 16]) (by kernel_rfl) (by simp) ?_
    refine AllReadyH.cons (o := ⟨some 27, _, _, _, _, _⟩) rfl (fun K hK => ?waybA) (AllReadyH.cons (o := ⟨some 7, _, _, _, _, _⟩) rfl (fun K hK => ?waybB) AllReadyH.nil)
    case waybA =>
     go_simp
     refine (HE1.out _).mono ?_
     rintro e wn ⟨rfl, hbn⟩
     skip
     refine hK.out _ _ (hHeld.trans (hbn.mono hHeld.size)) (fun hHeld => ?_)
     clear hK K hbn
     try simp only [actS]
     generalize wn = wd at hHeld ⊢
     refine wpAnyH_ready (rs := [8, 16]) (by kernel_rfl) (by simp) ?_
     refine AllReadyH.cons (o := ⟨some 34, _, _, _, _, _⟩) rfl (fun K hK => ?waycA) (AllReadyH.cons (o := ⟨some 7, _, _, _, _, _⟩) rfl (fun K hK => ?waycB) AllReadyH.nil)
     case waycA =>
      go_simp
      refine (HE2.out _).mono ?_
      rintro e wn ⟨rfl, hbn⟩
      skip
      refine hK.out _ _ (hHeld.trans (hbn.mono hHeld.size)) (fun hHeld => ?_)
      clear hK K hbn
      try simp only [actS]
      generalize wn = wd at hHeld ⊢
      refine anyH_asks (i := 14) (oi := ⟨some 40, _, _, _, _, _⟩) (v := .int .i64 (aroundI x.g.does 3)) rfl (by kernel_rfl) (by kernel_rfl) (by kernel_rfl) (fun _ _ _ h => h) ⟨by rfl, fun wx hSx => ⟨_, _, ?ed14, HE3.out _⟩⟩ hHeld ?rd14
      case ed14 => go_simp
      try simp only [actS]
      refine wpAnyH_take (i := 15) (oi := ⟨some 41, _, _, _, _, _⟩) (v := ?vd15) rfl (by kernel_rfl) (by kernel_rfl) (by kernel_rfl) (fun _ _ _ h => h) (Or.inl ⟨by rfl, ?yd15⟩) hHeld ?rd15
      case yd15 =>
       intro wx hSx
       go_simp
       try with_reducible rfl
      try simp only [actS]
      refine wpAnyH_ready (rs := [16]) (by kernel_rfl) (by simp) ?_
      refine AllReadyH.cons (o := ⟨some 7, _, _, _, _, _⟩) rfl (fun K hK => ?_) AllReadyH.nil
      have hbn := below_new wd (.cells #[.string ⟨#[]⟩, .string ⟨#[]⟩, .slice none 0 0, .string ⟨#[]⟩, .string ⟨#[]⟩, .int .i64 0] 52)
      have hnw := heap_alloc_new wd (.cells #[.string ⟨#[]⟩, .string ⟨#[]⟩, .slice none 0 0, .string ⟨#[]⟩, .string ⟨#[]⟩, .int .i64 0] 52)
      have hlo7 := hHeld.size
      go_simp
      refine hK.out _ _ (hHeld.trans (hbn.mono hHeld.size)) (fun hHeld => ?_)
      clear hK K hbn
      try simp only [actS]
      generalize wd.alloc _ = we at hHeld hnw ⊢
      generalize wd.heap.size = B7 at hnw hlo7 ⊢
      generalize we = wd at hHeld hnw ⊢
      refine wpAnyH_ready (rs := [17]) (by kernel_rfl) (by simp) ?_
      refine AllReadyH.cons (o := ⟨none, _, _, _, _, _⟩) rfl (fun K hK => ?_) AllReadyH.nil
      have y0 : wd.cell? ⟨B7, 0, none⟩ = some (.string ⟨#[]⟩) := cell_at hnw 0
      have z0 : wd.frozen? ⟨B7, 0, none⟩ = false := free_at hnw 0
      have y1 : wd.cell? ⟨B7, 1, none⟩ = some (.string ⟨#[]⟩) := cell_at hnw 1
      have z1 : wd.frozen? ⟨B7, 1, none⟩ = false := free_at hnw 1
      have y2 : wd.cell? ⟨B7, 2, none⟩ = some (.slice none 0 0) := cell_at hnw 2
      have z2 : wd.frozen? ⟨B7, 2, none⟩ = false := free_at hnw 2
      have y3 : wd.cell? ⟨B7, 3, none⟩ = some (.string ⟨#[]⟩) := cell_at hnw 3
      have z3 : wd.frozen? ⟨B7, 3, none⟩ = false := free_at hnw 3
      have y4 : wd.cell? ⟨B7, 4, none⟩ = some (.string ⟨#[]⟩) := cell_at hnw 4
      have z4 : wd.frozen? ⟨B7, 4, none⟩ = false := free_at hnw 4
      have y5 : wd.cell? ⟨B7, 5, none⟩ = some (.int .i64 0) := cell_at hnw 5
      have z5 : wd.frozen? ⟨B7, 5, none⟩ = false := free_at hnw 5
      have HAN := made_stored hHeld hlo7 hnw (eventS (a : Int)) room (userS x.g.user) (aroundI x.g.does 3) _ rfl
      simp only [World.setCells] at HAN
      go_simp
      generalize World.setCell _ _ _ = w9 at HAN ⊢
      refine hK.out _ _ HAN.below (fun hHeld => ?_)
      clear hK K
      try simp only [actS]
      refine wpAnyH_done (by kernel_rfl) ?_ _
      go_wp2_with fail
      go_meet
      exact ⟨B7, rfl, Lib.hid HAN⟩
     case waycB =>
      have hbn := below_new wd (.cells #[.string ⟨#[]⟩, .string ⟨#[]⟩, .slice none 0 0, .string ⟨#[]⟩, .string ⟨#[]⟩, .int .i64 0] 52)
      have hnw := heap_alloc_new wd (.cells #[.string ⟨#[]⟩, .string ⟨#[]⟩, .slice none 0 0, .string ⟨#[]⟩, .string ⟨#[]⟩, .int .i64 0] 52)
      have hlo7 := hHeld.size
      go_simp
      refine hK.out _ _ (hHeld.trans (hbn.mono hHeld.size)) (fun hHeld => ?_)
      clear hK K hbn
      try simp only [actS]
      generalize wd.alloc _ = we at hHeld hnw ⊢
      generalize wd.heap.size = B7 at hnw hlo7 ⊢
      generalize we = wd at hHeld hnw ⊢
      refine wpAnyH_ready (rs := [8]) (by kernel_rfl) (by simp) ?_
      refine AllReadyH.cons (o := ⟨some 34, _, _, _, _, _⟩) rfl (fun K hK => ?_) AllReadyH.nil
      go_simp
      refine (HE2.out _).mono ?_
      rintro e wn ⟨rfl, hbn⟩
      replace hnw := (hbn.block B7 (smem_lt hnw)).trans hnw
      refine hK.out _ _ (hHeld.trans (hbn.mono hHeld.size)) (fun hHeld => ?_)
      clear hK K hbn
      try simp only [actS]
      generalize wn = wd at hHeld hnw ⊢
      refine anyH_asks (i := 14) (oi := ⟨some 40, _, _, _, _, _⟩) (v := .int .i64 (aroundI x.g.does 3)) rfl (by kernel_rfl) (by kernel_rfl) (by kernel_rfl) (fun _ _ _ h => h) ⟨by rfl, fun wx hSx => ⟨_, _, ?ee14, HE3.out _⟩⟩ hHeld ?re14
      case ee14 => go_simp
      try simp only [actS]
      refine wpAnyH_take (i := 15) (oi := ⟨some 41, _, _, _, _, _⟩) (v := ?ve15) rfl (by kernel_rfl) (by kernel_rfl) (by kernel_rfl) (fun _ _ _ h => h) (Or.inl ⟨by rfl, ?ye15⟩) hHeld ?re15
      case ye15 =>
       intro wx hSx
       go_simp
       try with_reducible rfl
      try simp only [actS]
      refine wpAnyH_ready (rs := [17]) (by kernel_rfl) (by simp) ?_
      refine AllReadyH.cons (o := ⟨none, _, _, _, _, _⟩) rfl (fun K hK => ?_) AllReadyH.nil
      have y0 : wd.cell? ⟨B7, 0, none⟩ = some (.string ⟨#[]⟩) := cell_at hnw 0
      have z0 : wd.frozen? ⟨B7, 0, none⟩ = false := free_at hnw 0
      have y1 : wd.cell? ⟨B7, 1, none⟩ = some (.string ⟨#[]⟩) := cell_at hnw 1
      have z1 : wd.frozen? ⟨B7, 1, none⟩ = false := free_at hnw 1
      have y2 : wd.cell? ⟨B7, 2, none⟩ = some (.slice none 0 0) := cell_at hnw 2
      have z2 : wd.frozen? ⟨B7, 2, none⟩ = false := free_at hnw 2
      have y3 : wd.cell? ⟨B7, 3, none⟩ = some (.string ⟨#[]⟩) := cell_at hnw 3
      have z3 : wd.frozen? ⟨B7, 3, none⟩ = false := free_at hnw 3
      have y4 : wd.cell? ⟨B7, 4, none⟩ = some (.string ⟨#[]⟩) := cell_at hnw 4
      have z4 : wd.frozen? ⟨B7, 4, none⟩ = false := free_at hnw 4
      have y5 : wd.cell? ⟨B7, 5, none⟩ = some (.int .i64 0) := cell_at hnw 5
      have z5 : wd.frozen? ⟨B7, 5, none⟩ = false := free_at hnw 5
      have HAN := made_stored hHeld hlo7 hnw (eventS (a : Int)) room (userS x.g.user) (aroundI x.g.does 3) _ rfl
      simp only [World.setCells] at HAN
      go_simp
      generalize World.setCell _ _ _ = w9 at HAN ⊢
      refine hK.out _ _ HAN.below (fun hHeld => ?_)
      clear hK K
      try simp only [actS]
      refine wpAnyH_done (by kernel_rfl) ?_ _
      go_wp2_with fail
      go_meet
      exact ⟨B7, rfl, Lib.hid HAN⟩
    case waybB =>
     have hbn := below_new wd (.cells #[.string ⟨#[]⟩, .string ⟨#[]⟩, .slice none 0 0, .string ⟨#[]⟩, .string ⟨#[]⟩, .int .i64 0] 52)
     have hnw := heap_alloc_new wd (.cells #[.string ⟨#[]⟩, .string ⟨#[]⟩, .slice none 0 0, .string ⟨#[]⟩, .string ⟨#[]⟩, .int .i64 0] 52)
     have hlo7 := hHeld.size
     go_simp
     refine hK.out _ _ (hHeld.trans (hbn.mono hHeld.size)) (fun hHeld => ?_)
     clear hK K hbn
     try simp only [actS]
     generalize wd.alloc _ = we at hHeld hnw ⊢
     generalize wd.heap.size = B7 at hnw hlo7 ⊢
     generalize we = wd at hHeld hnw ⊢
     refine wpAnyH_ready (rs := [1]) (by kernel_rfl) (by simp) ?_
     refine AllReadyH.cons (o := ⟨some 27, _, _, _, _, _⟩) rfl (fun K hK => ?_) AllReadyH.nil
     go_simp
     refine (HE1.out _).mono ?_
     rintro e wn ⟨rfl, hbn⟩
     replace hnw := (hbn.block B7 (smem_lt hnw)).trans hnw
     refine hK.out _ _ (hHeld.trans (hbn.mono hHeld.size)) (fun hHeld => ?_)
     clear hK K hbn
     try simp only [actS]
     generalize wn = wd at hHeld hnw ⊢
     refine wpAnyH_ready (rs := [8]) (by kernel_rfl) (by simp) ?_
     refine AllReadyH.cons (o := ⟨some 34, _, _, _, _, _⟩) rfl (fun K hK => ?_) AllReadyH.nil
     go_simp
     refine (HE2.out _).mono ?_
     rintro e wn ⟨rfl, hbn⟩
     replace hnw := (hbn.block B7 (smem_lt hnw)).trans hnw
     refine hK.out _ _ (hHeld.trans (hbn.mono hHeld.size)) (fun hHeld => ?_)
     clear hK K hbn
     try simp only [actS]
     generalize wn = wd at hHeld hnw ⊢
     refine anyH_asks (i := 14) (oi := ⟨some 40, _, _, _, _, _⟩) (v := .int .i64 (aroundI x.g.does 3)) rfl (by kernel_rfl) (by kernel_rfl) (by kernel_rfl) (fun _ _ _ h => h) ⟨by rfl, fun wx hSx => ⟨_, _, ?ef14, HE3.out _⟩⟩ hHeld ?rf14
     case ef14 => go_simp
     try simp only [actS]
     refine wpAnyH_take (i := 15) (oi := ⟨some 41, _, _, _, _, _⟩) (v := ?vf15) rfl (by kernel_rfl) (by kernel_rfl) (by kernel_rfl) (fun _ _ _ h => h) (Or.inl ⟨by rfl, ?yf15⟩) hHeld ?rf15
     case yf15 =>
      intro wx hSx
      go_simp
      try with_reducible rfl
     try simp only [actS]
     refine wpAnyH_ready (rs := [17]) (by kernel_rfl) (by simp) ?_
     refine AllReadyH.cons (o := ⟨none, _, _, _, _, _⟩) rfl (fun K hK => ?_) AllReadyH.nil
     have y0 : wd.cell? ⟨B7, 0, none⟩ = some (.string ⟨#[]⟩) := cell_at hnw 0
     have z0 : wd.frozen? ⟨B7, 0, none⟩ = false := free_at hnw 0
     have y1 : wd.cell? ⟨B7, 1, none⟩ = some (.string ⟨#[]⟩) := cell_at hnw 1
     have z1 : wd.frozen? ⟨B7, 1, none⟩ = false := free_at hnw 1
     have y2 : wd.cell? ⟨B7, 2, none⟩ = some (.slice none 0 0) := cell_at hnw 2
     have z2 : wd.frozen? ⟨B7, 2, none⟩ = false := free_at hnw 2
     have y3 : wd.cell? ⟨B7, 3, none⟩ = some (.string ⟨#[]⟩) := cell_at hnw 3
     have z3 : wd.frozen? ⟨B7, 3, none⟩ = false := free_at hnw 3
     have y4 : wd.cell? ⟨B7, 4, none⟩ = some (.string ⟨#[]⟩) := cell_at hnw 4
     have z4 : wd.frozen? ⟨B7, 4, none⟩ = false := free_at hnw 4
     have y5 : wd.cell? ⟨B7, 5, none⟩ = some (.int .i64 0) := cell_at hnw 5
     have z5 : wd.frozen? ⟨B7, 5, none⟩ = false := free_at hnw 5
     have HAN := made_stored hHeld hlo7 hnw (eventS (a : Int)) room (userS x.g.user) (aroundI x.g.does 3) _ rfl
     simp only [World.setCells] at HAN
     go_simp
     generalize World.setCell _ _ _ = w9 at HAN ⊢
     refine hK.out _ _ HAN.below (fun hHeld => ?_)
     clear hK K
     try simp only [actS]
     refine wpAnyH_done (by kernel_rfl) ?_ _
     go_wp2_with fail
     go_meet
     exact ⟨B7, rfl, Lib.hid HAN⟩
   case rest =>
    obtain ⟨B7, rfl, HK⟩ := hcut
    obtain ⟨w0, hw0⟩ : ∃ w0, w0 = wr := ⟨_, rfl⟩
    subst hw0
    have hmk := run_make_row' (P := Tryz.prog) 24 4 (.bool false) 1 Tryz.underlying24 (by kernel_rfl) rfl .i64 .i64 9 (by omega) (by omega)
    rw [show ((9 : Nat) : Int) = 9 from rfl] at hmk
    have HON := Lib.hid (on_made (g := x.g) (i := a) HK.out.below.size)
    replace HK := Lib.hid (HK.out.on (below_new wc (.cells (madeCells #[.bool false] 9) 4)))
    go_upto_block 2 with (fail)
    clear hmk
    generalize wc.alloc _ = w2 at HON HK ⊢
    generalize wc.heap.size = Bo at HON ⊢
    go_cut [9] from 42 to 72 (fun s9 wx => Hid (MkS w0 wx B7 (eventS (a : Int)) room (.slice none 0 0) [] ⟨#[]⟩ (userS x.g.user) (aroundI x.g.does 3)) ∧ Hid (∃ n, n ≤ 3 ∧ (n = 3 ∨ n = x.g.parents.length ∨ a = 0) ∧ LB.Mine wx w0.heap.size (.slice (some ⟨Bo, 0, none⟩) 9 9) (onTo x.g a n)))
    case first =>
     go_wp2_with fail
     go_loopw [9] (fun k wr => ∃ (c : Nat), k = .int .i64 (c : Int) ∧ c ≤ 3 ∧ c ≤ x.g.parents.length ∧ Hid (MkS w0 wr B7 (eventS (a : Int)) room (.slice none 0 0) [] ⟨#[]⟩ (userS x.g.user) (aroundI x.g.does 3)) ∧ Hid (LB.Mine wr w0.heap.size (.slice (some ⟨Bo, 0, none⟩) 9 9) (onTo x.g a c))) (fun k _ => 3 - (intOf k).toNat)
     case atStart => exact ⟨0, rfl, Nat.zero_le _, Nat.zero_le _, HK, HON⟩
     case round =>
      obtain ⟨c, rfl, hc3, hcl, HKR, HOR⟩ := hrel
      clear HK HON
      have hgc := HC.out
      have hpp : x.g.parents.length ≤ x.cap ∧ x.cap ≤ 9223372036854775807 := by
       obtain ⟨_, _, he, h5, hm, _⟩ := id HXA.out.1
       injection he with _ he2 he3
       unfold maxLen at hm
       omega
      have hbw := HMD.out.below
      have d2 : wr.cell? ⟨bg, og + a * 4 + 2, none⟩ = some (.slice x.A x.g.parents.length x.cap) := (HKR.out.below.cell (p := ⟨bg, og + a * 4 + 2, none⟩) (Nat.lt_of_lt_of_le hbg hbw.size)).trans ((hbw.cell (p := ⟨bg, og + a * 4 + 2, none⟩) hbg).trans hgc.2.2.1)
      clear hgc
      by_cases hlen : c < x.g.parents.length
      ·have q3 : decide ((c : Int) < (x.g.parents.length : Int)) = true := decide_eq_true (by omega)
       by_cases hlt3 : c < 3
       ·have q4 : decide ((c : Int) < 3) = true := decide_eq_true (by omega)
        by_cases ha0 : 0 < a
        ·have q5 : decide (0 < a) = true := decide_eq_true ha0
         have q5' : decide ((0 : Int) < (a : Int)) = true := decide_eq_true (by omega)
         have hp : x.g.parents[c]? = some x.g.parents[c] := List.getElem?_eq_getElem hlen
         generalize x.g.parents[c] = p at hp
         have hpb := HXA.out.2.2.2.2 p (List.mem_of_getElem? hp)
         have HAR := Lib.hid (fun W => around_any p (a : Int) W hpb.1 hpb.2 (by omega) (by omega))
         have hal9 : aroundN p (a : Int) < 9 := Nat.lt_trans (aroundN_lt p ha0) (by omega)
         have HAN := Lib.hid (around_nat p ha0)
         have HNX := Lib.hid (onTo_succ (g := x.g) (i := a) hlt3 hp hal9)
         have hat := HXA.out.1
         unfold GV.pv at hat
         obtain ⟨bp, op, hA, hbp, hcp⟩ := hat.at hp
         have hcp0 := hcp 0 _ rfl
         simp only [LI, Nat.mul_one, Nat.add_zero] at hcp0
         have hip := index_any (P := Tryz.prog) knI2 (by decide) (b := bp) (off := op) (cap := x.cap) hlen
         simp only [LI2] at hip
         rw [Nat.mul_one] at hip
         have e3 : wr.cell? ⟨bp, op + c, none⟩ = some (.int .i64 p) := (HKR.out.below.cell (p := ⟨bp, op + c, none⟩) (Nat.lt_of_lt_of_le hbp hbw.size)).trans ((hbw.cell (p := ⟨bp, op + c, none⟩) hbp).trans hcp0)
         rw [HAN.out] at HAR
         generalize aroundN p (a : Int) = m at hal9 HAR HNX
         have hio := index_any (P := Tryz.prog) knB (by decide) (b := Bo) (off := 0) (cap := 9) hal9
         simp only [LB] at hio
         rw [Nat.mul_one, Nat.zero_add] at hio
         have hob := on_cell HOR.out (i := m) (by rw [onTo_len]; exact hal9)
         obtain ⟨ob, o1, o2⟩ := hob
         have HOS := Lib.hid (on_set HOR.out (i := m) (by rw [onTo_len]; exact hal9) true)
         have HKS := Lib.hid (HKR.out.far HOR.out m (.bool true))
         rw [← HNX.out] at HOS
         rw [hA] at d2
         clear hp hat hcp hcp0 hpb HAN
         go_wp2_with fail
         go_at_call 8
         refine (HAR.out _).mono ?_
         rintro e w' ⟨rfl, rfl⟩
         go_wp2_with fail
         refine ⟨⟨c + 1, by go_num, by omega, by omega, HKS, HOS⟩, ?_⟩
         simp [intOf]; omega
        ·have q5 : decide (0 < a) = false := decide_eq_false ha0
         have q5' : decide ((0 : Int) < (a : Int)) = false := decide_eq_false (by omega)
         go_wp2_with fail
         go_meet
         exact ⟨HKR, Lib.hid ⟨c, hc3, .inr (.inr (by omega)), HOR.out⟩⟩
       ·have q4 : decide ((c : Int) < 3) = false := decide_eq_false (by omega)
        go_wp2_with fail
        go_meet
        exact ⟨HKR, Lib.hid ⟨c, hc3, .inl (by omega), HOR.out⟩⟩
      ·have q3 : decide ((c : Int) < (x.g.parents.length : Int)) = false := decide_eq_false (by omega)
       go_wp2_with fail
       go_meet
       exact ⟨HKR, Lib.hid ⟨c, hc3, .inr (.inl (by omega)), HOR.out⟩⟩
    case rest =>
     obtain ⟨HK2, HO2⟩ := hcut
     clear HK HON
     obtain ⟨nn, hn3, hnn, hon⟩ := HO2.out
     have HNN := Lib.hid hnn
     replace HO2 := Lib.hid hon
     have hap9 : a ≤ 8 := by omega
     have HPL : Hid (∀ c, (parsTo x.g a c).length ≤ c) := Lib.hid (fun c => by
      unfold parsTo
      rw [List.length_map]
      exact Nat.le_trans (List.length_filter_le _ _) (by rw [List.length_range]; exact Nat.le_refl _))
     clear hnn hon
     go_wp2_with fail
     go_loopw [10] (fun k wr => ∃ (c : Nat), k = .int .i64 (c : Int) ∧ c ≤ a ∧ Hid (∃ Ap cp, MkS w0 wr B7 (eventS (a : Int)) room (.slice Ap (parsTo x.g a c).length cp) (parsTo x.g a c) ⟨#[]⟩ (userS x.g.user) (aroundI x.g.does 3)) ∧ Hid (LB.Mine wr w0.heap.size (.slice (some ⟨Bo, 0, none⟩) 9 9) (onTo x.g a nn))) (fun k _ => a - (intOf k).toNat)
     case atStart => exact ⟨0, rfl, Nat.zero_le _, Lib.hid ⟨none, 0, HK2.out⟩, HO2⟩
     case round =>
      obtain ⟨c, rfl, hca, HKE, HOR⟩ := hrel
      obtain ⟨Ap, cp, hkr⟩ := HKE.out
      have HKR := Lib.hid hkr
      clear HKE hkr HK2 HO2
      by_cases hlt : c < a
      ·have q3 : decide ((c : Int) < (a : Int)) = true := decide_eq_true (by omega)
       have honp : (onTo x.g a nn)[c]? = some (onP x.g a c) := onTo_all (by rcases HNN.out with h | h | h; exact .inl h; exact .inr h; omega) (by omega) hn3
       have hov := on_val HOR.out honp
       have hio := index_any (P := Tryz.prog) knB (by decide) (b := Bo) (off := 0) (cap := 9) (len := 9) (i := c) (by omega)
       simp only [LB] at hio
       rw [Nat.mul_one, Nat.zero_add] at hio
       generalize hb : onP x.g a c = b at hov
       have HBB := Lib.hid hb
       clear honp hb
       cases b
       ·have HPS := Lib.hid (parsTo_no HBB.out)
        go_wp2_with fail
        refine ⟨⟨c + 1, by go_num, by omega, Lib.hid ⟨Ap, cp, by rw [HPS.out]; exact HKR.out⟩, HOR⟩, ?_⟩
        simp [intOf]; omega
       ·have HPS := Lib.hid (parsTo_yes HBB.out)
        have hpl := HPL.out c
        have HEV := Lib.hid (fun W => eventOf_any (c : Int) W (by omega) (by omega))
        have HEK : Hid (eventS (c : Int) = eventK c) := Lib.hid (by unfold eventS; rw [around_self9 ⟨c, by omega⟩])
        rw [HEK.out] at HEV
        go_upto_region 15 with (fail)
        clear hov hio
        refine wp_region_held_drew (S := fun _ => True) (by kernel_rfl) trivial (fun _ => ?_)
        replace HKR := Lib.hid (HKR.out.on (Below.refl _ wr).drew)
        replace HOR := Lib.hid (HOR.out.below (Below.refl _ wr).drew)
        generalize hpt : parsTo x.g a c = ts at HKR hpl HPS
        clear hpt
        generalize wr.drew = wq at HKR HOR ⊢
        generalize eventK c = s at HEV HPS
        refine wpAnyH_take (i := 0) (oi := ⟨some 82, _, _, _, _, _⟩) (v := ?vk0) rfl (by kernel_rfl) (by kernel_rfl) (by kernel_rfl) (fun _ _ _ h => h) (Or.inl ⟨by rfl, ?yk0⟩) trivial ?rk0
        case yk0 =>
         intro wx hSx
         go_simp
         try with_reducible rfl
        try simp only [actS]
        refine wpAnyH_take (i := 2) (oi := ⟨some 84, _, _, _, _, _⟩) (v := ?vk2) rfl (by kernel_rfl) (by kernel_rfl) (by kernel_rfl) (fun _ _ _ h => h) (Or.inl ⟨by rfl, ?yk2⟩) trivial ?rk2
        case yk2 =>
         intro wx hSx
         go_simp
         try with_reducible rfl
        try simp only [actS]
        refine wpAnyH_ready (rs := [1, 3]) (by kernel_rfl) (by simp) ?_
        refine AllReadyH.cons (o := ⟨some 83, _, _, _, _, _⟩) rfl (fun K hK => ?waykA) (AllReadyH.cons (o := ⟨some 85, _, _, _, _, _⟩) rfl (fun K hK => ?waykB) AllReadyH.nil)
        case waykA =>
         have e2 : wq.cell? ⟨B7, 2, none⟩ = some (.slice Ap ts.length cp) := cell_at HKR.out.b7 2
         go_simp
         refine hK.out _ _ trivial (fun _ => ?_)
         clear hK K
         try simp only [actS]
         clear e2
         refine wpAnyH_ready (rs := [3]) (by kernel_rfl) (by simp) ?_
         refine AllReadyH.cons (o := ⟨some 85, _, _, _, _, _⟩) rfl (fun K hK => ?_) AllReadyH.nil
         go_simp
         refine (HEV.out _).mono ?_
         rintro e wn ⟨rfl, hbn⟩
         replace HKR := Lib.hid (HKR.out.on hbn)
         replace HOR := Lib.hid (HOR.out.below hbn)
         clear hbn
         refine hK.out _ _ trivial (fun _ => ?_)
         clear hK K
         try simp only [actS]
         generalize wn = wq at HKR HOR ⊢
         refine wpAnyH_ready (rs := [4]) (by kernel_rfl) (by simp) ?_
         refine AllReadyH.cons (o := ⟨some 86, _, _, _, _, _⟩) rfl (fun K hK => ?_) AllReadyH.nil
         have hbn := below_new wq (.cells #[.string s] 9)
         have S5 := Lib.hid (show LT.Slice (wq.alloc (.cells #[.string s] 9)) (.slice (some ⟨wq.heap.size, 0, none⟩) 1 1) [s] from lit_slice (L := LT) wq s wq.heap.size rfl #[.string s] rfl)
         replace HKR := Lib.hid (HKR.out.on hbn)
         replace HOR := Lib.hid (HOR.out.below hbn)
         clear hbn
         go_simp
         refine hK.out _ _ trivial (fun _ => ?_)
         clear hK K
         try simp only [actS]
         generalize wq.alloc _ = we at HKR HOR S5 ⊢
         generalize wq.heap.size = B5s at S5 ⊢
         generalize we = wq at HKR HOR S5 ⊢
         refine wpAnyH_ready (rs := [5]) (by kernel_rfl) (by simp) ?_
         refine AllReadyH.cons (o := ⟨some 87, _, _, _, _, _⟩) rfl (fun K hK => ?_) AllReadyH.nil
         rw [if_pos (by rfl)]
         refine wp_puts knT (.tmp 83) (.tmp 86) 50 rfl rfl HKR.out.row HKR.out.below.size _ [s] 1 rfl rfl (S5.out.srcN knT rfl) (by omega) ?_
         intro A6 c6 w6 m6 g6 o6
         have hb7 : w6.heap[B7]? = _ := (g6.block B7 (smem_lt HKR.out.b7) (fun e => HKR.out.ne B7 e.symm rfl)).trans HKR.out.b7
         have e2 : w6.cell? ⟨B7, 2, none⟩ = some (.slice Ap ts.length cp) := cell_at hb7 2
         have f2 : w6.frozen? ⟨B7, 2, none⟩ = false := free_at hb7 2
         have HK6 := Lib.hid (HKR.out.setPar g6 m6)
         have HO6 := Lib.hid (HOR.out.grown g6 (fun k hk => HOR.out.apart HKR.out.row (by decide) k hk))
         have HO7 := Lib.hid (HO6.out.grown (sm_grown w6 B7 2 [.slice A6 (ts.length + 1) c6]) (fun k hk e => by
          injection e with e
          subst e
          rcases HO6.out with ⟨e9, _⟩ | ⟨g9, off9, cap9, cur9, e9, _, hh9, _⟩
          ·cases e9
          ·injection e9 with e9
           injection e9 with e9
           injection e9 with e8 _ _
           injection hk with hk
           rw [← hk, e8] at hb7
           rw [hb7] at hh9
           injection hh9 with hh9
           injection hh9 with _ hh9
           exact absurd hh9 (by decide)))
         simp only [World.setCells] at HO7
         clear m6 g6 o6 S5 HOR HO6 HKR hb7
         refine hK.out _ _ trivial (fun _ => ?_)
         clear hK K
         try simp only [actS]
         refine wpAnyH_take (i := 6) (oi := ⟨some 88, _, _, _, _, _⟩) (v := ?vl6) rfl (by kernel_rfl) (by kernel_rfl) (by kernel_rfl) (fun _ _ _ h => h) (Or.inl ⟨by rfl, ?yl6⟩) trivial ?rl6
         case yl6 =>
          intro wx hSx
          go_simp
          try with_reducible rfl
         try simp only [actS]
         refine wpAnyH_ready (rs := [7]) (by kernel_rfl) (by simp) ?_
         refine AllReadyH.cons (o := ⟨none, _, _, _, _, _⟩) rfl (fun K hK => ?_) AllReadyH.nil
         go_simp
         generalize World.setCell _ _ _ = w7 at HK6 HO7 ⊢
         clear e2 f2
         refine hK.out _ _ trivial (fun _ => ?_)
         clear hK K
         try simp only [actS]
         refine wpAnyH_done (by kernel_rfl) ?_ _
         go_wp2_with fail
         refine ⟨⟨c + 1, by go_num, by omega, Lib.hid ⟨A6, c6, by rw [HPS.out, List.length_append]; exact HK6.out⟩, HO7⟩, ?_⟩
         simp [intOf]; omega
        case waykB =>
         go_simp
         refine (HEV.out _).mono ?_
         rintro e wn ⟨rfl, hbn⟩
         replace HKR := Lib.hid (HKR.out.on hbn)
         replace HOR := Lib.hid (HOR.out.below hbn)
         clear hbn
         refine hK.out _ _ trivial (fun _ => ?_)
         clear hK K
         try simp only [actS]
         generalize wn = wq at HKR HOR ⊢
         refine wpAnyH_ready (rs := [1, 4]) (by kernel_rfl) (by simp) ?_
         refine AllReadyH.cons (o := ⟨some 83, _, _, _, _, _⟩) rfl (fun K hK => ?waymA) (AllReadyH.cons (o := ⟨some 86, _, _, _, _, _⟩) rfl (fun K hK => ?waymB) AllReadyH.nil)
         case waymA =>
          have e2 : wq.cell? ⟨B7, 2, none⟩ = some (.slice Ap ts.length cp) := cell_at HKR.out.b7 2
          go_simp
          refine hK.out _ _ trivial (fun _ => ?_)
          clear hK K
          try simp only [actS]
          clear e2
          refine wpAnyH_ready (rs := [4]) (by kernel_rfl) (by simp) ?_
          refine AllReadyH.cons (o := ⟨some 86, _, _, _, _, _⟩) rfl (fun K hK => ?_) AllReadyH.nil
          have hbn := below_new wq (.cells #[.string s] 9)
          have S5 := Lib.hid (show LT.Slice (wq.alloc (.cells #[.string s] 9)) (.slice (some ⟨wq.heap.size, 0, none⟩) 1 1) [s] from lit_slice (L := LT) wq s wq.heap.size rfl #[.string s] rfl)
          replace HKR := Lib.hid (HKR.out.on hbn)
          replace HOR := Lib.hid (HOR.out.below hbn)
          clear hbn
          go_simp
          refine hK.out _ _ trivial (fun _ => ?_)
          clear hK K
          try simp only [actS]
          generalize wq.alloc _ = we at HKR HOR S5 ⊢
          generalize wq.heap.size = B5s at S5 ⊢
          generalize we = wq at HKR HOR S5 ⊢
          refine wpAnyH_ready (rs := [5]) (by kernel_rfl) (by simp) ?_
          refine AllReadyH.cons (o := ⟨some 87, _, _, _, _, _⟩) rfl (fun K hK => ?_) AllReadyH.nil
          rw [if_pos (by rfl)]
          refine wp_puts knT (.tmp 83) (.tmp 86) 50 rfl rfl HKR.out.row HKR.out.below.size _ [s] 1 rfl rfl (S5.out.srcN knT rfl) (by omega) ?_
          intro A6 c6 w6 m6 g6 o6
          have hb7 : w6.heap[B7]? = _ := (g6.block B7 (smem_lt HKR.out.b7) (fun e => HKR.out.ne B7 e.symm rfl)).trans HKR.out.b7
          have e2 : w6.cell? ⟨B7, 2, none⟩ = some (.slice Ap ts.length cp) := cell_at hb7 2
          have f2 : w6.frozen? ⟨B7, 2, none⟩ = false := free_at hb7 2
          have HK6 := Lib.hid (HKR.out.setPar g6 m6)
          have HO6 := Lib.hid (HOR.out.grown g6 (fun k hk => HOR.out.apart HKR.out.row (by decide) k hk))
          have HO7 := Lib.hid (HO6.out.grown (sm_grown w6 B7 2 [.slice A6 (ts.length + 1) c6]) (fun k hk e => by
           injection e with e
           subst e
           rcases HO6.out with ⟨e9, _⟩ | ⟨g9, off9, cap9, cur9, e9, _, hh9, _⟩
           ·cases e9
           ·injection e9 with e9
            injection e9 with e9
            injection e9 with e8 _ _
            injection hk with hk
            rw [← hk, e8] at hb7
            rw [hb7] at hh9
            injection hh9 with hh9
            injection hh9 with _ hh9
            exact absurd hh9 (by decide)))
          simp only [World.setCells] at HO7
          clear m6 g6 o6 S5 HOR HO6 HKR hb7
          refine hK.out _ _ trivial (fun _ => ?_)
          clear hK K
          try simp only [actS]
          refine wpAnyH_take (i := 6) (oi := ⟨some 88, _, _, _, _, _⟩) (v := ?vn6) rfl (by kernel_rfl) (by kernel_rfl) (by kernel_rfl) (fun _ _ _ h => h) (Or.inl ⟨by rfl, ?yn6⟩) trivial ?rn6
          case yn6 =>
           intro wx hSx
           go_simp
           try with_reducible rfl
          try simp only [actS]
          refine wpAnyH_ready (rs := [7]) (by kernel_rfl) (by simp) ?_
          refine AllReadyH.cons (o := ⟨none, _, _, _, _, _⟩) rfl (fun K hK => ?_) AllReadyH.nil
          go_simp
          generalize World.setCell _ _ _ = w7 at HK6 HO7 ⊢
          clear e2 f2
          refine hK.out _ _ trivial (fun _ => ?_)
          clear hK K
          try simp only [actS]
          refine wpAnyH_done (by kernel_rfl) ?_ _
          go_wp2_with fail
          refine ⟨⟨c + 1, by go_num, by omega, Lib.hid ⟨A6, c6, by rw [HPS.out, List.length_append]; exact HK6.out⟩, HO7⟩, ?_⟩
          simp [intOf]; omega
         case waymB =>
          have hbn := below_new wq (.cells #[.string s] 9)
          have S5 := Lib.hid (show LT.Slice (wq.alloc (.cells #[.string s] 9)) (.slice (some ⟨wq.heap.size, 0, none⟩) 1 1) [s] from lit_slice (L := LT) wq s wq.heap.size rfl #[.string s] rfl)
          replace HKR := Lib.hid (HKR.out.on hbn)
          replace HOR := Lib.hid (HOR.out.below hbn)
          clear hbn
          go_simp
          refine hK.out _ _ trivial (fun _ => ?_)
          clear hK K
          try simp only [actS]
          generalize wq.alloc _ = we at HKR HOR S5 ⊢
          generalize wq.heap.size = B5s at S5 ⊢
          generalize we = wq at HKR HOR S5 ⊢
          refine wpAnyH_ready (rs := [1]) (by kernel_rfl) (by simp) ?_
          refine AllReadyH.cons (o := ⟨some 83, _, _, _, _, _⟩) rfl (fun K hK => ?_) AllReadyH.nil
          have e2 : wq.cell? ⟨B7, 2, none⟩ = some (.slice Ap ts.length cp) := cell_at HKR.out.b7 2
          go_simp
          refine hK.out _ _ trivial (fun _ => ?_)
          clear hK K
          try simp only [actS]
          clear e2
          refine wpAnyH_ready (rs := [5]) (by kernel_rfl) (by simp) ?_
          refine AllReadyH.cons (o := ⟨some 87, _, _, _, _, _⟩) rfl (fun K hK => ?_) AllReadyH.nil
          rw [if_pos (by rfl)]
          refine wp_puts knT (.tmp 83) (.tmp 86) 50 rfl rfl HKR.out.row HKR.out.below.size _ [s] 1 rfl rfl (S5.out.srcN knT rfl) (by omega) ?_
          intro A6 c6 w6 m6 g6 o6
          have hb7 : w6.heap[B7]? = _ := (g6.block B7 (smem_lt HKR.out.b7) (fun e => HKR.out.ne B7 e.symm rfl)).trans HKR.out.b7
          have e2 : w6.cell? ⟨B7, 2, none⟩ = some (.slice Ap ts.length cp) := cell_at hb7 2
          have f2 : w6.frozen? ⟨B7, 2, none⟩ = false := free_at hb7 2
          have HK6 := Lib.hid (HKR.out.setPar g6 m6)
          have HO6 := Lib.hid (HOR.out.grown g6 (fun k hk => HOR.out.apart HKR.out.row (by decide) k hk))
          have HO7 := Lib.hid (HO6.out.grown (sm_grown w6 B7 2 [.slice A6 (ts.length + 1) c6]) (fun k hk e => by
           injection e with e
           subst e
           rcases HO6.out with ⟨e9, _⟩ | ⟨g9, off9, cap9, cur9, e9, _, hh9, _⟩
           ·cases e9
           ·injection e9 with e9
            injection e9 with e9
            injection e9 with e8 _ _
            injection hk with hk
            rw [← hk, e8] at hb7
            rw [hb7] at hh9
            injection hh9 with hh9
            injection hh9 with _ hh9
            exact absurd hh9 (by decide)))
          simp only [World.setCells] at HO7
          clear m6 g6 o6 S5 HOR HO6 HKR hb7
          refine hK.out _ _ trivial (fun _ => ?_)
          clear hK K
          try simp only [actS]
          refine wpAnyH_take (i := 6) (oi := ⟨some 88, _, _, _, _, _⟩) (v := ?vo6) rfl (by kernel_rfl) (by kernel_rfl) (by kernel_rfl) (fun _ _ _ h => h) (Or.inl ⟨by rfl, ?yo6⟩) trivial ?ro6
          case yo6 =>
           intro wx hSx
           go_simp
           try with_reducible rfl
          try simp only [actS]
          refine wpAnyH_ready (rs := [7]) (by kernel_rfl) (by simp) ?_
          refine AllReadyH.cons (o := ⟨none, _, _, _, _, _⟩) rfl (fun K hK => ?_) AllReadyH.nil
          go_simp
          generalize World.setCell _ _ _ = w7 at HK6 HO7 ⊢
          clear e2 f2
          refine hK.out _ _ trivial (fun _ => ?_)
          clear hK K
          try simp only [actS]
          refine wpAnyH_done (by kernel_rfl) ?_ _
          go_wp2_with fail
          refine ⟨⟨c + 1, by go_num, by omega, Lib.hid ⟨A6, c6, by rw [HPS.out, List.length_append]; exact HK6.out⟩, HO7⟩, ?_⟩
          simp [intOf]; omega
      ·have q3 : decide ((c : Int) < (a : Int)) = false := decide_eq_false (by omega)
       obtain rfl : a = c := by omega
       clear HOR
       have HMT := Lib.hid (madeTo_row HR.out (gps gs) a ha9 (by rw [List.length_map]; exact ha))
       have hxl : xs.length = a := by
        rw [← evs_len, HXS.out]
        exact HMT.out.2
       go_upto_region 16 with (fail)
       have d5 : wr.cell? ⟨B7, 5, none⟩ = some (.int .i64 (aroundI x.g.does 3)) := cell_at HKR.out.b7 5
       go_cut [95] from 89 to 95 (fun s95 wx => ∃ bb, s95 = .bool bb ∧ Hid (bb = decide (aroundI x.g.does 3 = 0 ∧ 0 < a)) ∧ wx = wr)
       case first =>
        by_cases h0 : aroundI x.g.does 3 = 0
        ·have q6 : (aroundI x.g.does 3 == 0) = true := by rw [h0]; rfl
         by_cases h1 : 0 < a
         ·have q7 : decide (0 < a) = true := decide_eq_true h1
          have q7' : decide ((0 : Int) < (a : Int)) = true := decide_eq_true (by omega)
          have HQ : Hid (decide (aroundI x.g.does 3 = 0 ∧ 0 < a) = true) := Lib.hid (decide_eq_true ⟨h0, h1⟩)
          clear h0
          go_wp2_with fail
          go_meet
          exact ⟨_, rfl, Lib.hid (by rw [HQ.out]; try rw [q7]), rfl⟩
         ·have q7 : decide (0 < a) = false := decide_eq_false h1
          have q7' : decide ((0 : Int) < (a : Int)) = false := decide_eq_false (by omega)
          have HQ : Hid (decide (aroundI x.g.does 3 = 0 ∧ 0 < a) = false) := Lib.hid (decide_eq_false (fun h => h1 h.2))
          clear h0
          go_wp2_with fail
          go_meet
          exact ⟨_, rfl, Lib.hid (by rw [HQ.out]; try rw [q7]), rfl⟩
        ·have q6 : (aroundI x.g.does 3 == 0) = false := by rw [beq_eq_false_iff_ne]; exact h0
         have HQ : Hid (decide (aroundI x.g.does 3 = 0 ∧ 0 < a) = false) := Lib.hid (decide_eq_false (fun h => h0 h.1))
         clear h0
         go_wp2_with fail
         go_meet
         exact ⟨_, rfl, Lib.hid (by rw [HQ.out]; try rw [q7]), rfl⟩
       case rest =>
        obtain ⟨bb, rfl, HBD, hwc⟩ := hcut
        subst hwc
        clear d5
        go_upto_if 95 with (fail)
        go_cut [11] from 95 to 127 (fun s11 wx => Hid (∃ Ap cp, MkS w0 wx B7 (eventS (a : Int)) room (.slice Ap (parsTo x.g a a).length cp) (parsTo x.g a a) (thrM (evs xs) x.g) (userS x.g.user) (aroundI x.g.does 3)))
        case first =>
         by_cases hb : aroundI x.g.does 3 = 0 ∧ 0 < a
         ·obtain rfl : bb = true := by rw [HBD.out]; exact decide_eq_true hb
          have ha0 := hb.2
          have hth := HXA.out.2.2.2.1
          have HM9 := Lib.hid (HMD.out.on HKR.out.below)
          have hbw := HMD.out.below
          have d3 : wc.cell? ⟨bg, og + a * 4 + 3, none⟩ = some (.int .i64 x.g.thread) := (HKR.out.below.cell (p := ⟨bg, og + a * 4 + 3, none⟩) (Nat.lt_of_lt_of_le hbg hbw.size)).trans ((hbw.cell (p := ⟨bg, og + a * 4 + 3, none⟩) hbg).trans HC.out.2.2.2)
          have HAR := Lib.hid (fun W => around_any x.g.thread (2 * (a : Int)) W hth.1 hth.2 (by omega) (by omega))
          have hmul : wrap64 (2 * (a : Int)) = 2 * (a : Int) := by unfold wrap64; omega
          have HAN : Hid (aroundI x.g.thread (2 * (a : Int)) = ((aroundN x.g.thread ((2 * a : Nat) : Int) : Nat) : Int)) := Lib.hid (by rw [← around_nat x.g.thread (show 0 < 2 * a by omega), show ((2 * a : Nat) : Int) = 2 * (a : Int) by omega])
          have hkl : aroundN x.g.thread ((2 * a : Nat) : Int) < 2 * a := aroundN_lt x.g.thread (by omega)
          have HTF := Lib.hid (thr_far (g := x.g) (l := evs xs) (by rw [evs_len, hxl]; exact hb))
          have HTN := Lib.hid (thr_not (g := x.g) (l := evs xs) (by rw [evs_len, hxl]; exact hb))
          have HTY := Lib.hid (thr_yes (g := x.g) (l := evs xs) (by rw [evs_len, hxl]; exact hb))
          rw [evs_len, hxl] at HTF HTN HTY
          rw [HAN.out] at HAR
          generalize aroundN x.g.thread ((2 * a : Nat) : Int) = k at HAR hkl HTF HTN HTY
          obtain ⟨Av, cv, hv, hv1, hv2, -⟩ := id HM9.out.row.1
          have hv3 : cv ≤ 9223372036854775807 := by unfold maxLen at hv2; omega
          subst hv
          have c1 : wc.cell? ⟨B5, 1, none⟩ = some (.slice Av xs.length cv) := cell_at HM9.out.b5 1
          clear HAN hb hth
          by_cases hk : k < a
          ·have q9 : decide ((k : Int) < (a : Int)) = true := decide_eq_true (by omega)
           have hkx : k < xs.length := by omega
           have hy : xs[k]? = some xs[k] := List.getElem?_eq_getElem hkx
           generalize xs[k] = y at hy
           have hye : (evs xs)[k]? = some y.ev := by rw [List.getElem?_map, hy]; rfl
           obtain ⟨by', oy, hA, hbby, hry⟩ := ev_at HM9.out.row hy
           obtain ⟨y0, y1, y2, y3, y4, y5⟩ := ev_cells hry
           have hiy := index_any (P := Tryz.prog) knV (by decide) (b := by') (off := oy) (cap := cv) hkx
           simp only [LV] at hiy
           rw [hA] at c1
           have HEV := Lib.hid (fun W => eventOf_any (k : Int) W (by omega) (by omega))
           have HEK : Hid (eventS (k : Int) = eventK k) := Lib.hid (by unfold eventS; rw [around_self9 ⟨k, by omega⟩])
           rw [HEK.out] at HEV
           by_cases hd : y.ev.does = 0
           ·have q10 : (y.ev.does == 0) = true := by rw [hd]; rfl
            by_cases ht : y.ev.thread = ⟨#[]⟩
            ·have q11 : (y.ev.thread.toList == []) = true := by rw [ht, ByteArray.toList_eq]; rfl
             have HTH := Lib.hid (HTY.out _ hye ⟨hd, ht⟩)
             clear hd ht hye hy hry y0 y1 y2 y4
             go_wp2_with fail
             go_at_call 8
             refine (HAR.out _).mono ?_
             rintro e w' ⟨rfl, rfl⟩
             go_wp2_with fail
             go_at_call 38
             refine (HEV.out _).mono ?_
             rintro e w6 ⟨rfl, b6⟩
             have HK6 := Lib.hid (HKR.out.on b6)
             have t3 : w6.cell? ⟨B7, 3, none⟩ = some (.string ⟨#[]⟩) := cell_at HK6.out.b7 3
             have tf : w6.frozen? ⟨B7, 3, none⟩ = false := free_at HK6.out.b7 3
             have HK7 := Lib.hid (HK6.out.setThread (eventK k))
             go_wp2_with fail
             go_meet
             exact Lib.hid ⟨Ap, cp, by rw [HTH.out]; exact HK7.out⟩
            ·have q11 : (y.ev.thread.toList == []) = false := by
              rw [beq_eq_false_iff_ne]
              exact fun e => ht (key_ext (by rw [e, ByteArray.toList_eq]))
             have HTH := Lib.hid (HTN.out _ hye (fun h => ht h.2))
             clear hd ht hye hy hry y0 y1 y2 y4
             go_wp2_with fail
             go_at_call 8
             refine (HAR.out _).mono ?_
             rintro e w' ⟨rfl, rfl⟩
             go_wp2_with fail
             go_meet
             exact Lib.hid ⟨Ap, cp, by rw [HTH.out]; exact HKR.out⟩
           ·have q10 : (y.ev.does == 0) = false := by rw [beq_eq_false_iff_ne]; exact hd
            have HTH := Lib.hid (HTN.out _ hye (fun h => hd h.1))
            clear hd hye hy hry y0 y1 y2 y4
            go_wp2_with fail
            go_at_call 8
            refine (HAR.out _).mono ?_
            rintro e w' ⟨rfl, rfl⟩
            go_wp2_with fail
            go_meet
            exact Lib.hid ⟨Ap, cp, by rw [HTH.out]; exact HKR.out⟩
          ·have q9 : decide ((k : Int) < (a : Int)) = false := decide_eq_false (by omega)
           have HTH := Lib.hid (HTF.out (by omega))
           go_wp2_with fail
           go_at_call 8
           refine (HAR.out _).mono ?_
           rintro e w' ⟨rfl, rfl⟩
           go_wp2_with fail
           go_meet
           exact Lib.hid ⟨Ap, cp, by rw [HTH.out]; exact HKR.out⟩
         ·obtain rfl : bb = false := by rw [HBD.out]; exact decide_eq_false hb
          have HTH := Lib.hid (thr_no (g := x.g) (l := evs xs) (by rw [evs_len, hxl]; exact hb))
          clear hb
          go_wp2_with fail
          go_meet
          exact Lib.hid ⟨Ap, cp, by rw [HTH.out]; exact HKR.out⟩
        case rest =>
         obtain ⟨Ap, cp, hkk⟩ := hcut.out
         have HKF := Lib.hid hkk
         clear hkk HKR hcut
         have HM9 := Lib.hid (HMD.out.on HKF.out.below)
         have HEQ : Hid ((⟨eventS (a : Int), room, parsTo x.g a a, thrM (evs xs) x.g, userS x.g.user, aroundI x.g.does 3⟩ : Ev) = madeE room (evs xs) x.g) := Lib.hid (by
          unfold madeE
          rw [evs_len, hxl, parsTo_all, show eventS (a : Int) = eventK a by unfold eventS; rw [around_self9 ⟨a, by omega⟩]])
         have HRW : Hid (Rowed room (evs xs)) := Lib.hid (by rw [HXS.out]; exact HMT.out.1)
         have HER : Hid (errA room (evs xs) (madeE room (evs xs) x.g) = 0) := Lib.hid (made_zero HR.out HRW.out (by rw [evs_len, hxl]; omega) x.g)
         have HOK : Hid ((⟨eventS (a : Int), room, parsTo x.g a a, thrM (evs xs) x.g, userS x.g.user, aroundI x.g.does 3⟩ : Ev).ok) := Lib.hid (by rw [HEQ.out]; exact may_ok (err_zero HER.out).1)
         have HAD := Lib.hid (refAdd_any room v' xs ⟨⟨eventS (a : Int), room, parsTo x.g a a, thrM (evs xs) x.g, userS x.g.user, aroundI x.g.does 3⟩, Ap, cp⟩ wc HM9.out.row ⟨HKF.out.row.slice, HOK.out⟩ (by omega))
         have c0 : wc.cell? ⟨B5, 0, none⟩ = some (.string room) := cell_at HM9.out.b5 0
         have c1 : wc.cell? ⟨B5, 1, none⟩ = some v' := cell_at HM9.out.b5 1
         have e0 : wc.cell? ⟨B7, 0, none⟩ = some (.string (eventS (a : Int))) := cell_at HKF.out.b7 0
         have e1 : wc.cell? ⟨B7, 1, none⟩ = some (.string room) := cell_at HKF.out.b7 1
         have e2 : wc.cell? ⟨B7, 2, none⟩ = some (.slice Ap (parsTo x.g a a).length cp) := cell_at HKF.out.b7 2
         have e3 : wc.cell? ⟨B7, 3, none⟩ = some (.string (thrM (evs xs) x.g)) := cell_at HKF.out.b7 3
         have e4 : wc.cell? ⟨B7, 4, none⟩ = some (.string (userS x.g.user)) := cell_at HKF.out.b7 4
         have e5 : wc.cell? ⟨B7, 5, none⟩ = some (.int .i64 (aroundI x.g.does 3)) := cell_at HKF.out.b7 5
         go_wp2_with fail
         go_at_call 50
         refine HAD.out.mono ?_
         rintro e w5 ⟨v2, xs2, rfl, hes, hev, b5, hxx⟩
         obtain ⟨A2, c2, hv2, -⟩ := id hes.1
         subst hv2
         have HE5 := Lib.hid hes
         have HFT2 : Hid (∀ y ∈ xs2, ∀ k, y.pv.ownBlock = some k → w.heap.size ≤ k ∧ k < w5.heap.size) := Lib.hid (by
          have hs0 := HKF.out.below.size
          have hs5 := b5.size
          have hs1 := HMD.out.below.size
          have hold : ∀ y ∈ xs, ∀ k, y.pv.ownBlock = some k → w.heap.size ≤ k ∧ k < w5.heap.size := fun y hy k hk => by
           have := HFT.out y hy k hk
           omega
          rcases hxx with hxx | hxx
          ·rw [hxx]; exact hold
          ·rw [hxx]
           intro y hy k hk
           rcases List.mem_append.1 hy with hy | hy
           ·exact hold y hy k hk
           ·rw [List.mem_singleton.1 hy] at hk
            have := HKF.out.row.lt k hk
            omega)
         clear hxx
         have HM5 := Lib.hid (HM9.out.on b5)
         have HEV2 : Hid (evs xs2 = madeTo room (gps gs) (a + 1)) := Lib.hid (by
          have h9 : evs xs2 = addA room (evs xs) (madeE room (evs xs) x.g) := by rw [hev]; simp only; rw [HEQ.out]
          rw [h9, addA, HER.out, if_pos rfl, HXS.out, madeTo_succ (g := x.g) (by rw [List.getElem?_map, HXG.out]; rfl)])
         clear hes hev b5 HAD c0 c1 e0 e1 e2 e3 e4 e5 HM9 HKF HEQ HER HOK
         have HB6 := Lib.hid (below_new w5 (.cells #[.string room, .slice A2 xs2.length c2] 93))
         have HW6 := Lib.hid (heap_alloc_new w5 (.cells #[.string room, .slice A2 xs2.length c2] 93))
         go_upto_region 21 with (fail)
         generalize w5.alloc _ = w6 at HB6 HW6 ⊢
         have HM6 := Lib.hid (HM5.out.on HB6.out)
         have hsz56 := HB6.out.size
         have HE6 := Lib.hid (HE5.out.below HB6.out)
         clear HM5 HE5 HB6
         generalize hB12 : w5.heap.size = B12 at HW6 ⊢
         have g0 : w6.cell? ⟨B12, 0, none⟩ = some (.string room) := cell_at HW6.out 0
         have g1 : w6.cell? ⟨B12, 1, none⟩ = some (.slice A2 xs2.length c2) := cell_at HW6.out 1
         have c0 : w6.cell? ⟨B5, 0, none⟩ = some (.string room) := cell_at HM6.out.b5 0
         have c1 : w6.cell? ⟨B5, 1, none⟩ = some v' := cell_at HM6.out.b5 1
         have z0 : w6.frozen? ⟨B5, 0, none⟩ = false := free_at HM6.out.b5 0
         have z1 : w6.frozen? ⟨B5, 1, none⟩ = false := free_at HM6.out.b5 1
         have HVA := Lib.hid (madeTo_row HR.out (gps gs) (a + 1) (by omega) (by rw [List.length_map]; omega))
         have HPP := Lib.hid (par_far (by rw [HEV2.out]; exact HVA.out.1.valid) HR.out)
         have HN6 := Lib.hid (HM6.out.next HE6.out HPP.out)
         have HFT3 : Hid (∀ y ∈ xs2, ∀ k, y.pv.ownBlock = some k → w.heap.size ≤ k ∧ k < (w6.setCells B5 0 [.string room, .slice A2 xs2.length c2]).heap.size) := Lib.hid (fun y hy k hk => by
          have h1 := HFT2.out y hy k hk
          have h2 := hsz56
          have h3 := (sm_grown w6 B5 0 [.string room, .slice A2 xs2.length c2]).size
          omega)
         simp only [World.setCells] at HFT3
         simp only [World.setCells] at HN6
         go_wp2_with fail
         refine ⟨⟨a + 1, by go_num, by omega, by omega, Lib.hid ⟨_, _, HN6.out, HEV2.out, HFT3.out⟩⟩, ?_⟩
         simp [intOf]; omega
  ·have HEND : Hid (a = min gs.length 9) := Lib.hid (by omega)
   obtain ⟨v', xs, hmd, hxs, hft⟩ := HM.out
   have HMD := Lib.hid hmd
   have HXS := Lib.hid hxs
   have HFT := Lib.hid hft
   clear hft
   obtain ⟨Av, cv, hv, -⟩ := id hmd.row.1
   subst hv
   clear HM hmd hxs
   have HVA := Lib.hid (madeTo_row HR.out (gps gs) a ha9 (by rw [List.length_map]; exact ha))
   have HPP := Lib.hid (par_far (xs := xs) (by rw [HXS.out]; exact HVA.out.1.valid) HR.out)
   have c0 : wr.cell? ⟨B5, 0, none⟩ = some (.string room) := cell_at HMD.out.b5 0
   have c1 : wr.cell? ⟨B5, 1, none⟩ = some (.slice Av xs.length cv) := cell_at HMD.out.b5 1
   have r0 : wr.cell? ⟨B4, 0, none⟩ = some (.string ⟨#[]⟩) := cell_at HMD.out.b4 0
   have r1 : wr.cell? ⟨B4, 1, none⟩ = some (.slice none 0 0) := cell_at HMD.out.b4 1
   have z0 : wr.frozen? ⟨B4, 0, none⟩ = false := free_at HMD.out.b4 0
   have z1 : wr.frozen? ⟨B4, 1, none⟩ = false := free_at HMD.out.b4 1
   have HAN := Lib.hid (po_stored HMD.out.b4 (.string room) (.slice Av xs.length cv) rfl _ rfl)
   simp only [World.setCells] at HAN
   by_cases hal : a < gs.length
   ·have q1 : decide ((a : Int) < (gs.length : Int)) = true := decide_eq_true (by omega)
    have q2 : decide ((a : Int) < 9) = false := decide_eq_false (by omega)
    go_wp2_with fail
    clear r0 r1 z0 z1 c0 c1
    generalize World.setCell _ _ _ = w9 at HAN ⊢
    obtain ⟨k0, k1, k6⟩ := HAN.out
    refine bodyPost_ret (v := .agg #[.string room, .slice Av xs.length cv]) ?_ rfl ?_
    ·simp [results, Tryz.results31, go_sem, k0, k1]
    ·exact ⟨_, xs, rfl, HMD.out.row.farD HMD.out.b4 (fun y hy p hp => (HPP.out y hy p hp).1) k6, by rw [HXS.out, HEND.out], HMD.out.below.grown k6 HMD.out.below.size (fun j hj => by injection hj with hj; have := HMD.out.lo4; omega), fun y hy k hk => ⟨(HFT.out y hy k hk).1, Nat.lt_of_lt_of_le (HFT.out y hy k hk).2 k6.size⟩⟩
   ·have q1 : decide ((a : Int) < (gs.length : Int)) = false := decide_eq_false (by omega)
    go_wp2_with fail
    clear r0 r1 z0 z1 c0 c1
    generalize World.setCell _ _ _ = w9 at HAN ⊢
    obtain ⟨k0, k1, k6⟩ := HAN.out
    refine bodyPost_ret (v := .agg #[.string room, .slice Av xs.length cv]) ?_ rfl ?_
    ·simp [results, Tryz.results31, go_sem, k0, k1]
    ·exact ⟨_, xs, rfl, HMD.out.row.farD HMD.out.b4 (fun y hy p hp => (HPP.out y hy p hp).1) k6, by rw [HXS.out, HEND.out], HMD.out.below.grown k6 HMD.out.below.size (fun j hj => by injection hj with hj; have := HMD.out.lo4; omega), fun y hy k hk => ⟨(HFT.out y hy k hk).1, Nat.lt_of_lt_of_le (HFT.out y hy k hk).2 k6.size⟩⟩
end Go.Proofs.YtnnapkakbdpkaaaGreat
