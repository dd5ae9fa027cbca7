/-
  What the statements stand on, part ZB4.
-/
import Derived.Test.YtnnapkakbdpkaaaGreatZA30
set_option linter.unusedVariables false
set_option linter.unusedSimpArgs false
namespace Go.Proofs.YtnnapkakbdpkaaaGreat
set_option maxRecDepth 20000
open Go.RowKit
theorem knD : Kn Tryz.prog LD 37 (.agg #[.string ⟨#[]⟩, .slice none 0 0]) 40 := ⟨Tryz.underlying37, by kernel_rfl, rfl, by decide⟩
abbrev vws (ds : List DV) : Vw := ds.map DV.rl
def noDV (room : ByteArray) : DV := ⟨room, [], none, 0⟩
theorem noDV_evs (w : World) (room : ByteArray) : EvsS w (noDV room).lv (noDV room).xs := ⟨.nil _, fun x hx => by cases hx⟩
theorem dv_at {w : World} {A : Option Addr} {n cap i : Nat} {ds : List DV} {d : DV} (h : LD.Slice w (.slice A n cap) ds) (hi : ds[i]? = some d) : ∃ b off, A = some ⟨b, off, none⟩ ∧ b < w.heap.size ∧ w.cell? ⟨b, off + i * 2, none⟩ = some (.string d.room) ∧ w.cell? ⟨b, off + i * 2 + 1, none⟩ = some d.lv := by
 obtain ⟨b, off, hA, hb, hr⟩ := h.at hi
 exact ⟨b, off, hA, hb, hr 0 _ rfl, hr 1 _ rfl⟩
theorem ofL_hit {ds : List DV} {room : ByteArray} {i : Nat} {d : DV} (hd : ds[i]? = some d) (hr : d.room = room) (hn : ∀ (j : Nat) e, j < i → ds[j]? = some e → e.room ≠ room) : ofL (vws ds) room = evs d.xs := by
 induction ds generalizing i with
 | nil => simp at hd
 | cons e r ih =>
  unfold ofL vws
  rw [List.map_cons, List.find?_cons]
  cases i with
  | zero =>
   simp only [List.getElem?_cons_zero, Option.some.injEq] at hd
   subst hd
   simp [hr]
  | succ i =>
   have h0 := hn 0 e (by omega) rfl
   simp only [List.getElem?_cons_succ] at hd
   rw [decide_eq_false h0]
   have := ih (i := i) hd (fun j x hj hx => hn (j + 1) x (by omega) (by simpa using hx))
   unfold ofL at this
   exact this
theorem ofL_miss {ds : List DV} {room : ByteArray} (hn : ∀ (j : Nat) e, ds[j]? = some e → e.room ≠ room) : ofL (vws ds) room = [] := ofL_out (by
 intro hm
 obtain ⟨p, hp, he⟩ := List.mem_map.1 hm
 obtain ⟨d, hd, rfl⟩ := List.mem_map.1 hp
 obtain ⟨j, hj, rfl⟩ := List.getElem_of_mem hd
 exact hn j _ (List.getElem?_eq_getElem hj) he)
theorem two_at {W : World} {B : Nat} {cs : Array Value} {t : TypeId} (hr : W.heap[B]? = some (.cells cs t (0, 0))) (a0 a1 : Value) (hs : cs.size = 2) :
  ∀ W', W' = W.setCells B 0 [a0, a1] → W'.heap[B]? = some (.cells #[a0, a1] t (0, 0)) ∧ W.grownBy W' (some B) := by
 rintro W' rfl
 obtain ⟨cur, z1, z2, z3⟩ := sm_at B t [a0, a1] 0 W _ hr (by rw [hs]; exact Nat.le_refl 2)
 have hl : cs.toList.length = 2 := hs
 have z4 : cur.toList = [a0, a1] := by
  rw [z3, List.take_zero, List.nil_append, List.drop_of_length_le (by rw [hl]; exact Nat.le_refl _), List.append_nil]
 have z5 : cur = #[a0, a1] := Array.toList_inj.1 z4
 rw [z1, z5]
 exact ⟨rfl, sm_grown W B 0 _⟩
set_option maxHeartbeats 1600000 in
theorem refOf_any (v : Value) (ds : List DV) (room : ByteArray) (w : World) (h : DsS w v ds) (hl : ds.length ≤ 1000) :
  Calls Tryz.prog 51 #[.agg #[v], .string room] w fun e w' => ∃ d : DV, e = .returned d.val ∧ EvsS w' d.lv d.xs ∧ d.room = room ∧ (d ∈ ds ∨ d = noDV room) ∧ evs d.xs = ofL (vws ds) room ∧ Below w.heap.size w w' := by
 obtain ⟨A, cap, rfl, h1, h2, -⟩ := id h.1
 unfold maxLen at h2
 have HD := Lib.hid h
 have HT : Hid (((w.alloc (.cells #[.slice A ds.length cap] 39)).alloc (.cells #[.string ⟨#[]⟩, .slice none 0 0] 93)).heap[w.heap.size]? = some (.cells #[.slice A ds.length cap] 39 (0, 0)) ∧ ((w.alloc (.cells #[.slice A ds.length cap] 39)).alloc (.cells #[.string ⟨#[]⟩, .slice none 0 0] 93)).heap[w.heap.size + 1]? = some (.cells #[.string ⟨#[]⟩, .slice none 0 0] 93 (0, 0)) ∧ Below w.heap.size w ((w.alloc (.cells #[.slice A ds.length cap] 39)).alloc (.cells #[.string ⟨#[]⟩, .slice none 0 0] 93))) := Lib.hid (by
  have hs : (w.alloc (.cells #[.slice A ds.length cap] 39)).heap.size = w.heap.size + 1 := by simp
  have h3 := heap_alloc_new (w.alloc (.cells #[.slice A ds.length cap] 39)) (.cells #[.string ⟨#[]⟩, .slice none 0 0] 93)
  rw [hs] at h3
  refine ⟨?_, h3, ((Below.refl _ w).alloc (Nat.le_refl _) _).alloc (by simp) _⟩
  rw [heap_alloc_old _ _ (by rw [hs]; omega)]
  exact heap_alloc_new w _)
 clear h
 go_enter Tryz.func51, Tryz.ntmps51
 go_upto_region 1 with (fail)
 generalize World.alloc _ _ = w2 at HT ⊢
 have hne : w.heap.size ≠ w.heap.size + 1 := by omega
 generalize hB4 : w.heap.size + 1 = B4 at HT hne ⊢
 have HLO : Hid (w.heap.size ≤ B4) := Lib.hid (by omega)
 clear hB4
 have HBW := Lib.hid HT.out.2.2
 have HX2 := Lib.hid HT.out.1
 have HX4 := Lib.hid HT.out.2.1
 clear HT
 have HD2 := Lib.hid (HD.out.below HBW.out)
 generalize hBB : w.heap.size = B2 at HX2 hne ⊢
 clear hBB
 have c0 : w2.cell? ⟨B2, 0, none⟩ = some (.slice A ds.length cap) := cell_at HX2.out 0
 go_wp2_with fail
 go_loopw [5] (fun i wr => ∃ a : Nat, i = .int .i64 (a : Int) ∧ a ≤ ds.length ∧ wr = w2 ∧ Hid (∀ (j : Nat) e, j < a → ds[j]? = some e → e.room ≠ room)) (fun i _ => ds.length - (intOf i).toNat)
 case atStart => exact ⟨0, rfl, Nat.zero_le _, rfl, Lib.hid (fun j e hj => by omega)⟩
 case round =>
  obtain ⟨a, rfl, ha, rfl, HN⟩ := hrel
  have x0 : wr.cell? ⟨B4, 0, none⟩ = some (.string ⟨#[]⟩) := cell_at HX4.out 0
  have x1 : wr.cell? ⟨B4, 1, none⟩ = some (.slice none 0 0) := cell_at HX4.out 1
  have z0 : wr.frozen? ⟨B4, 0, none⟩ = false := free_at HX4.out 0
  have z1 : wr.frozen? ⟨B4, 1, none⟩ = false := free_at HX4.out 1
  by_cases hax : a < ds.length
  ·have q1 : decide ((a : Int) < (ds.length : Int)) = true := decide_eq_true (by omega)
   have hx : ds[a]? = some ds[a] := List.getElem?_eq_getElem hax
   generalize ds[a] = d at hx
   have HX := Lib.hid hx
   obtain ⟨b, off, hA, hb, e0, e1⟩ := dv_at HD2.out.1 hx
   have hix := index_any (P := Tryz.prog) knD (by decide) (b := b) (off := off) (cap := cap) hax
   simp only [LD] at hix
   rw [← hA] at hix
   unfold DV.lv at e1
   have q2 := keyB d.room room
   have HED := Lib.hid (HD2.out.2 d (List.mem_of_getElem? hx))
   clear hx hA
   by_cases hr : d.room = room
   ·rw [decide_eq_true hr] at q2
    have HOL := Lib.hid (ofL_hit HX.out hr HN.out)
    have HAN := Lib.hid (two_at HX4.out (.string d.room) (.slice d.A d.xs.length d.cap) rfl _ rfl)
    simp only [World.setCells] at HAN
    have HR := Lib.hid hr
    clear hr
    go_wp2_with fail
    clear x0 x1 z0 z1 e0 e1
    generalize World.setCell _ _ _ = w9 at HAN ⊢
    have s0 : w9.cell? ⟨B4, 0, none⟩ = some (.string d.room) := cell_at HAN.out.1 0
    have s1 : w9.cell? ⟨B4, 1, none⟩ = some (.slice d.A d.xs.length d.cap) := cell_at HAN.out.1 1
    refine bodyPost_ret (v := .agg #[.string d.room, .slice d.A d.xs.length d.cap]) ?_ rfl ?_
    ·simp [results, Tryz.results51, go_sem, s0, s1]
    ·have hb9 : Below w.heap.size w w9 := HBW.out.grown HAN.out.2 HBW.out.size (fun k hk => by injection hk with hk; have := HLO.out; omega)
     exact ⟨d, rfl, (HD.out.2 d (List.mem_of_getElem? HX.out)).below hb9, HR.out, .inl (List.mem_of_getElem? HX.out), HOL.out.symm, hb9⟩
   ·rw [decide_eq_false hr] at q2
    have HN2 : Hid (∀ (j : Nat) e, j < a + 1 → ds[j]? = some e → e.room ≠ room) := Lib.hid (fun j e hj he => by
     by_cases hja : j = a
     ·subst hja
      rw [HX.out] at he
      injection he with he
      rw [← he]; exact hr
     ·exact HN.out j e (by omega) he)
    clear hr
    go_wp2_with fail
    refine ⟨⟨a + 1, by go_num, by omega, trivial, HN2⟩, ?_⟩
    simp [intOf]; omega
  ·have q1 : decide ((a : Int) < (ds.length : Int)) = false := decide_eq_false (by omega)
   have HOL := Lib.hid (ofL_miss (ds := ds) (room := room) (fun j e he => HN.out j e (by have := (List.getElem?_eq_some_iff.1 he).1; omega) he))
   have HAN := Lib.hid (two_at HX4.out (.string room) (.slice none 0 0) rfl _ rfl)
   simp only [World.setCells] at HAN
   go_wp2_with fail
   clear x0 x1 z0 z1
   generalize World.setCell _ _ _ = w9 at HAN ⊢
   have s0 : w9.cell? ⟨B4, 0, none⟩ = some (.string room) := cell_at HAN.out.1 0
   have s1 : w9.cell? ⟨B4, 1, none⟩ = some (.slice none 0 0) := cell_at HAN.out.1 1
   refine bodyPost_ret (v := .agg #[.string room, .slice none 0 0]) ?_ rfl ?_
   ·simp [results, Tryz.results51, go_sem, s0, s1]
   ·have hb9 : Below w.heap.size w w9 := HBW.out.grown HAN.out.2 HBW.out.size (fun k hk => by injection hk with hk; have := HLO.out; omega)
    exact ⟨noDV room, rfl, noDV_evs _ _, rfl, .inr rfl, HOL.out.symm, hb9⟩
end Go.Proofs.YtnnapkakbdpkaaaGreat
