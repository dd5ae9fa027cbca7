/-
  Package dag: Heads. A map of bools that the call makes says which texts have been passed.
-/
import Derived.Test.YtflgpdkdflhhgaaGreatDgZ
import Derived.Test.YtflgpdkdflhhgaaGreatDagHeads
import Derived.Maps.Views
namespace Go.Proofs.YtflgpdkdflhhgaaGreat
set_option maxRecDepth 20000
open Go.RowKit Go.Maps Go.ChangeMaps
set_option linter.unusedVariables false
set_option linter.unusedSimpArgs false

/-- The map says of each text whether it is there. -/
structure PaS (w : World) (mb n : Nat) (b : ByteArray → Bool) : Prop where
  is : ∃ D : Dv, OwnN w mb n D ∧ ∀ k, D.atKey (kl k) (.held (.bool false)) = .held (.bool (b k))
theorem zeroB (w : World) : (zeroValue 4).run Tryz.prog w = .ok (.bool false) w := by kernel_rfl
theorem PaS.made (w : World) : PaS (w.alloc (.map #[] 0)) w.heap.size 0 (fun _ => false) := ⟨.map [], World.ownsMap_made w _ _ _, fun k => WideAt.atKey_none _ (fun p hp => by cases hp)⟩
theorem PaS.keep {w w' : World} {mb n : Nat} {b : ByteArray → Bool} (h : PaS w mb n b) (hb : w'.heap[mb]? = w.heap[mb]?) : PaS w' mb n b := by
  obtain ⟨D, h1, h2⟩ := h.is
  exact ⟨D, h1.keep hb, h2⟩
theorem PaS.more {w : World} {mb n n' : Nat} {b : ByteArray → Bool} (h : PaS w mb n b) (hn : n ≤ n') : PaS w mb n' b := by
  obtain ⟨D, h1, h2⟩ := h.is
  exact ⟨D, World.ownsMap.mono h1 hn, h2⟩
theorem PaS.same {w : World} {mb n : Nat} {b b' : ByteArray → Bool} (h : PaS w mb n b) (hn : ∀ k, b k = b' k) : PaS w mb n b' := by
  obtain ⟨D, h1, h2⟩ := h.is
  exact ⟨D, h1, fun k => by rw [h2, hn]⟩
theorem PaS.lt {w : World} {mb n : Nat} {b : ByteArray → Bool} (h : PaS w mb n b) : mb < w.heap.size := by
  obtain ⟨D, h1, _⟩ := h.is
  exact h1.lt
theorem PaS.look {w : World} {mb n : Nat} {b : ByteArray → Bool} (h : PaS w mb n b) {k : ByteArray} (hk : k.size ≤ maxLen) : (Instr.lookup 80 (.map (some mb)) (.string k) false).run Tryz.prog w = .ok (.bool (b k)) w := by
  obtain ⟨D, h1, h2⟩ := h.is
  obtain ⟨v, ps, hr, hv⟩ := World.ownsMap.lookup h1 keyed Tryz.underlying80 (zeroB w) (zd := .held (.bool false)) (zp := []) rfl (keyIs hk)
  rw [h2] at hv
  injection hv with hv
  injection hv with hv _
  injection hv with hv
  rw [hr, hv]
theorem PaS.put {w : World} {mb n : Nat} {b : ByteArray → Bool} (h : PaS w mb n b) (hn : n < maxLen) {p : ByteArray} (hp : p.size ≤ maxLen) : ∃ w', (Instr.mapUpdate 80 (.map (some mb)) (.string p) (.bool true)).run Tryz.prog w = .ok () w' ∧ PaS w' mb (n + 1) (fun k => b k || decide (p = k)) ∧ w.grownBy w' (some mb) := by
  obtain ⟨D, h1, h2⟩ := h.is
  obtain ⟨w', hr, ho, hg⟩ := World.ownsMap.update h1 keyed Tryz.underlying80 hn (key := .string p) (val := .bool true) (d := .held (.bool true)) (ps := []) (keyIs hp) rfl
  refine ⟨w', hr, ⟨_, ho, fun k => ?_⟩, hg⟩
  by_cases hk : k = p
  · subst hk
    rw [Maps.atKey_put_same (World.ownsMap.isMap h1) (kl_key _)]
    simp
  · rw [Maps.atKey_put_other (fun e => hk (kl_inj e)), h2]
    rw [decide_eq_false (fun e => hk e.symm), Bool.or_false]
/-- A row is no map. -/
theorem mine_map {α : Type} {L : Lies α} {w : World} {B mb n : Nat} {v : Value} {xs : List α} {b : ByteArray → Bool} (h : L.Mine w B v xs) (hm : PaS w mb n b) : ∀ k, v.ownBlock = some k → some k ≠ some mb := by
  intro k hk he
  injection he with he
  subst he
  obtain ⟨D, ⟨es, clock, hb, _⟩, _⟩ := hm.is
  rcases h with ⟨rfl, _⟩ | ⟨g, off, cap, cur, rfl, _, hh, _⟩
  · cases hk
  · simp only [Value.ownBlock, Option.some.injEq] at hk
    subst hk
    rw [hb] at hh
    cases hh
/-- While texts are passed. -/
structure HeS (w wr : World) (mb n : Nat) (b : ByteArray → Bool) (v : Value) (xs : List NdV) : Prop where
  below : Below w.heap.size w wr
  new : w.heap.size ≤ mb
  map : PaS wr mb n b
  row : LN.Mine wr w.heap.size v xs
theorem HeS.on {w wr w2 : World} {mb n : Nat} {b : ByteArray → Bool} {v : Value} {xs : List NdV} (h : HeS w wr mb n b v xs) (hb : Below wr.heap.size wr w2) : HeS w w2 mb n b v xs :=
  ⟨h.below.trans (hb.mono h.below.size), h.new, h.map.keep (hb.block mb h.map.lt), h.row.below hb⟩
theorem HeS.put {w wr : World} {mb n : Nat} {b : ByteArray → Bool} {v : Value} {xs : List NdV} (h : HeS w wr mb n b v xs) (hn : n < maxLen) {p : ByteArray} (hp : p.size ≤ maxLen) : ∃ w', (Instr.mapUpdate 80 (.map (some mb)) (.string p) (.bool true)).run Tryz.prog wr = .ok () w' ∧ HeS w w' mb (n + 1) (fun k => b k || decide (p = k)) v xs := by
  obtain ⟨w', hr, h1, hg⟩ := h.map.put hn hp
  exact ⟨w', hr, h.below.grown hg h.below.size (fun k hk => by injection hk with hk; rw [← hk]; exact h.new), h.new, h1, h.row.grown hg (mine_map h.row h.map)⟩
theorem HeS.same {w wr : World} {mb n n' : Nat} {b b' : ByteArray → Bool} {v : Value} {xs : List NdV} (h : HeS w wr mb n b v xs) (hn : n ≤ n') (hb : ∀ k, b k = b' k) : HeS w wr mb n' b' v xs := ⟨h.below, h.new, (h.map.more hn).same hb, h.row⟩
theorem HeS.grown {w wr w2 : World} {mb n : Nat} {b : ByteArray → Bool} {v : Value} {xs : List NdV} {row : Option Nat} (h : HeS w wr mb n b v xs) (hg : wr.grownBy w2 row) (hr : ∀ k, row = some k → w.heap.size ≤ k) (hm : some mb ≠ row) (hx : ∀ k, v.ownBlock = some k → some k ≠ row) : HeS w w2 mb n b v xs :=
  ⟨h.below.grown hg h.below.size hr, h.new, h.map.keep (hg.block mb h.map.lt hm), h.row.grown hg hx⟩
theorem isHead_row {l a : List Ev} (h : ∀ e, e ∈ a ↔ e ∈ l) (k : ByteArray) : isHead a k = isHead l k := by
  unfold isHead
  rw [Bool.eq_iff_iff, List.all_eq_true, List.all_eq_true]
  exact ⟨fun h1 e he => h1 e ((h e).2 he), fun h1 e he => h1 e ((h e).1 he)⟩

set_option maxHeartbeats 1600000 in
theorem heads_any7 {w : World} {g mb : Nat} {room : ByteArray} {ns : List NdV} {D : Dv} (h : DgS w g room mb ns D) (hl : ns.length ≤ 1000) : Calls Tryz.prog 24 #[.pointer (some ⟨g, 0, none⟩)] w fun e w' => ∃ v, e = .returned v ∧ HdS w w' v (headsL (nevs ns)) := by
  have HD := Lib.hid h
  have HR := Lib.hid (row_any h hl)
  clear h
  go_enter Tryz.func24, Tryz.ntmps24
  go_wp2_with fail
  go_at_call 40
  refine HR.out.mono ?_
  rintro e w2 ⟨A, cap, xs, rfl, hp, hpw, hm, hb2⟩
  have HX := Lib.hid (row_all HD.out hp hpw)
  have HPM := Lib.hid hp
  have hxl : xs.length ≤ 1000 := by rw [hp.length_eq]; exact hl
  have hcap : xs.length ≤ cap ∧ cap ≤ 9223372036854775807 := by
    obtain ⟨_, _, he, h5, hm5, -⟩ := hm.shape
    injection he with _ he2 he3
    unfold maxLen at hm5
    omega
  have HH0 := Lib.hid (show HeS w (w2.alloc (.map #[] 0)) w2.heap.size 0 (fun _ => false) (.slice A xs.length cap) xs from ⟨hb2.trans ((below_new w2 _).mono hb2.size), hb2.size, PaS.made w2, hm.below (below_new w2 _)⟩)
  have hmm := @run_makeMap Tryz.prog
  clear hp hpw hm hb2 HR
  go_upto_region 3 with (fail)
  clear hmm
  generalize w2.alloc _ = w3 at HH0 ⊢
  generalize w2.heap.size = M at HH0 ⊢
  go_wp2_with fail
  go_loopw [18] (fun i wr => ∃ a : Nat, i = .int .i64 (a : Int) ∧ a ≤ xs.length ∧ Hid (HeS w wr M (a * 10) (fun k => !headTo (nevs xs) k a) (.slice A xs.length cap) xs)) (fun i _ => xs.length - (intOf i).toNat)
  case atStart => exact ⟨0, rfl, Nat.zero_le _, Lib.hid (HH0.out.same (Nat.zero_le _) (fun k => rfl))⟩
  case round =>
    obtain ⟨a, rfl, ha, HA⟩ := hrel
    by_cases hlt : a < xs.length
    · have q1 : decide ((a : Int) < (xs.length : Int)) = true := decide_eq_true (by omega)
      have hn : xs[a]? = some xs[a] := List.getElem?_eq_getElem hlt
      generalize xs[a] = n at hn
      have hmem : n ∈ ns := HPM.out.mem_iff.1 (List.mem_of_getElem? hn)
      have HNE : Hid ((nevs xs)[a]? = some n.x.ev) := Lib.hid (by rw [List.getElem?_map, hn]; rfl)
      obtain ⟨bx, ox, hA, hbx, hrx⟩ := nd_at HA.out.row.slice hn
      have hix := index_any (P := Tryz.prog) knN (by decide) (b := bx) (off := ox) (cap := cap) hlt
      simp only [LN] at hix
      have hr0 := hrx
      rw [hA]
      have x0 : wr.cell? ⟨bx, ox + a * 7, none⟩ = some (.string n.x.ev.id) := hr0 0 _ rfl
      have x1 : wr.cell? ⟨bx, ox + a * 7 + 1, none⟩ = some (.string n.x.ev.room) := hr0 1 _ rfl
      have x2 : wr.cell? ⟨bx, ox + a * 7 + 2, none⟩ = some (.slice n.x.A n.x.ev.parents.length n.x.cap) := hr0 2 _ rfl
      have x3 : wr.cell? ⟨bx, ox + a * 7 + 3, none⟩ = some (.string n.x.ev.thread) := hr0 3 _ rfl
      have x4 : wr.cell? ⟨bx, ox + a * 7 + 4, none⟩ = some (.string n.x.ev.user) := hr0 4 _ rfl
      have x5 : wr.cell? ⟨bx, ox + a * 7 + 5, none⟩ = some (.int .i64 n.x.ev.does) := hr0 5 _ rfl
      have x6 : wr.cell? ⟨bx, ox + a * 7 + 6, none⟩ = some (.int .i64 (n.d : Int)) := hr0 6 _ rfl
      have HOK := Lib.hid (may_ok (HD.out.node hmem).1)
      have HPA := Lib.hid (HD.out.par n hmem).slice
      have HPN := Lib.hid (may_short (HD.out.node hmem).1)
      have HBX := Lib.hid (heap_alloc_new wr (.cells #[.string n.x.ev.id, .string n.x.ev.room, .slice n.x.A n.x.ev.parents.length n.x.cap, .string n.x.ev.thread, .string n.x.ev.user, .int .i64 n.x.ev.does, .int .i64 (n.d : Int)] 74))
      have HB4 := Lib.hid (below_new wr (.cells #[.string n.x.ev.id, .string n.x.ev.room, .slice n.x.A n.x.ev.parents.length n.x.cap, .string n.x.ev.thread, .string n.x.ev.user, .int .i64 n.x.ev.does, .int .i64 (n.d : Int)] 74))
      clear hr0 hrx hn hmem
      go_upto_region 6 with (fail)
      generalize wr.alloc _ = w4 at HBX HB4 ⊢
      have HA4 := Lib.hid (HA.out.on HB4.out)
      generalize wr.heap.size = B5 at HBX ⊢
      clear x0 x1 x2 x3 x4 x5 x6 HB4 HA
      have s2 : w4.cell? ⟨B5, 2, none⟩ = some (.slice n.x.A n.x.ev.parents.length n.x.cap) := cell_at HBX.out 2
      unfold EvV.pv at HPA
      obtain ⟨-, -, -, -, hps, -, -, hpl⟩ := id HPN.out
      have HPS := Lib.hid hps
      clear hps
      clear hbx wr
      go_wp2_with fail
      go_loopw [26] (fun i wr => ∃ j : Nat, i = .int .i64 (j : Int) ∧ j ≤ n.x.ev.parents.length ∧ Hid (HeS w wr M (a * 10 + j) (fun k => !headJ (nevs xs) k a n.x.ev j) (.slice A xs.length cap) xs)) (fun i _ => n.x.ev.parents.length - (intOf i).toNat)
      case atStart => exact ⟨0, rfl, Nat.zero_le _, Lib.hid (HA4.out.same (Nat.le_refl _) (fun k => by rw [headJ_zero]))⟩
      case round =>
        obtain ⟨j, rfl, hj, HJ⟩ := hrel
        by_cases hjl : j < n.x.ev.parents.length
        · have q2 : decide ((j : Int) < (n.x.ev.parents.length : Int)) = true := decide_eq_true (by omega)
          have hp : n.x.ev.parents[j]? = some n.x.ev.parents[j] := List.getElem?_eq_getElem hjl
          generalize n.x.ev.parents[j] = p at hp
          have HP := Lib.hid hp
          obtain ⟨b8, o8, hA8, hb8, hr8⟩ := text_at HPA.out hp
          have hi8 := index_any (P := Tryz.prog) knT (by decide) (b := b8) (off := o8) (cap := n.x.cap) hjl
          simp only [LT, Nat.mul_one] at hi8
          have y0 : wr.cell? ⟨b8, o8 + j, none⟩ = some (.string p) := (HJ.out.below.cell (p := ⟨b8, o8 + j, none⟩) hb8).trans hr8
          obtain ⟨w9, hru, h9⟩ := HJ.out.put (by unfold maxLen; omega) (p := p) (by have := HPS.out p (List.mem_of_getElem? hp); unfold maxLen; omega)
          have H9 := Lib.hid h9
          clear h9 hp hr8
          rw [hA8]
          go_wp2_with fail
          refine ⟨⟨j + 1, by go_num, by omega, Lib.hid (H9.out.same (Nat.le_refl _) (fun k => by rw [headJ_succ HP.out]; cases headJ (nevs xs) k a n.x.ev j <;> cases decide (p = k) <;> rfl))⟩, ?_⟩
          simp [intOf]; omega
        · have q2 : decide ((j : Int) < (n.x.ev.parents.length : Int)) = false := decide_eq_false (by omega)
          obtain rfl : j = n.x.ev.parents.length := by omega
          rw [hA] at HJ
          go_wp2_with fail
          refine ⟨⟨a + 1, by go_num, by omega, Lib.hid (HJ.out.same (n' := (a + 1) * 10) (by omega) (fun k => by rw [headJ_all HNE.out]))⟩, ?_⟩
          simp [intOf]; omega
    · have q1 : decide ((a : Int) < (xs.length : Int)) = false := decide_eq_false (by omega)
      obtain rfl : a = xs.length := by omega
      have HIS : Hid (∀ k, headTo (nevs xs) k xs.length = isHead (nevs ns) k) := Lib.hid (fun k => by
        rw [← isHead_row (a := nevs xs) (l := nevs ns) (fun e => by rw [HX.out]; exact (allL_row HD.out.val).2 e) k, ← headTo_all, List.length_map])
      have HA9 := Lib.hid (HA.out.same (b' := fun k => !isHead (nevs ns) k) (Nat.le_refl _) (fun k => by rw [HIS.out]))
      have HO0 : Hid (HdS w wr (.slice none 0 0) []) := Lib.hid ⟨HA.out.below, Lies.Mine.nil _ _⟩
      clear HA HIS
      go_upto_region 13 with (fail)
      generalize wr = w6 at HA9 HO0 ⊢
      go_wp2_with fail
      go_loopw [9, 36] (fun u i wr => ∃ (a : Nat) (ts : List ByteArray) (Ao : Option Addr) (co : Nat), u = .slice Ao ts.length co ∧ i = .int .i64 (a : Int) ∧ a ≤ xs.length ∧ ts.length ≤ a ∧ Hid (HeS w wr M (xs.length * 10) (fun k => !isHead (nevs ns) k) (.slice A xs.length cap) xs) ∧ Hid (HdS w wr u ts) ∧ Hid (ts = headsTo (nevs ns) (nevs xs) a)) (fun _ i _ => xs.length - (intOf i).toNat)
      case atStart => exact ⟨0, [], none, 0, rfl, rfl, Nat.zero_le _, Nat.le_refl _, HA9, HO0, Lib.hid rfl⟩
      case round =>
        obtain ⟨a, ts, Ao, co, rfl, rfl, ha, hta, HA, HO, HT⟩ := hrel
        by_cases hlt : a < xs.length
        · have q1 : decide ((a : Int) < (xs.length : Int)) = true := decide_eq_true (by omega)
          have hn : xs[a]? = some xs[a] := List.getElem?_eq_getElem hlt
          generalize xs[a] = n at hn
          have hmem : n ∈ ns := HPM.out.mem_iff.1 (List.mem_of_getElem? hn)
          have HNE : Hid ((nevs xs)[a]? = some n.x.ev) := Lib.hid (by rw [List.getElem?_map, hn]; rfl)
          obtain ⟨bx, ox, hA, hbx, hrx⟩ := nd_at HA.out.row.slice hn
          have hix := index_any (P := Tryz.prog) knN (by decide) (b := bx) (off := ox) (cap := cap) hlt
          simp only [LN] at hix
          have hr0 := hrx
          rw [hA]
          have x0 : wr.cell? ⟨bx, ox + a * 7, none⟩ = some (.string n.x.ev.id) := hr0 0 _ rfl
          have x1 : wr.cell? ⟨bx, ox + a * 7 + 1, none⟩ = some (.string n.x.ev.room) := hr0 1 _ rfl
          have x2 : wr.cell? ⟨bx, ox + a * 7 + 2, none⟩ = some (.slice n.x.A n.x.ev.parents.length n.x.cap) := hr0 2 _ rfl
          have x3 : wr.cell? ⟨bx, ox + a * 7 + 3, none⟩ = some (.string n.x.ev.thread) := hr0 3 _ rfl
          have x4 : wr.cell? ⟨bx, ox + a * 7 + 4, none⟩ = some (.string n.x.ev.user) := hr0 4 _ rfl
          have x5 : wr.cell? ⟨bx, ox + a * 7 + 5, none⟩ = some (.int .i64 n.x.ev.does) := hr0 5 _ rfl
          have x6 : wr.cell? ⟨bx, ox + a * 7 + 6, none⟩ = some (.int .i64 (n.d : Int)) := hr0 6 _ rfl
          have hid := (may_short (HD.out.node hmem).1).1
          have HC := Lib.hid (fun W => clone_any n.x.ev.id W (by omega))
          have HBX := Lib.hid (heap_alloc_new wr (.cells #[.string n.x.ev.id, .string n.x.ev.room, .slice n.x.A n.x.ev.parents.length n.x.cap, .string n.x.ev.thread, .string n.x.ev.user, .int .i64 n.x.ev.does, .int .i64 (n.d : Int)] 74))
          have HB4 := Lib.hid (below_new wr (.cells #[.string n.x.ev.id, .string n.x.ev.room, .slice n.x.A n.x.ev.parents.length n.x.cap, .string n.x.ev.thread, .string n.x.ev.user, .int .i64 n.x.ev.does, .int .i64 (n.d : Int)] 74))
          clear hr0 hrx hn hmem
          go_upto_region 16 with (fail)
          generalize wr.alloc _ = w4 at HBX HB4 ⊢
          have HA4 := Lib.hid (HA.out.on HB4.out)
          have HO4 := Lib.hid (HO.out.on HB4.out)
          generalize wr.heap.size = B5 at HBX ⊢
          clear x0 x1 x2 x3 x4 x5 x6 HB4 HA HO
          have s0 : w4.cell? ⟨B5, 0, none⟩ = some (.string n.x.ev.id) := cell_at HBX.out 0
          have hlk : (Instr.lookup 80 (.map (some M)) (.string n.x.ev.id) false).run Tryz.prog w4 = .ok (.bool (!isHead (nevs ns) n.x.ev.id)) w4 := HA4.out.map.look (by unfold maxLen; omega)
          cases hh : isHead (nevs ns) n.x.ev.id
          · have HH := Lib.hid hh
            rw [hh] at hlk
            clear hh
            go_wp2_with fail
            rw [hA] at HA4
            refine ⟨⟨a + 1, ts, Ao, co, rfl, by go_num, by omega, by omega, HA4, HO4, Lib.hid (by rw [headsTo_no HNE.out HH.out]; exact HT.out)⟩, ?_⟩
            simp [intOf]; omega
          · have HH := Lib.hid hh
            rw [hh] at hlk
            clear hh
            go_wp2_with fail
            go_at_call 37
            refine (HC.out _).mono ?_
            rintro e w5 ⟨rfl, b5⟩
            have HA5 := Lib.hid (HA4.out.on b5)
            have HO5 := Lib.hid (HO4.out.on b5)
            clear b5 s0 hlk HA4 HO4
            have hlit := Lib.hid (show LT.Slice (w5.alloc (.cells #[.string n.x.ev.id] 9)) (.slice (some ⟨w5.heap.size, 0, none⟩) 1 1) [n.x.ev.id] from lit_slice (L := LT) w5 n.x.ev.id w5.heap.size rfl #[.string n.x.ev.id] rfl)
            have hb6 := below_new w5 (.cells #[.string n.x.ev.id] 9)
            have HA6 := Lib.hid (HA5.out.on hb6)
            have HO6 := Lib.hid (HO5.out.on hb6)
            have hsz6 : w.heap.size ≤ (w5.alloc (.cells #[.string n.x.ev.id] 9)).heap.size := HO6.out.below.size
            clear hb6 HA5 HO5
            go_wp2_with (at_builtin; refine wpList_puts rfl knT (.tmp 47) (.tmp 50) 31 rfl (v := .slice Ao ts.length co) rfl HO6.out.row hsz6 (.slice (some ⟨w5.heap.size, 0, none⟩) 1 1) [n.x.ev.id] 1 rfl rfl (hlit.out.srcN knT rfl) (by omega) ?_; intro A7 cap7 w7 m7 g7 o7; have H7 : Hid (HdS w w7 (.slice A7 (ts.length + 1) cap7) (ts ++ [n.x.ev.id])) := Lib.hid ⟨HO6.out.below.grown g7 hsz6 (fun k hk => (HO6.out.row.lt k hk).1), m7⟩; have H8 := Lib.hid (HA6.out.grown g7 (fun k hk => (HO6.out.row.lt k hk).1) (fun e => mine_map HO6.out.row HA6.out.map M e.symm rfl) (fun k hk => HA6.out.row.apart HO6.out.row (by decide) k hk)); clear m7 g7 o7)
            rw [hA] at H8
            refine ⟨⟨a + 1, ts ++ [n.x.ev.id], A7, cap7, by rw [List.length_append]; rfl, by go_num, by omega, by rw [List.length_append]; simp only [List.length_cons, List.length_nil]; omega, H8, H7, Lib.hid (by rw [headsTo_yes HNE.out HH.out, ← HT.out])⟩, ?_⟩
            simp [intOf]; omega
        · have q1 : decide ((a : Int) < (xs.length : Int)) = false := decide_eq_false (by omega)
          obtain rfl : a = xs.length := by omega
          have HF : Hid (ts = headsL (nevs ns)) := Lib.hid (by rw [HT.out, ← headsTo_all, ← HX.out, List.length_map])
          go_wp2_with fail
          go_ret
          exact ⟨_, rfl, by rw [← HF.out]; exact HO.out⟩
theorem codeHds : DagHds codeDags := ⟨fun {w g room l} h hl => by
  obtain ⟨mb, ns, D, h, rfl⟩ := h
  refine (heads_any7 h (by rw [nevs_len] at hl; omega)).mono ?_
  rintro e w' ⟨v, rfl, ho⟩
  have hst := h.still ho.below
  refine ⟨v, rfl, ho.row, fun k hk hw => ?_, hst.1, hst.2⟩
  have h2 := (ho.row.lt k hk).1
  have h3 := h.old ((h.own k).2 (((h.below ho.below).own k).1 hw))
  omega⟩
end Go.Proofs.YtflgpdkdflhhgaaGreat
