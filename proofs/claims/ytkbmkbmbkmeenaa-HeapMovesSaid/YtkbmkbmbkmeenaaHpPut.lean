/-
  The heap's Put.
-/
import Derived.Test.YtkbmkbmbkmeenaaHpMore
import Derived.Test.YtkbmkbmbkmeenaaEntPut
namespace Go.Proofs.Ytkbmkbmbkmeenaa
set_option maxRecDepth 20000
open Go.RowKit
set_option linter.unusedVariables false
set_option linter.unusedSimpArgs false
variable {w w' : World} {g mb : Nat} {v v' : Value} {es es' l : List Ent} {D D' : Dm}

theorem set_same (cur : Array Value) (j : Nat) (u : Value) (h : cur[j]? = some u) : cur.setIfInBounds j u = cur := by
  apply Array.ext_getElem?
  intro i
  rw [Array.getElem?_setIfInBounds]
  by_cases e : j = i
  · subst e
    rw [if_pos rfl, h]
    split
    · rfl
    · rename_i hn
      rw [Array.getElem?_eq_none (by omega)] at h
      cases h
  · rw [if_neg e]
/-- An entry's tick is another one. -/
theorem HSt.tick {b off n cap i : Nat} (h : HSt w g (.slice (some ⟨b, off, none⟩) n cap) mb es D) (hi : i < es.length) (t : Int) : HSt (w.setCell ⟨b, off + i * 2, none⟩ (.int .i64 t)) g (.slice (some ⟨b, off, none⟩) n cap) mb (es.set i ⟨t, (nth es i).key⟩) D := by
  have h2 := h.set hi ⟨t, (nth es i).key⟩
  obtain ⟨_, d1⟩ := h.ent hi
  simp only [World.setCells] at h2
  refine h2.keep fun k hk => ?_
  by_cases e : k = b
  · subst e
    rcases h.row with ⟨hv, _⟩ | ⟨b', off', cap', cur, hv, _, hh, _⟩
    · cases hv
    · injection hv with e1 e2 e3
      injection e1 with e1
      injection e1 with e4 e5 _
      subst e4 e5 e3
      rw [heap_set hh, heap_set (heap_set hh _ _)]
      rw [cell_at hh] at d1
      rw [set_same _ (off + i * 2 + 1) (.string (nth es i).key) (by rw [Array.getElem?_setIfInBounds, if_neg (by omega)]; exact d1)]
  · exact (Below.heap_setCell _ _ _ k e).symm
/-- A row that has grown. -/
theorem HSt.appended {A : Option Addr} {c : Nat} (h : HSt w g v mb es D) (x : Ent) (hm : LC.Mine w' 0 (.slice A (es.length + 1) c) (es ++ [x])) (hg : w.grownBy w' v.ownBlock) : w'.heap[g]? = some (.cells #[v, .map (some mb)] 60 (0, 0)) ∧ HSt (w'.setCell ⟨g, 0, none⟩ (.slice A (es.length + 1) c)) g (.slice A (es.length + 1) c) mb (es ++ [x]) D ∧ Turns (own3 g v mb) w (w'.setCell ⟨g, 0, none⟩ (.slice A (es.length + 1) c)) := by
  have h1 : w'.heap[g]? = some (.cells #[v, .map (some mb)] 60 (0, 0)) := (hg.block g (smem_lt h.hd) (fun e => (h.apart g e.symm).1 rfl)).trans h.hd
  obtain ⟨xs, clock, hb⟩ := h.map.is
  have h2 : w'.heap[mb]? = w.heap[mb]? := hg.block mb (smem_lt hb) (fun e => (h.apart mb e.symm).2 rfl)
  refine ⟨h1, ⟨by rw [heap_set h1]; rfl, hm.keep fun k hk => Below.heap_setCell _ _ _ k (fun e => ?_), Own.keep h.map ((Below.heap_setCell _ _ _ mb (fun e => h.gm e.symm)).trans h2)⟩, (Turns.grown hg fun k e => .inr (.inl e)).trans (Turns.cell _ _)⟩
  subst e
  rcases hm with ⟨hv, _⟩ | ⟨g', off, cap, cur, hv, _, hh', _⟩
  · injection hv with e1 e2 e3
    omega
  · rw [hv] at hk
    simp only [Value.ownBlock, Option.some.injEq] at hk
    subst hk
    rw [h1] at hh'
    injection hh' with hh'
    injection hh' with _ hh'
    exact absurd hh' (by decide)
theorem fill_entC (x : Ent) : Instr.fill (fun i => some (i * 2, 2)) ((Array.range (1 * 2)).map ((Value.agg #[.int .i64 0, .string ⟨#[]⟩]).cells[· % (Value.agg #[.int .i64 0, .string ⟨#[]⟩]).cells.size]!)) [(0, .agg #[.int .i64 x.tick, .string x.key])] = some #[.int .i64 x.tick, .string x.key] := fill_ent x
theorem build_entC (x : Ent) (w : World) : (Instr.buildSlice 37 1 #[(0, .agg #[.int .i64 x.tick, .string x.key])]).run Try.prog w = .ok (.slice (some ⟨w.heap.size, 0, none⟩) 1 1) (w.alloc (.cells #[.int .i64 x.tick, .string x.key] 45)) := by
  obtain ⟨i0, hi0, hz0, hz1, hz2⟩ := info_parts knC.info
  refine run_buildSlice w 37 45 1 _ _ i0 _ Try.underlying37 hi0 hz0 (by rw [hz1]; decide) (by rw [hz1]; decide) ?_
  rw [hz1]
  exact fill_entC x
theorem wp_buildC {o : Oper} {a : Act} {K : Act → World → Prop} {Q : Exit → Act → World → Prop} (s : Operand) (ho : o.op = .buildSlice 37 1 #[(0, s)]) (x : Ent) (hv : a.eval s = .agg #[.int .i64 x.tick, .string x.key])
    (hK : K (a.put o.dst (.slice (some ⟨w.heap.size, 0, none⟩) 1 1)) (w.alloc (.cells #[.int .i64 x.tick, .string x.key] 45))) : o.wp Try.prog a w K Q := by
  have h := build_entC x w
  unfold Oper.wp execOp
  simp only [ho, Sem.run_bind, Sem.run_pure, Result.andThen_ok, List.map_toArray, List.map_cons, List.map_nil, hv, h]
  exact hK

/-- Behind an entry that is new. -/
theorem put_fin {w7 : World} {vn : Value} {x : Ent} (h : HpS w g v mb es D l) (hl : l.length ≤ 100) (hx : x.ok) (hno : ∀ i, i < es.length → (nth es i).key ≠ x.key) (h7 : HSt w7 g vn mb (es ++ [x]) D) (t7 : Turns (own3 g v mb) w w7) (o7 : ∀ k, vn.ownBlock = some k → v.ownBlock = some k ∨ w.heap.size ≤ k) :
    Calls Try.prog 34 #[.pointer (some ⟨g, 0, none⟩), .int .i64 (es.length : Int)] w7 fun e w' => e = .returned (.tuple #[]) ∧ CHc w' g (putL x l) ∧ TurnC ownC w w' g := by
  have hlen := h.len
  have hp := put_new h.perm hno
  have hok : ∀ y ∈ putL x l, y.ok := fun y hy => by rcases put_mem hy with rfl | hy; exact hx; exact h.ok y hy
  refine (settle_any h7 (i := es.length) (by simp) (by simp; omega) (perm_keys hp (row_put h.row)) (fun y hy => Nat.le_trans (hok y (hp.mem_iff.1 hy)).1 (by unfold maxLen; omega)) (plh_new x h.pl) (h.heap.behind x)).mono ?_
  rintro e w8 ⟨rfl, es8, D8, s8, p8, l8, e8, t8⟩
  refine ⟨rfl, ⟨_, _, _, _, s8, p8.trans hp, row_put h.row, hok, l8, e8⟩, turnC h.st s8 (t7.newer t8 (fun k hk => ?_)) o7⟩
  rcases hk with e | e | e
  · exact .inl (.inl e)
  · rcases o7 k e with e | e
    · exact .inl (.inr (.inl e))
    · exact .inr e
  · exact .inl (.inr (.inr e))

set_option maxHeartbeats 1600000 in
theorem put_miss {x : Ent} {c : Int} (h : HpS w g v mb es D l) (hl : l.length ≤ 100) (hx : x.ok) (hno : ∀ i, i < es.length → (nth es i).key ≠ x.key) (hr : (Instr.lookup 58 (.map (some mb)) (.string x.key) true).run Try.prog w = .ok (.tuple #[.int .i64 c, .bool false]) w) :
    Calls Try.prog 23 #[.pointer (some ⟨g, 0, none⟩), .int .i64 x.tick, .string x.key] w fun e w' => e = .returned (.tuple #[]) ∧ CHc w' g (putL x l) ∧ TurnC ownC w w' g := by
  have c0 := h.st.c0
  have c1 := h.st.c1
  have hlen : es.length ≤ 100 := by rw [h.len]; exact hl
  obtain ⟨A, cap, hv, h1, h2, h3⟩ := h.st.row.shape
  have HP := Lib.hid h.st.drew
  have BB := Lib.hid (show Below w.heap.size w w.drew from ⟨rfl, rfl, rfl, Nat.le_refl _, fun _ _ => rfl⟩)
  have HS := Lib.hid h
  have HNO := Lib.hid hno
  have hok := hx.1
  unfold maxLen at h2
  subst hv
  clear h hno h1 h3
  go_enter Try.func23, Try.ntmps23
  go_upto_region 4 with (fail)
  clear c0 c1 hr
  refine wp_region_held_drew (S := fun _ => True) (by kernel_rfl) trivial (fun _ => ?_)
  generalize hwd : w.drew = wd at HP BB ⊢
  clear hwd
  have c0 := HP.out.c0
  generalize hvv : Value.slice A es.length cap = v at HP HS c0
  refine wpAnyH_take (i := 0) (oi := ⟨some 31, _, _, _, _, _⟩) (v := ?vx1) rfl (by kernel_rfl) (by kernel_rfl) (by kernel_rfl) (fun _ _ _ h => h) (Or.inl ⟨by rfl, ?yx1⟩) trivial ?rx1
  case yx1 =>
    intro wx hSx
    go_simp
    try with_reducible rfl
  try simp only [Act.put, List.setIfInBounds_toArray, List.set_cons_zero, List.set_cons_succ]
  refine wpAnyH_take (i := 1) (oi := ⟨some 32, _, _, _, _, _⟩) (v := ?vx2) rfl (by kernel_rfl) (by kernel_rfl) (by kernel_rfl) (fun _ _ _ h => h) (Or.inl ⟨by rfl, ?yx2⟩) trivial ?rx2
  case yx2 =>
    intro wx hSx
    go_simp
    try with_reducible rfl
  try simp only [Act.put, List.setIfInBounds_toArray, List.set_cons_zero, List.set_cons_succ]
  refine wpAnyH_take (i := 2) (oi := ⟨some 33, _, _, _, _, _⟩) (v := ?vx3) rfl (by kernel_rfl) (by kernel_rfl) (by kernel_rfl) (fun _ _ _ h => h) (Or.inl ⟨by rfl, ?yx3⟩) trivial ?rx3
  case yx3 =>
    intro wx hSx
    go_simp
    try with_reducible rfl
  try simp only [Act.put, List.setIfInBounds_toArray, List.set_cons_zero, List.set_cons_succ]
  refine wpAnyH_take (i := 3) (oi := ⟨some 34, _, _, _, _, _⟩) (v := ?vx4) rfl (by kernel_rfl) (by kernel_rfl) (by kernel_rfl) (fun _ _ _ h => h) (Or.inl ⟨by rfl, ?yx4⟩) trivial ?rx4
  case yx4 =>
    intro wx hSx
    go_simp
    try with_reducible rfl
  try simp only [Act.put, List.setIfInBounds_toArray, List.set_cons_zero, List.set_cons_succ]
  refine wpAnyH_take (i := 5) (oi := ⟨some 36, _, _, _, _, _⟩) (v := ?vx5) rfl (by kernel_rfl) (by kernel_rfl) (by kernel_rfl) (fun _ _ _ h => h) (Or.inl ⟨by rfl, ?yx5⟩) trivial ?rx5
  case yx5 =>
    intro wx hSx
    go_simp
    try with_reducible rfl
  try simp only [Act.put, List.setIfInBounds_toArray, List.set_cons_zero, List.set_cons_succ]
  refine wpAnyH_take (i := 6) (oi := ⟨some 37, _, _, _, _, _⟩) (v := ?vx6) rfl (by kernel_rfl) (by kernel_rfl) (by kernel_rfl) (fun _ _ _ h => h) (Or.inl ⟨by rfl, ?yx6⟩) trivial ?rx6
  case yx6 =>
    intro wx hSx
    go_simp
    try with_reducible rfl
  try simp only [Act.put, List.setIfInBounds_toArray, List.set_cons_zero, List.set_cons_succ]
  refine wpAnyH_take (i := 7) (oi := ⟨some 38, _, _, _, _, _⟩) (v := ?vx7) rfl (by kernel_rfl) (by kernel_rfl) (by kernel_rfl) (fun _ _ _ h => h) (Or.inl ⟨by rfl, ?yx7⟩) trivial ?rx7
  case yx7 =>
    intro wx hSx
    go_simp
    try with_reducible rfl
  try simp only [Act.put, List.setIfInBounds_toArray, List.set_cons_zero, List.set_cons_succ]
  refine wpAnyH_ready (rs := [4, 8]) (by kernel_rfl) (by simp) ?_
  refine (AllReadyH.cons (o := ⟨some 35, _, _, _, _, _⟩) rfl (fun K hK => ?way8_0) (AllReadyH.cons (o := ⟨some 39, _, _, _, _, _⟩) rfl (fun K hK => ?way8_1) AllReadyH.nil))
  case way8_0 =>
    go_simp
    refine hK.out _ _ trivial (fun _ => ?_)
    clear hK K
    try simp only [Act.put, List.setIfInBounds_toArray, List.set_cons_zero, List.set_cons_succ]
    refine wpAnyH_ready (rs := [8]) (by kernel_rfl) (by simp) ?_
    refine (AllReadyH.cons (o := ⟨some 39, _, _, _, _, _⟩) rfl (fun K hK => ?way9_0) AllReadyH.nil)
    case way9_0 =>
      go_simp
      refine (own_any x _ hok).mono ?_
      rintro e w4 ⟨rfl, hb4⟩
      have BB := Lib.hid (BB.out.trans (hb4.mono (BB.out.size)))
      replace HP := Lib.hid (HP.out.below hb4)
      clear hb4 c0
      have c0 := HP.out.c0
      refine hK.out _ _ trivial (fun _ => ?_)
      clear hK K
      try simp only [Act.put, List.setIfInBounds_toArray, List.set_cons_zero, List.set_cons_succ]
      refine wpAnyH_ready (rs := [9]) (by kernel_rfl) (by simp) ?_
      refine (AllReadyH.cons (o := ⟨some 40, _, _, _, _, _⟩) rfl (fun K hK => ?way10_0) AllReadyH.nil)
      case way10_0 =>
        rw [if_pos (by rfl)]
        refine wp_buildC (.tmp 39) rfl x rfl ?_
        have hb5 := Below.alloc (Below.refl w4.heap.size w4) (Nat.le_refl _) (.cells #[.int .i64 x.tick, .string x.key] 45)
        replace BB := Lib.hid (BB.out.trans (hb5.mono (BB.out.size)))
        replace HP := Lib.hid (HP.out.below hb5)
        have S5 := Lib.hid (lit_slice (L := LC) w4 x w4.heap.size rfl #[.int .i64 x.tick, .string x.key] rfl)
        replace S5 := Lib.hid (show LC.Slice (w4.alloc (.cells #[.int .i64 x.tick, .string x.key] 45)) (.slice (some ⟨w4.heap.size, 0, none⟩) 1 1) [x] from S5.out)
        clear hb5 c0
        generalize w4.alloc (.cells #[.int .i64 x.tick, .string x.key] 45) = w5 at *
        generalize w4.heap.size = B5 at *
        have c0 := HP.out.c0
        refine hK.out _ _ trivial (fun _ => ?_)
        clear hK K
        try simp only [Act.put, List.setIfInBounds_toArray, List.set_cons_zero, List.set_cons_succ]
        refine wpAnyH_ready (rs := [10]) (by kernel_rfl) (by simp) ?_
        refine (AllReadyH.cons (o := ⟨some 41, _, _, _, _, _⟩) rfl (fun K hK => ?way11_0) AllReadyH.nil)
        case way11_0 =>
          rw [if_pos (by rfl)]
          refine wp_puts knC (.tmp 35) (.tmp 40) 37 rfl rfl HP.out.row (Nat.zero_le _) _ [x] 1 rfl rfl (S5.out.srcN knC rfl) (by omega) ?_
          intro A6 c6 w6 m6 g6 o6
          have H6 := Lib.hid (HP.out.appended x m6 g6)
          have O6 : Hid (∀ k, (Value.slice A6 (es.length + 1) c6).ownBlock = some k → v.ownBlock = some k ∨ w.heap.size ≤ k) := Lib.hid (fun k hk => by rcases o6 k hk with h | h; exact .inl h; exact .inr (Nat.le_trans BB.out.size h))
          have T6 := Lib.hid ((Turns.below (S := own3 g v mb) BB.out).trans H6.out.2.2)
          have c6' := cell_at H6.out.1 0
          have f6' := free_at H6.out.1 0
          clear m6 g6 o6 c0 S5 HP BB
          replace H6 := Lib.hid H6.out.2.1
          refine hK.out _ _ trivial (fun _ => ?_)
          clear hK K
          try simp only [Act.put, List.setIfInBounds_toArray, List.set_cons_zero, List.set_cons_succ]
          refine wpAnyH_take (i := 11) (oi := ⟨some 42, _, _, _, _, _⟩) (v := ?vx12) rfl (by kernel_rfl) (by kernel_rfl) (by kernel_rfl) (fun _ _ _ h => h) (Or.inl ⟨by rfl, ?yx12⟩) trivial ?rx12
          case yx12 =>
            intro wx hSx
            go_simp
            try with_reducible rfl
          try simp only [Act.put, List.setIfInBounds_toArray, List.set_cons_zero, List.set_cons_succ]
          refine wpAnyH_take (i := 12) (oi := ⟨some 43, _, _, _, _, _⟩) (v := ?vx13) rfl (by kernel_rfl) (by kernel_rfl) (by kernel_rfl) (fun _ _ _ h => h) (Or.inl ⟨by rfl, ?yx13⟩) trivial ?rx13
          case yx13 =>
            intro wx hSx
            go_simp
            try with_reducible rfl
          try simp only [Act.put, List.setIfInBounds_toArray, List.set_cons_zero, List.set_cons_succ]
          refine wpAnyH_ready (rs := [13]) (by kernel_rfl) (by simp) ?_
          refine (AllReadyH.cons (o := ⟨none, _, _, _, _, _⟩) rfl (fun K hK => ?way14_0) AllReadyH.nil)
          case way14_0 =>
            go_simp
            generalize World.setCell _ _ _ = w7 at H6 T6 ⊢
            clear c6' f6'
            refine hK.out _ _ trivial (fun _ => ?_)
            clear hK K
            try simp only [Act.put, List.setIfInBounds_toArray, List.set_cons_zero, List.set_cons_succ]
            refine wpAnyH_done (by kernel_rfl) ?_ _
            go_wp2_with fail
            go_at_call 34
            refine (put_fin (w := w) HS.out hl hx HNO.out H6.out T6.out O6.out).mono ?_
            rintro e w8 ⟨rfl, r8⟩
            replace r8 := Lib.hid r8
            go_wp2_with fail
            go_end0
            exact ⟨rfl, r8.out⟩
  case way8_1 =>
    go_simp
    refine (own_any x _ hok).mono ?_
    rintro e w4 ⟨rfl, hb4⟩
    have BB := Lib.hid (BB.out.trans (hb4.mono (BB.out.size)))
    replace HP := Lib.hid (HP.out.below hb4)
    clear hb4 c0
    have c0 := HP.out.c0
    refine hK.out _ _ trivial (fun _ => ?_)
    clear hK K
    try simp only [Act.put, List.setIfInBounds_toArray, List.set_cons_zero, List.set_cons_succ]
    refine wpAnyH_ready (rs := [4, 9]) (by kernel_rfl) (by simp) ?_
    refine (AllReadyH.cons (o := ⟨some 35, _, _, _, _, _⟩) rfl (fun K hK => ?way15_0) (AllReadyH.cons (o := ⟨some 40, _, _, _, _, _⟩) rfl (fun K hK => ?way15_1) AllReadyH.nil))
    case way15_0 =>
      go_simp
      refine hK.out _ _ trivial (fun _ => ?_)
      clear hK K
      try simp only [Act.put, List.setIfInBounds_toArray, List.set_cons_zero, List.set_cons_succ]
      refine wpAnyH_ready (rs := [9]) (by kernel_rfl) (by simp) ?_
      refine (AllReadyH.cons (o := ⟨some 40, _, _, _, _, _⟩) rfl (fun K hK => ?way16_0) AllReadyH.nil)
      case way16_0 =>
        rw [if_pos (by rfl)]
        refine wp_buildC (.tmp 39) rfl x rfl ?_
        have hb5 := Below.alloc (Below.refl w4.heap.size w4) (Nat.le_refl _) (.cells #[.int .i64 x.tick, .string x.key] 45)
        replace BB := Lib.hid (BB.out.trans (hb5.mono (BB.out.size)))
        replace HP := Lib.hid (HP.out.below hb5)
        have S5 := Lib.hid (lit_slice (L := LC) w4 x w4.heap.size rfl #[.int .i64 x.tick, .string x.key] rfl)
        replace S5 := Lib.hid (show LC.Slice (w4.alloc (.cells #[.int .i64 x.tick, .string x.key] 45)) (.slice (some ⟨w4.heap.size, 0, none⟩) 1 1) [x] from S5.out)
        clear hb5 c0
        generalize w4.alloc (.cells #[.int .i64 x.tick, .string x.key] 45) = w5 at *
        generalize w4.heap.size = B5 at *
        have c0 := HP.out.c0
        refine hK.out _ _ trivial (fun _ => ?_)
        clear hK K
        try simp only [Act.put, List.setIfInBounds_toArray, List.set_cons_zero, List.set_cons_succ]
        refine wpAnyH_ready (rs := [10]) (by kernel_rfl) (by simp) ?_
        refine (AllReadyH.cons (o := ⟨some 41, _, _, _, _, _⟩) rfl (fun K hK => ?way17_0) AllReadyH.nil)
        case way17_0 =>
          rw [if_pos (by rfl)]
          refine wp_puts knC (.tmp 35) (.tmp 40) 37 rfl rfl HP.out.row (Nat.zero_le _) _ [x] 1 rfl rfl (S5.out.srcN knC rfl) (by omega) ?_
          intro A6 c6 w6 m6 g6 o6
          have H6 := Lib.hid (HP.out.appended x m6 g6)
          have O6 : Hid (∀ k, (Value.slice A6 (es.length + 1) c6).ownBlock = some k → v.ownBlock = some k ∨ w.heap.size ≤ k) := Lib.hid (fun k hk => by rcases o6 k hk with h | h; exact .inl h; exact .inr (Nat.le_trans BB.out.size h))
          have T6 := Lib.hid ((Turns.below (S := own3 g v mb) BB.out).trans H6.out.2.2)
          have c6' := cell_at H6.out.1 0
          have f6' := free_at H6.out.1 0
          clear m6 g6 o6 c0 S5 HP BB
          replace H6 := Lib.hid H6.out.2.1
          refine hK.out _ _ trivial (fun _ => ?_)
          clear hK K
          try simp only [Act.put, List.setIfInBounds_toArray, List.set_cons_zero, List.set_cons_succ]
          refine wpAnyH_take (i := 11) (oi := ⟨some 42, _, _, _, _, _⟩) (v := ?vx18) rfl (by kernel_rfl) (by kernel_rfl) (by kernel_rfl) (fun _ _ _ h => h) (Or.inl ⟨by rfl, ?yx18⟩) trivial ?rx18
          case yx18 =>
            intro wx hSx
            go_simp
            try with_reducible rfl
          try simp only [Act.put, List.setIfInBounds_toArray, List.set_cons_zero, List.set_cons_succ]
          refine wpAnyH_take (i := 12) (oi := ⟨some 43, _, _, _, _, _⟩) (v := ?vx19) rfl (by kernel_rfl) (by kernel_rfl) (by kernel_rfl) (fun _ _ _ h => h) (Or.inl ⟨by rfl, ?yx19⟩) trivial ?rx19
          case yx19 =>
            intro wx hSx
            go_simp
            try with_reducible rfl
          try simp only [Act.put, List.setIfInBounds_toArray, List.set_cons_zero, List.set_cons_succ]
          refine wpAnyH_ready (rs := [13]) (by kernel_rfl) (by simp) ?_
          refine (AllReadyH.cons (o := ⟨none, _, _, _, _, _⟩) rfl (fun K hK => ?way20_0) AllReadyH.nil)
          case way20_0 =>
            go_simp
            generalize World.setCell _ _ _ = w7 at H6 T6 ⊢
            clear c6' f6'
            refine hK.out _ _ trivial (fun _ => ?_)
            clear hK K
            try simp only [Act.put, List.setIfInBounds_toArray, List.set_cons_zero, List.set_cons_succ]
            refine wpAnyH_done (by kernel_rfl) ?_ _
            go_wp2_with fail
            go_at_call 34
            refine (put_fin (w := w) HS.out hl hx HNO.out H6.out T6.out O6.out).mono ?_
            rintro e w8 ⟨rfl, r8⟩
            replace r8 := Lib.hid r8
            go_wp2_with fail
            go_end0
            exact ⟨rfl, r8.out⟩
    case way15_1 =>
      rw [if_pos (by rfl)]
      refine wp_buildC (.tmp 39) rfl x rfl ?_
      have hb5 := Below.alloc (Below.refl w4.heap.size w4) (Nat.le_refl _) (.cells #[.int .i64 x.tick, .string x.key] 45)
      replace BB := Lib.hid (BB.out.trans (hb5.mono (BB.out.size)))
      replace HP := Lib.hid (HP.out.below hb5)
      have S5 := Lib.hid (lit_slice (L := LC) w4 x w4.heap.size rfl #[.int .i64 x.tick, .string x.key] rfl)
      replace S5 := Lib.hid (show LC.Slice (w4.alloc (.cells #[.int .i64 x.tick, .string x.key] 45)) (.slice (some ⟨w4.heap.size, 0, none⟩) 1 1) [x] from S5.out)
      clear hb5 c0
      generalize w4.alloc (.cells #[.int .i64 x.tick, .string x.key] 45) = w5 at *
      generalize w4.heap.size = B5 at *
      have c0 := HP.out.c0
      refine hK.out _ _ trivial (fun _ => ?_)
      clear hK K
      try simp only [Act.put, List.setIfInBounds_toArray, List.set_cons_zero, List.set_cons_succ]
      refine wpAnyH_ready (rs := [4]) (by kernel_rfl) (by simp) ?_
      refine (AllReadyH.cons (o := ⟨some 35, _, _, _, _, _⟩) rfl (fun K hK => ?way21_0) AllReadyH.nil)
      case way21_0 =>
        go_simp
        refine hK.out _ _ trivial (fun _ => ?_)
        clear hK K
        try simp only [Act.put, List.setIfInBounds_toArray, List.set_cons_zero, List.set_cons_succ]
        refine wpAnyH_ready (rs := [10]) (by kernel_rfl) (by simp) ?_
        refine (AllReadyH.cons (o := ⟨some 41, _, _, _, _, _⟩) rfl (fun K hK => ?way22_0) AllReadyH.nil)
        case way22_0 =>
          rw [if_pos (by rfl)]
          refine wp_puts knC (.tmp 35) (.tmp 40) 37 rfl rfl HP.out.row (Nat.zero_le _) _ [x] 1 rfl rfl (S5.out.srcN knC rfl) (by omega) ?_
          intro A6 c6 w6 m6 g6 o6
          have H6 := Lib.hid (HP.out.appended x m6 g6)
          have O6 : Hid (∀ k, (Value.slice A6 (es.length + 1) c6).ownBlock = some k → v.ownBlock = some k ∨ w.heap.size ≤ k) := Lib.hid (fun k hk => by rcases o6 k hk with h | h; exact .inl h; exact .inr (Nat.le_trans BB.out.size h))
          have T6 := Lib.hid ((Turns.below (S := own3 g v mb) BB.out).trans H6.out.2.2)
          have c6' := cell_at H6.out.1 0
          have f6' := free_at H6.out.1 0
          clear m6 g6 o6 c0 S5 HP BB
          replace H6 := Lib.hid H6.out.2.1
          refine hK.out _ _ trivial (fun _ => ?_)
          clear hK K
          try simp only [Act.put, List.setIfInBounds_toArray, List.set_cons_zero, List.set_cons_succ]
          refine wpAnyH_take (i := 11) (oi := ⟨some 42, _, _, _, _, _⟩) (v := ?vx23) rfl (by kernel_rfl) (by kernel_rfl) (by kernel_rfl) (fun _ _ _ h => h) (Or.inl ⟨by rfl, ?yx23⟩) trivial ?rx23
          case yx23 =>
            intro wx hSx
            go_simp
            try with_reducible rfl
          try simp only [Act.put, List.setIfInBounds_toArray, List.set_cons_zero, List.set_cons_succ]
          refine wpAnyH_take (i := 12) (oi := ⟨some 43, _, _, _, _, _⟩) (v := ?vx24) rfl (by kernel_rfl) (by kernel_rfl) (by kernel_rfl) (fun _ _ _ h => h) (Or.inl ⟨by rfl, ?yx24⟩) trivial ?rx24
          case yx24 =>
            intro wx hSx
            go_simp
            try with_reducible rfl
          try simp only [Act.put, List.setIfInBounds_toArray, List.set_cons_zero, List.set_cons_succ]
          refine wpAnyH_ready (rs := [13]) (by kernel_rfl) (by simp) ?_
          refine (AllReadyH.cons (o := ⟨none, _, _, _, _, _⟩) rfl (fun K hK => ?way25_0) AllReadyH.nil)
          case way25_0 =>
            go_simp
            generalize World.setCell _ _ _ = w7 at H6 T6 ⊢
            clear c6' f6'
            refine hK.out _ _ trivial (fun _ => ?_)
            clear hK K
            try simp only [Act.put, List.setIfInBounds_toArray, List.set_cons_zero, List.set_cons_succ]
            refine wpAnyH_done (by kernel_rfl) ?_ _
            go_wp2_with fail
            go_at_call 34
            refine (put_fin (w := w) HS.out hl hx HNO.out H6.out T6.out O6.out).mono ?_
            rintro e w8 ⟨rfl, r8⟩
            replace r8 := Lib.hid r8
            go_wp2_with fail
            go_end0
            exact ⟨rfl, r8.out⟩

set_option maxHeartbeats 400000 in
theorem put_hit {x : Ent} {i : Nat} (h : HpS w g v mb es D l) (hl : l.length ≤ 100) (hx : x.ok) (hi : i < es.length) (hk : (nth es i).key = x.key) (hr : (Instr.lookup 58 (.map (some mb)) (.string x.key) true).run Try.prog w = .ok (.tuple #[.int .i64 (i : Int), .bool true]) w) :
    Calls Try.prog 23 #[.pointer (some ⟨g, 0, none⟩), .int .i64 x.tick, .string x.key] w fun e w' => e = .returned (.tuple #[]) ∧ CHc w' g (putL x l) ∧ TurnC ownC w w' g := by
  have hlen := h.len
  obtain ⟨b, off, cap, rfl, hc1, hc2⟩ := h.st.slice hi
  unfold maxLen at hc2
  have c0 := h.st.c0
  have c1 := h.st.c1
  obtain ⟨d0, d1⟩ := h.st.ent hi
  obtain ⟨f0, f1⟩ := h.st.there hi
  have hix := index_any (P := Try.prog) knC (by decide) (b := b) (off := off) (cap := cap) hi
  simp only [LC] at hix
  have hp := put_old h.perm h.row hi hk
  have hok : ∀ y ∈ putL x l, y.ok := fun y hy => by rcases put_mem hy with rfl | hy; exact hx; exact h.ok y hy
  have s1 := h.st.tick hi x.tick
  rw [hk] at s1
  have R := settle_any s1 (i := i) (by rw [List.length_set]; exact hi) (by rw [List.length_set]; omega) (perm_keys hp (row_put h.row)) (fun y hy => Nat.le_trans (hok y (hp.mem_iff.1 hy)).1 (by unfold maxLen; omega)) (plh_old h.pl hi hk) (h.heap.wrong hi x)
  have HP := Lib.hid hp
  have HOK := Lib.hid hok
  have H := Lib.hid h
  have T1 := Lib.hid (Turns.cells (w := w) (g := g) (v := .slice (some ⟨b, off, none⟩) es.length cap) (mb := mb) b (off + i * 2) [.int .i64 x.tick] rfl)
  simp only [World.setCells] at T1
  clear h hp hok s1 hk hlen
  go_enter Try.func23, Try.ntmps23
  go_upto_region 5 with (fail)
  clear c0 c1 d0 d1 f0 f1 hix hr
  generalize World.setCell _ _ _ = w1 at R T1 ⊢
  go_wp2_with fail
  go_at_call 34
  refine R.mono ?_
  rintro e w8 ⟨rfl, es8, D8, s8, p8, l8, e8, t8⟩
  have R8 : Hid (CHc w8 g (putL x l) ∧ TurnC ownC w w8 g) := Lib.hid ⟨⟨_, _, _, _, s8, p8.trans HP.out, row_put H.out.row, HOK.out, l8, e8⟩, turnC_same H.out.st s8 (T1.out.trans t8) rfl⟩
  clear s8 p8 l8 e8 t8 R
  go_wp2_with fail
  go_end0
  exact ⟨rfl, R8.out⟩
theorem put_any (x : Ent) (h : CHc w g l) (hl : l.length ≤ 100) (hx : x.ok) : Calls Try.prog 23 #[.pointer (some ⟨g, 0, none⟩), .int .i64 x.tick, .string x.key] w fun e w' => e = .returned (.tuple #[]) ∧ CHc w' g (putL x l) ∧ TurnC ownC w w' g := by
  obtain ⟨v, mb, es, D, hs⟩ := h
  rcases hs.look x.key (Nat.le_trans hx.1 (by unfold maxLen; omega)) with ⟨c, hr, hno⟩ | ⟨i, hi, hk, hr⟩
  · exact put_miss hs hl hx hno hr
  · exact put_hit hs hl hx hi hk hr
end Go.Proofs.Ytkbmkbmbkmeenaa
