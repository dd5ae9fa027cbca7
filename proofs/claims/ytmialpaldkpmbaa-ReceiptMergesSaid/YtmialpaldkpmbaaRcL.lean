/-
  The document's Public, Good, Few of marks; the law's of, like, lives.
-/
import Derived.Test.YtmialpaldkpmbaaRcK
namespace Go.Proofs.Ytmialpaldkpmbaa
set_option maxRecDepth 20000
open Go.RowKit Go.Maps Go.ChangeMaps
set_option linter.unusedVariables false
set_option linter.unusedSimpArgs false
theorem pub_snocM {l : List Mk} {a : Nat} {x : Mk} (hx : l[a]? = some x) : pubM (l.take (a + 1)) = pubM (l.take a) ++ (bif x.k.priv then [] else [x]) := by
  unfold pubM
  rw [List.take_add_one, hx, List.filter_append]
  cases hp : x.k.priv <;> simp [hp]
theorem pub_lenM (l : List Mk) : (pubM l).length ≤ l.length := List.length_filter_le _ _

set_option maxHeartbeats 1600000 in
theorem refPublicM_any (v : Value) (l : List Mk) (w : World) (h : LM.Slice w v l) (hl : l.length ≤ 900) :
    Calls Try.prog 13 #[v] w fun e w' => ∃ v', e = .returned v' ∧ LM.Mine w' w.heap.size v' (pubM l) ∧ Below w.heap.size w w' := by
  obtain ⟨A, cap, rfl, h1, h2, -⟩ := id h
  unfold maxLen at h2
  have HR := Lib.hid h
  have HL := Lib.hid hl
  clear h hl
  go_enter Try.func13, Try.ntmps13
  go_wp2_with fail
  go_loopw [3, 4] (fun u i wr => ∃ (a n : Nat) (B : Option Addr) (c : Nat), u = .slice B n c ∧ i = .int .i64 (a : Int) ∧ a ≤ l.length ∧ Hid (Below w.heap.size w wr ∧ LM.Mine wr w.heap.size u (pubM (l.take a)) ∧ (pubM (l.take a)).length = n)) (fun _ i _ => l.length - (intOf i).toNat)
  case atStart => exact ⟨0, 0, none, 0, rfl, rfl, Nat.zero_le _, Lib.hid ⟨Below.refl _ _, Lies.Mine.nil _ _, rfl⟩⟩
  case round =>
    obtain ⟨a, n, B, c, rfl, rfl, ha, HA⟩ := hrel
    by_cases hax : a < l.length
    · have q1 : decide ((a : Int) < (l.length : Int)) = true := decide_eq_true (by omega)
      have hx : l[a]? = some l[a] := List.getElem?_eq_getElem hax
      generalize l[a] = x at hx
      have HP := Lib.hid (pub_snocM hx)
      obtain ⟨bo, oo, rfl, hbo, hco⟩ := (HR.out.below HA.out.1).at hx
      have hiy := index_any (P := Try.prog) knM (by decide) (b := bo) (off := oo) (cap := cap) hax
      simp only [LM] at hiy hco
      obtain ⟨a0, a1, a2, a3, a4, a5⟩ := range6 hco
      clear hx hco
      cases hp : x.k.priv
      · rw [hp] at HP
        have hlit := Lib.hid (lit_slice (L := LM) wr x wr.heap.size rfl #[.string x.k.room, .string x.k.user, .string x.k.thread, .bool x.k.priv, .int .i64 x.po.depth, .string x.po.id] rfl)
        replace hlit := Lib.hid (show LM.Slice (wr.alloc (.cells #[.string x.k.room, .string x.k.user, .string x.k.thread, .bool x.k.priv, .int .i64 x.po.depth, .string x.po.id] 38)) (.slice (some ⟨wr.heap.size, 0, none⟩) 1 1) [x] from hlit.out)
        have hbn := below_new wr (.cells #[.string x.k.room, .string x.k.user, .string x.k.thread, .bool x.k.priv, .int .i64 x.po.depth, .string x.po.id] 38)
        have HM6 := Lib.hid (HA.out.2.1.below hbn)
        have HB6 := Lib.hid (HA.out.1.trans (hbn.mono HA.out.1.size))
        have hsz6 := HB6.out.size
        have hnn := HA.out.2.2
        have HNN := Lib.hid hnn
        have hnl : n ≤ 900 := by
          have := pub_lenM (l.take a)
          rw [List.length_take] at this
          have := HL.out
          omega
        clear hbn hnn
        rw [hp] at hlit HM6 HB6 hsz6
        rw [hp] at a3
        clear hp
        go_wp2_with (at_builtin; refine wpList_puts rfl knM (.tmp 18) (.tmp 23) 22 rfl (v := .slice B n c) rfl HM6.out hsz6 (.slice (some ⟨wr.heap.size, 0, none⟩) 1 1) [x] 1 rfl rfl (hlit.out.srcN knM rfl) (by rw [HNN.out]; omega) ?_; rw [HNN.out]; intro A7 cap7 w7 m7 g7 o7)
        have HA7 : Hid (Below w.heap.size w w7 ∧ LM.Mine w7 w.heap.size (.slice A7 (n + 1) cap7) (pubM (l.take (a + 1))) ∧ (pubM (l.take (a + 1))).length = n + 1) := Lib.hid ⟨HB6.out.grown g7 hsz6 (fun k hk => (HM6.out.lt k hk).1), by rw [HP.out]; exact m7, by rw [HP.out, cond_false, List.length_append, HNN.out]; rfl⟩
        clear m7 g7 o7 HM6 HB6 hsz6 hlit
        refine ⟨⟨a + 1, n + 1, A7, cap7, rfl, by go_num, by omega, HA7⟩, ?_⟩
        simp [intOf]; omega
      · rw [hp] at HP a3
        have HA7 : Hid (Below w.heap.size w wr ∧ LM.Mine wr w.heap.size (.slice B n c) (pubM (l.take (a + 1))) ∧ (pubM (l.take (a + 1))).length = n) := Lib.hid (by
          rw [HP.out, cond_true, List.append_nil]
          exact HA.out)
        clear hp HP
        go_wp2_with fail
        refine ⟨⟨a + 1, n, B, c, rfl, by go_num, by omega, HA7⟩, ?_⟩
        simp [intOf]; omega
    · have q1 : decide ((a : Int) < (l.length : Int)) = false := decide_eq_false (by omega)
      obtain rfl : a = l.length := by omega
      rw [List.take_length] at HA
      go_wp2_with fail
      go_ret
      exact ⟨_, rfl, HA.out.2.1, HA.out.1⟩

/-- A mark as it can be handed in. -/
def Mk.fit (m : Mk) : Prop := m.k.room.size ≤ maxLen ∧ m.k.user.size ≤ maxLen ∧ m.k.thread.size ≤ maxLen ∧ m.po.id.size ≤ maxLen ∧ -9223372036854775808 ≤ m.po.depth ∧ m.po.depth ≤ 9223372036854775807
def goodM (m : Mk) : Mk := ⟨⟨roomS (m.k.room.size : Int), userS (m.k.user.size : Int), threadS (m.k.thread.size : Int), m.k.priv⟩, ⟨aroundI m.po.depth 4, eventS (m.po.id.size : Int)⟩⟩
def fewM (m : Mk) : Mk := ⟨⟨fewS m.k.room 6, fewS m.k.user 6, fewS m.k.thread 6, m.k.priv⟩, ⟨m.po.depth, fewS m.po.id 6⟩⟩
theorem goodM_ok (m : Mk) : (goodM m).ok := by
  have h1 : ∀ k : Fin 2, (roomK k.val).size ≤ 10 := by decide +kernel
  have h2 : ∀ k : Fin 9, (userK k.val).size ≤ 10 := by decide +kernel
  have h3 : ∀ k : Fin 11, (threadK k.val).size ≤ 10 := by decide +kernel
  have h4 : ∀ k : Fin 9, (eventK k.val).size ≤ 10 := by decide +kernel
  have e1 : (roomS (m.k.room.size : Int)).size ≤ 10 := h1 ⟨aroundN (m.k.room.size : Int) 2, aroundN_lt _ (m := 2) (by decide)⟩
  have e2 : (userS (m.k.user.size : Int)).size ≤ 10 := h2 ⟨aroundN (m.k.user.size : Int) 9, aroundN_lt _ (m := 9) (by decide)⟩
  have e3 : (threadS (m.k.thread.size : Int)).size ≤ 10 := h3 ⟨aroundN (m.k.thread.size : Int) 11, aroundN_lt _ (m := 11) (by decide)⟩
  have e4 : (eventS (m.po.id.size : Int)).size ≤ 10 := h4 ⟨aroundN (m.po.id.size : Int) 9, aroundN_lt _ (m := 9) (by decide)⟩
  exact ⟨⟨Nat.le_trans e1 (by decide), Nat.le_trans e2 (by decide), Nat.le_trans e3 (by decide)⟩, Nat.le_trans e4 (by decide)⟩
theorem fewM_ok (m : Mk) : (fewM m).ok := by
  have e1 := fewS_size m.k.room 6
  have e2 := fewS_size m.k.user 6
  have e3 := fewS_size m.k.thread 6
  have e4 := fewS_size m.po.id 6
  exact ⟨⟨Nat.le_trans e1 (by decide), Nat.le_trans e2 (by decide), Nat.le_trans e3 (by decide)⟩, Nat.le_trans e4 (by decide)⟩

set_option maxHeartbeats 3200000 in
theorem refGoodM_any (m : Mk) (w : World) (hm : m.fit) :
    Calls Try.prog 16 #[m.val] w fun e w' => e = .returned (goodM m).val ∧ Below w.heap.size w w' := by
  obtain ⟨f1, f2, f3, f4, f5, f6⟩ := hm
  unfold maxLen at f1 f2 f3 f4
  have HT := Lib.hid (TwoB.start w (.cells #[.string m.k.room, .string m.k.user, .string m.k.thread, .bool m.k.priv, .int .i64 m.po.depth, .string m.po.id] 38 (0, 0)) (.cells #[.string ⟨#[]⟩, .string ⟨#[]⟩, .string ⟨#[]⟩, .bool false, .int .i64 0, .string ⟨#[]⟩] 38 (0, 0)))
  have HC1 := Lib.hid (fun W => roomOf_any (m.k.room.size : Int) W (by omega) (by omega))
  have HC2 := Lib.hid (fun W => userOf_any (m.k.user.size : Int) W (by omega) (by omega))
  have HC3 := Lib.hid (fun W => threadOf_any (m.k.thread.size : Int) W (by omega) (by omega))
  have HC4 := Lib.hid (fun W => around_any m.po.depth 4 W f5 f6 (by decide) (by decide))
  have HC5 := Lib.hid (fun W => eventOf_any (m.po.id.size : Int) W (by omega) (by omega))
  have HE : Hid ((goodM m).val = .agg #[.string (roomS (m.k.room.size : Int)), .string (userS (m.k.user.size : Int)), .string (threadS (m.k.thread.size : Int)), .bool m.k.priv, .int .i64 (aroundI m.po.depth 4), .string (eventS (m.po.id.size : Int))]) := Lib.hid rfl
  generalize roomS (m.k.room.size : Int) = g0 at HC1 HE
  generalize userS (m.k.user.size : Int) = g1 at HC2 HE
  generalize threadS (m.k.thread.size : Int) = g2 at HC3 HE
  generalize aroundI m.po.depth 4 = g4 at HC4 HE
  generalize eventS (m.po.id.size : Int) = g5 at HC5 HE
  unfold Mk.val at *
  rw [HE.out]
  clear f5 f6 HE
  go_enter Try.func16, Try.ntmps16
  go_upto_region 1 with (fail)
  generalize World.alloc _ _ = w1 at HT ⊢
  generalize w.heap.size + 1 = B2 at HT ⊢
  generalize hB1 : w.heap.size = B1 at HT ⊢
  refine wp_region_held_drew (S := fun W => BoS w W B1 (.cells #[.string m.k.room, .string m.k.user, .string m.k.thread, .bool m.k.priv, .int .i64 m.po.depth, .string m.po.id] 38 (0, 0))) (by kernel_rfl) HT.out.bo.drew (fun hHeld => ?_)
  have hres : w1.drew.heap[B2]? = _ := HT.out.res
  have hne := HT.out.ne
  have hlo2 := HT.out.lo2
  clear HT
  generalize w1.drew = wd at hHeld hres ⊢
  refine wpAnyH_take (i := 0) (oi := ⟨some 3, _, _, _, _, _⟩) (v := ?vo0) rfl (by kernel_rfl) (by kernel_rfl) (by kernel_rfl) (fun _ _ _ h => h) (Or.inl ⟨by rfl, ?yo0⟩) hHeld ?ro0
  case yo0 =>
    intro wx hSx
    go_simp
    try with_reducible rfl
  try simp only [Act.put, List.setIfInBounds_toArray, List.set_cons_zero, List.set_cons_succ]
  refine wpAnyH_take (i := 1) (oi := ⟨some 4, _, _, _, _, _⟩) (v := ?vo1) rfl (by kernel_rfl) (by kernel_rfl) (by kernel_rfl) (fun _ _ _ h => h) (Or.inl ⟨by rfl, ?yo1⟩) hHeld ?ro1
  case yo1 =>
    intro wx hSx
    go_simp
    try with_reducible rfl
  try simp only [Act.put, List.setIfInBounds_toArray, List.set_cons_zero, List.set_cons_succ]
  refine wpAnyH_take (i := 5) (oi := ⟨some 8, _, _, _, _, _⟩) (v := ?vo5) rfl (by kernel_rfl) (by kernel_rfl) (by kernel_rfl) (fun _ _ _ h => h) (Or.inl ⟨by rfl, ?yo5⟩) hHeld ?ro5
  case yo5 =>
    intro wx hSx
    go_simp
    try with_reducible rfl
  try simp only [Act.put, List.setIfInBounds_toArray, List.set_cons_zero, List.set_cons_succ]
  refine wpAnyH_take (i := 6) (oi := ⟨some 9, _, _, _, _, _⟩) (v := ?vo6) rfl (by kernel_rfl) (by kernel_rfl) (by kernel_rfl) (fun _ _ _ h => h) (Or.inl ⟨by rfl, ?yo6⟩) hHeld ?ro6
  case yo6 =>
    intro wx hSx
    go_simp
    try with_reducible rfl
  try simp only [Act.put, List.setIfInBounds_toArray, List.set_cons_zero, List.set_cons_succ]
  refine wpAnyH_take (i := 10) (oi := ⟨some 13, _, _, _, _, _⟩) (v := ?vo10) rfl (by kernel_rfl) (by kernel_rfl) (by kernel_rfl) (fun _ _ _ h => h) (Or.inl ⟨by rfl, ?yo10⟩) hHeld ?ro10
  case yo10 =>
    intro wx hSx
    go_simp
    try with_reducible rfl
  try simp only [Act.put, List.setIfInBounds_toArray, List.set_cons_zero, List.set_cons_succ]
  refine wpAnyH_take (i := 11) (oi := ⟨some 14, _, _, _, _, _⟩) (v := ?vo11) rfl (by kernel_rfl) (by kernel_rfl) (by kernel_rfl) (fun _ _ _ h => h) (Or.inl ⟨by rfl, ?yo11⟩) hHeld ?ro11
  case yo11 =>
    intro wx hSx
    go_simp
    try with_reducible rfl
  try simp only [Act.put, List.setIfInBounds_toArray, List.set_cons_zero, List.set_cons_succ]
  refine wpAnyH_take (i := 15) (oi := ⟨some 18, _, _, _, _, _⟩) (v := ?vo15) rfl (by kernel_rfl) (by kernel_rfl) (by kernel_rfl) (fun _ _ _ h => h) (Or.inl ⟨by rfl, ?yo15⟩) hHeld ?ro15
  case yo15 =>
    intro wx hSx
    go_simp
    try with_reducible rfl
  try simp only [Act.put, List.setIfInBounds_toArray, List.set_cons_zero, List.set_cons_succ]
  refine wpAnyH_take (i := 16) (oi := ⟨some 19, _, _, _, _, _⟩) (v := ?vo16) rfl (by kernel_rfl) (by kernel_rfl) (by kernel_rfl) (fun _ _ _ h => h) (Or.inl ⟨by rfl, ?yo16⟩) hHeld ?ro16
  case yo16 =>
    intro wx hSx
    go_simp
    try with_reducible rfl
  try simp only [Act.put, List.setIfInBounds_toArray, List.set_cons_zero, List.set_cons_succ]
  refine wpAnyH_take (i := 19) (oi := ⟨some 22, _, _, _, _, _⟩) (v := ?vo19) rfl (by kernel_rfl) (by kernel_rfl) (by kernel_rfl) (fun _ _ _ h => h) (Or.inl ⟨by rfl, ?yo19⟩) hHeld ?ro19
  case yo19 =>
    intro wx hSx
    go_simp
    try with_reducible rfl
  try simp only [Act.put, List.setIfInBounds_toArray, List.set_cons_zero, List.set_cons_succ]
  refine wpAnyH_take (i := 20) (oi := ⟨some 23, _, _, _, _, _⟩) (v := ?vo20) rfl (by kernel_rfl) (by kernel_rfl) (by kernel_rfl) (fun _ _ _ h => h) (Or.inl ⟨by rfl, ?yo20⟩) hHeld ?ro20
  case yo20 =>
    intro wx hSx
    go_simp
    try with_reducible rfl
  try simp only [Act.put, List.setIfInBounds_toArray, List.set_cons_zero, List.set_cons_succ]
  refine wpAnyH_take (i := 23) (oi := ⟨some 26, _, _, _, _, _⟩) (v := ?vo23) rfl (by kernel_rfl) (by kernel_rfl) (by kernel_rfl) (fun _ _ _ h => h) (Or.inl ⟨by rfl, ?yo23⟩) hHeld ?ro23
  case yo23 =>
    intro wx hSx
    go_simp
    try with_reducible rfl
  try simp only [Act.put, List.setIfInBounds_toArray, List.set_cons_zero, List.set_cons_succ]
  refine wpAnyH_take (i := 24) (oi := ⟨some 27, _, _, _, _, _⟩) (v := ?vo24) rfl (by kernel_rfl) (by kernel_rfl) (by kernel_rfl) (fun _ _ _ h => h) (Or.inl ⟨by rfl, ?yo24⟩) hHeld ?ro24
  case yo24 =>
    intro wx hSx
    go_simp
    try with_reducible rfl
  try simp only [Act.put, List.setIfInBounds_toArray, List.set_cons_zero, List.set_cons_succ]
  refine wpAnyH_take (i := 2) (oi := ⟨some 5, _, _, _, _, _⟩) (v := ?vo2) rfl (by kernel_rfl) (by kernel_rfl) (by kernel_rfl) (fun _ _ _ h => h) (Or.inl ⟨by rfl, ?yo2⟩) hHeld ?ro2
  case yo2 =>
    intro wx hSx
    have z := cell_at hSx.box 0
    simp only [List.getElem?_toArray, List.getElem?_cons_succ, List.getElem?_cons_zero] at z
    go_simp
    try with_reducible rfl
  try simp only [Act.put, List.setIfInBounds_toArray, List.set_cons_zero, List.set_cons_succ]
  refine wpAnyH_take (i := 7) (oi := ⟨some 10, _, _, _, _, _⟩) (v := ?vo7) rfl (by kernel_rfl) (by kernel_rfl) (by kernel_rfl) (fun _ _ _ h => h) (Or.inl ⟨by rfl, ?yo7⟩) hHeld ?ro7
  case yo7 =>
    intro wx hSx
    have z := cell_at hSx.box 1
    simp only [List.getElem?_toArray, List.getElem?_cons_succ, List.getElem?_cons_zero] at z
    go_simp
    try with_reducible rfl
  try simp only [Act.put, List.setIfInBounds_toArray, List.set_cons_zero, List.set_cons_succ]
  refine wpAnyH_take (i := 12) (oi := ⟨some 15, _, _, _, _, _⟩) (v := ?vo12) rfl (by kernel_rfl) (by kernel_rfl) (by kernel_rfl) (fun _ _ _ h => h) (Or.inl ⟨by rfl, ?yo12⟩) hHeld ?ro12
  case yo12 =>
    intro wx hSx
    have z := cell_at hSx.box 2
    simp only [List.getElem?_toArray, List.getElem?_cons_succ, List.getElem?_cons_zero] at z
    go_simp
    try with_reducible rfl
  try simp only [Act.put, List.setIfInBounds_toArray, List.set_cons_zero, List.set_cons_succ]
  refine wpAnyH_take (i := 17) (oi := ⟨some 20, _, _, _, _, _⟩) (v := ?vo17) rfl (by kernel_rfl) (by kernel_rfl) (by kernel_rfl) (fun _ _ _ h => h) (Or.inl ⟨by rfl, ?yo17⟩) hHeld ?ro17
  case yo17 =>
    intro wx hSx
    have z := cell_at hSx.box 3
    simp only [List.getElem?_toArray, List.getElem?_cons_succ, List.getElem?_cons_zero] at z
    go_simp
    try with_reducible rfl
  try simp only [Act.put, List.setIfInBounds_toArray, List.set_cons_zero, List.set_cons_succ]
  refine wpAnyH_take (i := 21) (oi := ⟨some 24, _, _, _, _, _⟩) (v := ?vo21) rfl (by kernel_rfl) (by kernel_rfl) (by kernel_rfl) (fun _ _ _ h => h) (Or.inl ⟨by rfl, ?yo21⟩) hHeld ?ro21
  case yo21 =>
    intro wx hSx
    have z := cell_at hSx.box 4
    simp only [List.getElem?_toArray, List.getElem?_cons_succ, List.getElem?_cons_zero] at z
    go_simp
    try with_reducible rfl
  try simp only [Act.put, List.setIfInBounds_toArray, List.set_cons_zero, List.set_cons_succ]
  refine wpAnyH_take (i := 25) (oi := ⟨some 28, _, _, _, _, _⟩) (v := ?vo25) rfl (by kernel_rfl) (by kernel_rfl) (by kernel_rfl) (fun _ _ _ h => h) (Or.inl ⟨by rfl, ?yo25⟩) hHeld ?ro25
  case yo25 =>
    intro wx hSx
    have z := cell_at hSx.box 5
    simp only [List.getElem?_toArray, List.getElem?_cons_succ, List.getElem?_cons_zero] at z
    go_simp
    try with_reducible rfl
  try simp only [Act.put, List.setIfInBounds_toArray, List.set_cons_zero, List.set_cons_succ]
  refine wpAnyH_take (i := 3) (oi := ⟨some 6, _, _, _, _, _⟩) (v := ?vo3) rfl (by kernel_rfl) (by kernel_rfl) (by kernel_rfl) (fun _ _ _ h => h) (Or.inl ⟨by rfl, ?yo3⟩) hHeld ?ro3
  case yo3 =>
    intro wx hSx
    go_simp
    try with_reducible rfl
  try simp only [Act.put, List.setIfInBounds_toArray, List.set_cons_zero, List.set_cons_succ]
  refine wpAnyH_take (i := 8) (oi := ⟨some 11, _, _, _, _, _⟩) (v := ?vo8) rfl (by kernel_rfl) (by kernel_rfl) (by kernel_rfl) (fun _ _ _ h => h) (Or.inl ⟨by rfl, ?yo8⟩) hHeld ?ro8
  case yo8 =>
    intro wx hSx
    go_simp
    try with_reducible rfl
  try simp only [Act.put, List.setIfInBounds_toArray, List.set_cons_zero, List.set_cons_succ]
  refine wpAnyH_take (i := 13) (oi := ⟨some 16, _, _, _, _, _⟩) (v := ?vo13) rfl (by kernel_rfl) (by kernel_rfl) (by kernel_rfl) (fun _ _ _ h => h) (Or.inl ⟨by rfl, ?yo13⟩) hHeld ?ro13
  case yo13 =>
    intro wx hSx
    go_simp
    try with_reducible rfl
  try simp only [Act.put, List.setIfInBounds_toArray, List.set_cons_zero, List.set_cons_succ]
  refine wpAnyH_take (i := 26) (oi := ⟨some 29, _, _, _, _, _⟩) (v := ?vo26) rfl (by kernel_rfl) (by kernel_rfl) (by kernel_rfl) (fun _ _ _ h => h) (Or.inl ⟨by rfl, ?yo26⟩) hHeld ?ro26
  case yo26 =>
    intro wx hSx
    go_simp
    try with_reducible rfl
  try simp only [Act.put, List.setIfInBounds_toArray, List.set_cons_zero, List.set_cons_succ]
  refine wpAnyH_ready (rs := [4]) (by kernel_rfl) (by simp) ?_
  refine AllReadyH.cons (o := ⟨some 7, _, _, _, _, _⟩) rfl (fun K hK => ?_) AllReadyH.nil
  go_simp
  refine (HC1.out _).mono ?_
  rintro e wn4 ⟨rfl, hbn⟩
  replace hres := (hbn.block B2 (smem_lt hres)).trans hres
  refine hK.out _ _ (hHeld.on hbn) (fun hHeld => ?_)
  clear hK K hbn
  try simp only [Act.put, List.setIfInBounds_toArray, List.set_cons_zero, List.set_cons_succ]
  refine wpAnyH_ready (rs := [9]) (by kernel_rfl) (by simp) ?_
  refine AllReadyH.cons (o := ⟨some 12, _, _, _, _, _⟩) rfl (fun K hK => ?_) AllReadyH.nil
  go_simp
  refine (HC2.out _).mono ?_
  rintro e wn9 ⟨rfl, hbn⟩
  replace hres := (hbn.block B2 (smem_lt hres)).trans hres
  refine hK.out _ _ (hHeld.on hbn) (fun hHeld => ?_)
  clear hK K hbn
  try simp only [Act.put, List.setIfInBounds_toArray, List.set_cons_zero, List.set_cons_succ]
  refine wpAnyH_ready (rs := [14]) (by kernel_rfl) (by simp) ?_
  refine AllReadyH.cons (o := ⟨some 17, _, _, _, _, _⟩) rfl (fun K hK => ?_) AllReadyH.nil
  go_simp
  refine (HC3.out _).mono ?_
  rintro e wn14 ⟨rfl, hbn⟩
  replace hres := (hbn.block B2 (smem_lt hres)).trans hres
  refine hK.out _ _ (hHeld.on hbn) (fun hHeld => ?_)
  clear hK K hbn
  try simp only [Act.put, List.setIfInBounds_toArray, List.set_cons_zero, List.set_cons_succ]
  refine wpAnyH_take (i := 18) (oi := ⟨some 21, _, _, _, _, _⟩) (v := ?vo18) rfl (by kernel_rfl) (by kernel_rfl) (by kernel_rfl) (fun _ _ _ h => h) (Or.inl ⟨by rfl, ?yo18⟩) hHeld ?ro18
  case yo18 =>
    intro wx hSx
    go_simp
    try with_reducible rfl
  try simp only [Act.put, List.setIfInBounds_toArray, List.set_cons_zero, List.set_cons_succ]
  refine wpAnyH_ready (rs := [22]) (by kernel_rfl) (by simp) ?_
  refine AllReadyH.cons (o := ⟨some 25, _, _, _, _, _⟩) rfl (fun K hK => ?_) AllReadyH.nil
  go_simp
  refine (HC4.out _).mono ?_
  rintro e wn22 ⟨rfl, hww⟩
  subst wn22
  refine hK.out _ _ hHeld (fun hHeld => ?_)
  clear hK K
  try simp only [Act.put, List.setIfInBounds_toArray, List.set_cons_zero, List.set_cons_succ]
  refine wpAnyH_ready (rs := [27]) (by kernel_rfl) (by simp) ?_
  refine AllReadyH.cons (o := ⟨some 30, _, _, _, _, _⟩) rfl (fun K hK => ?_) AllReadyH.nil
  go_simp
  refine (HC5.out _).mono ?_
  rintro e wn27 ⟨rfl, hbn⟩
  replace hres := (hbn.block B2 (smem_lt hres)).trans hres
  refine hK.out _ _ (hHeld.on hbn) (fun hHeld => ?_)
  clear hK K hbn
  try simp only [Act.put, List.setIfInBounds_toArray, List.set_cons_zero, List.set_cons_succ]
  refine wpAnyH_take (i := 28) (oi := ⟨some 31, _, _, _, _, _⟩) (v := ?vo28) rfl (by kernel_rfl) (by kernel_rfl) (by kernel_rfl) (fun _ _ _ h => h) (Or.inl ⟨by rfl, ?yo28⟩) hHeld ?ro28
  case yo28 =>
    intro wx hSx
    go_simp
    try with_reducible rfl
  try simp only [Act.put, List.setIfInBounds_toArray, List.set_cons_zero, List.set_cons_succ]
  refine wpAnyH_take (i := 29) (oi := ⟨some 32, _, _, _, _, _⟩) (v := ?vo29) rfl (by kernel_rfl) (by kernel_rfl) (by kernel_rfl) (fun _ _ _ h => h) (Or.inl ⟨by rfl, ?yo29⟩) hHeld ?ro29
  case yo29 =>
    intro wx hSx
    go_simp
    try with_reducible rfl
  try simp only [Act.put, List.setIfInBounds_toArray, List.set_cons_zero, List.set_cons_succ]
  refine wpAnyH_ready (rs := [30]) (by kernel_rfl) (by simp) ?_
  refine AllReadyH.cons (o := ⟨none, _, _, _, _, _⟩) rfl (fun K hK => ?_) AllReadyH.nil
  have r0 : wn27.cell? ⟨B2, 0, none⟩ = some (.string ⟨#[]⟩) := cell_at hres 0
  have r1 : wn27.cell? ⟨B2, 1, none⟩ = some (.string ⟨#[]⟩) := cell_at hres 1
  have r2 : wn27.cell? ⟨B2, 2, none⟩ = some (.string ⟨#[]⟩) := cell_at hres 2
  have r3 : wn27.cell? ⟨B2, 3, none⟩ = some (.bool false) := cell_at hres 3
  have r4 : wn27.cell? ⟨B2, 4, none⟩ = some (.int .i64 0) := cell_at hres 4
  have r5 : wn27.cell? ⟨B2, 5, none⟩ = some (.string ⟨#[]⟩) := cell_at hres 5
  have z0 : wn27.frozen? ⟨B2, 0, none⟩ = false := free_at hres 0
  have z1 : wn27.frozen? ⟨B2, 1, none⟩ = false := free_at hres 1
  have z2 : wn27.frozen? ⟨B2, 2, none⟩ = false := free_at hres 2
  have z3 : wn27.frozen? ⟨B2, 3, none⟩ = false := free_at hres 3
  have z4 : wn27.frozen? ⟨B2, 4, none⟩ = false := free_at hres 4
  have z5 : wn27.frozen? ⟨B2, 5, none⟩ = false := free_at hres 5
  have HAN := stored hres [.string g0, .string g1, .string g2, .bool m.k.priv, .int .i64 g4, .string g5] rfl _ rfl
  simp only [World.setCells] at HAN
  go_simp
  generalize World.setCell _ _ _ = w9 at HAN ⊢
  refine hK.out _ _ (hHeld.put HAN.2 hne hlo2) (fun hHeld => ?_)
  clear hK K r0 z0 r1 z1 r2 z2 r3 z3 r4 z4 r5 z5
  have k0 := cell_at HAN.1 0
  have k1 := cell_at HAN.1 1
  have k2 := cell_at HAN.1 2
  have k3 := cell_at HAN.1 3
  have k4 := cell_at HAN.1 4
  have k5 := cell_at HAN.1 5
  simp only [List.getElem?_toArray, List.getElem?_cons_succ, List.getElem?_cons_zero] at k0 k1 k2 k3 k4 k5
  refine wpAnyH_done (by kernel_rfl) ?_ _
  go_wp2_with fail
  refine bodyPost_ret (v := .agg #[.string g0, .string g1, .string g2, .bool m.k.priv, .int .i64 g4, .string g5]) ?_ rfl ⟨rfl, hHeld.below⟩
  simp [results, Try.results16, go_sem, k0, k1, k2, k3, k4, k5]
/-- A box is written. -/
theorem TwoB.set {w wr : World} {B1 B2 : Nat} {cs : Array Value} {t : TypeId} {o2 : Obj} (h : TwoB w wr B1 (.cells cs t (0, 0)) B2 o2) (i : Nat) (u : Value) : TwoB w (wr.setCell ⟨B1, i, none⟩ u) B1 (.cells (cs.setIfInBounds i u) t (0, 0)) B2 o2 :=
  have hg := h.gr.setCell h.lo1 i u
  ⟨⟨heap_set h.bo.box i u, hg.below⟩, (Below.heap_setCell wr _ u B2 h.ne.symm).trans h.res, h.ne, h.lo1, h.lo2, hg⟩

set_option maxHeartbeats 3200000 in
theorem refFewM_any (m : Mk) (w : World) (hm : m.fit) :
    Calls Try.prog 17 #[m.val] w fun e w' => e = .returned (fewM m).val ∧ Below w.heap.size w w' := by
  obtain ⟨f1, f2, f3, f4, f5, f6⟩ := hm
  have HT := Lib.hid (TwoB.start w (.cells #[.string m.k.room, .string m.k.user, .string m.k.thread, .bool m.k.priv, .int .i64 m.po.depth, .string m.po.id] 38 (0, 0)) (.cells #[.string ⟨#[]⟩, .string ⟨#[]⟩, .string ⟨#[]⟩, .bool false, .int .i64 0, .string ⟨#[]⟩] 38 (0, 0)))
  have HC1 := Lib.hid (fun W => few_any m.k.room 6 (by decide) W f1)
  have HC2 := Lib.hid (fun W => few_any m.k.user 6 (by decide) W f2)
  have HC3 := Lib.hid (fun W => few_any m.k.thread 6 (by decide) W f3)
  have HC4 := Lib.hid (fun W => few_any m.po.id 6 (by decide) W f4)
  have HE : Hid ((fewM m).val = .agg #[.string (fewS m.k.room 6), .string (fewS m.k.user 6), .string (fewS m.k.thread 6), .bool m.k.priv, .int .i64 m.po.depth, .string (fewS m.po.id 6)]) := Lib.hid rfl
  generalize fewS m.k.room 6 = g0 at HC1 HE
  generalize fewS m.k.user 6 = g1 at HC2 HE
  generalize fewS m.k.thread 6 = g2 at HC3 HE
  generalize fewS m.po.id 6 = g5 at HC4 HE
  unfold Mk.val at *
  rw [HE.out]
  clear f1 f2 f3 f4 f5 f6 HE
  go_enter Try.func17, Try.ntmps17
  go_upto_region 1 with (fail)
  generalize World.alloc _ _ = w1 at HT ⊢
  generalize w.heap.size + 1 = B2 at HT ⊢
  generalize hB1 : w.heap.size = B1 at HT ⊢
  have c : w1.cell? ⟨B1, 0, none⟩ = some (.string m.k.room) := cell_at HT.out.bo.box 0
  have z : w1.frozen? ⟨B1, 0, none⟩ = false := free_at HT.out.bo.box 0
  have HT2 : Hid (TwoB w (w1.setCell ⟨B1, 0, none⟩ (.string g0)) B1 (.cells #[.string g0, .string m.k.user, .string m.k.thread, .bool m.k.priv, .int .i64 m.po.depth, .string m.po.id] 38 (0, 0)) B2 (.cells #[.string ⟨#[]⟩, .string ⟨#[]⟩, .string ⟨#[]⟩, .bool false, .int .i64 0, .string ⟨#[]⟩] 38 (0, 0))) := Lib.hid (HT.out.set 0 (.string g0))
  go_wp2_with fail
  go_at_call 38
  refine (HC1.out _).mono ?_
  rintro e wn ⟨rfl, hww⟩
  subst wn
  go_upto_region 2 with (fail)
  clear c z HT
  generalize World.setCell _ _ _ = w2 at HT2 ⊢
  have HT := HT2
  clear HT2
  have c : w2.cell? ⟨B1, 1, none⟩ = some (.string m.k.user) := cell_at HT.out.bo.box 1
  have z : w2.frozen? ⟨B1, 1, none⟩ = false := free_at HT.out.bo.box 1
  have HT2 : Hid (TwoB w (w2.setCell ⟨B1, 1, none⟩ (.string g1)) B1 (.cells #[.string g0, .string g1, .string m.k.thread, .bool m.k.priv, .int .i64 m.po.depth, .string m.po.id] 38 (0, 0)) B2 (.cells #[.string ⟨#[]⟩, .string ⟨#[]⟩, .string ⟨#[]⟩, .bool false, .int .i64 0, .string ⟨#[]⟩] 38 (0, 0))) := Lib.hid (HT.out.set 1 (.string g1))
  go_wp2_with fail
  go_at_call 38
  refine (HC2.out _).mono ?_
  rintro e wn ⟨rfl, hww⟩
  subst wn
  go_upto_region 3 with (fail)
  clear c z HT
  generalize World.setCell _ _ _ = w3 at HT2 ⊢
  have HT := HT2
  clear HT2
  have c : w3.cell? ⟨B1, 2, none⟩ = some (.string m.k.thread) := cell_at HT.out.bo.box 2
  have z : w3.frozen? ⟨B1, 2, none⟩ = false := free_at HT.out.bo.box 2
  have HT2 : Hid (TwoB w (w3.setCell ⟨B1, 2, none⟩ (.string g2)) B1 (.cells #[.string g0, .string g1, .string g2, .bool m.k.priv, .int .i64 m.po.depth, .string m.po.id] 38 (0, 0)) B2 (.cells #[.string ⟨#[]⟩, .string ⟨#[]⟩, .string ⟨#[]⟩, .bool false, .int .i64 0, .string ⟨#[]⟩] 38 (0, 0))) := Lib.hid (HT.out.set 2 (.string g2))
  go_wp2_with fail
  go_at_call 38
  refine (HC3.out _).mono ?_
  rintro e wn ⟨rfl, hww⟩
  subst wn
  go_upto_region 4 with (fail)
  clear c z HT
  generalize World.setCell _ _ _ = w4 at HT2 ⊢
  have HT := HT2
  clear HT2
  have c : w4.cell? ⟨B1, 5, none⟩ = some (.string m.po.id) := cell_at HT.out.bo.box 5
  have z : w4.frozen? ⟨B1, 5, none⟩ = false := free_at HT.out.bo.box 5
  have HT2 : Hid (TwoB w (w4.setCell ⟨B1, 5, none⟩ (.string g5)) B1 (.cells #[.string g0, .string g1, .string g2, .bool m.k.priv, .int .i64 m.po.depth, .string g5] 38 (0, 0)) B2 (.cells #[.string ⟨#[]⟩, .string ⟨#[]⟩, .string ⟨#[]⟩, .bool false, .int .i64 0, .string ⟨#[]⟩] 38 (0, 0))) := Lib.hid (HT.out.set 5 (.string g5))
  go_wp2_with fail
  go_at_call 38
  refine (HC4.out _).mono ?_
  rintro e wn ⟨rfl, hww⟩
  subst wn
  go_upto_region 5 with (fail)
  clear c z HT
  generalize World.setCell _ _ _ = w5 at HT2 ⊢
  have HT := HT2
  clear HT2
  have c0 : w5.cell? ⟨B1, 0, none⟩ = some (.string g0) := cell_at HT.out.bo.box 0
  have c1 : w5.cell? ⟨B1, 1, none⟩ = some (.string g1) := cell_at HT.out.bo.box 1
  have c2 : w5.cell? ⟨B1, 2, none⟩ = some (.string g2) := cell_at HT.out.bo.box 2
  have c3 : w5.cell? ⟨B1, 3, none⟩ = some (.bool m.k.priv) := cell_at HT.out.bo.box 3
  have c4 : w5.cell? ⟨B1, 4, none⟩ = some (.int .i64 m.po.depth) := cell_at HT.out.bo.box 4
  have c5 : w5.cell? ⟨B1, 5, none⟩ = some (.string g5) := cell_at HT.out.bo.box 5
  have r0 : w5.cell? ⟨B2, 0, none⟩ = some (.string ⟨#[]⟩) := cell_at HT.out.res 0
  have z0 : w5.frozen? ⟨B2, 0, none⟩ = false := free_at HT.out.res 0
  have r1 : w5.cell? ⟨B2, 1, none⟩ = some (.string ⟨#[]⟩) := cell_at HT.out.res 1
  have z1 : w5.frozen? ⟨B2, 1, none⟩ = false := free_at HT.out.res 1
  have r2 : w5.cell? ⟨B2, 2, none⟩ = some (.string ⟨#[]⟩) := cell_at HT.out.res 2
  have z2 : w5.frozen? ⟨B2, 2, none⟩ = false := free_at HT.out.res 2
  have r3 : w5.cell? ⟨B2, 3, none⟩ = some (.bool false) := cell_at HT.out.res 3
  have z3 : w5.frozen? ⟨B2, 3, none⟩ = false := free_at HT.out.res 3
  have r4 : w5.cell? ⟨B2, 4, none⟩ = some (.int .i64 0) := cell_at HT.out.res 4
  have z4 : w5.frozen? ⟨B2, 4, none⟩ = false := free_at HT.out.res 4
  have r5 : w5.cell? ⟨B2, 5, none⟩ = some (.string ⟨#[]⟩) := cell_at HT.out.res 5
  have z5 : w5.frozen? ⟨B2, 5, none⟩ = false := free_at HT.out.res 5
  have HAN := stored HT.out.res [.string g0, .string g1, .string g2, .bool m.k.priv, .int .i64 m.po.depth, .string g5] rfl _ rfl
  simp only [World.setCells] at HAN
  go_wp2_with fail
  generalize World.setCell _ _ _ = w9 at HAN ⊢
  have k0 := cell_at HAN.1 0
  have k1 := cell_at HAN.1 1
  have k2 := cell_at HAN.1 2
  have k3 := cell_at HAN.1 3
  have k4 := cell_at HAN.1 4
  have k5 := cell_at HAN.1 5
  simp only [List.getElem?_toArray, List.getElem?_cons_succ, List.getElem?_cons_zero] at k0 k1 k2 k3 k4 k5
  have hlo := HT.out.lo2
  refine bodyPost_ret (v := .agg #[.string g0, .string g1, .string g2, .bool m.k.priv, .int .i64 m.po.depth, .string g5]) ?_ rfl ⟨rfl, HT.out.gr.below.grown HAN.2 HT.out.gr.below.size (fun k hk => by injection hk with hk; omega)⟩
  simp [results, Try.results17, go_sem, k0, k1, k2, k3, k4, k5]
end Go.Proofs.Ytmialpaldkpmbaa
