/-
  The library's IndexFunc and DeleteFunc at rows of marks that are one's own; receipt.Public.
-/
import Derived.Test.YtmialpaldkpmbaaRcF
import Derived.Lib.SliceRun
namespace Go.Proofs.Ytmialpaldkpmbaa
set_option maxRecDepth 20000
open Go.RowKit Go.Maps Go.ChangeMaps
set_option linter.unusedVariables false
set_option linter.unusedSimpArgs false
/-- Where the first one stands. -/
def idxA {α : Type} (p : α → Bool) (us : List α) : Int := match us.findIdx? p with
  | some i => (i : Int)
  | none => -1
section
variable {α : Type} {p : α → Bool} {us zs : List α} {x : α} {i j a k : Nat}
theorem idxA_hit (hx : us[a]? = some x) (hp : p x = true) (hn : ∀ (j : Nat) y, j < a → us[j]? = some y → p y = false) : idxA p us = (a : Int) := by
  have h : us.findIdx? p = some a := by
    obtain ⟨hl, he⟩ := List.getElem?_eq_some_iff.1 hx
    rw [List.findIdx?_eq_some_iff_getElem]
    exact ⟨hl, by rw [he]; exact hp, fun j hj => by rw [hn j _ hj (List.getElem?_eq_getElem _)]; decide⟩
  unfold idxA
  rw [h]
theorem idxA_miss (hn : ∀ (j : Nat) y, us[j]? = some y → p y = false) : idxA p us = -1 := by
  have h : us.findIdx? p = none := by
    rw [List.findIdx?_eq_none_iff]
    intro x hx
    obtain ⟨j, hj, he⟩ := List.getElem_of_mem hx
    exact hn j x (by rw [List.getElem?_eq_getElem hj, he])
  unfold idxA
  rw [h]
theorem idxA_cases (p : α → Bool) (us : List α) : (idxA p us = -1 ∧ us.filter (fun x => !p x) = us) ∨ ∃ k : Nat, idxA p us = (k : Int) ∧ k < us.length ∧ (us.take k).filter (fun x => !p x) = us.take k ∧ ∀ x, us[k]? = some x → p x = true := by
  unfold idxA
  cases h : us.findIdx? p with
  | none =>
    rw [List.findIdx?_eq_none_iff] at h
    refine .inl ⟨rfl, ?_⟩
    rw [List.filter_eq_self]
    intro x hx
    rw [h x hx]
    rfl
  | some k =>
    rw [List.findIdx?_eq_some_iff_getElem] at h
    obtain ⟨hk, hp, hn⟩ := h
    refine .inr ⟨k, rfl, hk, ?_, fun x hx => ?_⟩
    · rw [List.filter_eq_self]
      intro x hx
      obtain ⟨j, hj, he⟩ := List.mem_take_iff_getElem.1 hx
      have := hn j (by omega)
      rw [he] at this
      simpa using this
    · rw [List.getElem?_eq_getElem hk] at hx
      injection hx with hx
      rw [← hx]; exact hp
/-- While some are struck: what stands at the front, what is still to be looked at. -/
structure DlA (p : α → Bool) (us zs : List α) (i j : Nat) : Prop where
  len : zs.length = us.length
  lt : i < j
  le : j ≤ us.length
  front : zs.take i = (us.take j).filter (fun x => !p x)
  rest : zs.drop j = us.drop j
theorem DlA.get (h : DlA p us zs i j) (hj : j < us.length) : zs[j]? = us[j]? := by
  have := congrArg (fun l : List α => l[0]?) h.rest
  simpa using this
theorem DlA.skip (h : DlA p us zs i j) (hx : us[j]? = some x) (hp : p x = true) : DlA p us zs i (j + 1) := by
  have hj := (List.getElem?_eq_some_iff.1 hx).1
  refine ⟨h.len, by have := h.lt; omega, hj, ?_, ?_⟩
  · rw [List.take_add_one, hx, List.filter_append, h.front]
    simp [hp]
  · rw [← List.drop_drop, ← List.drop_drop, h.rest]
theorem DlA.keep (h : DlA p us zs i j) (hx : us[j]? = some x) (hp : p x = false) : DlA p us (zs.set i x) (i + 1) (j + 1) := by
  have hj := (List.getElem?_eq_some_iff.1 hx).1
  have hl := h.len
  have hlt := h.lt
  refine ⟨by rw [List.length_set]; exact hl, by omega, hj, ?_, ?_⟩
  · rw [List.take_add_one, List.getElem?_set_self (by omega), List.take_set_of_le (Nat.le_refl _), h.front, List.take_add_one, hx, List.filter_append]
    simp [hp]
  · rw [List.drop_set_of_lt (by omega), ← List.drop_drop, ← List.drop_drop, h.rest]
theorem DlA.start (hk : k < us.length) (hf : (us.take k).filter (fun x => !p x) = us.take k) (hp : ∀ x, us[k]? = some x → p x = true) : DlA p us us k (k + 1) := by
  have hx := List.getElem?_eq_getElem hk
  refine ⟨rfl, Nat.lt_succ_self _, hk, ?_, rfl⟩
  rw [List.take_add_one, hx, List.filter_append, hf]
  have := hp _ hx
  simp [this]
end
/-- A slice is cleared, of elements of several cells. -/
theorem run_clear_many {P : Program} (w : World) (t e ty : TypeId) (z : Value) (ht : P.underlying t = some (.slice e)) (hv : ∀ w, (zeroValue e).run P w = .ok z w) (vs : List Value) (b o n c : Nat) (hzc : (Builtin.zeroCells z.cells n).toList = vs) (h1 : ∀ v ∈ vs, v.oneCell' = true) (hn : 0 < n)
    (hc : ∀ j, j < vs.length → (w.cell? ⟨b, o + j, none⟩).isSome = true) (hf : ∀ j, j < vs.length → w.frozen? ⟨b, o + j, none⟩ = false) :
    (Builtin.clear_ #[t] ty #[.slice (some ⟨b, o, none⟩) n c]).run P w = .ok (.tuple #[]) (w.setCells b o vs) := by
  have hst := run_storeCells_cells (P := P) b o vs 0 w (by simpa using hc) (by simpa using hf) h1
  simp only [Nat.add_zero] at hst
  obtain ⟨m, rfl⟩ : ∃ m, n = m + 1 := ⟨n - 1, by omega⟩
  simp [Builtin.clear_, run_underlying ht, hv, hzc, hst]
theorem zeroCells_mem {cs : Array Value} {n : Nat} {v : Value} (h : v ∈ (Builtin.zeroCells cs n).toList) : v ∈ cs.toList := by
  unfold Builtin.zeroCells at h
  rw [Array.toList_map, List.mem_map] at h
  obtain ⟨i, hi, rfl⟩ := h
  have hp : 0 < cs.size := by
    have := Array.mem_range.1 (Array.mem_toList_iff.1 hi)
    rcases Nat.eq_zero_or_pos cs.size with h0 | h0
    · rw [h0] at this; omega
    · exact h0
  have hlt := Nat.mod_lt i hp
  rw [getElem!_pos cs _ hlt]
  exact Array.getElem_mem_toList hlt
/-- What lies behind a row's end may be written. -/
theorem Lies.Mine.beyond {α : Type} {L : Lies α} {w : World} {B b off n cap : Nat} {xs : List α} (h : L.Mine w B (.slice (some ⟨b, off, none⟩) n cap) xs) (vs : List Value) (o : Nat) (ho : off + xs.length * L.c ≤ o) (hfit : o + vs.length ≤ off + cap * L.c) : L.Mine (w.setCells b o vs) B (.slice (some ⟨b, off, none⟩) n cap) xs := by
  rcases h with ⟨hv, _⟩ | ⟨g, off', cap', cur, hv, hg, hh, h1, h2, h3, h4⟩
  · cases hv
  · injection hv with e1 e2 e3
    injection e1 with e1
    injection e1 with e4 e5 _
    subst e4 e5 e3
    obtain ⟨cur', r1, r2, r3⟩ := sm_at b L.e vs o w cur hh (by omega)
    refine .inr ⟨b, off, cap, cur', by rw [e2], hg, r1, h1, h2, by omega, ?_⟩
    have hsz : cur.toList.length = cur.size := Array.length_toList
    rw [← h4, r3, List.append_assoc, List.drop_append_of_le_length (by rw [List.length_take, hsz]; omega), List.drop_take, List.take_append_of_le_length (by rw [List.length_take, List.length_drop, hsz]; omega), List.take_take, Nat.min_eq_left (by omega)]
theorem zeroIsR (w : World) : (zeroValue 60).run Try.prog w = .ok zeroM w := by kernel_rfl

set_option maxHeartbeats 800000 in
theorem indexFuncR_any (v : Value) (us : List Mk) (w : World) (h : LR.Slice w v us) :
    Calls Try.prog 48 #[v, .func (.func 33) #[] #[]] w fun e w' => e = .returned (.int .i64 (idxA (fun m : Mk => m.k.priv) us)) ∧ Gr w w' := by
  obtain ⟨A, cap, rfl, h1, h2, -⟩ := id h
  unfold maxLen at h2
  have HR := Lib.hid h
  clear h
  go_enter Try.func48, Try.ntmps48
  go_wp2_with fail
  go_loopw [8, 5] (fun i _ wr => ∃ a : Nat, i = .int .i64 (a : Int) ∧ a ≤ us.length ∧ Hid (Gr w wr) ∧ Hid (∀ (j : Nat) y, j < a → us[j]? = some y → y.k.priv = false)) (fun i _ _ => us.length - (intOf i).toNat)
  case atStart => exact ⟨0, rfl, Nat.zero_le _, Lib.hid (Gr.refl w), Lib.hid (fun j y hj => by omega)⟩
  case round =>
    obtain ⟨a, rfl, ha, HA, HN⟩ := hrel
    by_cases hax : a < us.length
    · have q1 : decide ((a : Int) < (us.length : Int)) = true := decide_eq_true (by omega)
      have hx : us[a]? = some us[a] := List.getElem?_eq_getElem hax
      generalize us[a] = x at hx
      have HX := Lib.hid hx
      obtain ⟨bo, oo, rfl, hbo, hco⟩ := (HR.out.below HA.out.below).at hx
      have hiy := index_any (P := Try.prog) knR (by decide) (b := bo) (off := oo) (cap := cap) hax
      simp only [LR] at hiy hco
      obtain ⟨a0, a1, a2, a3, a4, a5⟩ := range6 hco
      have HQ := Lib.hid (fun W => public1_any x W)
      unfold Mk.val at HQ
      clear hx hco
      go_wp2_with fail
      go_at_call 33
      refine (HQ.out _).mono ?_
      rintro e w4 ⟨rfl, hk4⟩
      have HK4 := Lib.hid (HA.out.trans hk4)
      clear hk4 HQ HA a0 a1 a2 a3 a4 a5
      cases hp : x.k.priv
      · have HN2 : Hid (∀ (j : Nat) y, j < a + 1 → us[j]? = some y → y.k.priv = false) := Lib.hid (fun j y hj hy => by
          by_cases hja : j = a
          · subst hja
            rw [HX.out] at hy
            injection hy with hy
            rw [← hy]; exact hp
          · exact HN.out j y (by omega) hy)
        clear hp
        go_wp2_with fail
        refine ⟨⟨a + 1, by go_num, by omega, HK4, HN2⟩, ?_⟩
        simp [intOf]; omega
      · have HF : Hid (idxA (fun m : Mk => m.k.priv) us = (a : Int)) := Lib.hid (idxA_hit HX.out hp HN.out)
        clear hp
        go_wp2_with fail
        go_ret
        exact ⟨by rw [HF.out]; rfl, HK4.out⟩
    · have q1 : decide ((a : Int) < (us.length : Int)) = false := decide_eq_false (by omega)
      have HF : Hid (idxA (fun m : Mk => m.k.priv) us = -1) := Lib.hid (idxA_miss (fun j y hy => HN.out j y (by have := (List.getElem?_eq_some_iff.1 hy).1; omega) hy))
      go_wp2_with fail
      go_ret
      exact ⟨by rw [HF.out]; rfl, HA.out⟩

set_option maxHeartbeats 1600000 in
theorem deleteFuncR_any (B : Nat) (v : Value) (us : List Mk) (w : World) (h : LR.Mine w B v us) (hB : B ≤ w.heap.size) :
    Calls Try.prog 32 #[v, .func (.func 33) #[] #[]] w fun e w' => ∃ v', e = .returned v' ∧ LR.Mine w' B v' (us.filter (fun m => !m.k.priv)) ∧ Below B w w' := by
  have HI := Lib.hid (indexFuncR_any v us w h.slice)
  obtain ⟨A, cap, rfl, h1, h2, h3⟩ := h.shape
  unfold maxLen at h2
  have HM0 := Lib.hid h
  have HBS := Lib.hid hB
  clear h hB
  rcases idxA_cases (fun m : Mk => m.k.priv) us with ⟨e1, e2⟩ | ⟨k, e1, hk, e2, e3⟩
  · rw [e1] at HI
    have HE := Lib.hid e2
    clear e1 e2
    go_enter Try.func32, Try.ntmps32
    go_wp2_with fail
    go_at_call 48
    refine HI.out.mono ?_
    rintro e w4 ⟨rfl, hk4⟩
    have HK4 := Lib.hid hk4.below
    clear hk4 HI
    go_wp2_with fail
    go_ret
    exact ⟨_, rfl, by rw [HE.out]; exact HM0.out.below HK4.out, HK4.out.mono HBS.out⟩
  · rw [e1] at HI
    have HS := Lib.hid (DlA.start hk e2 e3)
    obtain ⟨b, off, rfl⟩ : ∃ b off, A = some ⟨b, off, none⟩ := by
      rcases id HM0.out with ⟨hv', hn⟩ | ⟨g', off', cap', cur, hv', -⟩
      · rw [hn] at hk; simp at hk
      · injection hv' with e1 e2 e3
        exact ⟨g', off', e1⟩
    have q0 : ((k : Int) == -1) = false := by rw [beq_eq_false_iff_ne]; omega
    clear e1 e2 e3
    go_enter Try.func32, Try.ntmps32
    go_wp2_with fail
    go_at_call 48
    refine HI.out.mono ?_
    rintro e w4 ⟨rfl, hk4⟩
    have HK4 : Hid (LR.Mine w4 B (.slice (some ⟨b, off, none⟩) us.length cap) us ∧ Below B w w4) := Lib.hid ⟨HM0.out.below hk4.below, hk4.below.mono HBS.out⟩
    clear hk4 HI HM0
    go_wp2_with fail
    go_loopw [5, 6, 7] (fun i j _ wr => ∃ (a c : Nat) (zs : List Mk), i = .int .i64 (a : Int) ∧ j = .int .i64 (c : Int) ∧ Hid (DlA (fun m : Mk => m.k.priv) us zs a c) ∧ Hid (LR.Mine wr B (.slice (some ⟨b, off, none⟩) us.length cap) zs ∧ Below B w wr)) (fun _ j _ _ => us.length - (intOf j).toNat)
    case atStart => exact ⟨k, k + 1, us, rfl, by go_num, HS, HK4⟩
    case round =>
      obtain ⟨a, c, zs, rfl, rfl, HD, HA⟩ := hrel
      clear HK4 HS
      have hac := HD.out.lt
      have hcl := HD.out.le
      by_cases hcx : c < us.length
      · have q1 : decide ((c : Int) < (us.length : Int)) = true := decide_eq_true (by omega)
        have hx : us[c]? = some us[c] := List.getElem?_eq_getElem hcx
        generalize us[c] = x at hx
        have HX := Lib.hid hx
        have hz : zs[c]? = some x := by rw [HD.out.get hcx]; exact hx
        have hzl : zs.length = us.length := HD.out.len
        obtain ⟨bo, oo, hbo', hbo, hco⟩ := HA.out.1.slice.at hz
        injection hbo' with hbo'
        injection hbo' with hb1 hb2 _
        subst hb1 hb2
        have hiy := index_any (P := Try.prog) knR (by decide) (b := b) (off := off) (cap := cap) hcx
        simp only [LR] at hiy hco
        obtain ⟨a0, a1, a2, a3, a4, a5⟩ := range6 hco
        have HQ := Lib.hid (fun W => public1_any x W)
        unfold Mk.val at HQ
        have hnw := Lib.hid (heap_alloc_new wr (.cells #[.string x.k.room, .string x.k.user, .string x.k.thread, .bool x.k.priv, .int .i64 x.po.depth, .string x.po.id] 60))
        have hbw := below_new wr (.cells #[.string x.k.room, .string x.k.user, .string x.k.thread, .bool x.k.priv, .int .i64 x.po.depth, .string x.po.id] 60)
        have HA1 : Hid (LR.Mine (wr.alloc (.cells #[.string x.k.room, .string x.k.user, .string x.k.thread, .bool x.k.priv, .int .i64 x.po.depth, .string x.po.id] 60)) B (.slice (some ⟨b, off, none⟩) us.length cap) zs ∧ Below B w (wr.alloc (.cells #[.string x.k.room, .string x.k.user, .string x.k.thread, .bool x.k.priv, .int .i64 x.po.depth, .string x.po.id] 60))) := Lib.hid ⟨HA.out.1.below hbw, HA.out.2.trans (hbw.mono (Nat.le_trans HBS.out HA.out.2.size))⟩
        clear hx hz hco hbw
        go_upto_region 8 with (fail)
        clear a0 a1 a2 a3 a4 a5
        generalize World.alloc _ _ = w1 at hnw HA1 ⊢
        generalize wr.heap.size = B7 at hnw ⊢
        have a0 : w1.cell? ⟨B7, 0, none⟩ = some (.string x.k.room) := cell_at hnw.out 0
        have a1 : w1.cell? ⟨B7, 1, none⟩ = some (.string x.k.user) := cell_at hnw.out 1
        have a2 : w1.cell? ⟨B7, 2, none⟩ = some (.string x.k.thread) := cell_at hnw.out 2
        have a3 : w1.cell? ⟨B7, 3, none⟩ = some (.bool x.k.priv) := cell_at hnw.out 3
        have a4 : w1.cell? ⟨B7, 4, none⟩ = some (.int .i64 x.po.depth) := cell_at hnw.out 4
        have a5 : w1.cell? ⟨B7, 5, none⟩ = some (.string x.po.id) := cell_at hnw.out 5
        go_wp2_with fail
        go_at_call 33
        refine (HQ.out _).mono ?_
        rintro e w5 ⟨rfl, hk5⟩
        have HK5 : Hid (LR.Mine w5 B (.slice (some ⟨b, off, none⟩) us.length cap) zs ∧ Below B w w5) := Lib.hid ⟨HA1.out.1.below hk5.below, HA1.out.2.trans (hk5.below.mono (Nat.le_trans HBS.out HA1.out.2.size))⟩
        have hn5 := Lib.hid ((hk5.below.block B7 (smem_lt hnw.out)).trans hnw.out)
        clear hk5 HQ HA HA1 hiy a0 a1 a2 a3 a4 a5 hnw
        cases hp : x.k.priv
        · have HD2 := Lib.hid (HD.out.keep HX.out hp)
          have hal : a < us.length := by omega
          obtain ⟨ba, oa, hba', hba, hca⟩ := HK5.out.1.slice.at (i := a) (List.getElem?_eq_getElem (by omega))
          injection hba' with hba'
          injection hba' with hb1 hb2 _
          subst hb1 hb2
          have hiz := index_any (P := Try.prog) knR (by decide) (b := b) (off := off) (cap := cap) hal
          have hth := HK5.out.1.there (i := a) (by omega)
          simp only [LR] at hiz hca hth
          generalize zs[a] = y at hca
          obtain ⟨r0, r1, r2, r3, r4, r5⟩ := range6 hca
          have z0 := (hth 0 (by omega)).2
          have z1 := (hth 1 (by omega)).2
          have z2 := (hth 2 (by omega)).2
          have z3 := (hth 3 (by omega)).2
          have z4 := (hth 4 (by omega)).2
          have z5 := (hth 5 (by omega)).2
          rw [Nat.add_zero] at z0
          have a0 : w5.cell? ⟨B7, 0, none⟩ = some (.string x.k.room) := cell_at hn5.out 0
          have a1 : w5.cell? ⟨B7, 1, none⟩ = some (.string x.k.user) := cell_at hn5.out 1
          have a2 : w5.cell? ⟨B7, 2, none⟩ = some (.string x.k.thread) := cell_at hn5.out 2
          have a3 : w5.cell? ⟨B7, 3, none⟩ = some (.bool x.k.priv) := cell_at hn5.out 3
          have a4 : w5.cell? ⟨B7, 4, none⟩ = some (.int .i64 x.po.depth) := cell_at hn5.out 4
          have a5 : w5.cell? ⟨B7, 5, none⟩ = some (.string x.po.id) := cell_at hn5.out 5
          have hset := HK5.out.1.set (i := a) (by omega) x
          have hgr := sm_grown w5 b (off + a * LR.c) (LR.cl x)
          have hlo := (HK5.out.1.lt b rfl).1
          have HN5 : Hid (LR.Mine ((((((w5.setCell ⟨b, off + a * 6, none⟩ (.string x.k.room)).setCell ⟨b, off + a * 6 + 1, none⟩ (.string x.k.user)).setCell ⟨b, off + a * 6 + 2, none⟩ (.string x.k.thread)).setCell ⟨b, off + a * 6 + 3, none⟩ (.bool x.k.priv)).setCell ⟨b, off + a * 6 + 4, none⟩ (.int .i64 x.po.depth)).setCell ⟨b, off + a * 6 + 5, none⟩ (.string x.po.id)) B (.slice (some ⟨b, off, none⟩) us.length cap) (zs.set a x) ∧ Below B w ((((((w5.setCell ⟨b, off + a * 6, none⟩ (.string x.k.room)).setCell ⟨b, off + a * 6 + 1, none⟩ (.string x.k.user)).setCell ⟨b, off + a * 6 + 2, none⟩ (.string x.k.thread)).setCell ⟨b, off + a * 6 + 3, none⟩ (.bool x.k.priv)).setCell ⟨b, off + a * 6 + 4, none⟩ (.int .i64 x.po.depth)).setCell ⟨b, off + a * 6 + 5, none⟩ (.string x.po.id))) := Lib.hid ⟨hset, HK5.out.2.grown hgr (Nat.le_trans HBS.out HK5.out.2.size) (fun k hk => by injection hk with hk; omega)⟩
          clear hset hgr HK5 hth hca hp
          go_wp2_with fail
          refine ⟨⟨a + 1, c + 1, zs.set a x, by go_num, by go_num, HD2, HN5⟩, ?_⟩
          simp [intOf]; omega
        · have HD2 := Lib.hid (HD.out.skip HX.out hp)
          clear hp
          go_wp2_with fail
          refine ⟨⟨a, c + 1, zs, rfl, by go_num, HD2, HK5⟩, ?_⟩
          simp [intOf]; omega
      · have q1 : decide ((c : Int) < (us.length : Int)) = false := decide_eq_false (by omega)
        obtain rfl : c = us.length := by omega
        have hM := HA.out.1
        have hzl : zs.length = us.length := HD.out.len
        have hs1 := slice_low (P := Try.prog) knR (some ⟨b, off, none⟩) us.length cap a (by omega)
        have hs2 := slice_high (P := Try.prog) knR (some ⟨b, off, none⟩) us.length cap a (by omega)
        have hsl : sliced (some ⟨b, off, none⟩) a us.length cap LR.c = .slice (some ⟨b, off + a * 6, none⟩) (us.length - a) (cap - a) := by
          unfold sliced
          rw [if_neg (by omega)]
          simp [Addr.add_lit, show LR.c = 6 from rfl]
        have hsh : sliced (some ⟨b, off, none⟩) 0 a cap LR.c = .slice (some ⟨b, off, none⟩) a cap := by
          unfold sliced
          rw [if_neg (by omega)]
          simp [Addr.add_lit]
        rw [hsl] at hs1
        rw [hsh] at hs2
        obtain ⟨vs, hvs⟩ : ∃ vs, (Builtin.zeroCells zeroM.cells (us.length - a)).toList = vs := ⟨_, rfl⟩
        have hvl : vs.length = (us.length - a) * 6 := by
          rw [← hvs, Array.length_toList, size_zeroCells]
          rfl
        have hcap : cap * LR.c = cap * 6 := rfl
        have hth : ∀ j, j < vs.length → (wr.cell? ⟨b, off + a * 6 + j, none⟩).isSome = true ∧ wr.frozen? ⟨b, off + a * 6 + j, none⟩ = false := fun j hj => by
          have := hM.there (i := a + j / 6) (by omega) (j % 6) (by rw [show LR.c = 6 from rfl]; omega)
          rw [show LR.c = 6 from rfl, show off + (a + j / 6) * 6 + j % 6 = off + a * 6 + j by omega] at this
          exact this
        have hcl2 : ∀ ty, (Builtin.clear_ #[27] ty #[.slice (some ⟨b, off + a * 6, none⟩) (us.length - a) (cap - a)]).run Try.prog wr = .ok (.tuple #[]) (wr.setCells b (off + a * 6) vs) := fun ty =>
          run_clear_many wr _ 60 ty zeroM Try.underlying27 zeroIsR vs b (off + a * 6) _ _ hvs (fun v hv => by
            rw [← hvs] at hv
            have := zeroCells_mem hv
            simp only [zeroM, Value.cells, List.mem_cons, List.not_mem_nil, or_false] at this
            rcases this with rfl | rfl | rfl | rfl | rfl | rfl <;> rfl) (by omega) (fun j hj => (hth j hj).1) (fun j hj => (hth j hj).2)
        have hm2 := hM.sub 0 a (Nat.zero_le _) (by omega)
        rw [hsh, List.drop_zero] at hm2
        have hta : (zs.take a).length = a := by rw [List.length_take]; omega
        have HM9 := Lib.hid (hm2.beyond vs (off + a * 6) (by rw [hta, show LR.c = 6 from rfl]; omega) (by rw [hvl, hcap]; omega))
        have HG9 := Lib.hid (HA.out.2.grown (sm_grown wr b (off + a * 6) vs) (Nat.le_trans HBS.out HA.out.2.size) (fun k hk => by injection hk with hk; have := (hM.lt b rfl).1; omega))
        have HF : Hid (zs.take a = us.filter (fun x => !x.k.priv)) := Lib.hid (by
          rw [HD.out.front, List.take_length])
        generalize wr.setCells b (off + a * 6) vs = w9 at hcl2 HM9 HG9
        clear hM hsl hsh hth hvl hcap hm2 hta hvs
        go_wp2_with fail
        go_ret
        exact ⟨_, rfl, by rw [← HF.out]; exact HM9.out, HG9.out⟩

set_option maxHeartbeats 800000 in
theorem rcPublic_any {w : World} {r : RI} (h : CRs w r) (hl : r.l.length ≤ 1000) :
    Calls Try.prog 12 #[.pointer (some ⟨r.g, 0, none⟩)] w fun e w' => ∃ v, e = .returned v ∧ LR.Mine w' w.heap.size v (pubM r.l) ∧ Below w.heap.size w w' := by
  have HQ := Lib.hid (rcAll_any h hl)
  clear h hl
  go_enter Try.func12, Try.ntmps12
  go_wp2_with fail
  go_at_call 11
  refine HQ.out.mono ?_
  rintro e w1 ⟨v, rfl, hm, hb⟩
  have HD := Lib.hid (deleteFuncR_any w.heap.size v r.l w1 hm hb.size)
  have HB := Lib.hid hb
  obtain ⟨A, c, rfl, -⟩ := hm.shape
  clear hm hb HQ
  go_wp2_with fail
  go_at_call 32
  refine HD.out.mono ?_
  rintro e w2 ⟨v2, rfl, hm2, hb2⟩
  have HM2 := Lib.hid hm2
  have HB2 := Lib.hid (HB.out.trans hb2)
  clear hm2 hb2 HD HB
  go_wp2_with fail
  go_ret
  exact ⟨_, rfl, HM2.out, HB2.out⟩
end Go.Proofs.Ytmialpaldkpmbaa
