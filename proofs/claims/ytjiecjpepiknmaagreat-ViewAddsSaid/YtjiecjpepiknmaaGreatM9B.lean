/-
  Package member.
-/
import Derived.Test.YtjiecjpepiknmaaGreatDgF
import Derived.Test.YtjiecjpepiknmaaGreatM9A
import Derived.Maps.Views
import Derived.Maps.RangeWalk
import Derived.Test.YtjiecjpepiknmaaGreatIter
import Derived.Test.YtjiecjpepiknmaaGreatC5
import Derived.Deep.CutBlock
namespace Go.Proofs.YtjiecjpepiknmaaGreat
set_option maxRecDepth 20000
open Go.RowKit Go.Maps Go.ChangeMaps
set_option linter.unusedVariables false
set_option linter.unusedSimpArgs false

theorem zeroEvV (w : World) : (zeroValue 33).run Tryz.prog w = .ok zeroEv.val w := by kernel_rfl
/-- The map says of each text which event it has. -/
structure EvM (w : World) (mb n : Nat) (f : ByteArray → Option EvV) : Prop where
  is : ∃ D : Dv, OwnN w mb n D ∧ (∀ k, D.atKey (kl k) (.held zeroEv.val) = .held ((f k).getD zeroEv).val) ∧ ∀ k, Maps.has D (kl k) = (f k).isSome
section
variable {w w' : World} {mb n : Nat} {f f' : ByteArray → Option EvV}
theorem EvM.made (w : World) : EvM (w.alloc (.map #[] 0)) w.heap.size 0 (fun _ => none) := ⟨.map [], World.ownsMap_made w _ _ _, fun k => WideAt.atKey_none _ (fun p hp => by cases hp), fun k => rfl⟩
theorem EvM.keep (h : EvM w mb n f) (hb : w'.heap[mb]? = w.heap[mb]?) : EvM w' mb n f := by
  obtain ⟨D, h1, h2, h3⟩ := h.is
  exact ⟨D, h1.keep hb, h2, h3⟩
theorem EvM.same (h : EvM w mb n f) (hn : ∀ k, f k = f' k) : EvM w mb n f' := by
  rw [show f' = f from funext (fun k => (hn k).symm)]
  exact h
theorem EvM.more {n' : Nat} (h : EvM w mb n f) (hn : n ≤ n') : EvM w mb n' f := by
  obtain ⟨D, h1, h2⟩ := h.is
  exact ⟨D, World.ownsMap.mono h1 hn, h2⟩
theorem EvM.lt (h : EvM w mb n f) : mb < w.heap.size := by
  obtain ⟨D, h1, _⟩ := h.is
  exact h1.lt
theorem EvM.look2 (h : EvM w mb n f) {k : ByteArray} (hk : k.size ≤ maxLen) : (Instr.lookup 126 (.map (some mb)) (.string k) true).run Tryz.prog w = .ok (.tuple #[((f k).getD zeroEv).val, .bool (f k).isSome]) w := by
  obtain ⟨D, h1, h2, h3⟩ := h.is
  obtain ⟨v, ps, hr, hv⟩ := World.ownsMap.look_ok h1 keyed Tryz.underlying126 (zeroEvV w) (zd := .held zeroEv.val) (zp := []) rfl (keyIs hk)
  rw [h2] at hv
  rw [h3] at hr
  injection hv with hv
  injection hv with hv _
  injection hv with hv
  rw [hr, hv]
theorem EvM.put (h : EvM w mb n f) (hn : n < maxLen) {p : ByteArray} (hp : p.size ≤ maxLen) (x : EvV) : ∃ w', (Instr.mapUpdate 126 (.map (some mb)) (.string p) x.val).run Tryz.prog w = .ok () w' ∧ EvM w' mb (n + 1) (fun k => if p = k then some x else f k) ∧ w.grownBy w' (some mb) := by
  obtain ⟨D, h1, h2, h3⟩ := h.is
  obtain ⟨w', hr, ho, hg⟩ := World.ownsMap.update h1 keyed Tryz.underlying126 hn (key := .string p) (val := x.val) (d := .held x.val) (ps := []) (keyIs hp) rfl
  refine ⟨w', hr, ⟨_, ho, fun k => ?_, fun k => ?_⟩, hg⟩
  · by_cases hk : k = p
    · subst hk
      rw [Maps.atKey_put_same (World.ownsMap.isMap h1) (kl_key _)]
      simp
    · rw [Maps.atKey_put_other (fun e => hk (kl_inj e)), h2, if_neg (fun e => hk e.symm)]
  · by_cases hk : k = p
    · subst hk
      rw [Maps.has_put_same (World.ownsMap.isMap h1) (kl_key _)]
      simp
    · rw [Maps.has_put_other (fun e => hk (kl_inj e)), h3, if_neg (fun e => hk e.symm)]
/-- A row is no map. -/
theorem mine_evm {α : Type} {L : Lies α} {B : Nat} {v : Value} {xs : List α} (h : L.Mine w B v xs) (hm : EvM w mb n f) : ∀ k, v.ownBlock = some k → some k ≠ some mb := by
  intro k hk he
  injection he with he
  subst he
  obtain ⟨D, ⟨es, clock, hb, _⟩, _⟩ := hm.is
  rcases h with ⟨rfl, _⟩ | ⟨g, off, cap, cur, rfl, _, hh, _⟩
  · cases hk
  · simp only [Value.ownBlock, Option.some.injEq] at hk
    subst hk
    rw [hb] at hh
    cases hh
/-- Its events lie there. -/
def EvM.at_ (w : World) (B : Nat) (f : ByteArray → Option EvV) : Prop := ∀ k x, f k = some x → x.ev.ok ∧ LT.Mine w B x.pv x.ev.parents
end
theorem key_inv {key : Value} {kk : Lit} (h : keyOf Tryz.prog 9 key = some kk) : ∃ s : ByteArray, key = .string s ∧ kk = kl s ∧ s.size ≤ maxLen := WideMaps.string_of_keyOf Tryz.underlying9 h
/-- Those that have come and left are gone. -/
def goneF (f : ByteArray → Option EvV) (left : Lit → Bool) (k : ByteArray) : Option EvV := match f k with
  | some x => if x.ev.does = 2 ∧ left (kl k) = false then none else some x
  | none => none
def stayF (f : ByteArray → Option EvV) (k : ByteArray) : Option EvV := match f k with
  | some x => if x.ev.does = 2 then none else some x
  | none => none
/-- While the map is gone through. -/
structure EvG (w : World) (mb r n : Nat) (f : ByteArray → Option EvV) (left : Lit → Bool) (cnt : Nat) : Prop where
  is : ∃ D : Dv, w.ranges Tryz.prog 9 heldR mb r n D left cnt ∧ (∀ k, D.atKey (kl k) (.held zeroEv.val) = .held ((goneF f left k).getD zeroEv).val) ∧ ∀ k, Maps.has D (kl k) = (goneF f left k).isSome
section
variable {w w' : World} {mb r n cnt : Nat} {f : ByteArray → Option EvV} {left : Lit → Bool}
theorem EvG.lt (h : EvG w mb r n f left cnt) : r < w.heap.size := by
  obtain ⟨D, h1, _⟩ := h.is
  exact h1.lt
theorem EvG.kept {row : Option Nat} (h : EvG w mb r n f left cnt) (hg : w.grownBy w' row) (hb : some mb ≠ row) (hr : some r ≠ row) : EvG w' mb r n f left cnt := by
  obtain ⟨D, h1, h2⟩ := h.is
  exact ⟨D, h1.kept hg hb hr, h2⟩
theorem EvG.left_eq (h : EvG w mb r n f left cnt) : w.rangeLeft mb r = cnt := by
  obtain ⟨D, h1, _⟩ := h.is
  exact h1.left_eq
theorem EvG.done (h : EvG w mb r n f left cnt) (hl : ∀ kk, left kk = false) : EvM w mb n (stayF f) := by
  obtain ⟨D, h1, h2, h3⟩ := h.is
  have he : goneF f left = stayF f := by
    funext k
    unfold goneF stayF
    cases f k with
    | none => rfl
    | some x => simp [hl]
  rw [he] at h2 h3
  exact ⟨D, h1.owns, h2, h3⟩
theorem EvG.start {w w' : World} {mb n : Nat} {f : ByteArray → Option EvV} {D : Dv} (h2 : ∀ k, D.atKey (kl k) (.held zeroEv.val) = .held ((f k).getD zeroEv).val) (h3 : ∀ k, Maps.has D (kl k) = (f k).isSome) {r : Nat} (hr : w'.ranges Tryz.prog 9 heldR mb r n D (Maps.has D) (Maps.size D)) : EvG w' mb r n f (Maps.has D) (Maps.size D) := by
  have he : goneF f (Maps.has D) = f := by
    funext k
    unfold goneF
    cases hf : f k with
    | none => rfl
    | some x =>
      have h4 := h3 k
      rw [hf] at h4
      simp [h4]
  exact ⟨D, hr, by rw [he]; exact h2, by rw [he]; exact h3⟩
/-- What has come. -/
theorem EvG.came {D : Dv} (h2 : ∀ k, D.atKey (kl k) (.held zeroEv.val) = .held ((goneF f left k).getD zeroEv).val) (h3 : ∀ k, Maps.has D (kl k) = (goneF f left k).isSome) {x : ByteArray} {kk : Lit} {c : Value} {y : Dv × List MemPlace} (hkey : keyOf Tryz.prog 9 (.string x) = some kk) (hl : left kk = true) (hR : heldR c = some y) (hat : ∀ zd, D.atKey kk zd = y.1) : kk = kl x ∧ x.size ≤ maxLen ∧ ∃ z, f x = some z ∧ c = z.val := by
  obtain ⟨s, hs, rfl, hsz⟩ := key_inv hkey
  injection hs with hs
  subst hs
  refine ⟨rfl, hsz, ?_⟩
  unfold heldR at hR
  injection hR with hR
  subst hR
  have h4 : Maps.has D (kl x) = true := Maps.has_true_of_atKey hat
  rw [h3] at h4
  have h5 := h2 x
  rw [hat] at h5
  injection h5 with h5
  cases hf : f x with
  | none =>
    unfold goneF at h4
    rw [hf] at h4
    cases h4
  | some z =>
    have hg : goneF f left x = some z := by
      unfold goneF
      rw [hf]
      simp [hl]
    rw [hg] at h5
    exact ⟨z, rfl, h5⟩
theorem left_other {x k : ByteArray} (h : k ≠ x) (b : Bool) : (b && !(kl k).sameKey (kl x)) = b := by
  rw [Maps.sameKey_ne (fun e => h (kl_inj e))]
  simp
theorem left_same (x : ByteArray) (b : Bool) : (b && !(kl x).sameKey (kl x)) = false := by
  rw [WideAt.sameKey_self (kl_key x)]
  simp
theorem gone_on {x : ByteArray} {z : EvV} (hf : f x = some z) (hz : z.ev.does ≠ 2) : goneF f (fun q => left q && !q.sameKey (kl x)) = goneF f left := by
  funext k
  unfold goneF
  by_cases hk : k = x
  · subst hk
    rw [hf]
    simp [hz]
  · cases f k with
    | none => rfl
    | some y => simp only [left_other hk]
theorem EvG.on {D : Dv} (h2 : ∀ k, D.atKey (kl k) (.held zeroEv.val) = .held ((goneF f left k).getD zeroEv).val) (h3 : ∀ k, Maps.has D (kl k) = (goneF f left k).isSome) {x : ByteArray} {z : EvV} (hf : f x = some z) (hz : z.ev.does ≠ 2) (hr : w'.ranges Tryz.prog 9 heldR mb r n D (fun q => left q && !q.sameKey (kl x)) cnt) : EvG w' mb r n f (fun q => left q && !q.sameKey (kl x)) cnt :=
  ⟨D, hr, by rw [gone_on hf hz]; exact h2, by rw [gone_on hf hz]; exact h3⟩
theorem off_facts {D : Dv} (h2 : ∀ k, D.atKey (kl k) (.held zeroEv.val) = .held ((goneF f left k).getD zeroEv).val) (h3 : ∀ k, Maps.has D (kl k) = (goneF f left k).isSome) {x : ByteArray} {z : EvV} (hf : f x = some z) (hz : z.ev.does = 2) : (∀ k, (D.del (kl x)).atKey (kl k) (.held zeroEv.val) = .held ((goneF f (fun q => left q && !q.sameKey (kl x)) k).getD zeroEv).val) ∧ ∀ k, Maps.has (D.del (kl x)) (kl k) = (goneF f (fun q => left q && !q.sameKey (kl x)) k).isSome := by
  have hx : goneF f (fun q => left q && !q.sameKey (kl x)) x = none := by
    unfold goneF
    rw [hf]
    simp only [left_same]
    simp [hz]
  have ho : ∀ k, k ≠ x → goneF f (fun q => left q && !q.sameKey (kl x)) k = goneF f left k := fun k hk => by
    unfold goneF
    cases f k with
    | none => rfl
    | some y => simp only [left_other hk]
  refine ⟨fun k => ?_, fun k => ?_⟩
  · by_cases hk : k = x
    · subst hk
      rw [Maps.atKey_del_same, hx]
      rfl
    · rw [Maps.atKey_del_other (fun e => hk (kl_inj e)), h2, ho k hk]
  · by_cases hk : k = x
    · subst hk
      rw [Maps.has_del_same, hx]
      rfl
    · rw [Maps.has_del_other (fun e => hk (kl_inj e)), h3, ho k hk]
end
/-- The map says which texts are there. -/
structure SetM (w : World) (mb n : Nat) (b : ByteArray → Bool) : Prop where
  is : ∃ D : Dv, OwnN w mb n D ∧ ∀ k, Maps.has D (kl k) = b k
section
variable {w w' : World} {mb n : Nat} {b b' : ByteArray → Bool}
theorem SetM.made (w : World) : SetM (w.alloc (.map #[] 0)) w.heap.size 0 (fun _ => false) := ⟨.map [], World.ownsMap_made w _ _ _, fun k => rfl⟩
theorem SetM.keep (h : SetM w mb n b) (hb : w'.heap[mb]? = w.heap[mb]?) : SetM w' mb n b := by
  obtain ⟨D, h1, h2⟩ := h.is
  exact ⟨D, h1.keep hb, h2⟩
theorem SetM.same (h : SetM w mb n b) (hn : ∀ k, b k = b' k) : SetM w mb n b' := by
  rw [show b' = b from funext (fun k => (hn k).symm)]
  exact h
theorem SetM.lt (h : SetM w mb n b) : mb < w.heap.size := by
  obtain ⟨D, h1, _⟩ := h.is
  exact h1.lt
theorem SetM.more {n' : Nat} (h : SetM w mb n b) (hn : n ≤ n') : SetM w mb n' b := by
  obtain ⟨D, h1, h2⟩ := h.is
  exact ⟨D, World.ownsMap.mono h1 hn, h2⟩
theorem SetM.put (h : SetM w mb n b) (hn : n < maxLen) {p : ByteArray} (hp : p.size ≤ maxLen) : ∃ w', (Instr.mapUpdate 113 (.map (some mb)) (.string p) (.bool true)).run Tryz.prog w = .ok () w' ∧ SetM w' mb (n + 1) (fun k => b k || decide (p = k)) ∧ w.grownBy w' (some mb) := by
  obtain ⟨D, h1, h2⟩ := h.is
  obtain ⟨w', hr, ho, hg⟩ := World.ownsMap.update h1 keyed Tryz.underlying113 hn (key := .string p) (val := .bool true) (d := .held (.bool true)) (ps := []) (keyIs hp) rfl
  refine ⟨w', hr, ⟨_, ho, fun k => ?_⟩, hg⟩
  by_cases hk : k = p
  · subst hk
    rw [Maps.has_put_same (World.ownsMap.isMap h1) (kl_key _)]
    simp
  · rw [Maps.has_put_other (fun e => hk (kl_inj e)), h2, decide_eq_false (fun e => hk e.symm), Bool.or_false]
end
end Go.Proofs.YtjiecjpepiknmaaGreat

namespace Go.Proofs.YtjiecjpepiknmaaGreat
set_option maxRecDepth 20000
open Go.RowKit Go.Maps
set_option linter.unusedVariables false
set_option linter.unusedSimpArgs false

/-- The keys of a map, sorted. -/
theorem sortedB_any (mb n : Nat) (b : ByteArray → Bool) (w : World) (h : SetM w mb n b) (hn : n ≤ 1000) : Calls Tryz.prog 95 #[.func (.func 141) #[] #[.pointer (some ⟨w.heap.size, 0, none⟩)]] (w.alloc (.cells #[.map (some mb)] 113)) fun e w' => ∃ v us, e = .returned v ∧ LT.Mine w' w.heap.size v us ∧ Up us ∧ (∀ z, z ∈ us ↔ b z = true) ∧ Below w.heap.size w w' := by
  obtain ⟨D, h1, h2⟩ := h.is
  have hs := h1.size_le
  have hb0 := below_new w (.cells #[.map (some mb)] 113)
  refine (callsIn_wide (n := 5)).1 ((Tryz.slices_Sorted_keys_95_104 mb n D heldR w h1 (by unfold maxLen; omega) (by omega)).mono ?_)
  rintro e w' ⟨v, ss, rfl, hp, hr, -, hb⟩
  obtain ⟨us, hm, hu, hi⟩ := keys_row h1 hp hr
  exact ⟨v, us, rfl, hm.mono hb0.size, hu, fun z => by rw [hi, h2], hb0.trans (hb.mono hb0.size)⟩
theorem sortedE_any (mb n : Nat) (f : ByteArray → Option EvV) (w : World) (h : EvM w mb n f) (hn : n ≤ 1000) : Calls Tryz.prog 95 #[.func (.func 135) #[] #[.pointer (some ⟨w.heap.size, 0, none⟩)]] (w.alloc (.cells #[.map (some mb)] 126)) fun e w' => ∃ v us, e = .returned v ∧ LT.Mine w' w.heap.size v us ∧ Up us ∧ (∀ z, z ∈ us ↔ (f z).isSome = true) ∧ Below w.heap.size w w' := by
  obtain ⟨D, h1, -, h2⟩ := h.is
  have hs := h1.size_le
  have hb0 := below_new w (.cells #[.map (some mb)] 126)
  refine (callsIn_wide (n := 5)).1 ((Tryz.slices_Sorted_keys_95_96 mb n D heldR w h1 (by unfold maxLen; omega) (by omega)).mono ?_)
  rintro e w' ⟨v, ss, rfl, hp, hr, -, hb⟩
  obtain ⟨us, hm, hu, hi⟩ := keys_row h1 hp hr
  exact ⟨v, us, rfl, hm.mono hb0.size, hu, fun z => by rw [hi, h2], hb0.trans (hb.mono hb0.size)⟩
theorem keysB_any (mb : Nat) (w : World) : Calls Tryz.prog 104 #[.map (some mb)] w fun e w' => e = .returned (.func (.func 141) #[] #[.pointer (some ⟨w.heap.size, 0, none⟩)]) ∧ w' = w.alloc (.cells #[.map (some mb)] 113) := (callsIn_wide (n := 5)).1 (Tryz.maps_Keys_104 (some mb) w)
theorem keysE_any (mb : Nat) (w : World) : Calls Tryz.prog 96 #[.map (some mb)] w fun e w' => e = .returned (.func (.func 135) #[] #[.pointer (some ⟨w.heap.size, 0, none⟩)]) ∧ w' = w.alloc (.cells #[.map (some mb)] 126) := (callsIn_wide (n := 5)).1 (Tryz.maps_Keys_96 (some mb) w)

/-- While homes are noted. -/
structure HmS (w wr : World) (mb n : Nat) (b : ByteArray → Bool) : Prop where
  below : Below w.heap.size w wr
  new : w.heap.size ≤ mb
  map : SetM wr mb n b
theorem HmS.on {w wr w2 : World} {mb n : Nat} {b : ByteArray → Bool} (h : HmS w wr mb n b) (hb : Below wr.heap.size wr w2) : HmS w w2 mb n b :=
  ⟨h.below.trans (hb.mono h.below.size), h.new, h.map.keep (hb.block mb h.map.lt)⟩
theorem HmS.put {w wr : World} {mb n : Nat} {b : ByteArray → Bool} (h : HmS w wr mb n b) (hn : n < maxLen) {p : ByteArray} (hp : p.size ≤ maxLen) : ∃ w', (Instr.mapUpdate 113 (.map (some mb)) (.string p) (.bool true)).run Tryz.prog wr = .ok () w' ∧ HmS w w' mb (n + 1) (fun k => b k || decide (p = k)) := by
  obtain ⟨w', hr, h1, hg⟩ := h.map.put hn hp
  exact ⟨w', hr, h.below.grown hg h.below.size (fun k hk => by injection hk with hk; rw [← hk]; exact h.new), h.new, h1⟩

set_option maxHeartbeats 1600000 in
theorem homes_any (v : Value) (us : List ByteArray) (w : World) (h : LT.Slice w v us) (hl : us.length ≤ 900) (hs : ∀ u ∈ us, u.size ≤ 281474976710656) :
    Calls Tryz.prog 74 #[v] w fun e w' => ∃ v', e = .returned v' ∧ LT.Mine w' w.heap.size v' (homesL us) ∧ Below w.heap.size w w' := by
  obtain ⟨A, cap, rfl, h1, h2, -⟩ := id h
  unfold maxLen at h2
  have HL := Lib.hid h
  have HS := Lib.hid hs
  have HH0 := Lib.hid (show HmS w (w.alloc (.map #[] 0)) w.heap.size 0 (fun _ => false) from ⟨below_new w _, Nat.le_refl _, SetM.made w⟩)
  have hmm := @run_makeMap Tryz.prog
  clear h hs
  go_enter Tryz.func74, Tryz.ntmps74
  go_upto_region 2 with (fail)
  clear hmm
  generalize w.alloc _ = w1 at HH0 ⊢
  generalize hM : w.heap.size = M at HH0 ⊢
  go_wp2_with fail
  go_loopw [10] (fun i wr => ∃ a : Nat, i = .int .i64 (a : Int) ∧ a ≤ us.length ∧ Hid (HmS w wr M a (fun k => hasL (homesTo us a) k))) (fun i _ => us.length - (intOf i).toNat)
  case atStart => exact ⟨0, rfl, Nat.zero_le _, Lib.hid HH0.out⟩
  case round =>
    obtain ⟨a, rfl, ha, HA⟩ := hrel
    clear HH0
    by_cases hax : a < us.length
    · have q1 : decide ((a : Int) < (us.length : Int)) = true := decide_eq_true (by omega)
      have hx : us[a]? = some us[a] := List.getElem?_eq_getElem hax
      generalize us[a] = x at hx
      have HTS := Lib.hid (homesTo_succ hx)
      have hxs := HS.out x (List.mem_of_getElem? hx)
      have HHS := Lib.hid (homeS_size x)
      obtain ⟨bo, oo, rfl, hbo, hco⟩ := text_at HL.out hx
      have hiy := index_any (P := Tryz.prog) knT (by decide) (b := bo) (off := oo) (cap := cap) hax
      simp only [LT] at hiy
      rw [Nat.mul_one] at hiy
      have e4 : wr.cell? ⟨bo, oo + a, none⟩ = some (.string x) := (HA.out.below.cell (p := ⟨bo, oo + a, none⟩) hbo).trans hco
      have HH := Lib.hid (home_any x wr hxs)
      clear hx hco
      generalize homeS x = hm at HTS HH HHS
      go_wp2_with fail
      go_at_call 103
      refine HH.out.mono ?_
      rintro e w4 ⟨rfl, b4⟩
      have HA4 := Lib.hid (HA.out.on b4)
      clear b4 HA e4 HH
      by_cases hz : hm = ⟨#[]⟩
      · subst hz
        have HF : Hid (homesTo us (a + 1) = homesTo us a) := Lib.hid (by rw [HTS.out]; rfl)
        go_wp2_with fail
        refine ⟨⟨a + 1, by go_num, by omega, Lib.hid ⟨HA4.out.below, HA4.out.new, (HA4.out.map.more (Nat.le_succ a)).same (fun k => by rw [HF.out])⟩⟩, ?_⟩
        simp [intOf]; omega
      · have q2 : hm.toList.isEmpty = false := by
          rw [Bool.eq_false_iff]
          intro h9
          exact hz (key_ext (by rw [List.isEmpty_iff.1 h9, ByteArray.toList_eq]))
        have HF : Hid (homesTo us (a + 1) = putL hm (homesTo us a)) := Lib.hid (by rw [HTS.out, if_neg hz])
        have hms : hm.size ≤ maxLen := by have := HHS.out; unfold maxLen; omega
        obtain ⟨w9, hru, h9⟩ := HA4.out.put (by unfold maxLen; omega) (p := hm) hms
        have H9 := Lib.hid h9
        clear h9 HHS
        go_wp2_with fail
        refine ⟨⟨a + 1, by go_num, by omega, Lib.hid ⟨H9.out.below, H9.out.new, H9.out.map.same (fun k => by
          rw [HF.out, Bool.eq_iff_iff, Bool.or_eq_true, hasL_iff, hasL_iff, putL_mem, decide_eq_true_eq]
          exact ⟨fun h => h.elim .inr (fun h => .inl h.symm), fun h => h.elim (fun h => .inr h.symm) .inl⟩)⟩⟩, ?_⟩
        simp [intOf]; omega
    · have q1 : decide ((a : Int) < (us.length : Int)) = false := decide_eq_false (by omega)
      obtain rfl : a = us.length := by omega
      have HK := Lib.hid (keysB_any M wr)
      have HQ := Lib.hid (sortedB_any M us.length _ wr HA.out.map (by omega))
      go_wp2_with fail
      go_at_call 104
      refine HK.out.mono ?_
      rintro e w5 ⟨rfl, rfl⟩
      go_wp2_with fail
      go_at_call 95
      refine HQ.out.mono ?_
      rintro e w6 ⟨v6, ts, rfl, m6, u6, i6, b6⟩
      obtain ⟨A6, c6, rfl, -⟩ := id m6.shape
      have HTS : Hid (ts = homesL us) := Lib.hid (up_unique u6 (homesL_up us) (fun z => by rw [i6, hasL_iff, homesL]))
      have HM6 := Lib.hid (m6.mono HA.out.below.size)
      have HB6 := Lib.hid (HA.out.below.trans (b6.mono HA.out.below.size))
      clear m6 u6 i6 b6 HQ HK
      go_wp2_with fail
      go_ret
      exact ⟨_, rfl, by rw [← HTS.out]; first | exact HM6.out | (rw [← hM]; exact HM6.out), by first | exact HB6.out | (rw [← hM]; exact HB6.out)⟩
end Go.Proofs.YtjiecjpepiknmaaGreat

namespace Go.Proofs.YtjiecjpepiknmaaGreat
set_option maxRecDepth 20000
open Go.RowKit Go.Maps
set_option linter.unusedVariables false
set_option linter.unusedSimpArgs false

/-- No cells lie in the block. -/
def NoC (w : World) (k : Nat) : Prop := ∀ cs t f, w.heap[k]? ≠ some (.cells cs t f)
theorem mine_noC {α : Type} {L : Lies α} {w : World} {B k : Nat} {v : Value} {xs : List α} (h : L.Mine w B v xs) (hn : NoC w k) : v.ownBlock ≠ some k := by
  rcases h with ⟨rfl, _⟩ | ⟨g, off, cap, cur, rfl, _, hh, _⟩
  · exact fun e => by cases e
  · intro e
    simp only [Value.ownBlock, Option.some.injEq] at e
    subst e
    exact hn _ _ _ hh
/-- A dag of the code, events beside it that have been told: all since w. -/
structure CoM (C : Dags) (w wr : World) (g : Nat) (room : ByteArray) (l : List Ev) (S : EvV → Prop) : Prop where
  code : C.CD wr g room l
  turn : TurnD C.own w wr g
  at_ : ∀ x, S x → x.at wr ∧ LT.Mine wr w.heap.size x.pv x.ev.parents ∧ ToldD C.own wr g x.pv
section
variable {C : Dags} {w wr w2 : World} {g : Nat} {room : ByteArray} {l : List Ev} {S S' : EvV → Prop}
theorem CoM.less (h : CoM C w wr g room l S) (hs : ∀ x, S' x → S x) : CoM C w wr g room l S' := ⟨h.code, h.turn, fun x hx => h.at_ x (hs x hx)⟩
theorem CoM.grown {row : Option Nat} (h : CoM C w wr g room l S) (hg : wr.grownBy w2 row) (hr : ∀ k, row = some k → w.heap.size ≤ k ∧ ¬ C.own wr g k ∧ NoC wr k) : CoM C w w2 g room l S := by
  obtain ⟨hc, ho⟩ := C.keep h.code hg.size (fun k hk => hg.block k (C.old h.code hk) (fun e => (hr k e.symm).2.1 hk))
  refine ⟨hc, ⟨hg.os.trans h.turn.os, hg.tape.trans h.turn.tape, hg.output.trans h.turn.output, Nat.le_trans h.turn.size hg.size, fun k hk hn => ?_, fun k hk => h.turn.owns k (ho k hk)⟩, fun x hx => ?_⟩
  · rw [← h.turn.block k hk hn]
    exact hg.block k (Nat.lt_of_lt_of_le hk h.turn.size) (fun e => by have := (hr k e.symm).1; omega)
  · obtain ⟨h1, h2, h3⟩ := h.at_ x hx
    have h4 : LT.Mine w2 w.heap.size x.pv x.ev.parents := h2.grown hg (fun k hk e => mine_noC h2 (hr k e.symm).2.2 hk)
    exact ⟨⟨h4.slice, h1.2⟩, h4, fun k hk e => h3 k hk (ho k e)⟩
theorem CoM.on (h : CoM C w wr g room l S) (hb : Below wr.heap.size wr w2) : CoM C w w2 g room l S := by
  obtain ⟨hc, ho⟩ := C.keep h.code hb.size (fun k hk => hb.block k (C.old h.code hk))
  refine ⟨hc, ⟨hb.os.trans h.turn.os, hb.tape.trans h.turn.tape, hb.output.trans h.turn.output, Nat.le_trans h.turn.size hb.size, fun k hk hn => ?_, fun k hk => h.turn.owns k (ho k hk)⟩, fun x hx => ?_⟩
  · rw [← h.turn.block k hk hn]
    exact hb.block k (Nat.lt_of_lt_of_le hk h.turn.size)
  · obtain ⟨h1, h2, h3⟩ := h.at_ x hx
    exact ⟨h1.below hb, h2.below hb, fun k hk e => h3 k hk (ho k e)⟩
theorem CoM.old {k : Nat} (h : CoM C w wr g room l S) (hb : Below wr.heap.size wr w2) (hk : wr.heap.size ≤ k) : ¬ C.own w2 g k := fun e => by
  obtain ⟨hc, ho⟩ := C.keep h.code hb.size (fun k hk => hb.block k (C.old h.code hk))
  have := C.old h.code (ho k e)
  omega
end
theorem EvM.noC {w : World} {mb n : Nat} {F : ByteArray → Option EvV} (h : EvM w mb n F) : NoC w mb := fun cs t f hh => by
  obtain ⟨D, ⟨es, clock, hb, _⟩, _⟩ := h.is
  rw [hb] at hh
  cases hh
/-- While steps are noted. -/
structure StW (C : Dags) (w wr : World) (g : Nat) (room : ByteArray) (l : List Ev) (mb : Nat) (v : Value) (ys : List EvV) (a : Nat) (F : ByteArray → Option EvV) : Prop where
  co : CoM C w wr g room l (fun x => x ∈ ys)
  new : w.heap.size ≤ mb
  off : ¬ C.own wr g mb
  map : EvM wr mb a F
  is : ∀ k, (F k).map EvV.ev = lastIn ((evs ys).take a) k
  mem : ∀ k x, F k = some x → x ∈ ys
  row : LV.Mine wr w.heap.size v ys
section
variable {C : Dags} {w wr w2 : World} {g : Nat} {room : ByteArray} {l : List Ev} {mb a : Nat} {v : Value} {ys : List EvV} {F : ByteArray → Option EvV} {y : EvV}
theorem StW.on (h : StW C w wr g room l mb v ys a F) (hb : Below wr.heap.size wr w2) : StW C w w2 g room l mb v ys a F := by
  obtain ⟨hc, ho⟩ := C.keep h.co.code hb.size (fun k hk => hb.block k (C.old h.co.code hk))
  exact ⟨h.co.on hb, h.new, fun e => h.off (ho _ e), h.map.keep (hb.block mb h.map.lt), h.is, h.mem, h.row.below hb⟩
theorem StW.skip (h : StW C w wr g room l mb v ys a F) (hy : ys[a]? = some y) (hd : y.ev.does = 0) : StW C w wr g room l mb v ys (a + 1) F :=
  ⟨h.co, h.new, h.off, h.map.more (Nat.le_succ a), fun k => by
    rw [h.is, List.take_add_one, evs_get hy]
    simp only [Option.toList_some]
    rw [lastIn_snoc]
    unfold stepB
    simp [hd], h.mem, h.row⟩
theorem StW.put (h : StW C w wr g room l mb v ys a F) (hy : ys[a]? = some y) (hd : y.ev.does ≠ 0) (ha : a < maxLen) (hu : y.ev.user.size ≤ maxLen) : ∃ w', (Instr.mapUpdate 126 (.map (some mb)) (.string y.ev.user) y.val).run Tryz.prog wr = .ok () w' ∧ StW C w w' g room l mb v ys (a + 1) (fun k => if y.ev.user = k then some y else F k) := by
  obtain ⟨w', hr, h1, hg⟩ := h.map.put ha hu y
  have hrow : ∀ k, some mb = some k → w.heap.size ≤ k ∧ ¬ C.own wr g k ∧ NoC wr k := fun k hk => by
    injection hk with hk
    subst hk
    exact ⟨h.new, h.off, h.map.noC⟩
  obtain ⟨hc, ho⟩ := C.keep h.co.code hg.size (fun k hk => hg.block k (C.old h.co.code hk) (fun e => (hrow k e.symm).2.1 hk))
  refine ⟨w', hr, h.co.grown hg hrow, h.new, fun e => h.off (ho _ e), h1, fun k => ?_, fun k x hx => ?_, h.row.grown hg (fun k hk e => mine_noC h.row (hrow k e.symm).2.2 hk)⟩
  · rw [List.take_add_one, evs_get hy]
    simp only [Option.toList_some]
    rw [lastIn_snoc, ← h.is k]
    unfold stepB
    by_cases hk : y.ev.user = k
    · simp [hk, hd]
    · simp [hk]
  · by_cases hk : y.ev.user = k
    · simp only [hk, if_true, Option.some.injEq] at hx
      rw [← hx]
      exact List.mem_of_getElem? hy
    · simp only [hk, if_false] at hx
      exact h.mem k x hx
end
/-- A map of events that a call has made, the dag of the code beside it. -/
structure StP (C : Dags) (w w' : World) (g : Nat) (room : ByteArray) (l : List Ev) (mb : Nat) (F : ByteArray → Option EvV) (L : ByteArray → Option Ev) : Prop where
  co : CoM C w w' g room l (fun x => ∃ k, F k = some x)
  new : w.heap.size ≤ mb
  off : ¬ C.own w' g mb
  map : EvM w' mb 200 F
  is : ∀ k, (F k).map EvV.ev = L k

set_option maxHeartbeats 3200000 in
theorem steps_any (C : Dags) (CA : DagAlls C) {w : World} {g : Nat} {room : ByteArray} {l : List Ev} (h : C.CD w g room l) (hl : l.length ≤ 100) :
    Calls Tryz.prog 136 #[.pointer (some ⟨g, 0, none⟩)] w fun e w' => ∃ mb F, e = .returned (.map (some mb)) ∧ StP C w w' g room l mb F (lastL l) := by
  have hb0 := below_new w (.map #[] 0)
  have HV := Lib.hid (C.valid h)
  obtain ⟨hc1, ho1⟩ := C.keep h hb0.size (fun k hk => hb0.block k (C.old h hk))
  have HCA := Lib.hid (CA.all hc1 hl)
  have HM0 := Lib.hid (EvM.made w)
  have HT0 : Hid (TurnD C.own w (w.alloc (.map #[] 0)) g) := Lib.hid ⟨hb0.os, hb0.tape, hb0.output, hb0.size, fun k hk _ => hb0.block k hk, fun k hk => .inl (ho1 k hk)⟩
  have HN0 : Hid (¬ C.own (w.alloc (.map #[] 0)) g w.heap.size) := Lib.hid (fun hh => by have := C.old h (ho1 _ hh); omega)
  have hmm := @run_makeMap Tryz.prog
  clear h hb0 hc1 ho1
  go_enter Tryz.func136, Tryz.ntmps136
  go_upto_region 2 with (fail)
  clear hmm
  generalize w.alloc _ = w1 at HCA HM0 HT0 HN0 ⊢
  have hMw : w.heap.size ≤ w.heap.size := Nat.le_refl _
  generalize hM : w.heap.size = M at HM0 HN0 ⊢
  go_wp2_with fail
  go_at_call 56
  refine HCA.out.mono ?_
  rintro e w2 ⟨v, rfl, ys, hm, hto, heach, hev, hcd, htd⟩
  have hs1 := HT0.out.size
  have HS0 : Hid (StW C w w2 g room l M v ys 0 (fun _ => none)) := Lib.hid ⟨⟨hcd, HT0.out.trans htd, fun x hx => ⟨(heach x hx).1, (heach x hx).2.1.mono hs1, (heach x hx).2.2⟩⟩, by omega, fun e => by
    rcases htd.owns M e with hh | hh
    · exact HN0.out hh
    · have := HM0.out.lt; omega, HM0.out.keep (htd.block M HM0.out.lt HN0.out), fun k => rfl, fun k x hx => (by cases hx), hm.mono hs1⟩
  have HEV := Lib.hid hev
  have hyl : ys.length ≤ 100 := by rw [← evs_len, hev, allL_len]; exact hl
  obtain ⟨Ay, cy, rfl, hz1, hz2, -⟩ := hm.shape
  unfold maxLen at hz2
  clear hm hto heach hev hcd htd HCA HM0 HT0 HN0 hs1
  go_wp2_with fail
  go_loopw [10] (fun i wr => ∃ (a : Nat) (F : ByteArray → Option EvV), i = .int .i64 (a : Int) ∧ a ≤ ys.length ∧ Hid (StW C w wr g room l M (.slice Ay ys.length cy) ys a F)) (fun i _ => ys.length - (intOf i).toNat)
  case atStart => exact ⟨0, _, rfl, Nat.zero_le _, HS0⟩
  case round =>
    obtain ⟨a, F, rfl, ha, HA⟩ := hrel
    clear HS0
    by_cases hax : a < ys.length
    · have q1 : decide ((a : Int) < (ys.length : Int)) = true := decide_eq_true (by omega)
      have hx : ys[a]? = some ys[a] := List.getElem?_eq_getElem hax
      generalize ys[a] = x at hx
      have HX := Lib.hid hx
      have hxat := HA.out.co.at_ x (List.mem_of_getElem? hx)
      have HUS : Hid (x.ev.user.size ≤ maxLen) := Lib.hid hxat.1.2.2.2.2.1
      obtain ⟨b, off, rfl, hb, hr⟩ := HA.out.row.slice.at hx
      have hix := index_any (P := Tryz.prog) knV (by decide) (b := b) (off := off) (cap := cy) hax
      simp only [LV] at hix hr
      obtain ⟨e0, e1, e2, e3, e4, e5⟩ := ev_cells hr
      unfold EvV.pv at e2
      have HBX := Lib.hid (heap_alloc_new wr (.cells #[.string x.ev.id, .string x.ev.room, .slice x.A x.ev.parents.length x.cap, .string x.ev.thread, .string x.ev.user, .int .i64 x.ev.does] 33))
      have HB4 := Lib.hid (below_new wr (.cells #[.string x.ev.id, .string x.ev.room, .slice x.A x.ev.parents.length x.cap, .string x.ev.thread, .string x.ev.user, .int .i64 x.ev.does] 33))
      clear hx hr hxat
      go_upto_region 5 with (fail)
      generalize wr.alloc _ = w4 at HBX HB4 ⊢
      have HA4 := Lib.hid (HA.out.on HB4.out)
      generalize wr.heap.size = B5 at HBX ⊢
      clear e0 e1 e2 e3 e4 e5 HB4 HA
      have s0 : w4.cell? ⟨B5, 0, none⟩ = some (.string x.ev.id) := cell_at HBX.out 0
      have s1 : w4.cell? ⟨B5, 1, none⟩ = some (.string x.ev.room) := cell_at HBX.out 1
      have s2 : w4.cell? ⟨B5, 2, none⟩ = some (.slice x.A x.ev.parents.length x.cap) := cell_at HBX.out 2
      have s3 : w4.cell? ⟨B5, 3, none⟩ = some (.string x.ev.thread) := cell_at HBX.out 3
      have s4 : w4.cell? ⟨B5, 4, none⟩ = some (.string x.ev.user) := cell_at HBX.out 4
      have s5 : w4.cell? ⟨B5, 5, none⟩ = some (.int .i64 x.ev.does) := cell_at HBX.out 5
      by_cases hd : x.ev.does = 0
      · have q2 : (x.ev.does != 0) = false := by rw [bne_eq_false_iff_eq]; exact hd
        have HN := Lib.hid (HA4.out.skip HX.out hd)
        clear hd
        go_wp2_with fail
        refine ⟨⟨a + 1, F, by go_num, by omega, HN⟩, ?_⟩
        simp [intOf]; omega
      · have q2 : (x.ev.does != 0) = true := by rw [bne_iff_ne]; exact hd
        obtain ⟨w9, hru, h9⟩ := HA4.out.put HX.out hd (by unfold maxLen; omega) HUS.out
        have H9 := Lib.hid h9
        unfold EvV.val EvV.pv at hru
        clear h9 hd
        go_wp2_with fail
        refine ⟨⟨a + 1, _, by go_num, by omega, H9⟩, ?_⟩
        simp [intOf]; omega
    · have q1 : decide ((a : Int) < (ys.length : Int)) = false := decide_eq_false (by omega)
      obtain rfl : a = ys.length := by omega
      have HF : Hid (StP C w wr g room l M F (lastL l)) := Lib.hid ⟨HA.out.co.less (fun x hx => by
        obtain ⟨k, hk⟩ := hx
        exact HA.out.mem k x hk), HA.out.new, HA.out.off, HA.out.map.more (by omega), fun k => by
        rw [HA.out.is, lastL, ← HEV.out, List.take_of_length_le (by rw [evs_len]; exact Nat.le_refl _)]⟩
      go_wp2_with fail
      go_ret
      exact ⟨M, F, rfl, HF.out⟩
end Go.Proofs.YtjiecjpepiknmaaGreat

namespace Go.Proofs.YtjiecjpepiknmaaGreat
set_option maxRecDepth 20000
open Go.RowKit Go.Maps
set_option linter.unusedVariables false
set_option linter.unusedSimpArgs false

/-- While those who have left are struck. -/
structure JoW (C : Dags) (w wr : World) (g : Nat) (room : ByteArray) (l : List Ev) (mb r : Nat) (F : ByteArray → Option EvV) (D : Dv) (left : Lit → Bool) (cnt : Nat) : Prop where
  co : CoM C w wr g room l (fun x => ∃ k, F k = some x)
  new : w.heap.size ≤ mb
  off : ¬ C.own wr g mb
  newr : w.heap.size ≤ r
  offr : ¬ C.own wr g r
  rg : wr.ranges Tryz.prog 9 heldR mb r 200 D left cnt
  h2 : ∀ k, D.atKey (kl k) (.held zeroEv.val) = .held ((goneF F left k).getD zeroEv).val
  h3 : ∀ k, Maps.has D (kl k) = (goneF F left k).isSome
theorem ranges_noC {w : World} {mb r n cnt : Nat} {D : Dv} {left : Lit → Bool} (h : w.ranges Tryz.prog 9 heldR mb r n D left cnt) : NoC w mb ∧ NoC w r := by
  obtain ⟨es, clock, since, seen, c0, hb, _, _, _, hr, _⟩ := h
  exact ⟨fun cs t f e => (by rw [hb] at e; cases e), fun cs t f e => (by rw [hr] at e; cases e)⟩
section
variable {C : Dags} {w wr w2 : World} {g : Nat} {room : ByteArray} {l : List Ev} {mb r cnt cnt2 : Nat} {F : ByteArray → Option EvV} {D D2 : Dv} {left left2 : Lit → Bool}
theorem JoW.on (h : JoW C w wr g room l mb r F D left cnt) (hb : Below wr.heap.size wr w2) (hr : w2.ranges Tryz.prog 9 heldR mb r 200 D left cnt) : JoW C w w2 g room l mb r F D left cnt := by
  obtain ⟨hc, ho⟩ := C.keep h.co.code hb.size (fun k hk => hb.block k (C.old h.co.code hk))
  exact ⟨h.co.on hb, h.new, fun e => h.off (ho _ e), h.newr, fun e => h.offr (ho _ e), hr, h.h2, h.h3⟩
theorem JoW.grown {q : Nat} (h : JoW C w wr g room l mb r F D left cnt) (hq : q = mb ∨ q = r) (hg : wr.grownBy w2 (some q)) (hr : w2.ranges Tryz.prog 9 heldR mb r 200 D2 left2 cnt2) (h2 : ∀ k, D2.atKey (kl k) (.held zeroEv.val) = .held ((goneF F left2 k).getD zeroEv).val) (h3 : ∀ k, Maps.has D2 (kl k) = (goneF F left2 k).isSome) : JoW C w w2 g room l mb r F D2 left2 cnt2 := by
  have hrow : ∀ k, some q = some k → w.heap.size ≤ k ∧ ¬ C.own wr g k ∧ NoC wr k := fun k hk => by
    injection hk with hk
    subst hk
    rcases hq with rfl | rfl
    · exact ⟨h.new, h.off, (ranges_noC h.rg).1⟩
    · exact ⟨h.newr, h.offr, (ranges_noC h.rg).2⟩
  obtain ⟨hc, ho⟩ := C.keep h.co.code hg.size (fun k hk => hg.block k (C.old h.co.code hk) (fun e => (hrow k e.symm).2.1 hk))
  exact ⟨h.co.grown hg hrow, h.new, fun e => h.off (ho _ e), h.newr, fun e => h.offr (ho _ e), hr, h2, h3⟩
theorem JoW.two {w1 w4 w5 : World} {left1 : Lit → Bool} {cnt1 : Nat} (h : JoW C w wr g room l mb r F D left cnt) (hg1 : wr.grownBy w1 (some r)) (hb : Below w1.heap.size w1 w4) (hrg4 : w4.ranges Tryz.prog 9 heldR mb r 200 D left1 cnt1) (hg5 : w4.grownBy w5 (some mb)) (hr : w5.ranges Tryz.prog 9 heldR mb r 200 D2 left2 cnt2) (h2 : ∀ k, D2.atKey (kl k) (.held zeroEv.val) = .held ((goneF F left2 k).getD zeroEv).val) (h3 : ∀ k, Maps.has D2 (kl k) = (goneF F left2 k).isSome) : JoW C w w5 g room l mb r F D2 left2 cnt2 := by
  have row1 : ∀ k, some r = some k → w.heap.size ≤ k ∧ ¬ C.own wr g k ∧ NoC wr k := fun k hk => by
    injection hk with hk
    subst hk
    exact ⟨h.newr, h.offr, (ranges_noC h.rg).2⟩
  have co1 := h.co.grown hg1 row1
  obtain ⟨-, o1⟩ := C.keep h.co.code hg1.size (fun k hk => hg1.block k (C.old h.co.code hk) (fun e => (row1 k e.symm).2.1 hk))
  have co4 := co1.on hb
  obtain ⟨-, o4⟩ := C.keep co1.code hb.size (fun k hk => hb.block k (C.old co1.code hk))
  have row5 : ∀ k, some mb = some k → w.heap.size ≤ k ∧ ¬ C.own w4 g k ∧ NoC w4 k := fun k hk => by
    injection hk with hk
    subst hk
    exact ⟨h.new, fun e => h.off (o1 _ (o4 _ e)), (ranges_noC hrg4).1⟩
  obtain ⟨-, o5⟩ := C.keep co4.code hg5.size (fun k hk => hg5.block k (C.old co4.code hk) (fun e => (row5 k e.symm).2.1 hk))
  exact ⟨co4.grown hg5 row5, h.new, fun e => h.off (o1 _ (o4 _ (o5 _ e))), h.newr, fun e => h.offr (o1 _ (o4 _ (o5 _ e))), hr, h2, h3⟩
theorem JoW.done (h : JoW C w wr g room l mb r F D left cnt) (hl : ∀ kk, left kk = false) : EvM wr mb 200 (stayF F) := EvG.done ⟨D, h.rg, h.h2, h.h3⟩ hl
end
theorem gone_start {F : ByteArray → Option EvV} {D : Dv} (h3 : ∀ k, Maps.has D (kl k) = (F k).isSome) : goneF F (Maps.has D) = F := by
  funext k
  unfold goneF
  cases hf : F k with
  | none => rfl
  | some x =>
    have h4 := h3 k
    rw [hf] at h4
    simp [h4]
def stayO (o : Option Ev) : Option Ev := match o with
  | some e => if e.does = 2 then none else some e
  | none => none
theorem stayF_is {F : ByteArray → Option EvV} {L : ByteArray → Option Ev} (h : ∀ k, (F k).map EvV.ev = L k) (k : ByteArray) : (stayF F k).map EvV.ev = stayO (L k) := by
  rw [← h]
  unfold stayF stayO
  cases F k with
  | none => rfl
  | some x =>
    by_cases hx : x.ev.does = 2
    · simp [hx]
    · simp [hx]
theorem stayF_mem {F : ByteArray → Option EvV} {k : ByteArray} {x : EvV} (h : stayF F k = some x) : F k = some x := by
  unfold stayF at h
  cases hf : F k with
  | none => rw [hf] at h; cases h
  | some y =>
    rw [hf] at h
    simp only at h
    split at h
    · cases h
    · exact h

set_option maxHeartbeats 3200000 in
theorem joined_any (C : Dags) (CA : DagAlls C) {w : World} {g : Nat} {room : ByteArray} {l : List Ev} (h : C.CD w g room l) (hl : l.length ≤ 100) :
    Calls Tryz.prog 97 #[.pointer (some ⟨g, 0, none⟩)] w fun e w' => ∃ mb F, e = .returned (.map (some mb)) ∧ StP C w w' g room l mb F (fun k => stayO (lastL l k)) := by
  have HST := Lib.hid (steps_any C CA h hl)
  clear h
  go_enter Tryz.func97, Tryz.ntmps97
  go_wp2_with fail
  go_at_call 136
  refine HST.out.mono ?_
  rintro e w1 ⟨M, F, rfl, hs⟩
  obtain ⟨D, hown, h2, h3⟩ := hs.map.is
  have HS := Lib.hid hs
  have H2 := Lib.hid h2
  have H3 := Lib.hid h3
  clear hs h2 h3 HST
  go_wp2_with (first
    | (at_range; refine wpList_range_own _ rfl _ 126 rfl 9 33 keyed Tryz.underlying126 heldR M 200 D rfl hown ?_; intro w2 hrg2 hg2 hs2)
    | go_in)
  go_frame
  have hnew1 : w.heap.size ≤ w1.heap.size := HS.out.co.turn.size
  have HW0 : Hid (JoW C w w2 g room l M w1.heap.size F D (Maps.has D) (Maps.size D)) := Lib.hid (by
    obtain ⟨hc, ho⟩ := C.keep HS.out.co.code hg2.size (fun k hk => hg2.block k (C.old HS.out.co.code hk) (fun e => by cases e))
    refine ⟨HS.out.co.grown hg2 (fun k hk => by cases hk), HS.out.new, fun e => HS.out.off (ho _ e), hnew1, fun e => ?_, hrg2, ?_, ?_⟩
    · have := C.old HS.out.co.code (ho _ e)
      omega
    · rw [gone_start H3.out]; exact H2.out
    · rw [gone_start H3.out]; exact H3.out)
  have HIS := Lib.hid HS.out.is
  generalize w1.heap.size = r at HW0 ⊢
  clear hrg2 hg2 hs2 hown H2 H3 HS hnew1 w1
  go_loopw [10] (fun _ wr => ∃ (D : Dv) (left : Lit → Bool) (cnt : Nat), Hid (JoW C w wr g room l M r F D left cnt)) (fun _ wr => wr.rangeLeft M r)
  case atStart => exact ⟨_, _, _, HW0⟩
  case round =>
    obtain ⟨D, left, cnt, HA⟩ := hrel
    clear HW0
    have hrg := HA.out.rg
    have hle0 := hrg.left_eq
    go_wp2_with (first
      | (at_next; refine wpList_next_ranges (α := ByteArray) (β := Value) _ rfl _ rfl 9 keyed heldR Value.string id (fun key kk hk => by obtain ⟨s, hs, -⟩ := key_inv hk; exact ⟨s, hs⟩) (fun v y _ => ⟨v, rfl⟩) M r 200 D left cnt rfl hrg ?_ ?_)
      | go_in)
    · intro hc0 hl0
      have HM := Lib.hid (HA.out.done hl0)
      have HF : Hid (StP C w wr g room l M (stayF F) (fun k => stayO (lastL l k))) := Lib.hid ⟨HA.out.co.less (fun x hx => by
        obtain ⟨k, hk⟩ := hx
        exact ⟨k, stayF_mem hk⟩), HA.out.new, HA.out.off, HM.out, fun k => stayF_is HIS.out k⟩
      clear hrg hle0
      go_wp2_with fail
      go_ret
      exact ⟨M, _, rfl, HF.out⟩
    · intro x c kk ya yb w1 cnt1 hkey hlk hR hat hrg1 hlt hg1 hs1 hen
      obtain ⟨rfl, hxs, z, hz, hcz⟩ := EvG.came HA.out.h2 HA.out.h3 hkey hlk hR hat
      subst hcz
      have HKEY := Lib.hid hkey
      have HZ := Lib.hid hz
      have HRG := Lib.hid hrg1
      have HG1 := Lib.hid hg1
      try simp only [id] at hen
      unfold EvV.val EvV.pv at hen ⊢
      have HBX := Lib.hid (heap_alloc_new w1 (.cells #[.string z.ev.id, .string z.ev.room, .slice z.A z.ev.parents.length z.cap, .string z.ev.thread, .string z.ev.user, .int .i64 z.ev.does] 33))
      have HB4 := Lib.hid (below_new w1 (.cells #[.string z.ev.id, .string z.ev.room, .slice z.A z.ev.parents.length z.cap, .string z.ev.thread, .string z.ev.user, .int .i64 z.ev.does] 33))
      have HR4 := Lib.hid (hrg1.alloc (.cells #[.string z.ev.id, .string z.ev.room, .slice z.A z.ev.parents.length z.cap, .string z.ev.thread, .string z.ev.user, .int .i64 z.ev.does] 33))
      clear hkey hlk hR hat hz hrg hg1 hs1
      go_upto_region 5 with (fail)
      clear hrg1 hen
      generalize w1.alloc _ = w4 at HBX HB4 HR4 ⊢
      generalize w1.heap.size = B5 at HBX ⊢
      have s5 : w4.cell? ⟨B5, 5, none⟩ = some (.int .i64 z.ev.does) := cell_at HBX.out 5
      by_cases hd : z.ev.does = 2
      · have q2 : (z.ev.does == 2) = true := by rw [beq_iff_eq]; exact hd
        have HD := Lib.hid hd
        have hrg4 := HR4.out
        clear hd
        go_wp2_with (first
          | (at_delete; refine wpList_delete_ranges _ rfl _ _ 126 9 rfl 33 keyed Tryz.underlying126 heldR M r 200 D _ cnt1 rfl hrg4 (.string x) (kl x) rfl HKEY.out ?_; intro w5 cnt5 hrg5 hle5 hturn5; go_frame)
          | go_in)
        rw [Maps.strike_twice] at hrg5
        have hof := off_facts HA.out.h2 HA.out.h3 HZ.out HD.out
        refine ⟨⟨_, _, _, Lib.hid (HA.out.two HG1.out HB4.out HR4.out hturn5.grown hrg5 hof.1 hof.2)⟩, ?_⟩
        rw [hrg5.left_eq, hle0]
        omega
      · have q2 : (z.ev.does == 2) = false := by rw [beq_eq_false_iff_ne]; exact hd
        have HN : Hid (JoW C w w4 g room l M r F D (fun q => left q && !q.sameKey (kl x)) cnt1) := Lib.hid (JoW.on (HA.out.grown (.inr rfl) HG1.out HRG.out (by rw [gone_on HZ.out hd]; exact HA.out.h2) (by rw [gone_on HZ.out hd]; exact HA.out.h3)) HB4.out HR4.out)
        clear hd
        go_wp2_with fail
        refine ⟨⟨_, _, _, HN⟩, ?_⟩
        rw [HR4.out.left_eq, hle0]
        exact hlt
end Go.Proofs.YtjiecjpepiknmaaGreat

namespace Go.Proofs.YtjiecjpepiknmaaGreat
set_option maxRecDepth 20000
open Go.RowKit Go.Maps
set_option linter.unusedVariables false
set_option linter.unusedSimpArgs false

theorem stay_is {room : ByteArray} {l : List Ev} (hv : Valid room l) (u : ByteArray) : (stayO (lastL l u)).isSome = joinL l u := by
  unfold stayO joinL
  cases h : lastL l u with
  | none => rfl
  | some e =>
    obtain ⟨he, -, h0⟩ := lastL_mem hv h
    obtain ⟨i, hi⟩ := List.getElem?_of_mem he
    have hm := may_short (err_zero (hv i e hi)).1
    by_cases h2 : e.does = 2
    · simp [h2]
    · have h1 : e.does = 1 := by have := hm.2.2.2.2.2; omega
      simp [h1]
theorem CoM.told {C : Dags} {w wr w2 : World} {g : Nat} {room : ByteArray} {l : List Ev} {S : EvV → Prop} (h : CoM C w wr g room l S) (hb : Below wr.heap.size wr w2) {v : Value} (hv : ∀ k, v.ownBlock = some k → wr.heap.size ≤ k) : ToldD C.own w2 g v := fun k hk => h.old hb (hv k hk)
def LastY (o : Option Ev) (y : EvV) : Prop := (o = none ∧ y = zeroEv) ∨ o = some y.ev

set_option maxHeartbeats 1600000 in
theorem memJoined_any (C : Dags) (CA : DagAlls C) {w : World} {g : Nat} {room : ByteArray} {l : List Ev} (u : ByteArray) (h : C.CD w g room l) (hl : l.length ≤ 100) (hu : u.size ≤ maxLen) :
    Calls Tryz.prog 70 #[.pointer (some ⟨g, 0, none⟩), .string u] w fun e w' => e = .returned (.bool (joinL l u)) ∧ C.CD w' g room l ∧ TurnD C.own w w' g := by
  have HJ := Lib.hid (joined_any C CA h hl)
  have HV := Lib.hid (C.valid h)
  clear h
  go_enter Tryz.func70, Tryz.ntmps70
  go_wp2_with fail
  go_at_call 97
  refine HJ.out.mono ?_
  rintro e w1 ⟨M, F, rfl, hs⟩
  have hlk := hs.map.look2 hu
  have hby : (F u).isSome = joinL l u := by
    rw [← stay_is HV.out]
    have := hs.is u
    try simp only at this
    rw [← this]
    cases F u <;> rfl
  rw [hby] at hlk
  generalize (F u).getD zeroEv = z at hlk
  unfold EvV.val EvV.pv at hlk
  have HB4 := below_new w1 (.cells #[.string z.ev.id, .string z.ev.room, .slice z.A z.ev.parents.length z.cap, .string z.ev.thread, .string z.ev.user, .int .i64 z.ev.does] 33)
  have HF := Lib.hid (hs.co.on HB4)
  clear hs hby HB4 HJ
  generalize hjb : joinL l u = jb at hlk
  go_wp2_with fail
  go_ret
  exact ⟨by rw [hjb]; rfl, HF.out.code, HF.out.turn⟩


set_option maxHeartbeats 1600000 in
theorem memUsers_any (C : Dags) (CA : DagAlls C) {w : World} {g : Nat} {room : ByteArray} {l : List Ev} (h : C.CD w g room l) (hl : l.length ≤ 100) :
    Calls Tryz.prog 65 #[.pointer (some ⟨g, 0, none⟩)] w fun e w' => ∃ v, e = .returned v ∧ LT.Mine w' w.heap.size v (usersL l) ∧ ToldD C.own w' g v ∧ C.CD w' g room l ∧ TurnD C.own w w' g := by
  have HJ := Lib.hid (joined_any C CA h hl)
  have HV := Lib.hid (C.valid h)
  clear h
  go_enter Tryz.func65, Tryz.ntmps65
  go_wp2_with fail
  go_at_call 97
  refine HJ.out.mono ?_
  rintro e w1 ⟨M, F, rfl, hs⟩
  have HK := Lib.hid (keysE_any M w1)
  have HQ := Lib.hid (sortedE_any M 200 F w1 hs.map (by omega))
  have HB : Hid (∀ z, (F z).isSome = joinL l z) := Lib.hid (fun z => by
    rw [← stay_is HV.out]
    have := hs.is z
    try simp only at this
    rw [← this]
    cases F z <;> rfl)
  have HCO := Lib.hid hs.co
  clear hs HJ
  go_wp2_with fail
  go_at_call 96
  refine HK.out.mono ?_
  rintro e w5 ⟨rfl, rfl⟩
  go_wp2_with fail
  go_at_call 95
  refine HQ.out.mono ?_
  rintro e w6 ⟨v6, ts, rfl, m6, u6, i6, b6⟩
  obtain ⟨A6, c6, rfl, -⟩ := id m6.shape
  obtain rfl : ts = usersL l := up_unique u6 (usersL_up l) (fun z => by rw [i6, HB.out, usersL_mem HV.out])
  have HM6 := Lib.hid (m6.mono HCO.out.turn.size)
  have HTO := Lib.hid (HCO.out.told b6 (fun k hk => (m6.lt k hk).1))
  have HF := Lib.hid (HCO.out.on b6)
  clear m6 u6 i6 b6 HQ HK HCO
  go_wp2_with fail
  go_ret
  exact ⟨_, rfl, HM6.out, HTO.out, HF.out.code, HF.out.turn⟩

set_option maxHeartbeats 1600000 in
theorem memServers_any (C : Dags) (CA : DagAlls C) {w : World} {g : Nat} {room : ByteArray} {l : List Ev} (h : C.CD w g room l) (hl : l.length ≤ 100) :
    Calls Tryz.prog 68 #[.pointer (some ⟨g, 0, none⟩)] w fun e w' => ∃ v, e = .returned v ∧ LT.Mine w' w.heap.size v (serversL l) ∧ ToldD C.own w' g v ∧ C.CD w' g room l ∧ TurnD C.own w w' g := by
  have HJ := Lib.hid (memUsers_any C CA h hl)
  have HV := Lib.hid (C.valid h)
  have HUL : Hid ((usersL l).length ≤ 900) := Lib.hid (by have := usersL_len l; omega)
  have HUS : Hid (∀ u ∈ usersL l, u.size ≤ 281474976710656) := Lib.hid (fun u hu => Nat.le_trans (users_small HV.out u hu) (by omega))
  clear h
  go_enter Tryz.func68, Tryz.ntmps68
  go_wp2_with fail
  go_at_call 65
  refine HJ.out.mono ?_
  rintro e w1 ⟨v1, rfl, m1, t1, hc, ht⟩
  have HH := Lib.hid (homes_any v1 _ w1 m1.slice HUL.out HUS.out)
  have HCO : Hid (CoM C w w1 g room l (fun _ => False)) := Lib.hid ⟨hc, ht, fun x hx => hx.elim⟩
  obtain ⟨A1, c1, rfl, -⟩ := id m1.shape
  clear m1 t1 hc ht HJ
  go_wp2_with fail
  go_at_call 74
  refine HH.out.mono ?_
  rintro e w6 ⟨v6, rfl, m6, b6⟩
  obtain ⟨A6, c6, rfl, -⟩ := id m6.shape
  have HM6 := Lib.hid (m6.mono HCO.out.turn.size)
  have HTO := Lib.hid (HCO.out.told b6 (fun k hk => (m6.lt k hk).1))
  have HF := Lib.hid (HCO.out.on b6)
  clear m6 b6 HH HCO
  go_wp2_with fail
  go_ret
  exact ⟨_, rfl, HM6.out, HTO.out, HF.out.code, HF.out.turn⟩

set_option maxHeartbeats 1600000 in
theorem index_text (v : Value) (l : List ByteArray) (s : ByteArray) (w : World) (h : LT.Slice w v l) :
    Calls Tryz.prog 138 #[v, .string s] w fun e w' => ∃ r : Int, e = .returned (.int .i64 r) ∧ decide (0 ≤ r) = hasL l s ∧ w' = w := by
  obtain ⟨A, cap, rfl, h1, h2, -⟩ := id h
  unfold maxLen at h2
  have HL := Lib.hid h
  clear h
  go_enter Tryz.func138, Tryz.ntmps138
  go_wp2_with fail
  go_loopw [8] (fun i wr => ∃ a : Nat, i = .int .i64 (a : Int) ∧ a ≤ l.length ∧ wr = w ∧ Hid (hasTo l s a = false)) (fun i _ => l.length - (intOf i).toNat)
  case atStart => exact ⟨0, rfl, Nat.zero_le _, by first | rfl | trivial, Lib.hid rfl⟩
  case round =>
    obtain ⟨a, rfl, ha, rfl, HT⟩ := hrel
    by_cases hay : a < l.length
    · have q1 : decide ((a : Int) < (l.length : Int)) = true := decide_eq_true (by omega)
      have hy : l[a]? = some l[a] := List.getElem?_eq_getElem hay
      generalize l[a] = y at hy
      have HTS := Lib.hid (hasTo_succ (s := s) hy)
      rw [HT.out, Bool.false_or] at HTS
      have HY := Lib.hid hy
      obtain ⟨bo, oo, rfl, hbo, e4⟩ := text_at HL.out hy
      have hiy := index_any (P := Tryz.prog) knT (by decide) (b := bo) (off := oo) (cap := cap) hay
      simp only [LT] at hiy
      rw [Nat.mul_one] at hiy
      clear hy
      generalize hys : (s.toList == y.toList) = ys
      have hyd := hys
      rw [keyB] at hyd
      have HYD := Lib.hid hyd
      clear hyd
      cases ys with
      | true =>
        have HF := Lib.hid (hasTo_yes HY.out (of_decide_eq_true HYD.out).symm)
        go_wp2_with fail
        go_ret
        exact ⟨(a : Int), rfl, by rw [HF.out]; exact decide_eq_true (by omega), by first | rfl | trivial⟩
      | false =>
        go_wp2_with fail
        refine ⟨⟨a + 1, by go_num, by omega, by first | rfl | trivial, Lib.hid (by rw [HTS.out]; exact decide_eq_false (fun e => (of_decide_eq_false HYD.out) e.symm))⟩, ?_⟩
        simp [intOf]; omega
    · have q1 : decide ((a : Int) < (l.length : Int)) = false := decide_eq_false (by omega)
      obtain rfl : a = l.length := by omega
      have HF := Lib.hid (hasTo_all l s)
      rw [HT.out] at HF
      go_wp2_with fail
      go_ret
      exact ⟨-1, rfl, by rw [← HF.out]; rfl, by first | rfl | trivial⟩
theorem contains_text (v : Value) (l : List ByteArray) (s : ByteArray) (w : World) (h : LT.Slice w v l) :
    Calls Tryz.prog 100 #[v, .string s] w fun e w' => e = .returned (.bool (hasL l s)) ∧ w' = w := by
  have HI := Lib.hid (index_text v l s w h)
  obtain ⟨A, cap, rfl, -⟩ := id h
  clear h
  go_enter Tryz.func100, Tryz.ntmps100
  go_wp2_with fail
  go_at_call 138
  refine HI.out.mono ?_
  rintro e w' ⟨r, rfl, hr, rfl⟩
  generalize hhb : hasL l s = hb at hr
  go_wp2_with fail
  go_ret
  exact ⟨by rw [hhb]; rfl, by first | rfl | trivial⟩

set_option maxHeartbeats 1600000 in
theorem memIn_any (C : Dags) (CA : DagAlls C) {w : World} {g : Nat} {room : ByteArray} {l : List Ev} (s : ByteArray) (h : C.CD w g room l) (hl : l.length ≤ 100) :
    Calls Tryz.prog 71 #[.pointer (some ⟨g, 0, none⟩), .string s] w fun e w' => e = .returned (.bool (hasL (serversL l) s)) ∧ C.CD w' g room l ∧ TurnD C.own w w' g := by
  have HJ := Lib.hid (memServers_any C CA h hl)
  clear h
  go_enter Tryz.func71, Tryz.ntmps71
  go_wp2_with fail
  go_at_call 68
  refine HJ.out.mono ?_
  rintro e w1 ⟨v1, rfl, m1, t1, hc, ht⟩
  have HH := Lib.hid (contains_text v1 _ s w1 m1.slice)
  have HC := Lib.hid hc
  have HT := Lib.hid ht
  obtain ⟨A1, c1, rfl, -⟩ := id m1.shape
  clear m1 t1 hc ht HJ
  go_wp2_with fail
  go_at_call 100
  refine HH.out.mono ?_
  rintro e w6 ⟨rfl, rfl⟩
  go_wp2_with fail
  go_ret
  exact ⟨rfl, HC.out, HT.out⟩
end Go.Proofs.YtjiecjpepiknmaaGreat
