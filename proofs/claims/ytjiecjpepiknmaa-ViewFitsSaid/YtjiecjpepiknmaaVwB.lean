/-
  Package view: New, dagOf, Add.
-/
import Derived.Test.YtjiecjpepiknmaaVwK
namespace Go.Proofs.Ytjiecjpepiknmaa
set_option maxRecDepth 20000
open Go.RowKit Go.Maps Go.ChangeMaps
set_option linter.unusedVariables false
set_option linter.unusedSimpArgs false
section
variable {C : Dags} {w wr w' : World} {vs : List VI} {ts : List Th} {v : VI} {i : Nat}

theorem zeroDag (w : World) : (zeroValue 46).run Try.prog w = .ok (.pointer none) w := by kernel_rfl
/-- A room is looked up. -/
theorem CVs.look (h : CVs C w v) (k : ByteArray) (hk : k.size ≤ maxLen) :
    ((¬ ∃ d ∈ v.ds, d.room = k) ∧ (Instr.lookup 55 (.map (some v.mb)) (.string k) true).run Try.prog w = .ok (.tuple #[.pointer none, .bool false]) w)
    ∨ ∃ d ∈ v.ds, d.room = k ∧ (Instr.lookup 55 (.map (some v.mb)) (.string k) true).run Try.prog w = .ok (.tuple #[.pointer (some ⟨d.g, 0, none⟩), .bool true]) w := by
  obtain ⟨x, ps, hr, hv⟩ := World.ownsMap.look_ok h.map keyed Try.underlying55 (zeroDag w) (zd := .held (.pointer none)) (zp := []) rfl (keyIs hk)
  by_cases hh : ∃ d ∈ v.ds, d.room = k
  · obtain ⟨d, hd, he⟩ := id hh
    have h1 := (h.is.has_iff k).2 hh
    refine .inr ⟨d, hd, he, ?_⟩
    rw [← he, h.is.at_ h.up hd] at hv
    injection hv with hv
    injection hv with hv _
    injection hv with hv
    rw [hr, h1, hv]
    rfl
  · have h1 : Maps.has v.D (kl k) = false := by
      rw [Bool.eq_false_iff]
      exact fun e => hh ((h.is.has_iff k).1 e)
    refine .inl ⟨hh, ?_⟩
    have hz := Maps.atKey_of_not_has (D := v.D) (k := kl k) h1 (.held (.pointer none))
    rw [hz] at hv
    injection hv with hv
    injection hv with hv _
    injection hv with hv
    rw [hr, h1, hv]
/-- A dag is laid under its room. -/
theorem CVs.store (h : CVs C w v) {k : ByteArray} (hk : k.size ≤ maxLen) (g : Nat) : ∃ w', (Instr.mapUpdate 55 (.map (some v.mb)) (.string k) (.pointer (some ⟨g, 0, none⟩))).run Try.prog w = .ok () w' ∧ OwnN w' v.mb (v.ds.length + 1) (v.D.put (kl k) (.held (.pointer (some ⟨g, 0, none⟩)))) ∧ w.grownBy w' (some v.mb) := by
  obtain ⟨w', hr, ho, hg⟩ := World.ownsMap.update h.map keyed Try.underlying55 (by have := h.len; unfold maxLen; omega) (key := .string k) (val := .pointer (some ⟨g, 0, none⟩)) (d := .held (.pointer (some ⟨g, 0, none⟩))) (ps := []) (keyIs hk) rfl
  exact ⟨w', hr, ho, hg⟩

set_option maxHeartbeats 800000 in
theorem viewNew_any (h : Kv C w wr vs ts) : Calls Try.prog 13 #[] wr fun e w' => ∃ v, e = .returned (.pointer (some ⟨v.g, 0, none⟩)) ∧ v.V = [] ∧ Kv C w w' (vs ++ [v]) ts := by
  have HK := Lib.hid h
  have hmm := @run_makeMap Try.prog
  clear h
  go_enter Try.func13, Try.ntmps13
  go_wp2_with fail
  go_ret
  have h0 := World.ownsMap_made (H := Value) wr Try.prog 9 heldR
  have hb : Below wr.heap.size wr ((wr.alloc (.map #[] 0)).alloc (.cells #[.map (some wr.heap.size)] 57)) := ((Below.refl _ wr).alloc (Nat.le_refl _) _).alloc (by simp) _
  have h1 : CVs C ((wr.alloc (.map #[] 0)).alloc (.cells #[.map (some wr.heap.size)] 57)) ⟨wr.heap.size + 1, wr.heap.size, [], .map []⟩ := by
    refine ⟨?_, h0.alloc _, VdM.nil, fun n hn => (by cases hn), fun d hd => (by cases hd), VOk.nil.mono (Nat.zero_le _)⟩
    have := heap_alloc_new (wr.alloc (.map #[] 0)) (.cells #[.map (some wr.heap.size)] 57)
    rw [show (wr.alloc (.map #[] 0)).heap.size = wr.heap.size + 1 by simp] at this
    exact this
  refine ⟨⟨wr.heap.size + 1, wr.heap.size, [], .map []⟩, rfl, rfl, HK.out.made hb h1 (fun k hk => ?_)⟩
  rcases hk with e | e | ⟨d, hd, _⟩
  · simp only at e; omega
  · simp only at e; omega
  · cases hd

/-- The dag that dagOf tells. -/
def DagOf (C : Dags) (wr w' : World) (v : VI) (gd : Nat) (room : ByteArray) : Prop := (∃ d ∈ v.ds, d.g = gd ∧ d.room = room ∧ w' = wr) ∨ ((¬ ∃ d ∈ v.ds, d.room = room) ∧ C.CD w' gd room [] ∧ Below wr.heap.size wr w' ∧ ∀ k, C.own w' gd k → wr.heap.size ≤ k)
theorem DagOf.kd {gd : Nat} {room : ByteArray} (h : Kv C w wr vs ts) (hi : vs[i]? = some v) (hd : DagOf C wr w' v gd room) : Kd C w w' vs ts gd room (ofL v.V room) := by
  rcases hd with ⟨d, hd, rfl, rfl, rfl⟩ | ⟨hn, hc, hb, ho⟩
  · exact ⟨h, .inl ⟨i, v, d, hi, hd, rfl, rfl, ((h.cv hi).of_ hd).symm⟩⟩
  · rw [(h.cv hi).noRoom hn]
    refine ⟨h.later hb, .inr ⟨hc, fun k hk => ⟨Nat.le_trans h.below.size (ho k hk), fun j u hu hh => ?_, fun t ht hp => ?_⟩⟩⟩
    · have := (h.cv hu).old (((h.cv hu).keep hb.size (fun k hk => hb.block k ((h.cv hu).old hk))).2 k hh)
      have := ho k hk
      omega
    · have := t.lt wr k (h.is ht) hp
      have := ho k hk
      omega

set_option maxHeartbeats 800000 in
theorem dagOf_any (h : Kv C w wr vs ts) (hi : vs[i]? = some v) (room : ByteArray) (hr : room.size ≤ 40) : Calls Try.prog 18 #[.pointer (some ⟨v.g, 0, none⟩), .string room] wr fun e w' => ∃ gd, e = .returned (.pointer (some ⟨gd, 0, none⟩)) ∧ DagOf C wr w' v gd room := by
  have hcv := h.cv hi
  have c1 : wr.cell? ⟨v.g, 0, none⟩ = some (.map (some v.mb)) := cell_at hcv.hd 0
  rcases hcv.look room (Nat.le_trans hr (by decide)) with ⟨hno, hlk⟩ | ⟨d, hd, he, hlk⟩
  · have HNO := Lib.hid hno
    have HNW := Lib.hid (C.new40 wr room hr)
    clear hno h hi hcv hr
    go_enter Try.func18, Try.ntmps18
    go_wp2_with fail
    go_at_call 27
    refine HNW.out.mono ?_
    rintro e w1 ⟨gd, rfl, hc, hb, hf⟩
    have HF := Lib.hid hf
    have HB := Lib.hid hb
    have HC := Lib.hid hc
    clear hf hb hc c1 hlk
    go_wp2_with fail
    go_ret
    exact ⟨gd, rfl, .inr ⟨HNO.out, HC.out, HB.out, HF.out⟩⟩
  · have HD := Lib.hid hd
    have HE := Lib.hid he
    clear hd he h hi hcv hr
    go_enter Try.func18, Try.ntmps18
    go_wp2_with fail
    go_ret
    exact ⟨d.g, rfl, .inl ⟨d, HD.out, rfl, HE.out, rfl⟩⟩
end
end Go.Proofs.Ytjiecjpepiknmaa
