/-
  What the statements on EDUs share: what is kept on the way, that the document's example is written so, that an EDU which may be is read as it was.
-/
import Derived.Test.YtahgkhcmchbpbaaOf
import Derived.Test.YtahgkhcmchbpbaaRefBytes
import Derived.Test.YtahgkhcmchbpbaaRefReadE
namespace Go.Proofs.Ytahgkhcmchbpbaa
open Go.RowKit
set_option linter.unusedVariables false
set_option linter.unusedSimpArgs false
set_option maxRecDepth 4000

/-- What was there, blocks of its own, and rows of bytes: they lie there still. -/
def Keep (w : World) (l : List (Nat × Array Value × TypeId)) (rs : List (Value × List UInt8)) (w' : World) : Prop :=
  Below w.heap.size w w' ∧ (∀ p ∈ l, w'.heap[p.1]? = some (.cells p.2.1 p.2.2 (0, 0))) ∧ ∀ p ∈ rs, Row w' 0 p.1 p.2
section
variable {w w' w'' : World} {l : List (Nat × Array Value × TypeId)} {rs : List (Value × List UInt8)}
theorem Keep.later (h : Keep w l rs w') (hb : Below w'.heap.size w' w'') : Keep w l rs w'' :=
  ⟨Go.Proofs.Ytahgkhcmchbpbaa.later h.1 hb, fun p hp => (hb.block _ (heap_lt (h.2.1 p hp))).trans (h.2.1 p hp), fun p hp => (h.2.2 p hp).below hb⟩
theorem Keep.drew (h : Keep w l rs w') : Keep w l rs w'.drew := ⟨h.1.drew, h.2⟩
theorem Keep.st (h : Keep w l rs w') (i : Nat) {p : Nat × Array Value × TypeId} (hp : l[i]? = some p) : w'.heap[p.1]? = some (.cells p.2.1 p.2.2 (0, 0)) := h.2.1 p (List.mem_of_getElem? hp)
theorem Keep.row (h : Keep w l rs w') (i : Nat) {p : Value × List UInt8} (hp : rs[i]? = some p) : Row w' 0 p.1 p.2 := h.2.2 p (List.mem_of_getElem? hp)
theorem Keep.cons (h : Keep w l rs w') {g : Nat} {cs : Array Value} {t : TypeId} (hn : w'.heap[g]? = some (.cells cs t (0, 0))) : Keep w ((g, cs, t) :: l) rs w' :=
  ⟨h.1, fun p hp => by
    rcases List.mem_cons.1 hp with rfl | hp
    · exact hn
    · exact h.2.1 p hp, h.2.2⟩
theorem Keep.consR (h : Keep w l rs w') {v : Value} {bs : List UInt8} (hn : Row w' 0 v bs) : Keep w l ((v, bs) :: rs) w' :=
  ⟨h.1, h.2.1, fun p hp => by
    rcases List.mem_cons.1 hp with rfl | hp
    · exact hn
    · exact h.2.2 p hp⟩
theorem Keep.new (h : Keep w l rs w') (cs : Array Value) (t : TypeId) : Keep w ((w'.heap.size, cs, t) :: l) rs (w'.alloc (.cells cs t)) := (h.later (below_new w' _)).cons (heap_alloc_new w' _)
end
theorem Keep.refl (w : World) : Keep w [] [] w := ⟨Below.refl _ _, fun _ h => (List.not_mem_nil h).elim, fun _ h => (List.not_mem_nil h).elim⟩

/-- What is known of one that may be local. -/
theorem local_fits {e : Edu} (h : localB e = true) : e.fits := by
  obtain ⟨_, _, _, _, h5, h6, h7, h8, h9⟩ := may_small h
  unfold Edu.fits
  omega
theorem local_short {e : Edu} (h : localB e = true) : e.short := by
  obtain ⟨h1, h2, h3, h4, _⟩ := may_small h
  unfold Edu.short
  omega
theorem may_local {e : Edu} (h : mayB e = true) : localB e = true := by
  unfold mayB at h
  rw [Bool.and_eq_true] at h
  exact h.1
theorem answer_bytes {e : Edu} {m : Int} (h : mayB e = true) (hm : 34 ≤ m) : answerE m (bytesB e) = e ∧ answerN m (bytesB e) = 0 := by
  unfold answerE answerN
  rw [read_ok h hm, read_bytes h hm]
  exact ⟨rfl, rfl⟩
theorem answer_same (bs : List UInt8) : answerE 34 bs = answerE 1000 bs ∧ answerN 34 bs = answerN 1000 bs := by
  unfold answerE answerN
  have hb := readB_same (m := 1000) (m' := 34) (by decide) (by decide) bs
  cases h : readB 1000 bs
  · rw [hb, h]
    simp only [cond_false, and_self]
  · rw [hb, h, read_same (m := 1000) (m' := 34) (by decide) h]
    simp only [and_self]

def exE : Edu := ⟨2, ⟨#[33, 114, 58, 115]⟩, ⟨#[64, 97, 58, 115]⟩, ⟨#[]⟩, ⟨#[]⟩, false, true, 5, 0, 0, 1⟩
theorem ex_may : mayB exE = true := by decide +kernel
theorem ex_bytes : bytesB exE = [2, 4, 33, 114, 58, 115, 4, 64, 97, 58, 115, 0, 0, 1, 5, 0, 0, 1] := by decide +kernel
set_option maxHeartbeats 800000 in
theorem lives_any (w : World) : Calls Try.prog 18 #[] w fun e w' => e = .returned (.bool true) ∧ Below w.heap.size w w' := by
  have HW := Lib.hid (fun w => write_yes exE w (local_fits (may_local ex_may)) (local_short (may_local ex_may)) ex_may)
  simp only [ex_bytes] at HW
  simp only [exE, Edu.val] at HW
  go_enter Try.func18, Try.ntmps18
  go_wp2_with fail
  refine (HW.out _).mono ?_
  rintro e w1 ⟨⟨g, cap, rfl, hg, ho⟩, hb⟩
  have cc : (convert 28 9 (.slice (some ⟨g, 0, none⟩) 18 cap)).run Try.prog w1 = .ok (.string ⟨#[2, 4, 33, 114, 58, 115, 4, 64, 97, 58, 115, 0, 0, 1, 5, 0, 0, 1]⟩) w1 := conv_row (ho.row (lo := 0) (Nat.zero_le _))
  have hb := Lib.hid hb
  clear ho hg
  go_wp2_with fail
  go_ret
  exact ⟨rfl, hb.out⟩
end Go.Proofs.Ytahgkhcmchbpbaa
