/-
  The code's dags keep to what the statements' walks go by.
-/
import Derived.Test.YtjiecjpepiknmaaGreatDgE
namespace Go.Proofs.YtjiecjpepiknmaaGreat
set_option maxRecDepth 20000
open Go.RowKit
set_option linter.unusedVariables false
set_option linter.unusedSimpArgs false
theorem nevs_len (ns : List NdV) : (nevs ns).length = ns.length := List.length_map _
def codeDags : Dags where
  CD := CDc
  own := ownC
  old := fun {w g room l k} h ho => by
    obtain ⟨mb, ns, D, h, _⟩ := h
    exact h.old ho
  valid := fun {w g room l} h => by
    obtain ⟨mb, ns, D, h, rfl⟩ := h
    exact h.val
  keep := fun {w w' g room l} h hs hk => by
    obtain ⟨mb, ns, D, h, rfl⟩ := h
    have h' := h.keep hk
    exact ⟨⟨mb, ns, D, h', rfl⟩, fun k ho => (h.own k).2 ((h'.own k).1 ho)⟩
  new := fun w room hs hr => new_any w room hr
  new40 := fun w room hs => new40_any w room hs
  add := fun {w g room l} x h hl hx => by
    obtain ⟨mb, ns, D, h, rfl⟩ := h
    exact add_any7 h (by rw [nevs_len] at hl; omega) x hx
  has := fun {w g room l} k h hl hk => by
    obtain ⟨mb, ns, D, h, rfl⟩ := h
    refine (has_code h k hk).mono ?_
    rintro e w' ⟨rfl, hb⟩
    exact ⟨rfl, h.still hb⟩
  event := fun {w g room l} k h hl hk => by
    obtain ⟨mb, ns, D, h, rfl⟩ := h
    refine (event_code7 h k hk).mono ?_
    rintro e w' ⟨y, rfl, hm, h0, h1, hb⟩
    refine ⟨y, rfl, ⟨hm.slice, ?_⟩, hm, fun j hj ho => ?_, h1, h.still hb⟩
    · cases hh : hasE (nevs ns) k
      · exact h0 hh
      · obtain ⟨n, hn, he⟩ := List.mem_map.1 (h1 hh).1
        rw [← he]
        exact may_ok (h.node hn).1
    · have h2 := (hm.lt j hj).1
      have h3 := h.old ((h.own j).2 (((h.below hb).own j).1 ho))
      omega
  position := fun {w g room l} k h hl hk => by
    obtain ⟨mb, ns, D, h, rfl⟩ := h
    refine (position_code h k hk).mono ?_
    rintro e w' ⟨q, rfl, h1, h0, hb⟩
    refine ⟨q, rfl, fun hh => ?_, h0, h.still hb⟩
    obtain ⟨n, hn, he, hq⟩ := h1 hh
    rw [hq, h.depth hn, he]
    rfl
  may := fun {w} x hx => may_any x w hx
  compare := fun {w} p q => compare_any p q w
theorem codeSms : DagSms codeDags := ⟨fun {w} x y hx hy => by
  refine (same_any x y w hx.1 hy.1).mono ?_
  rintro e w' ⟨rfl, hg⟩
  exact ⟨rfl, hg.below⟩⟩
end Go.Proofs.YtjiecjpepiknmaaGreat
