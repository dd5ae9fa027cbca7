/-
  Memory; what package lay puts; its reader is made.
-/
import Derived.Test.YtnabbebkmafakaaRows
import Derived.Test.YtnabbebkmafakaaMA
import Derived.WalkKit
import Derived.WalkSpells
import Derived.WalkLawsBesides
import Derived.Lib.Bytealg
import Derived.Lib.Hide
import Derived.Laws.BytesArg
import Derived.Laws.OwnMore
import Derived.Deep.AppendSrc
import Derived.Deep.AppendLies
import Derived.OneCell
import Derived.OpenShut
namespace Go.Proofs.Ytnabbebkmafakaa
set_option maxRecDepth 20000
open Go.RowKit
set_option linter.unusedVariables false
set_option linter.unusedSimpArgs false

/-- A byte, as a cell holds it. -/
def bV (b : UInt8) : Value := .int .u8 (b.toNat : Int)
def bVs (bs : List UInt8) : List Value := bs.map bV
theorem bVs_len (bs : List UInt8) : (bVs bs).length = bs.length := by simp [bVs]
theorem bVs_app (a b : List UInt8) : bVs (a ++ b) = bVs a ++ bVs b := by simp [bVs]
theorem bVs_one (bs : List UInt8) : ∀ u ∈ bVs bs, u.oneCell' = true := by
  intro u hu
  obtain ⟨x, _, rfl⟩ := List.mem_map.1 hu
  rfl
theorem bVs_get {bs : List UInt8} {j : Nat} {u : Value} (h : (bVs bs)[j]? = some u) : ∃ x, bs[j]? = some x ∧ u = bV x := by
  unfold bVs at h
  rw [List.getElem?_map] at h
  cases hx : bs[j]? with
  | none => rw [hx] at h; cases h
  | some x => rw [hx] at h; exact ⟨x, rfl, (Option.some.inj h).symm⟩
/-- A text of bytes. -/
def strOf (bs : List UInt8) : ByteArray := ⟨bs.toArray⟩
theorem strOf_size (bs : List UInt8) : (strOf bs).size = bs.length := by simp [strOf, ByteArray.size]
theorem strOf_app (a b : List UInt8) : strOf a ++ strOf b = strOf (a ++ b) := by
  apply ByteArray.ext
  simp [strOf]
theorem strOf_toList (s : ByteArray) : strOf s.data.toList = s := by cases s; simp [strOf]
theorem strOf_inj {a b : List UInt8} (h : strOf a = strOf b) : a = b := by
  have := congrArg (fun s : ByteArray => s.data.toList) h
  simpa [strOf] using this
theorem byteCells_eq (s : ByteArray) : byteCells s = bVs s.data.toList := rfl

/-- A slice of bytes that reads as a list; nil, or from block lo on. -/
def Row (w : World) (lo : Nat) (v : Value) (bs : List UInt8) : Prop :=
  (v = .slice none 0 0 ∧ bs = []) ∨
  ∃ g off c cur, v = .slice (some ⟨g, off, none⟩) bs.length c ∧ lo ≤ g ∧ w.heap[g]? = some (.cells cur 5 (0, 0)) ∧ bs.length ≤ c ∧ c ≤ maxLen ∧ (cur.toList.drop off).take bs.length = bVs bs

/-- A row that is the call's own, the whole block known. -/
def Own (w : World) (g cap : Nat) (bs : List UInt8) : Prop :=
  ∃ cur, w.heap[g]? = some (.cells cur 5 (0, 0)) ∧ bs.length ≤ cap ∧ cap ≤ maxLen ∧ cur.size = cap ∧ cur.toList.take bs.length = bVs bs

theorem heap_lt {w : World} {g : Nat} {o : Obj} (h : w.heap[g]? = some o) : g < w.heap.size := (Array.getElem?_eq_some_iff.1 h).1

theorem Own.lt {w : World} {g cap : Nat} {bs : List UInt8} (h : Own w g cap bs) : g < w.heap.size := by obtain ⟨cur, hh, _⟩ := h; exact heap_lt hh
theorem Own.row {w : World} {lo g cap : Nat} {bs : List UInt8} (h : Own w g cap bs) (hl : lo ≤ g) : Row w lo (.slice (some ⟨g, 0, none⟩) bs.length cap) bs := by
  obtain ⟨cur, hh, h1, h2, h3, h4⟩ := h
  exact .inr ⟨g, 0, cap, cur, rfl, hl, hh, h1, h2, by simpa using h4⟩
theorem Own.block {w w' : World} {g cap : Nat} {bs : List UInt8} (h : Own w g cap bs) (hb : w'.heap[g]? = w.heap[g]?) : Own w' g cap bs := by
  obtain ⟨cur, hh, r⟩ := h
  exact ⟨cur, hb.trans hh, r⟩
theorem Own.below {w w' : World} {g cap : Nat} {bs : List UInt8} (h : Own w g cap bs) (hb : Below w.heap.size w w') : Own w' g cap bs := h.block (hb.block g h.lt)

theorem Row.nil (w : World) (lo : Nat) : Row w lo (.slice none 0 0) [] := .inl ⟨rfl, rfl⟩
theorem Row.mono {w : World} {lo lo' : Nat} {v : Value} {bs : List UInt8} (h : Row w lo v bs) (hl : lo' ≤ lo) : Row w lo' v bs := by
  rcases h with h | ⟨g, off, c, cur, hv, hg, r⟩
  · exact .inl h
  · exact .inr ⟨g, off, c, cur, hv, by omega, r⟩
theorem Row.keep {w w' : World} {lo : Nat} {v : Value} {bs : List UInt8} (h : Row w lo v bs) (hk : ∀ g cur, lo ≤ g → w.heap[g]? = some (.cells cur 5 (0, 0)) → w'.heap[g]? = w.heap[g]?) : Row w' lo v bs := by
  rcases h with h | ⟨g, off, c, cur, hv, hg, hh, r⟩
  · exact .inl h
  · exact .inr ⟨g, off, c, cur, hv, hg, (hk g cur hg hh).trans hh, r⟩
theorem Row.below {w w' : World} {lo : Nat} {v : Value} {bs : List UInt8} (h : Row w lo v bs) (hb : Below w.heap.size w w') : Row w' lo v bs :=
  h.keep fun g cur _ hh => hb.block g (heap_lt hh)
theorem Row.grown {w w' : World} {lo k : Nat} {v : Value} {bs : List UInt8} (h : Row w lo v bs) (hb : w.grownBy w' (some k)) (hk : ∀ cur, w.heap[k]? ≠ some (.cells cur 5 (0, 0))) : Row w' lo v bs :=
  h.keep fun g cur _ hh => hb.block g (heap_lt hh) (fun e => by injection e with e; subst e; exact hk cur hh)
theorem Row.drew {w : World} {lo : Nat} {v : Value} {bs : List UInt8} (h : Row w lo v bs) : Row w.drew lo v bs := h
theorem Row.shape {w : World} {lo : Nat} {v : Value} {bs : List UInt8} (h : Row w lo v bs) : ∃ A c, v = .slice A bs.length c ∧ bs.length ≤ c ∧ c ≤ maxLen ∧ (A = none → c = 0) := by
  rcases h with ⟨rfl, rfl⟩ | ⟨g, off, c, cur, rfl, _, _, h1, h2, _⟩
  · exact ⟨none, 0, rfl, Nat.le_refl _, Nat.zero_le _, fun _ => rfl⟩
  · exact ⟨_, c, rfl, h1, h2, fun h => by cases h⟩

theorem at_of_take {cur : List Value} {off n : Nat} {xs : List Value} (h : (cur.drop off).take n = xs) {j : Nat} {u : Value} (hu : xs[j]? = some u) : cur[off + j]? = some u := by
  rw [← h, List.getElem?_take] at hu
  split at hu
  · rwa [List.getElem?_drop] at hu
  · cases hu

/-- Its cells. -/
theorem Row.cells {w : World} {lo g off c : Nat} {bs : List UInt8} (h : Row w lo (.slice (some ⟨g, off, none⟩) bs.length c) bs) : ∀ j x, bs[j]? = some x → w.cell? ⟨g, off + j, none⟩ = some (bV x) := by
  intro j x hx
  rcases h with ⟨h, _⟩ | ⟨g', off', c', cur, hv, hg, hh, h1, h2, h3⟩
  · cases h
  · injection hv with ha _ _
    injection ha with ha
    injection ha with e1 e2 _
    subst e1 e2
    rw [cell_of_row w g (off + j) cur 5 (0, 0) hh]
    have : (bVs bs)[j]? = some (bV x) := by unfold bVs; rw [List.getElem?_map, hx]; rfl
    simpa using at_of_take h3 this
theorem Row.addr {w : World} {lo : Nat} {v : Value} {bs : List UInt8} (h : Row w lo v bs) (h0 : 0 < bs.length) : ∃ g off c, v = .slice (some ⟨g, off, none⟩) bs.length c ∧ lo ≤ g ∧ bs.length ≤ c ∧ c ≤ maxLen ∧ ∀ j x, bs[j]? = some x → w.cell? ⟨g, off + j, none⟩ = some (bV x) := by
  have h' := h
  rcases h with ⟨rfl, rfl⟩ | ⟨g, off, c, cur, rfl, hg, hh, h1, h2, h3⟩
  · simp at h0
  · exact ⟨g, off, c, rfl, hg, h1, h2, h'.cells⟩
theorem Own.cells {w : World} {g cap : Nat} {bs : List UInt8} (h : Own w g cap bs) : ∀ j x, bs[j]? = some x → w.cell? ⟨g, j, none⟩ = some (bV x) := by
  intro j x hx
  have := (h.row (lo := 0) (Nat.zero_le _)).cells j x hx
  simpa using this

/-- What string(b) comes to. -/
theorem conv_row {w : World} {lo : Nat} {v : Value} {bs : List UInt8} (h : Row w lo v bs) : (convert 29 9 v).run Try.prog w = .ok (.string (strOf bs)) w := by
  have h' := h
  rcases h with ⟨rfl, rfl⟩ | ⟨g, off, c, cur, rfl, hg, hh, h1, h2, h3⟩
  · exact run_convert_bytes_nil (P := Try.prog) w 29 5 Try.underlying29 Try.underlying5 0 0 9 Try.underlying9
  · have hr := run_convert_bytes_arg (P := Try.prog) w 29 5 Try.underlying29 Try.underlying5 g off bs.length c (bs.map fun b => (b.toNat : Int)) (by simp) (fun i hi => by
      rw [h'.cells i _ (List.getElem?_eq_getElem hi), List.getD_eq_getElem?_getD, List.getElem?_map, List.getElem?_eq_getElem hi]
      rfl) 9 Try.underlying9
    rw [hr]
    congr 2
    apply ByteArray.ext
    simp only [strOfNums, strOf, List.map_map]
    congr 1
    rw [show bs = bs.map id by simp]
    rw [List.map_map]
    apply List.map_congr_left
    intro x _
    simp [Function.comp]

/-- What may be appended to without touching what lies below B: a slice without spare room, or a row of one's own. -/
def Puts (w : World) (B : Nat) (v : Value) (bs : List UInt8) : Prop :=
  (∃ A, v = .slice A bs.length bs.length ∧ Row w 0 (.slice A bs.length bs.length) bs) ∨ ∃ g cap, v = .slice (some ⟨g, 0, none⟩) bs.length cap ∧ B ≤ g ∧ Own w g cap bs

theorem byte_info : (Try.prog.info? 5).map (fun i => (i.zero, i.size, i.bytes)) = some (some (.int .u8 0), 1, 1) := by kernel_rfl

theorem firstCells_row {w : World} {lo : Nat} {A : Option Addr} {n c : Nat} {bs : List UInt8} (hn : bs.length = n) (h : Row w lo (.slice A n c) bs) : (Builtin.firstCells 1 n (.slice A n c)).run Try.prog w = .ok (bVs bs).toArray w := by
  subst hn
  have h' := h
  rcases h with ⟨hv, hb⟩ | ⟨g, off, c', cur, hv, hg, hh, h1, h2, h3⟩
  · injection hv with e1 e2 e3
    subst e1 e3 hb
    exact run_firstCells_none w 1 0 0 0
  · injection hv with e1 e2 e3
    subst e1
    refine run_firstCells_some (P := Try.prog) w 1 _ ⟨g, off, none⟩ _ c (bVs bs) (by rw [bVs_len, Nat.mul_one]) fun j u hu => ?_
    obtain ⟨x, hx, rfl⟩ := bVs_get hu
    rw [Addr.add_lit]
    exact h'.cells j x hx

theorem Src.ofRow {w : World} {lo : Nat} {A : Option Addr} {n c : Nat} {bs : List UInt8} (hn : bs.length = n) (h : Row w lo (.slice A n c) bs) : Src Try.prog 1 29 (.slice A n c) n (bVs bs) w :=
  ⟨.inl ⟨_, Try.underlying29⟩, fun _ => rfl, firstCells_row hn h, firstCells_row (w := w.drew) hn h.drew, by rw [bVs_len]; omega, bVs_one bs⟩

theorem nextcap_le (n c : Nat) (hc : c < n) (hn : n ≤ 1099511627776) : Builtin.nextslicecap n c * 1 ≤ 281474976710656 := growslice_fits hc (by omega)

theorem setCells_far (b k : Nat) (hk : k ≠ b) : ∀ (vs : List Value) (o : Nat) (w : World), (w.setCells b o vs).heap[k]? = w.heap[k]?
  | [], o, w => rfl
  | v :: r, o, w => by rw [World.setCells, setCells_far b k hk r (o + 1), Below.heap_setCell _ _ _ _ hk]
theorem setCells_size (b : Nat) : ∀ (vs : List Value) (o : Nat) (w : World), (w.setCells b o vs).heap.size = w.heap.size ∧ (w.setCells b o vs).os = w.os ∧ (w.setCells b o vs).tape = w.tape ∧ (w.setCells b o vs).output = w.output
  | [], o, w => ⟨rfl, rfl, rfl, rfl⟩
  | v :: r, o, w => by
    rw [World.setCells]
    have := setCells_size b r (o + 1) (w.setCell ⟨b, o, none⟩ v)
    exact ⟨this.1.trans (by simp [World.setCell]), this.2.1, this.2.2.1, this.2.2.2⟩
theorem setCells_row (b : Nat) (ty : TypeId) : ∀ (vs : List Value) (o : Nat) (w : World) (cur : Array Value), w.heap[b]? = some (.cells cur ty (0, 0)) → o + vs.length ≤ cur.size →
    ∃ cur', (w.setCells b o vs).heap[b]? = some (.cells cur' ty (0, 0)) ∧ cur'.size = cur.size ∧ cur'.toList.take (o + vs.length) = cur.toList.take o ++ vs
  | [], o, w, cur, h, _ => ⟨cur, h, rfl, by simp⟩
  | v :: r, o, w, cur, h, hl => by
    rw [World.setCells]
    have hh : (w.setCell ⟨b, o, none⟩ v).heap[b]? = some (.cells (cur.setIfInBounds o v) ty (0, 0)) := by simp [World.setCell, Array.getElem?_modify, h]
    obtain ⟨cur', h1, h2, h3⟩ := setCells_row b ty r (o + 1) _ _ hh (by simp at hl ⊢; omega)
    refine ⟨cur', h1, by simpa using h2, ?_⟩
    rw [show o + (v :: r).length = o + 1 + r.length by simp; omega, h3, Array.toList_setIfInBounds]
    simp at hl
    rw [List.take_add_one, List.take_set, List.getElem?_set]
    simp [show o < cur.size by omega]
    exact List.set_eq_of_length_le (by simp; omega)

/-- append, of whatever source: what comes is one's own, and nothing below B has turned. -/
theorem run_puts {w : World} {B : Nat} {v : Value} {bs : List UInt8} (ty tx : TypeId) (h : Puts w B v bs) (hB : B ≤ w.heap.size) (x : Value) (n : Nat) (news : List UInt8) (hn : news.length = n) (hs : Src Try.prog 1 tx x n (bVs news) w)
    (h0 : 0 < n ∨ ∃ g cap, v = .slice (some ⟨g, 0, none⟩) bs.length cap ∧ B ≤ g ∧ Own w g cap bs) (hm : bs.length + n ≤ 1099511627776) :
    ∃ g cap w', (Builtin.append_ #[29, tx] ty #[v, x]).run Try.prog w = .ok (.slice (some ⟨g, 0, none⟩) (bs.length + n) cap) w' ∧ B ≤ g ∧ Own w' g cap (bs ++ news) ∧ Below B w w' := by
  obtain ⟨i0, hi0, hz0, hz1, hz2⟩ := info_parts byte_info
  have hs' : Src Try.prog i0.size tx x n (bVs news) w := by rw [hz1]; exact hs
  have hml : (bs ++ news).length = bs.length + n := by rw [List.length_append, hn]
  -- the arm that grows
  have grow : ∀ (A : Option Addr) (c : Nat), c < bs.length + n → (Builtin.firstCells i0.size bs.length (.slice A bs.length c)).run Try.prog w.drew = .ok (bVs bs).toArray w.drew →
      ∃ g cap w', (Builtin.append_ #[29, tx] ty #[.slice A bs.length c, x]).run Try.prog w = .ok (.slice (some ⟨g, 0, none⟩) (bs.length + n) cap) w' ∧ B ≤ g ∧ Own w' g cap (bs ++ news) ∧ Below B w w' := by
    intro A c hc hf
    have hr := run_append_grow_src (P := Try.prog) w 29 tx ty 5 i0 _ Try.underlying29 hi0 hz0 A bs.length c (bVs bs) hf x n (bVs news) hs' hc (by omega) (by rw [hz2]; exact nextcap_le _ _ hc hm)
    have hge := grownCap_ge w (bs.length + n) c 5
    have hcm : grownCap w (bs.length + n) c 5 ≤ maxLen := grownCap_le_maxLen w (bs.length + n) c 5 (by unfold maxLen; omega)
    refine ⟨_, _, _, hr, hB, ⟨_, heap_alloc_new w.drew _, by rw [hml]; exact hge, hcm, ?_, ?_⟩, ((Below.refl B w).drew).alloc (by simpa using hB) _⟩
    · simp only [Array.size_append, List.size_toArray, size_zeroCells, List.length_append, bVs_len, hn, Value.cells]
      simp
      omega
    · rw [hml, bVs_app]
      simp only [Array.toList_append]
      rw [show bs.length + n = (bVs bs ++ bVs news).length by rw [List.length_append, bVs_len, bVs_len, hn]]
      exact List.take_left
  have h' : (0 < n ∧ ∃ A, v = .slice A bs.length bs.length ∧ Row w 0 (.slice A bs.length bs.length) bs) ∨ ∃ g cap, v = .slice (some ⟨g, 0, none⟩) bs.length cap ∧ B ≤ g ∧ Own w g cap bs := by
    rcases h with h | h
    · rcases h0 with h0 | h0
      · exact .inl ⟨h0, h⟩
      · exact .inr h0
    · exact .inr h
  rcases h' with ⟨h0, A, rfl, hrow⟩ | ⟨g, cap, rfl, hBg, cur, hh, h1, h2, h3, h4⟩
  · exact grow A _ (by omega) (by rw [hz1]; exact firstCells_row (w := w.drew) rfl hrow.drew)
  · by_cases hroom : bs.length + n ≤ cap
    · have hlen : (bVs news).length = n := by rw [bVs_len, hn]
      have hr := run_append_room_src (P := Try.prog) w 29 tx ty 5 i0 Try.underlying29 hi0 g 0 bs.length cap x n (bVs news) hs' hroom
        (fun j hj => by
          rw [hz1, cell_of_row w g _ cur 5 (0, 0) hh, Array.getElem?_eq_getElem (by omega)]
          rfl)
        (fun j hj => by simp [World.frozen?, hh])
      rw [hz1] at hr
      obtain ⟨cur', r1, r2, r3⟩ := setCells_row g 5 (bVs news) (0 + bs.length * 1) w cur hh (by rw [hlen]; omega)
      obtain ⟨z1, z2, z3, z4⟩ := setCells_size g (bVs news) (0 + bs.length * 1) w
      refine ⟨g, cap, _, hr, hBg, ⟨cur', r1, by omega, h2, r2.trans h3, ?_⟩, ⟨z2, z3, z4, by omega, fun k hk => setCells_far g k (by omega) _ _ _⟩⟩
      rw [hml, bVs_app, ← h4]
      rw [hlen] at r3
      simpa using r3
    · refine grow _ _ (by omega) ?_
      rw [hz1]
      exact firstCells_row (w := w.drew) rfl ((Own.row (lo := 0) ⟨cur, hh, h1, h2, h3, h4⟩ (Nat.zero_le _)).drew)

/-- The same, for a walk. -/
theorem wpList_puts {w : World} {ops : Array Oper} {rest : List Oper} {o : Oper} {a : Act} {Q : Exit → Act → World → Prop} (hgd : o.guard = none) (s x : Operand) (tx : TypeId)
    (ho : o.op = .call { callee := .builtin .append, args := #[s, x], argTypes := #[29, tx] }) {B : Nat} {v : Value} {bs : List UInt8} (hv : a.eval s = v) (h : Puts w B v bs) (hB : B ≤ w.heap.size)
    (xv : Value) (n : Nat) (news : List UInt8) (hx : a.eval x = xv) (hn : news.length = n) (hs : Src Try.prog 1 tx xv n (bVs news) w)
    (h0 : 0 < n ∨ ∃ g cap, v = .slice (some ⟨g, 0, none⟩) bs.length cap ∧ B ≤ g ∧ Own w g cap bs) (hm : bs.length + n ≤ 1099511627776)
    (K : ∀ g cap w', B ≤ g → Own w' g cap (bs ++ news) → Below B w w' → wpList Try.prog ops Q rest (a.put o.dst (.slice (some ⟨g, 0, none⟩) (bs.length + n) cap)) w') : wpList Try.prog ops Q (o :: rest) a w := by
  obtain ⟨g, cap, w', hr, h1, h2, h3⟩ := run_puts o.type tx h hB xv n news hn hs h0 hm
  refine wpList_plain hgd fun _ hK => ?_
  unfold Oper.wp execOp
  simp only [ho, resolve, invoke, builtin, Sem.run_bind, Sem.run_pure, Result.andThen_ok, List.map_toArray, List.map_cons, List.map_nil, hv, hx, hr]
  exact hK _ _ (K g cap w' h1 h2 h3)

/-- What a call has made: nil, or a row of its own from block B on. -/
def MadeB (w : World) (B : Nat) (v : Value) (bs : List UInt8) : Prop := (v = .slice none 0 0 ∧ bs = []) ∨ ∃ g cap, v = .slice (some ⟨g, 0, none⟩) bs.length cap ∧ B ≤ g ∧ Own w g cap bs
theorem MadeB.row {w : World} {B : Nat} {v : Value} {bs : List UInt8} (h : MadeB w B v bs) : Row w B v bs := by
  rcases h with h | ⟨g, cap, rfl, hB, h⟩
  · exact .inl h
  · exact h.row hB
theorem MadeB.below {w w' : World} {B : Nat} {v : Value} {bs : List UInt8} (h : MadeB w B v bs) (hb : Below w.heap.size w w') : MadeB w' B v bs := by
  rcases h with h | ⟨g, cap, rfl, hB, h⟩
  · exact .inl h
  · exact .inr ⟨g, cap, rfl, hB, h.below hb⟩
theorem later {w a b : World} (h : Below w.heap.size w a) (k : Below a.heap.size a b) : Below w.heap.size w b := h.trans (k.mono h.size)
theorem below_drewN {B : Nat} {a w : World} (h : Below B a w) (n : Nat) : Below B a (w.drewN n) := ⟨h.os, h.tape, h.output, h.size, h.block⟩
/-- A byte that is laid alone. -/
theorem Src.ofLit (w : World) (x : UInt8) (c : Int) (hc : (x.toNat : Int) = c) (B : Nat) (hB : B = w.heap.size) : Src Try.prog 1 29 (.slice (some ⟨B, 0, none⟩) 1 1) 1 (bVs [x]) (w.alloc (.cells #[.int .u8 c] 5)) := by
  subst hc hB
  refine Src.ofSlice _ Try.underlying29 ⟨w.heap.size, 0, none⟩ 1 1 (bVs [x]) rfl (fun j u hu => ?_) (bVs_one _)
  obtain ⟨y, hy, rfl⟩ := bVs_get hu
  cases j with
  | zero =>
    injection hy with hy
    subst hy
    rw [Addr.add_lit]
    simp [bV]
  | succ j => cases hy
theorem Puts.alloc {w : World} {B : Nat} {v : Value} {bs : List UInt8} (h : Puts w B v bs) (o : Obj) : Puts (w.alloc o) B v bs := by
  have hb : Below w.heap.size w (w.alloc o) := (Below.refl _ w).alloc (Nat.le_refl _) o
  rcases h with ⟨A, rfl, h⟩ | ⟨g, cap, rfl, hB, h⟩
  · exact .inl ⟨A, rfl, h.below hb⟩
  · exact .inr ⟨g, cap, rfl, hB, h.below hb⟩
end Go.Proofs.Ytnabbebkmafakaa

namespace Go.Proofs.Ytnabbebkmafakaa
set_option maxRecDepth 20000
open Go.RowKit
set_option linter.unusedVariables false
set_option linter.unusedSimpArgs false

theorem own_any (v : Value) (bs : List UInt8) (lo : Nat) (w : World) (h : Row w lo v bs) :
    Calls Try.prog 52 #[v] w fun e w' => (∃ A, e = .returned (.slice A bs.length bs.length) ∧ Row w lo (.slice A bs.length bs.length) bs) ∧ w = w' := by
  rcases h with ⟨rfl, rfl⟩ | ⟨g, off, c, cur, rfl, hg, hh, h1, h2, h3⟩
  · go_enter Try.func52, Try.ntmps52
    go_wp2
    go_ret
    exact ⟨⟨none, rfl, Row.nil _ _⟩, rfl⟩
  · have Hh := Lib.hid hh
    have H3 := Lib.hid h3
    clear hh h3
    unfold maxLen at h2
    go_enter Try.func52, Try.ntmps52
    go_wp2
    go_ret
    exact ⟨⟨_, rfl, .inr ⟨g, off, bs.length, cur, rfl, hg, Hh.out, Nat.le_refl _, by unfold maxLen; omega, H3.out⟩⟩, rfl⟩

/-- A number as its bytes are laid: of one below 0 those of 0. -/
def natI (n : Int) : Nat := n.toNat

theorem step_last {N q : Nat} {pre : List UInt8} (h : digs N = pre ++ digs q) (hq : q < 128) : digs N = pre ++ [UInt8.ofNat q] := by rw [h, digs_small hq]
theorem number_end {w wr w2 : World} {bs pre ds : List UInt8} {x : UInt8} {o : Obj} {g cap : Nat} (hbel : Below w.heap.size w wr) (hs : ds = pre ++ [x]) (hg : w.heap.size ≤ g) (ho : Own w2 g cap (bs ++ pre ++ [x])) (hb : Below w.heap.size (wr.alloc o) w2) :
    (∃ g' cap', (Ending.returned (.slice (some ⟨g, 0, none⟩) (bs.length + pre.length + 1) cap) : Ending) = .returned (.slice (some ⟨g', 0, none⟩) (bs.length + ds.length) cap') ∧ w.heap.size ≤ g' ∧ Own w2 g' cap' (bs ++ ds)) ∧ Below w.heap.size w w2 := by
  refine ⟨⟨g, cap, ?_, hg, ?_⟩, (hbel.alloc hbel.size o).trans hb⟩
  · rw [hs, List.length_append, Nat.add_assoc]; rfl
  · rw [hs, ← List.append_assoc]; exact ho

theorem pow_step {q k : Nat} (h : q < 128 ^ (9 - k)) (hk : k < 9) : q / 128 < 128 ^ (9 - (k + 1)) := by
  rw [Nat.div_lt_iff_lt_mul (by decide), ← Nat.pow_succ, show (9 - (k + 1)).succ = 9 - k by omega]
  exact h
theorem digs_step {N q : Nat} {pre : List UInt8} (h : digs N = pre ++ digs q) (hq : ¬ q < 128) : digs N = (pre ++ [UInt8.ofNat (128 + q % 128)]) ++ digs (q / 128) := by rw [h, digs_great hq]; simp
theorem number_step {w wr w2 : World} {bs pre : List UInt8} {x : UInt8} {o : Obj} {g cap : Nat} (hbel : Below w.heap.size w wr) (hg : w.heap.size ≤ g) (ho : Own w2 g cap (bs ++ pre ++ [x])) (hb : Below w.heap.size (wr.alloc o) w2) :
    Puts w2 w.heap.size (.slice (some ⟨g, 0, none⟩) (bs.length + pre.length + 1) cap) (bs ++ (pre ++ [x])) ∧ Below w.heap.size w w2 := by
  refine ⟨.inr ⟨g, cap, ?_, hg, ?_⟩, (hbel.alloc hbel.size o).trans hb⟩
  · rw [List.length_append, List.length_append, Nat.add_assoc]; rfl
  · rw [← List.append_assoc]; exact ho

set_option maxHeartbeats 1600000 in
theorem number_any (v : Value) (bs : List UInt8) (lo : Nat) (n : Int) (w : World) (h : Row w lo v bs) (hl : bs.length ≤ 1000000) (h0 : -9223372036854775808 ≤ n) (h1 : n ≤ 9223372036854775807) :
    Calls Try.prog 31 #[v, .int .i64 n] w fun e w' => (∃ g cap, e = .returned (.slice (some ⟨g, 0, none⟩) (bs.length + (digs (natI n)).length) cap) ∧ w.heap.size ≤ g ∧ Own w' g cap (bs ++ digs (natI n))) ∧ Below w.heap.size w w' := by
  have hN : ∃ N : Nat, natI n = N ∧ ((max n 0 : Int) = (N : Int)) ∧ N < 128 ^ 9 := ⟨_, rfl, by unfold natI; omega, by unfold natI; omega⟩
  obtain ⟨N, hN1, hN2, hN3⟩ := hN
  rw [hN1]
  have H2 := Lib.hid hN2
  have H := Lib.hid h
  clear hN1 hN2 h
  go_enter Try.func31, Try.ntmps31
  go_wp2_with fail
  refine (own_any v bs lo _ H.out).mono ?_
  rintro e w' ⟨⟨A, rfl, hA⟩, rfl⟩
  have HA := Lib.hid hA
  clear hA
  go_wp2_with fail
  all_goals
    go_loopw [5, 1, 10] (fun o m i wr => ∃ (k q : Nat) (pre : List UInt8), k ≤ 9 ∧ i = .int .i64 (k : Int) ∧ m = .int .i64 (q : Int) ∧ q < 128 ^ (9 - k) ∧ q < 9223372036854775808 ∧ Hid (pre.length = k) ∧ Hid (digs N = pre ++ digs q) ∧ Hid (Puts wr w.heap.size o (bs ++ pre)) ∧ Hid (Below w.heap.size w wr)) (fun _ _ i _ => 9 - (intOf i).toNat)
    case atStart => exact ⟨0, N, [], by omega, rfl, by have := H2.out; first | exact congrArg (Value.int .i64) (show (0 : Int) = (N : Int) by omega) | exact congrArg (Value.int .i64) (show n = (N : Int) by omega), hN3, Nat.lt_of_lt_of_le hN3 (by decide), Lib.hid rfl, Lib.hid rfl, Lib.hid (.inl ⟨A, by simp, by simpa using HA.out.mono (Nat.zero_le _)⟩), Lib.hid (Below.refl _ _)⟩
    case round =>
      obtain ⟨k, q, pre, hk, rfl, rfl, hq, hq2, hp, hd, hput, hbel⟩ := hrel
      have hq3 : k < 9 ∨ q < 128 := by
        rcases Nat.lt_or_ge k 9 with h | h
        · exact .inl h
        · obtain rfl : k = 9 := by omega
          right
          simp at hq
          omega
      by_cases hq1 : q < 128
      · have Hs := Lib.hid (step_last hd.out hq1)
        have Hc : (((UInt8.ofNat q).toNat : Nat) : Int) = (q : Int) := by rw [toNat_ofNat (by omega)]
        have HC := Lib.hid Hc
        clear Hc
        have Hl : (bs ++ pre).length + 1 ≤ 1099511627776 := by rw [List.length_append, hp.out]; omega
        have q2 : decide ((q : Int) < 128) = true := by simp; omega
        by_cases hk9 : k < 9
        · have q1 : decide ((k : Int) < 9) = true := by simp; omega
          go_wp2_with (at_builtin; refine wpList_puts rfl (.tmp 24) (.tmp 27) _ rfl rfl (hput.out.alloc _) (by have := hbel.out.size; simp; omega) (.slice (some ⟨wr.heap.size, 0, none⟩) 1 1) 1 [UInt8.ofNat q] rfl rfl (Src.ofLit wr _ _ HC.out _ rfl) (.inl (by decide)) Hl ?_; rintro g cap w2 hg ho hb)
          go_ret
          exact number_end hbel.out Hs.out hg ho hb
        · have q1 : decide ((k : Int) < 9) = false := by simp; omega
          go_wp2_with (at_builtin; refine wpList_puts rfl (.tmp 24) (.tmp 27) _ rfl rfl (hput.out.alloc _) (by have := hbel.out.size; simp; omega) (.slice (some ⟨wr.heap.size, 0, none⟩) 1 1) 1 [UInt8.ofNat q] rfl rfl (Src.ofLit wr _ _ HC.out _ rfl) (.inl (by decide)) Hl ?_; rintro g cap w2 hg ho hb)
          go_ret
          exact number_end hbel.out Hs.out hg ho hb
      · have q1 : decide ((k : Int) < 9) = true := by simp; omega
        have q2 : decide ((q : Int) < 128) = false := by simp; omega
        have HC := Lib.hid (show (((UInt8.ofNat (128 + q % 128)).toNat : Nat) : Int) = 128 + (q : Int) % 128 by rw [toNat_ofNat (by omega)]; omega)
        go_wp2_with (at_builtin; refine wpList_puts rfl (.tmp 14) (.tmp 19) _ rfl rfl (hput.out.alloc _) (by have := hbel.out.size; simp; omega) (.slice (some ⟨wr.heap.size, 0, none⟩) 1 1) 1 [UInt8.ofNat (128 + q % 128)] rfl rfl (Src.ofLit wr _ _ HC.out _ rfl) (.inl (by decide)) (by rw [List.length_append, hp.out]; omega) ?_; rintro g cap w2 hg ho hb)
        have hk9 : k < 9 := by omega
        obtain ⟨e1, e2⟩ := number_step hbel.out hg ho hb
        refine ⟨⟨k + 1, q / 128, pre ++ [UInt8.ofNat (128 + q % 128)], by omega, by go_num, ?_, pow_step hq hk9, by omega, Lib.hid (by rw [List.length_append, hp.out]; rfl), Lib.hid (digs_step hd.out hq1), Lib.hid e1, Lib.hid e2⟩, ?_⟩
        · first | rfl | go_num
        · simp [intOf]; omega
end Go.Proofs.Ytnabbebkmafakaa

namespace Go.Proofs.Ytnabbebkmafakaa
set_option maxRecDepth 20000
open Go.RowKit
set_option linter.unusedVariables false
set_option linter.unusedSimpArgs false

/-- A call has made these bytes, in new memory, and nothing that was there has turned. -/
def PutPost (w : World) (bs : List UInt8) (e : Ending) (w' : World) : Prop := (∃ g cap, e = .returned (.slice (some ⟨g, 0, none⟩) bs.length cap) ∧ w.heap.size ≤ g ∧ Own w' g cap bs) ∧ Below w.heap.size w w'
theorem own_cast {w : World} {g cap : Nat} {a b : List UInt8} (h : Own w g cap a) (e : a = b) : Own w g cap b := e ▸ h

theorem number_put (v : Value) (bs : List UInt8) (lo : Nat) (n : Int) (w : World) (h : Row w lo v bs) (hl : bs.length ≤ 1000000) (h0 : -9223372036854775808 ≤ n) (h1 : n ≤ 9223372036854775807) :
    Calls Try.prog 31 #[v, .int .i64 n] w (PutPost w (bs ++ digs (natI n))) :=
  (number_any v bs lo n w h hl h0 h1).mono fun e w' ⟨⟨g, cap, he, hg, ho⟩, hb⟩ => ⟨⟨g, cap, by rw [he, List.length_append], hg, ho⟩, hb⟩

/-- A text's bytes. -/
def textB (s : ByteArray) : List UInt8 := digs s.size ++ s.data.toList
theorem textB_len (s : ByteArray) : (textB s).length = (digs s.size).length + s.size := by unfold textB; rw [List.length_append, Array.length_toList]; rfl
theorem len_digs (n : Nat) (h : n < 128 ^ 9) : (digs n).length ≤ 9 := digs_len 8 n h

set_option maxHeartbeats 800000 in
theorem text_put (v : Value) (bs : List UInt8) (lo : Nat) (s : ByteArray) (w : World) (h : Row w lo v bs) (hl : bs.length ≤ 1000000) (hs : s.size ≤ 1000000) :
    Calls Try.prog 30 #[v, .string s] w (PutPost w (bs ++ textB s)) := by
  have hd := len_digs s.size (Nat.lt_of_le_of_lt hs (by decide))
  obtain ⟨xs, hx⟩ : ∃ xs, xs = bs ++ digs s.size := ⟨_, rfl⟩
  have hxl : xs.length ≤ 1000009 := by rw [hx, List.length_append]; omega
  have Hx := Lib.hid hx
  have H := Lib.hid h
  have Hn := Lib.hid (number_put v bs lo (s.size : Int) w h hl (by omega) (by omega))
  clear hx h hd
  go_enter Try.func30, Try.ntmps30
  go_wp2_with fail
  refine Hn.out.mono ?_
  rintro e w1 ⟨⟨g, cap, rfl, hg, ho⟩, hb⟩
  rw [show natI (s.size : Int) = s.size from rfl, ← Hx.out] at ho ⊢
  have Ho := Lib.hid ho
  have Hb := Lib.hid hb
  clear ho hb Hn
  go_wp2_with (at_builtin; refine wpList_puts rfl (.tmp 8) (.tmp 9) _ rfl rfl (.inr ⟨g, cap, rfl, hg, Ho.out⟩) Hb.out.size (.string s) s.size s.data.toList rfl (by rw [Array.length_toList]; rfl) (Src.ofString _ Try.underlying9 s) (.inr ⟨g, cap, rfl, hg, Ho.out⟩) (by omega) ?_; rintro g2 cap2 w2 hg2 ho2 hb2)
  go_ret
  refine ⟨⟨g2, cap2, ?_, hg2, own_cast ho2 ?_⟩, Hb.out.trans hb2⟩
  · rw [List.length_append, textB_len, Hx.out, List.length_append, Nat.add_assoc]; rfl
  · rw [Hx.out]; unfold textB; rw [List.append_assoc]

/-- A flag's byte. -/
def flagB (is : Bool) : List UInt8 := [if is then 1 else 0]

set_option maxHeartbeats 800000 in
theorem flag_put (v : Value) (bs : List UInt8) (lo : Nat) (is : Bool) (w : World) (h : Row w lo v bs) (hl : bs.length ≤ 1000000) :
    Calls Try.prog 29 #[v, .bool is] w (PutPost w (bs ++ flagB is)) := by
  have H := Lib.hid h
  clear h
  cases is
  · go_enter Try.func29, Try.ntmps29
    go_wp2_with fail
    refine (own_any v bs lo _ H.out).mono ?_
    rintro e w' ⟨⟨A, rfl, hA⟩, rfl⟩
    have HP : Hid (Puts w w.heap.size (.slice A bs.length bs.length) bs) := Lib.hid (.inl ⟨A, rfl, hA.mono (Nat.zero_le _)⟩)
    clear hA
    go_wp2_with (at_builtin; refine wpList_puts rfl (.tmp 11) (.tmp 12) _ rfl rfl (HP.out.alloc _) (by simp) (.slice (some ⟨w.heap.size, 0, none⟩) 1 1) 1 [0] rfl rfl (Src.ofLit w 0 0 rfl _ rfl) (.inl (by decide)) (by omega) ?_; rintro g2 cap2 w2 hg2 ho2 hb2)
    go_ret
    exact ⟨⟨g2, cap2, by rw [List.length_append]; rfl, hg2, ho2⟩, ((Below.refl _ w).alloc (Nat.le_refl _) _).trans hb2⟩
  · go_enter Try.func29, Try.ntmps29
    go_wp2_with fail
    refine (own_any v bs lo _ H.out).mono ?_
    rintro e w' ⟨⟨A, rfl, hA⟩, rfl⟩
    have HP : Hid (Puts w w.heap.size (.slice A bs.length bs.length) bs) := Lib.hid (.inl ⟨A, rfl, hA.mono (Nat.zero_le _)⟩)
    clear hA
    go_wp2_with (at_builtin; refine wpList_puts rfl (.tmp 7) (.tmp 8) _ rfl rfl (HP.out.alloc _) (by simp) (.slice (some ⟨w.heap.size, 0, none⟩) 1 1) 1 [1] rfl rfl (Src.ofLit w 1 1 rfl _ rfl) (.inl (by decide)) (by omega) ?_; rintro g2 cap2 w2 hg2 ho2 hb2)
    go_ret
    exact ⟨⟨g2, cap2, by rw [List.length_append]; rfl, hg2, ho2⟩, ((Below.refl _ w).alloc (Nat.le_refl _) _).trans hb2⟩

theorem eql_nil (A : Option Addr) (n c : Nat) (w : World) : (binOp .eql 29 (.slice A n c) (.slice none 0 0)).run Try.prog w = .ok (.bool A.isNone) w := by
  have h : ∀ d : Nat, (Op.equalIn (d + 1) 29 (.slice A n c) (.slice none 0 0)).run Try.prog w = .ok A.isNone w := fun d => by
    cases A <;> simp [Op.equalIn, run_underlying Try.underlying29]
  simp only [binOp]
  simp [Op.equal, Op.maxDepth, h 9999]

/-- A copy. -/
theorem cloneB_any (v : Value) (bs : List UInt8) (lo : Nat) (w : World) (h : Row w lo v bs) (hl : bs.length ≤ 1000000) :
    Calls Try.prog 79 #[v] w fun e w' => (∃ v', e = .returned v' ∧ Row w' w.heap.size v' bs) ∧ Below w.heap.size w w' := by
  have H := Lib.hid h
  rcases h with ⟨rfl, rfl⟩ | ⟨g, off, c, cur, rfl, hg, hh, h1, h2, h3⟩
  · have hn := eql_nil none 0 0
    go_enter Try.func79, Try.ntmps79
    go_wp2_with fail
    go_ret
    exact ⟨⟨_, rfl, Row.nil _ _⟩, Below.refl _ _⟩
  · clear hh h3
    have hb0 : Below w.heap.size w (w.alloc (.cells #[] 5)) := (Below.refl _ w).alloc (Nat.le_refl _) _
    have HO : Hid (Own (w.alloc (.cells #[] 5)) w.heap.size 0 []) := Lib.hid ⟨#[], heap_alloc_new w _, Nat.le_refl _, Nat.zero_le _, rfl, rfl⟩
    have HS := Lib.hid (Src.ofRow rfl (H.out.below hb0))
    have HB := Lib.hid hb0
    clear hb0
    have hn := eql_nil (some ⟨g, off, none⟩) bs.length c
    go_enter Try.func79, Try.ntmps79
    go_wp2_with (at_builtin; refine wpList_puts rfl (.tmp 5) (.tmp 6) _ rfl rfl (.inr ⟨w.heap.size, 0, rfl, Nat.le_refl _, HO.out⟩) (by simp) (.slice (some ⟨g, off, none⟩) bs.length c) bs.length bs rfl rfl HS.out (.inr ⟨w.heap.size, 0, rfl, Nat.le_refl _, HO.out⟩) (by simp; omega) ?_; rintro g2 cap2 w2 hg2 ho2 hb2)
    go_ret
    refine ⟨⟨_, rfl, ?_⟩, HB.out.trans hb2⟩
    have := ho2.row hg2
    simpa using this

/-- A reader: the bytes that are left lie from block lo on. -/
def Rd (w : World) (lo g : Nat) (s : St) : Prop := (∃ v, w.heap[g]? = some (.cells #[v, .int .i64 (s.2 : Int)] 91 (0, 0)) ∧ Row w lo v s.1) ∧ Ok s
theorem Rd.below {w w' : World} {lo g : Nat} {s : St} (h : Rd w lo g s) (hb : Below w.heap.size w w') : Rd w' lo g s := by
  obtain ⟨⟨v, hh, hr⟩, ho⟩ := h
  exact ⟨⟨v, (hb.block g (heap_lt hh)).trans hh, hr.below hb⟩, ho⟩

theorem read_any (v : Value) (bs : List UInt8) (lo : Nat) (w : World) (h : Row w lo v bs) (hl : bs.length ≤ 1000000) :
    Calls Try.prog 57 #[v] w fun e w' => (∃ g, e = .returned (.pointer (some ⟨g, 0, none⟩)) ∧ w.heap.size ≤ g ∧ Rd w' w.heap.size g (bs, 0)) ∧ Below w.heap.size w w' := by
  have H := Lib.hid h
  clear h
  go_enter Try.func57, Try.ntmps57
  go_wp2_with fail
  refine (cloneB_any v bs lo _ H.out hl).mono ?_
  rintro e w1 ⟨⟨v1, rfl, hr⟩, hb⟩
  obtain ⟨A1, c1, rfl, _⟩ := hr.shape
  have HR := Lib.hid hr
  have HB := Lib.hid hb
  clear hr hb
  go_wp2_with fail
  go_ret
  have hb2 : Below w1.heap.size w1 (w1.alloc (.cells #[.slice A1 bs.length c1, .int .i64 0] 91)) := (Below.refl _ w1).alloc (Nat.le_refl _) _
  exact ⟨⟨w1.heap.size, rfl, HB.out.size, ⟨_, heap_alloc_new w1 _, HR.out.below hb2⟩, fun he => absurd rfl he⟩, later HB.out hb2⟩
end Go.Proofs.Ytnabbebkmafakaa

namespace Go.Proofs.Ytnabbebkmafakaa
set_option maxRecDepth 20000
open Go.RowKit
set_option linter.unusedVariables false
set_option linter.unusedSimpArgs false

/-- A row of bytes as it is handed in. -/
def ArgB (w : World) (A : Option Addr) (len cap : Nat) (bs : List UInt8) : Prop :=
  bs.length = len ∧ len ≤ cap ∧ cap ≤ maxLen ∧ (A = none → cap = 0) ∧ ∀ ad, A = some ad → ∀ j x, bs[j]? = some x → w.cell? (ad.add j) = some (bV x)
theorem ArgB.below {w w' : World} {A : Option Addr} {len cap : Nat} {bs : List UInt8} (h : ArgB w A len cap bs) (hb : Below w.heap.size w w') : ArgB w' A len cap bs := by
  obtain ⟨h1, h2, h3, h4, h5⟩ := h
  refine ⟨h1, h2, h3, h4, fun ad ha j x hx => ?_⟩
  have h6 := h5 ad ha j x hx
  rw [hb.cell (World.block_lt_of_cell? w _ h6)]
  exact h6

/-- A row of bytes as the proof of a statement is told of it. -/
def RowB (w : World) (a : Option Addr) (len cap : Nat) (zs : List Int) : Prop :=
  (a = none ∧ len = 0 ∧ cap = 0 ∧ zs = []) ∨
  ∃ x, a = some x ∧ len ≤ cap ∧ cap ≤ maxLen ∧ zs.length = cap ∧ (∀ i, i < zs.length → w.cell? (x.add i) = some (.int .u8 (zs.getD i 0))) ∧ ∀ n ∈ zs, (Lit.int .u8 n).wf = true
theorem RowB.arg {w : World} {a : Option Addr} {len cap : Nat} {zs : List Int} (h : RowB w a len cap zs) : ∃ bs, ArgB w a len cap bs := by
  rcases h with ⟨rfl, rfl, rfl, rfl⟩ | ⟨x, rfl, h1, h2, h3, h4, h5⟩
  · exact ⟨[], rfl, Nat.le_refl _, Nat.zero_le _, fun _ => rfl, fun ad ha => by cases ha⟩
  · refine ⟨(zs.take len).map fun n => UInt8.ofNat n.toNat, by simp; omega, h1, h2, (fun h => by cases h), fun ad ha j y hy => ?_⟩
    injection ha with ha
    subst ha
    rw [List.getElem?_map, List.getElem?_take] at hy
    split at hy
    · rename_i hj
      have hjz : j < zs.length := by omega
      rw [List.getElem?_eq_getElem hjz] at hy
      injection hy with hy
      have hm := bounds_u8 (h5 zs[j] (List.getElem_mem _))
      rw [h4 j hjz, List.getD_eq_getElem?_getD, List.getElem?_eq_getElem hjz, ← hy]
      unfold bV
      rw [toNat_ofNat (by omega)]
      congr 2
      simp
      omega
    · cases hy

/-- The first bytes of what came in, as they are appended to nothing. -/
theorem Src.ofArg {w : World} {A : Option Addr} {len cap : Nat} {bs : List UInt8} (h : ArgB w A len cap bs) (k c : Nat) (hk : k ≤ len) : Src Try.prog 1 29 (.slice A k c) k (bVs (bs.take k)) w := by
  obtain ⟨h1, h2, h3, h4, h5⟩ := h
  have hl : (bVs (bs.take k)).length = k * 1 := by rw [bVs_len, List.length_take]; omega
  cases A with
  | none =>
    obtain rfl : k = 0 := by have := h4 rfl; omega
    exact Src.ofNil w Try.underlying29 c
  | some ad =>
    refine Src.ofSlice w Try.underlying29 ad k c _ hl (fun j u hu => ?_) (bVs_one _)
    obtain ⟨x, hx, rfl⟩ := bVs_get hu
    refine h5 ad rfl j x ?_
    rw [List.getElem?_take] at hx
    split at hx
    · exact hx
    · cases hx

theorem run_puts_nothing (w : World) (ty : TypeId) (A : Option Addr) (c : Nat) : (Builtin.append_ #[29, 29] ty #[.slice none 0 0, .slice A 0 c]).run Try.prog w = .ok (.slice none 0 0) w := by
  obtain ⟨i0, hi0, hz0, hz1, hz2⟩ := info_parts byte_info
  cases A with
  | none => simp [Builtin.append_, run_underlying Try.underlying29, sizeOf, typeInfo, hi0, Builtin.lenOf, Builtin.firstCells]
  | some ad => simp [Builtin.append_, run_underlying Try.underlying29, sizeOf, typeInfo, hi0, Builtin.lenOf, Builtin.firstCells, loadCells, loadCellsFrom]

theorem wpList_nothing {w : World} {ops : Array Oper} {rest : List Oper} {o : Oper} {a : Act} {Q : Exit → Act → World → Prop} (hgd : o.guard = none) (s x : Operand)
    (ho : o.op = .call { callee := .builtin .append, args := #[s, x], argTypes := #[29, 29] }) (hv : a.eval s = .slice none 0 0) (A : Option Addr) (c : Nat) (hx : a.eval x = .slice A 0 c)
    (K : wpList Try.prog ops Q rest (a.put o.dst (.slice none 0 0)) w) : wpList Try.prog ops Q (o :: rest) a w := by
  refine wpList_plain hgd fun _ hK => ?_
  unfold Oper.wp execOp
  simp only [ho, resolve, invoke, builtin, Sem.run_bind, Sem.run_pure, Result.andThen_ok, List.map_toArray, List.map_cons, List.map_nil, hv, hx, run_puts_nothing]
  exact hK _ _ K

end Go.Proofs.Ytnabbebkmafakaa
