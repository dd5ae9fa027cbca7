/-
  Rows of bytes in memory: what a slice of bytes reads as, what is appended to it, and what stays as it was.
-/
import Derived.Test.YtimlomflgnnmnaaRows
import Derived.Test.YtimlomflgnnmnaaMA
import Derived.WalkKit
import Derived.WalkSpells
import Derived.WalkLawsBesides
import Derived.Lib.Bytealg
import Derived.Lib.Hide
import Derived.Laws.BytesArg
import Derived.Laws.OwnMore
import Derived.Deep.AppendSrc
import Derived.Deep.AppendLies
import Derived.OneCell
namespace Go.Proofs.Ytimlomflgnnmnaa
set_option maxRecDepth 20000
open Go.RowKit
set_option linter.unusedVariables false
set_option linter.unusedSimpArgs false

/-- A byte, as a cell holds it. -/
def bV (b : UInt8) : Value := .int .u8 (b.toNat : Int)
def bVs (bs : List UInt8) : List Value := bs.map bV
theorem bVs_len (bs : List UInt8) : (bVs bs).length = bs.length := by simp [bVs]
theorem bVs_app (a b : List UInt8) : bVs (a ++ b) = bVs a ++ bVs b := by simp [bVs]
theorem bVs_one (bs : List UInt8) : ∀ u ∈ bVs bs, u.oneCell' = true := by
  intro u hu
  obtain ⟨x, _, rfl⟩ := List.mem_map.1 hu
  rfl
theorem bVs_get {bs : List UInt8} {j : Nat} {u : Value} (h : (bVs bs)[j]? = some u) : ∃ x, bs[j]? = some x ∧ u = bV x := by
  unfold bVs at h
  rw [List.getElem?_map] at h
  cases hx : bs[j]? with
  | none => rw [hx] at h; cases h
  | some x => rw [hx] at h; exact ⟨x, rfl, (Option.some.inj h).symm⟩
/-- A text of bytes. -/
def strOf (bs : List UInt8) : ByteArray := ⟨bs.toArray⟩
theorem strOf_size (bs : List UInt8) : (strOf bs).size = bs.length := by simp [strOf, ByteArray.size]
theorem strOf_app (a b : List UInt8) : strOf a ++ strOf b = strOf (a ++ b) := by
  apply ByteArray.ext
  simp [strOf]
theorem strOf_toList (s : ByteArray) : strOf s.data.toList = s := by cases s; simp [strOf]
theorem strOf_inj {a b : List UInt8} (h : strOf a = strOf b) : a = b := by
  have := congrArg (fun s : ByteArray => s.data.toList) h
  simpa [strOf] using this
theorem byteCells_eq (s : ByteArray) : byteCells s = bVs s.data.toList := rfl

/-- A slice of bytes that reads as a list; nil, or from block lo on. -/
def Row (w : World) (lo : Nat) (v : Value) (bs : List UInt8) : Prop :=
  (v = .slice none 0 0 ∧ bs = []) ∨
  ∃ g off c cur, v = .slice (some ⟨g, off, none⟩) bs.length c ∧ lo ≤ g ∧ w.heap[g]? = some (.cells cur 5 (0, 0)) ∧ bs.length ≤ c ∧ c ≤ maxLen ∧ (cur.toList.drop off).take bs.length = bVs bs

/-- A row that is the call's own, the whole block known. -/
def Own (w : World) (g cap : Nat) (bs : List UInt8) : Prop :=
  ∃ cur, w.heap[g]? = some (.cells cur 5 (0, 0)) ∧ bs.length ≤ cap ∧ cap ≤ maxLen ∧ cur.size = cap ∧ cur.toList.take bs.length = bVs bs

theorem heap_lt {w : World} {g : Nat} {o : Obj} (h : w.heap[g]? = some o) : g < w.heap.size := (Array.getElem?_eq_some_iff.1 h).1

theorem Own.lt {w : World} {g cap : Nat} {bs : List UInt8} (h : Own w g cap bs) : g < w.heap.size := by obtain ⟨cur, hh, _⟩ := h; exact heap_lt hh
theorem Own.row {w : World} {lo g cap : Nat} {bs : List UInt8} (h : Own w g cap bs) (hl : lo ≤ g) : Row w lo (.slice (some ⟨g, 0, none⟩) bs.length cap) bs := by
  obtain ⟨cur, hh, h1, h2, h3, h4⟩ := h
  exact .inr ⟨g, 0, cap, cur, rfl, hl, hh, h1, h2, by simpa using h4⟩
theorem Own.block {w w' : World} {g cap : Nat} {bs : List UInt8} (h : Own w g cap bs) (hb : w'.heap[g]? = w.heap[g]?) : Own w' g cap bs := by
  obtain ⟨cur, hh, r⟩ := h
  exact ⟨cur, hb.trans hh, r⟩
theorem Own.below {w w' : World} {g cap : Nat} {bs : List UInt8} (h : Own w g cap bs) (hb : Below w.heap.size w w') : Own w' g cap bs := h.block (hb.block g h.lt)

theorem Row.nil (w : World) (lo : Nat) : Row w lo (.slice none 0 0) [] := .inl ⟨rfl, rfl⟩
theorem Row.mono {w : World} {lo lo' : Nat} {v : Value} {bs : List UInt8} (h : Row w lo v bs) (hl : lo' ≤ lo) : Row w lo' v bs := by
  rcases h with h | ⟨g, off, c, cur, hv, hg, r⟩
  · exact .inl h
  · exact .inr ⟨g, off, c, cur, hv, by omega, r⟩
theorem Row.keep {w w' : World} {lo : Nat} {v : Value} {bs : List UInt8} (h : Row w lo v bs) (hk : ∀ g cur, lo ≤ g → w.heap[g]? = some (.cells cur 5 (0, 0)) → w'.heap[g]? = w.heap[g]?) : Row w' lo v bs := by
  rcases h with h | ⟨g, off, c, cur, hv, hg, hh, r⟩
  · exact .inl h
  · exact .inr ⟨g, off, c, cur, hv, hg, (hk g cur hg hh).trans hh, r⟩
theorem Row.below {w w' : World} {lo : Nat} {v : Value} {bs : List UInt8} (h : Row w lo v bs) (hb : Below w.heap.size w w') : Row w' lo v bs :=
  h.keep fun g cur _ hh => hb.block g (heap_lt hh)
theorem Row.grown {w w' : World} {lo k : Nat} {v : Value} {bs : List UInt8} (h : Row w lo v bs) (hb : w.grownBy w' (some k)) (hk : ∀ cur, w.heap[k]? ≠ some (.cells cur 5 (0, 0))) : Row w' lo v bs :=
  h.keep fun g cur _ hh => hb.block g (heap_lt hh) (fun e => by injection e with e; subst e; exact hk cur hh)
theorem Row.drew {w : World} {lo : Nat} {v : Value} {bs : List UInt8} (h : Row w lo v bs) : Row w.drew lo v bs := h
theorem Row.shape {w : World} {lo : Nat} {v : Value} {bs : List UInt8} (h : Row w lo v bs) : ∃ A c, v = .slice A bs.length c ∧ bs.length ≤ c ∧ c ≤ maxLen ∧ (A = none → c = 0) := by
  rcases h with ⟨rfl, rfl⟩ | ⟨g, off, c, cur, rfl, _, _, h1, h2, _⟩
  · exact ⟨none, 0, rfl, Nat.le_refl _, Nat.zero_le _, fun _ => rfl⟩
  · exact ⟨_, c, rfl, h1, h2, fun h => by cases h⟩

theorem at_of_take {cur : List Value} {off n : Nat} {xs : List Value} (h : (cur.drop off).take n = xs) {j : Nat} {u : Value} (hu : xs[j]? = some u) : cur[off + j]? = some u := by
  rw [← h, List.getElem?_take] at hu
  split at hu
  · rwa [List.getElem?_drop] at hu
  · cases hu

/-- Its cells. -/
theorem Row.cells {w : World} {lo g off c : Nat} {bs : List UInt8} (h : Row w lo (.slice (some ⟨g, off, none⟩) bs.length c) bs) : ∀ j x, bs[j]? = some x → w.cell? ⟨g, off + j, none⟩ = some (bV x) := by
  intro j x hx
  rcases h with ⟨h, _⟩ | ⟨g', off', c', cur, hv, hg, hh, h1, h2, h3⟩
  · cases h
  · injection hv with ha _ _
    injection ha with ha
    injection ha with e1 e2 _
    subst e1 e2
    rw [cell_of_row w g (off + j) cur 5 (0, 0) hh]
    have : (bVs bs)[j]? = some (bV x) := by unfold bVs; rw [List.getElem?_map, hx]; rfl
    simpa using at_of_take h3 this
theorem Row.addr {w : World} {lo : Nat} {v : Value} {bs : List UInt8} (h : Row w lo v bs) (h0 : 0 < bs.length) : ∃ g off c, v = .slice (some ⟨g, off, none⟩) bs.length c ∧ lo ≤ g ∧ bs.length ≤ c ∧ c ≤ maxLen ∧ ∀ j x, bs[j]? = some x → w.cell? ⟨g, off + j, none⟩ = some (bV x) := by
  have h' := h
  rcases h with ⟨rfl, rfl⟩ | ⟨g, off, c, cur, rfl, hg, hh, h1, h2, h3⟩
  · simp at h0
  · exact ⟨g, off, c, rfl, hg, h1, h2, h'.cells⟩
theorem Own.cells {w : World} {g cap : Nat} {bs : List UInt8} (h : Own w g cap bs) : ∀ j x, bs[j]? = some x → w.cell? ⟨g, j, none⟩ = some (bV x) := by
  intro j x hx
  have := (h.row (lo := 0) (Nat.zero_le _)).cells j x hx
  simpa using this

/-- What string(b) comes to. -/
theorem conv_row {w : World} {lo : Nat} {v : Value} {bs : List UInt8} (h : Row w lo v bs) : (convert 63 9 v).run Try.prog w = .ok (.string (strOf bs)) w := by
  have h' := h
  rcases h with ⟨rfl, rfl⟩ | ⟨g, off, c, cur, rfl, hg, hh, h1, h2, h3⟩
  · exact run_convert_bytes_nil (P := Try.prog) w 63 5 Try.underlying63 Try.underlying5 0 0 9 Try.underlying9
  · have hr := run_convert_bytes_arg (P := Try.prog) w 63 5 Try.underlying63 Try.underlying5 g off bs.length c (bs.map fun b => (b.toNat : Int)) (by simp) (fun i hi => by
      rw [h'.cells i _ (List.getElem?_eq_getElem hi), List.getD_eq_getElem?_getD, List.getElem?_map, List.getElem?_eq_getElem hi]
      rfl) 9 Try.underlying9
    rw [hr]
    congr 2
    apply ByteArray.ext
    simp only [strOfNums, strOf, List.map_map]
    congr 1
    rw [show bs = bs.map id by simp]
    rw [List.map_map]
    apply List.map_congr_left
    intro x _
    simp [Function.comp]

/-- What may be appended to without touching what lies below B: a slice without spare room, or a row of one's own. -/
def Puts (w : World) (B : Nat) (v : Value) (bs : List UInt8) : Prop :=
  (∃ A, v = .slice A bs.length bs.length ∧ Row w 0 (.slice A bs.length bs.length) bs) ∨ ∃ g cap, v = .slice (some ⟨g, 0, none⟩) bs.length cap ∧ B ≤ g ∧ Own w g cap bs

theorem byte_info : (Try.prog.info? 5).map (fun i => (i.zero, i.size, i.bytes)) = some (some (.int .u8 0), 1, 1) := by kernel_rfl

theorem firstCells_row {w : World} {lo : Nat} {A : Option Addr} {n c : Nat} {bs : List UInt8} (hn : bs.length = n) (h : Row w lo (.slice A n c) bs) : (Builtin.firstCells 1 n (.slice A n c)).run Try.prog w = .ok (bVs bs).toArray w := by
  subst hn
  have h' := h
  rcases h with ⟨hv, hb⟩ | ⟨g, off, c', cur, hv, hg, hh, h1, h2, h3⟩
  · injection hv with e1 e2 e3
    subst e1 e3 hb
    exact run_firstCells_none w 1 0 0 0
  · injection hv with e1 e2 e3
    subst e1
    refine run_firstCells_some (P := Try.prog) w 1 _ ⟨g, off, none⟩ _ c (bVs bs) (by rw [bVs_len, Nat.mul_one]) fun j u hu => ?_
    obtain ⟨x, hx, rfl⟩ := bVs_get hu
    rw [Addr.add_lit]
    exact h'.cells j x hx

theorem Src.ofRow {w : World} {lo : Nat} {A : Option Addr} {n c : Nat} {bs : List UInt8} (hn : bs.length = n) (h : Row w lo (.slice A n c) bs) : Src Try.prog 1 63 (.slice A n c) n (bVs bs) w :=
  ⟨.inl ⟨_, Try.underlying63⟩, fun _ => rfl, firstCells_row hn h, firstCells_row (w := w.drew) hn h.drew, by rw [bVs_len]; omega, bVs_one bs⟩

theorem nextcap_le (n c : Nat) (hc : c < n) (hn : n ≤ 1099511627776) : Builtin.nextslicecap n c * 1 ≤ 281474976710656 := growslice_fits hc (by omega)

theorem setCells_far (b k : Nat) (hk : k ≠ b) : ∀ (vs : List Value) (o : Nat) (w : World), (w.setCells b o vs).heap[k]? = w.heap[k]?
  | [], o, w => rfl
  | v :: r, o, w => by rw [World.setCells, setCells_far b k hk r (o + 1), Below.heap_setCell _ _ _ _ hk]
theorem setCells_size (b : Nat) : ∀ (vs : List Value) (o : Nat) (w : World), (w.setCells b o vs).heap.size = w.heap.size ∧ (w.setCells b o vs).os = w.os ∧ (w.setCells b o vs).tape = w.tape ∧ (w.setCells b o vs).output = w.output
  | [], o, w => ⟨rfl, rfl, rfl, rfl⟩
  | v :: r, o, w => by
    rw [World.setCells]
    have := setCells_size b r (o + 1) (w.setCell ⟨b, o, none⟩ v)
    exact ⟨this.1.trans (by simp [World.setCell]), this.2.1, this.2.2.1, this.2.2.2⟩
theorem setCells_row (b : Nat) (ty : TypeId) : ∀ (vs : List Value) (o : Nat) (w : World) (cur : Array Value), w.heap[b]? = some (.cells cur ty (0, 0)) → o + vs.length ≤ cur.size →
    ∃ cur', (w.setCells b o vs).heap[b]? = some (.cells cur' ty (0, 0)) ∧ cur'.size = cur.size ∧ cur'.toList.take (o + vs.length) = cur.toList.take o ++ vs
  | [], o, w, cur, h, _ => ⟨cur, h, rfl, by simp⟩
  | v :: r, o, w, cur, h, hl => by
    rw [World.setCells]
    have hh : (w.setCell ⟨b, o, none⟩ v).heap[b]? = some (.cells (cur.setIfInBounds o v) ty (0, 0)) := by simp [World.setCell, Array.getElem?_modify, h]
    obtain ⟨cur', h1, h2, h3⟩ := setCells_row b ty r (o + 1) _ _ hh (by simp at hl ⊢; omega)
    refine ⟨cur', h1, by simpa using h2, ?_⟩
    rw [show o + (v :: r).length = o + 1 + r.length by simp; omega, h3, Array.toList_setIfInBounds]
    simp at hl
    rw [List.take_add_one, List.take_set, List.getElem?_set]
    simp [show o < cur.size by omega]
    exact List.set_eq_of_length_le (by simp; omega)

/-- append, of whatever source: what comes is one's own, and nothing below B has turned. -/
theorem run_puts {w : World} {B : Nat} {v : Value} {bs : List UInt8} (ty tx : TypeId) (h : Puts w B v bs) (hB : B ≤ w.heap.size) (x : Value) (n : Nat) (news : List UInt8) (hn : news.length = n) (hs : Src Try.prog 1 tx x n (bVs news) w)
    (h0 : 0 < n ∨ ∃ g cap, v = .slice (some ⟨g, 0, none⟩) bs.length cap ∧ B ≤ g ∧ Own w g cap bs) (hm : bs.length + n ≤ 1099511627776) :
    ∃ g cap w', (Builtin.append_ #[63, tx] ty #[v, x]).run Try.prog w = .ok (.slice (some ⟨g, 0, none⟩) (bs.length + n) cap) w' ∧ B ≤ g ∧ Own w' g cap (bs ++ news) ∧ Below B w w' := by
  obtain ⟨i0, hi0, hz0, hz1, hz2⟩ := info_parts byte_info
  have hs' : Src Try.prog i0.size tx x n (bVs news) w := by rw [hz1]; exact hs
  have hml : (bs ++ news).length = bs.length + n := by rw [List.length_append, hn]
  -- the arm that grows
  have grow : ∀ (A : Option Addr) (c : Nat), c < bs.length + n → (Builtin.firstCells i0.size bs.length (.slice A bs.length c)).run Try.prog w.drew = .ok (bVs bs).toArray w.drew →
      ∃ g cap w', (Builtin.append_ #[63, tx] ty #[.slice A bs.length c, x]).run Try.prog w = .ok (.slice (some ⟨g, 0, none⟩) (bs.length + n) cap) w' ∧ B ≤ g ∧ Own w' g cap (bs ++ news) ∧ Below B w w' := by
    intro A c hc hf
    have hr := run_append_grow_src (P := Try.prog) w 63 tx ty 5 i0 _ Try.underlying63 hi0 hz0 A bs.length c (bVs bs) hf x n (bVs news) hs' hc (by omega) (by rw [hz2]; exact nextcap_le _ _ hc hm)
    have hge := grownCap_ge w (bs.length + n) c 5
    have hcm : grownCap w (bs.length + n) c 5 ≤ maxLen := grownCap_le_maxLen w (bs.length + n) c 5 (by unfold maxLen; omega)
    refine ⟨_, _, _, hr, hB, ⟨_, heap_alloc_new w.drew _, by rw [hml]; exact hge, hcm, ?_, ?_⟩, ((Below.refl B w).drew).alloc (by simpa using hB) _⟩
    · simp only [Array.size_append, List.size_toArray, size_zeroCells, List.length_append, bVs_len, hn, Value.cells]
      simp
      omega
    · rw [hml, bVs_app]
      simp only [Array.toList_append]
      rw [show bs.length + n = (bVs bs ++ bVs news).length by rw [List.length_append, bVs_len, bVs_len, hn]]
      exact List.take_left
  have h' : (0 < n ∧ ∃ A, v = .slice A bs.length bs.length ∧ Row w 0 (.slice A bs.length bs.length) bs) ∨ ∃ g cap, v = .slice (some ⟨g, 0, none⟩) bs.length cap ∧ B ≤ g ∧ Own w g cap bs := by
    rcases h with h | h
    · rcases h0 with h0 | h0
      · exact .inl ⟨h0, h⟩
      · exact .inr h0
    · exact .inr h
  rcases h' with ⟨h0, A, rfl, hrow⟩ | ⟨g, cap, rfl, hBg, cur, hh, h1, h2, h3, h4⟩
  · exact grow A _ (by omega) (by rw [hz1]; exact firstCells_row (w := w.drew) rfl hrow.drew)
  · by_cases hroom : bs.length + n ≤ cap
    · have hlen : (bVs news).length = n := by rw [bVs_len, hn]
      have hr := run_append_room_src (P := Try.prog) w 63 tx ty 5 i0 Try.underlying63 hi0 g 0 bs.length cap x n (bVs news) hs' hroom
        (fun j hj => by
          rw [hz1, cell_of_row w g _ cur 5 (0, 0) hh, Array.getElem?_eq_getElem (by omega)]
          rfl)
        (fun j hj => by simp [World.frozen?, hh])
      rw [hz1] at hr
      obtain ⟨cur', r1, r2, r3⟩ := setCells_row g 5 (bVs news) (0 + bs.length * 1) w cur hh (by rw [hlen]; omega)
      obtain ⟨z1, z2, z3, z4⟩ := setCells_size g (bVs news) (0 + bs.length * 1) w
      refine ⟨g, cap, _, hr, hBg, ⟨cur', r1, by omega, h2, r2.trans h3, ?_⟩, ⟨z2, z3, z4, by omega, fun k hk => setCells_far g k (by omega) _ _ _⟩⟩
      rw [hml, bVs_app, ← h4]
      rw [hlen] at r3
      simpa using r3
    · refine grow _ _ (by omega) ?_
      rw [hz1]
      exact firstCells_row (w := w.drew) rfl ((Own.row (lo := 0) ⟨cur, hh, h1, h2, h3, h4⟩ (Nat.zero_le _)).drew)

/-- The same, for a walk. -/
theorem wpList_putsY {w : World} {ops : Array Oper} {rest : List Oper} {o : Oper} {a : Act} {Q : Exit → Act → World → Prop} (hgd : o.guard = none) (s x : Operand) (tx : TypeId)
    (ho : o.op = .call { callee := .builtin .append, args := #[s, x], argTypes := #[63, tx] }) {B : Nat} {v : Value} {bs : List UInt8} (hv : a.eval s = v) (h : Puts w B v bs) (hB : B ≤ w.heap.size)
    (xv : Value) (n : Nat) (news : List UInt8) (hx : a.eval x = xv) (hn : news.length = n) (hs : Src Try.prog 1 tx xv n (bVs news) w)
    (h0 : 0 < n ∨ ∃ g cap, v = .slice (some ⟨g, 0, none⟩) bs.length cap ∧ B ≤ g ∧ Own w g cap bs) (hm : bs.length + n ≤ 1099511627776)
    (K : ∀ g cap w', B ≤ g → Own w' g cap (bs ++ news) → Below B w w' → wpList Try.prog ops Q rest (a.put o.dst (.slice (some ⟨g, 0, none⟩) (bs.length + n) cap)) w') : wpList Try.prog ops Q (o :: rest) a w := by
  obtain ⟨g, cap, w', hr, h1, h2, h3⟩ := run_puts o.type tx h hB xv n news hn hs h0 hm
  refine wpList_plain hgd fun _ hK => ?_
  unfold Oper.wp execOp
  simp only [ho, resolve, invoke, builtin, Sem.run_bind, Sem.run_pure, Result.andThen_ok, List.map_toArray, List.map_cons, List.map_nil, hv, hx, hr]
  exact hK _ _ (K g cap w' h1 h2 h3)

/-- What a call has made: nil, or a row of its own from block B on. -/
def MadeB (w : World) (B : Nat) (v : Value) (bs : List UInt8) : Prop := (v = .slice none 0 0 ∧ bs = []) ∨ ∃ g cap, v = .slice (some ⟨g, 0, none⟩) bs.length cap ∧ B ≤ g ∧ Own w g cap bs
theorem MadeB.row {w : World} {B : Nat} {v : Value} {bs : List UInt8} (h : MadeB w B v bs) : Row w B v bs := by
  rcases h with h | ⟨g, cap, rfl, hB, h⟩
  · exact .inl h
  · exact h.row hB
theorem MadeB.below {w w' : World} {B : Nat} {v : Value} {bs : List UInt8} (h : MadeB w B v bs) (hb : Below w.heap.size w w') : MadeB w' B v bs := by
  rcases h with h | ⟨g, cap, rfl, hB, h⟩
  · exact .inl h
  · exact .inr ⟨g, cap, rfl, hB, h.below hb⟩
theorem later {w a b : World} (h : Below w.heap.size w a) (k : Below a.heap.size a b) : Below w.heap.size w b := h.trans (k.mono h.size)
theorem below_drewN {B : Nat} {a w : World} (h : Below B a w) (n : Nat) : Below B a (w.drewN n) := ⟨h.os, h.tape, h.output, h.size, h.block⟩
/-- A byte that is laid alone. -/
theorem Src.ofLit (w : World) (x : UInt8) (c : Int) (hc : (x.toNat : Int) = c) (B : Nat) (hB : B = w.heap.size) : Src Try.prog 1 63 (.slice (some ⟨B, 0, none⟩) 1 1) 1 (bVs [x]) (w.alloc (.cells #[.int .u8 c] 5)) := by
  subst hc hB
  refine Src.ofSlice _ Try.underlying63 ⟨w.heap.size, 0, none⟩ 1 1 (bVs [x]) rfl (fun j u hu => ?_) (bVs_one _)
  obtain ⟨y, hy, rfl⟩ := bVs_get hu
  cases j with
  | zero =>
    injection hy with hy
    subst hy
    rw [Addr.add_lit]
    simp [bV]
  | succ j => cases hy
theorem Puts.alloc {w : World} {B : Nat} {v : Value} {bs : List UInt8} (h : Puts w B v bs) (o : Obj) : Puts (w.alloc o) B v bs := by
  have hb : Below w.heap.size w (w.alloc o) := (Below.refl _ w).alloc (Nat.le_refl _) o
  rcases h with ⟨A, rfl, h⟩ | ⟨g, cap, rfl, hB, h⟩
  · exact .inl ⟨A, rfl, h.below hb⟩
  · exact .inr ⟨g, cap, rfl, hB, h.below hb⟩
end Go.Proofs.Ytimlomflgnnmnaa
