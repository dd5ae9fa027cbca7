/-
  A dag of the code in memory: its struct, its map of nodes by their events' IDs, each node's row of parents.
-/
import Derived.Test.YtjiecjpepiknmaaGreatDgB
import Derived.Test.YtjiecjpepiknmaaGreatDagC
import Derived.Maps.OwnSet
import Derived.Maps.Range
namespace Go.Proofs.YtjiecjpepiknmaaGreat
set_option maxRecDepth 20000
open Go.RowKit Go.Maps Go.ChangeMaps
set_option linter.unusedVariables false
set_option linter.unusedSimpArgs false

/-- A node: an event, and how deep it stands. -/
structure NdV where
  x : EvV
  d : Nat
def NdV.cells (n : NdV) : List Value := [.string n.x.ev.id, .string n.x.ev.room, n.x.pv, .string n.x.ev.thread, .string n.x.ev.user, .int .i64 n.x.ev.does, .int .i64 (n.d : Int)]
def NdV.val (n : NdV) : Value := .agg #[.string n.x.ev.id, .string n.x.ev.room, n.x.pv, .string n.x.ev.thread, .string n.x.ev.user, .int .i64 n.x.ev.does, .int .i64 (n.d : Int)]
def zeroN : Value := .agg #[.string ⟨#[]⟩, .string ⟨#[]⟩, .slice none 0 0, .string ⟨#[]⟩, .string ⟨#[]⟩, .int .i64 0, .int .i64 0]
abbrev nevs (ns : List NdV) : List Ev := ns.map (fun n => n.x.ev)
abbrev Dv := DataW Value
def heldR (v : Value) : Option (Dv × List MemPlace) := some (.held v, [])
def kl (k : ByteArray) : Lit := .string k.data.toList
theorem kl_inj {a b : ByteArray} (h : kl a = kl b) : a = b := by
  unfold kl at h
  injection h with h
  exact (key_eq a b).2 h
theorem kl_key (k : ByteArray) : WideAt.IsKeyLit (kl k) := by simp [kl, WideAt.IsKeyLit]
def NdV.entry (n : NdV) : Lit × Dv := (kl n.x.ev.id, .held n.val)
/-- The map says: these nodes. -/
def NdM (D : Dv) (ns : List NdV) : Prop := ∃ es, D = .map es ∧ es.Perm (ns.map NdV.entry)
abbrev OwnN (w : World) (mb n : Nat) (D : Dv) : Prop := w.ownsMap Tryz.prog 9 heldR mb n D
theorem keyed : Maps.Keyed Tryz.prog 9 := Maps.string_keyed Tryz.underlying9
theorem keyIs {k : ByteArray} (h : k.size ≤ maxLen) : keyOf Tryz.prog 9 (.string k) = some (kl k) := WideMaps.keyOf_string_mk Tryz.underlying9 h
theorem zeroIs (w : World) : (zeroValue 109).run Tryz.prog w = .ok zeroN w := by kernel_rfl
theorem OwnN.keep {w w' : World} {mb n : Nat} {D : Dv} (h : OwnN w mb n D) (hb : w'.heap[mb]? = w.heap[mb]?) : OwnN w' mb n D := by
  obtain ⟨xs, clock, hb', h'⟩ := h
  exact ⟨xs, clock, hb.trans hb', h'⟩
theorem OwnN.same {w : World} {mb n n' : Nat} {D D' : Dv} (h : OwnN w mb n D) (h' : OwnN w mb n' D') : D = D' := by
  obtain ⟨xs, clock, hb, _, _, rfl⟩ := h
  obtain ⟨ys, clock', hb', _, _, rfl⟩ := h'
  rw [hb] at hb'
  injection hb' with hb'
  injection hb' with h1 h2
  rw [h1]
theorem OwnN.lt {w : World} {mb n : Nat} {D : Dv} (h : OwnN w mb n D) : mb < w.heap.size := World.ownsMap.lt h
/-- IDs are there once. -/
theorem valid_nodup {room : ByteArray} {l : List Ev} (h : Valid room l) : (l.map Ev.id).Nodup := by
  rw [List.nodup_iff_pairwise_ne, List.pairwise_iff_getElem]
  intro i j hi hj hij
  rw [List.length_map] at hi hj
  rw [List.getElem_map, List.getElem_map]
  intro he
  have h1 := (err_zero (h j l[j] (List.getElem?_eq_getElem hj))).2.2.1
  have h2 : hasE (l.take j) l[j].id = true := has_iff.2 ⟨l[i], by
    rw [List.mem_take_iff_getElem]
    exact ⟨i, by omega, rfl⟩, he⟩
  rw [h2] at h1
  cases h1
theorem entries_apart {ns : List NdV} {es : List (Lit × Dv)} (hp : es.Perm (ns.map NdV.entry)) (hn : ((nevs ns).map Ev.id).Nodup) : es.Pairwise (fun p q => p.1 ≠ q.1) := by
  have h1 : (ns.map NdV.entry).Pairwise (fun p q => p.1 ≠ q.1) := by
    rw [List.pairwise_map]
    rw [List.nodup_iff_pairwise_ne, List.map_map, List.pairwise_map] at hn
    exact hn.imp (fun h e => h (kl_inj e))
  exact (hp.pairwise_iff (fun h e => h e.symm)).2 h1
theorem NdM.has {D : Dv} {ns : List NdV} (h : NdM D ns) (k : ByteArray) : Maps.has D (kl k) = hasE (nevs ns) k := by
  obtain ⟨es, rfl, hp⟩ := h
  rw [Bool.eq_iff_iff, has_iff, Maps.has_eq, List.any_eq_true]
  constructor
  · rintro ⟨p, hm, hk⟩
    obtain ⟨n, hn, rfl⟩ := List.mem_map.1 (hp.mem_iff.1 hm)
    refine ⟨n.x.ev, List.mem_map.2 ⟨n, hn, rfl⟩, ?_⟩
    simp only [NdV.entry, kl, Lit.sameKey, beq_iff_eq] at hk
    exact (key_eq _ _).2 hk
  · rintro ⟨e, hm, rfl⟩
    obtain ⟨n, hn, rfl⟩ := List.mem_map.1 hm
    exact ⟨n.entry, hp.mem_iff.2 (List.mem_map.2 ⟨n, hn, rfl⟩), WideAt.sameKey_self (kl_key _)⟩
theorem NdM.at_ {D : Dv} {ns : List NdV} (h : NdM D ns) (hn : ((nevs ns).map Ev.id).Nodup) {n : NdV} (hm : n ∈ ns) (zd : Dv) : D.atKey (kl n.x.ev.id) zd = .held n.val := by
  obtain ⟨es, rfl, hp⟩ := h
  exact WideAt.atKey_mem zd (kl_key _) (entries_apart hp hn) (hp.mem_iff.2 (List.mem_map.2 ⟨n, hm, rfl⟩))
theorem NdM.put {D : Dv} {ns : List NdV} (h : NdM D ns) (n : NdV) (hno : hasE (nevs ns) n.x.ev.id = false) : NdM (D.put (kl n.x.ev.id) (.held n.val)) (ns ++ [n]) := by
  have hh := h.has n.x.ev.id
  obtain ⟨es, rfl, hp⟩ := h
  refine ⟨_, DataW.put_eq _ _ _, ?_⟩
  unfold putKey
  refine (WideShapes.insert_perm _ _).trans ?_
  have hf : es.filter (notKey (kl n.x.ev.id)) = es := by
    rw [List.filter_eq_self]
    intro p hm
    unfold notKey
    rw [hno, Maps.has_eq, List.any_eq_false] at hh
    have := hh p hm
    simpa using this
  rw [hf, List.map_append]
  exact (List.Perm.cons _ hp).trans (List.perm_append_comm (l₁ := [n.entry]))
theorem NdM.nil : NdM (.map []) [] := ⟨[], rfl, List.Perm.refl _⟩
theorem NdM.mem {D : Dv} {ns : List NdV} (h : NdM D ns) {es : List (Lit × Dv)} (hD : D = .map es) (p : Lit × Dv) : p ∈ es ↔ ∃ n ∈ ns, p = n.entry := by
  obtain ⟨es', rfl, hp⟩ := h
  injection hD with hD
  subst hD
  rw [hp.mem_iff, List.mem_map]
  exact ⟨fun ⟨n, h1, h2⟩ => ⟨n, h1, h2.symm⟩, fun ⟨n, h1, h2⟩ => ⟨n, h1, h2.symm⟩⟩

structure DgS (w : World) (g : Nat) (room : ByteArray) (mb : Nat) (ns : List NdV) (D : Dv) : Prop where
  hd : w.heap[g]? = some (.cells #[.string room, .map (some mb)] 105 (0, 0))
  map : OwnN w mb ns.length D
  is : NdM D ns
  par : ∀ n ∈ ns, LT.Mine w 0 n.x.pv n.x.ev.parents
  dep : ns.map NdV.d = deps (nevs ns)
  val : Valid room (nevs ns)
  rs : room.size ≤ 40
def blkV : Value → Option Nat
  | .agg cs => match cs[2]? with
    | some pv => pv.ownBlock
    | none => none
  | _ => none
def blkD : Dv → Option Nat
  | .held v => blkV v
  | _ => none
theorem blk_entry (n : NdV) : blkD n.entry.2 = n.x.pv.ownBlock := rfl
/-- A dag's blocks. -/
def ownC (w : World) (g k : Nat) : Prop := ∃ room mb n D, w.heap[g]? = some (.cells #[.string room, .map (some mb)] 105 (0, 0)) ∧ OwnN w mb n D ∧ (k = g ∨ k = mb ∨ ∃ es, D = .map es ∧ ∃ p ∈ es, blkD p.2 = some k)
section
variable {w w' : World} {g mb : Nat} {room : ByteArray} {ns : List NdV} {D : Dv}
theorem DgS.own (h : DgS w g room mb ns D) (k : Nat) : ownC w g k ↔ (k = g ∨ k = mb ∨ ∃ n ∈ ns, n.x.pv.ownBlock = some k) := by
  constructor
  · rintro ⟨room', mb', n', D', h1, h2, h3⟩
    rw [h.hd] at h1
    injection h1 with h1
    injection h1 with h1
    have e1 := congrArg (fun a : Array Value => a[1]?) h1
    simp only [List.getElem?_toArray, List.getElem?_cons_succ, List.getElem?_cons_zero, Option.some.injEq, Value.map.injEq] at e1
    subst e1
    have e2 := h.map.same h2
    subst e2
    rcases h3 with h3 | h3 | ⟨es, hD, p, hp, hk⟩
    · exact .inl h3
    · exact .inr (.inl h3)
    · obtain ⟨n, hn, rfl⟩ := (h.is.mem hD p).1 hp
      exact .inr (.inr ⟨n, hn, hk⟩)
  · rintro (h3 | h3 | ⟨n, hn, hk⟩)
    · exact ⟨_, _, _, _, h.hd, h.map, .inl h3⟩
    · exact ⟨_, _, _, _, h.hd, h.map, .inr (.inl h3)⟩
    · obtain ⟨es, hD, hp⟩ := id h.is
      exact ⟨_, _, _, _, h.hd, h.map, .inr (.inr ⟨es, hD, n.entry, (h.is.mem hD _).2 ⟨n, hn, rfl⟩, hk⟩)⟩
theorem DgS.old (h : DgS w g room mb ns D) {k : Nat} (ho : ownC w g k) : k < w.heap.size := by
  rcases (h.own k).1 ho with rfl | rfl | ⟨n, hn, hk⟩
  · exact smem_lt h.hd
  · exact h.map.lt
  · exact ((h.par n hn).lt k hk).2
theorem DgS.keep (h : DgS w g room mb ns D) (hk : ∀ k, ownC w g k → w'.heap[k]? = w.heap[k]?) : DgS w' g room mb ns D :=
  ⟨(hk g ((h.own g).2 (.inl rfl))).trans h.hd, h.map.keep (hk mb ((h.own mb).2 (.inr (.inl rfl)))), h.is, fun n hn => (h.par n hn).keep fun k hv => hk k ((h.own k).2 (.inr (.inr ⟨n, hn, hv⟩))), h.dep, h.val, h.rs⟩
theorem DgS.below (h : DgS w g room mb ns D) (hb : Below w.heap.size w w') : DgS w' g room mb ns D := h.keep fun k hk => hb.block k (h.old hk)
theorem DgS.drewN (h : DgS w g room mb ns D) (n : Nat) : DgS (w.drewN n) g room mb ns D := h.keep fun _ _ => rfl
theorem DgS.drew (h : DgS w g room mb ns D) : DgS w.drew g room mb ns D := h.keep fun _ _ => rfl
theorem DgS.ids (h : DgS w g room mb ns D) : ((nevs ns).map Ev.id).Nodup := valid_nodup h.val
theorem DgS.c0 (h : DgS w g room mb ns D) : w.cell? ⟨g, 0, none⟩ = some (.string room) := cell_at h.hd 0
theorem DgS.c1 (h : DgS w g room mb ns D) : w.cell? ⟨g, 1, none⟩ = some (.map (some mb)) := cell_at h.hd 1
theorem DgS.gm (h : DgS w g room mb ns D) : g ≠ mb := fun e => by
  subst e
  obtain ⟨xs, clock, hb, _⟩ := h.map
  rw [h.hd] at hb
  cases hb
theorem DgS.node (h : DgS w g room mb ns D) {n : NdV} (hn : n ∈ ns) : mayE n.x.ev = true ∧ n.x.ev.room = room := by
  obtain ⟨i, hi, he⟩ := List.getElem_of_mem hn
  have := err_zero (h.val i n.x.ev (by rw [List.getElem?_map, List.getElem?_eq_getElem hi, he]; rfl))
  exact ⟨this.1, this.2.1⟩
/-- A key is looked up. -/
theorem DgS.look (h : DgS w g room mb ns D) (k : ByteArray) (hk : k.size ≤ maxLen) (b : Bool) :
    (hasE (nevs ns) k = false ∧ (Instr.lookup 103 (.map (some mb)) (.string k) true).run Tryz.prog w = .ok (.tuple #[zeroN, .bool false]) w)
    ∨ (hasE (nevs ns) k = true ∧ ∃ n ∈ ns, n.x.ev.id = k ∧ (Instr.lookup 103 (.map (some mb)) (.string k) true).run Tryz.prog w = .ok (.tuple #[n.val, .bool true]) w) := by
  obtain ⟨v, ps, hr, hv⟩ := World.ownsMap.look_ok h.map keyed Tryz.underlying103 (zeroIs w) (zd := .held zeroN) (zp := []) rfl (keyIs hk)
  rw [h.is.has k] at hr
  cases hh : hasE (nevs ns) k
  · refine .inl ⟨rfl, ?_⟩
    have hz := Maps.atKey_of_not_has (D := D) (k := kl k) (by rw [h.is.has k]; exact hh) (.held zeroN)
    rw [hz] at hv
    injection hv with hv
    injection hv with hv _
    injection hv with hv
    rw [hr, hh, hv]
  · obtain ⟨e, hm, he⟩ := has_iff.1 hh
    obtain ⟨n, hn, rfl⟩ := List.mem_map.1 hm
    refine .inr ⟨rfl, n, hn, he, ?_⟩
    rw [← he, h.is.at_ h.ids hn] at hv
    injection hv with hv
    injection hv with hv _
    injection hv with hv
    rw [hr, hh, hv]
end
/-- What a name may be at most. -/
theorem may_short {e : Ev} (h : mayE e = true) : e.id.size ≤ 40 ∧ e.room.size ≤ 40 ∧ e.thread.size ≤ 40 ∧ e.user.size ≤ 40 ∧ (∀ p ∈ e.parents, p.size ≤ 40) ∧ 0 ≤ e.does ∧ e.does ≤ 2 ∧ e.parents.length ≤ 4 := by
  rw [mayE_code] at h
  simp only [Bool.and_eq_true] at h
  obtain ⟨⟨⟨⟨⟨h1, h2⟩, h3⟩, h4⟩, h5⟩, h6⟩ := h
  unfold behB at h4
  unfold doB at h5
  rw [Bool.and_eq_true, decide_eq_true_eq] at h4
  rw [Bool.and_eq_true, decide_eq_true_eq, decide_eq_true_eq] at h5
  refine ⟨Nat.le_trans (event_size h1) (by omega), named_size h2, ?_, named_size h3, fun p hp => ?_, h5.1, h5.2, h4.1⟩
  · unfold thrB at h6
    rw [Bool.or_eq_true] at h6
    rcases h6 with h6 | h6
    · rw [of_decide_eq_true h6]; decide
    · simp only [Bool.and_eq_true] at h6
      exact Nat.le_trans (event_size h6.1.1) (by omega)
  · obtain ⟨i, hi, he⟩ := List.getElem_of_mem hp
    have h7 := (List.all_eq_true.1 h4.2) i (by rw [List.mem_range]; exact hi)
    rw [parB_code (List.getElem?_eq_getElem hi)] at h7
    simp only [Bool.and_eq_true] at h7
    rw [he] at h7
    exact Nat.le_trans (event_size h7.1.1) (by omega)
theorem may_ok {e : Ev} (h : mayE e = true) : e.ok := by
  obtain ⟨h1, h2, h3, h4, h5, h6, h7, _⟩ := may_short h
  have hm : (40 : Nat) ≤ maxLen := by unfold maxLen; omega
  exact ⟨Nat.le_trans h1 hm, Nat.le_trans h2 hm, Nat.le_trans h3 hm, Nat.le_trans h4 hm, fun p hp => Nat.le_trans (h5 p hp) hm, by omega, by omega⟩
end Go.Proofs.YtjiecjpepiknmaaGreat
