/-
  The document's views.
-/
import Derived.Test.YtjiecjpepiknmaaGreatV1
import Derived.Test.YtjiecjpepiknmaaGreatDagAdd2
import Derived.Deep.DeepCutAuto
import Derived.Deep.CutRange
import Derived.Deep.QuietTactic
import Derived.Test.YtjiecjpepiknmaaGreatDagMade
namespace Go.Proofs.YtjiecjpepiknmaaGreat
set_option maxRecDepth 20000
open Go.RowKit
set_option linter.unusedVariables false
set_option linter.unusedSimpArgs false
/-- A dag of the document, and where its list lies. -/
structure DV where
  room : ByteArray
  xs : List EvV
  A : Option Addr
  cap : Nat
def DV.lv (d : DV) : Value := .slice d.A d.xs.length d.cap
def DV.cells (d : DV) : List Value := [.string d.room, d.lv]
def DV.val (d : DV) : Value := .agg #[.string d.room, d.lv]
abbrev DV.rl (d : DV) : ByteArray × List Ev := (d.room, evs d.xs)
def LD : Lies DV := ⟨36, 2, DV.cells, fun _ => rfl, fun x u hu => by
  simp only [DV.cells, DV.lv, List.mem_cons, List.not_mem_nil, or_false] at hu
  rcases hu with rfl | rfl <;> rfl⟩
theorem knD : Kn Tryz.prog LD 26 (.agg #[.string ⟨#[]⟩, .slice none 0 0]) 40 := ⟨Tryz.underlying26, by kernel_rfl, rfl, by decide⟩
/-- A view of the document: its dags, each with its list. -/
def DsS (w : World) (v : Value) (ds : List DV) : Prop := LD.Slice w v ds ∧ ∀ d ∈ ds, EvsS w d.lv d.xs
abbrev vws (ds : List DV) : Vw := ds.map DV.rl
def footD (v : Value) (ds : List DV) (k : Nat) : Prop := (0 < ds.length ∧ v.ownBlock = some k) ∨ ∃ d ∈ ds, footE d.lv d.xs k
theorem DsS.below {w w' : World} {v : Value} {ds : List DV} (h : DsS w v ds) (hb : Below w.heap.size w w') : DsS w' v ds := ⟨h.1.below hb, fun d hd => (h.2 d hd).below hb⟩
theorem DsS.foot {w : World} {v : Value} {ds : List DV} (h : DsS w v ds) {k : Nat} (hk : footD v ds k) : k < w.heap.size := by
  rcases hk with ⟨h0, hk⟩ | ⟨d, hd, hk⟩
  · exact h.1.foot h0 hk
  · exact (h.2 d hd).foot hk
theorem DsS.stay {w w' : World} {v : Value} {ds : List DV} (h : DsS w v ds) (hs : w.heap.size ≤ w'.heap.size) (hb : ∀ k, k < w.heap.size → footD v ds k → w'.heap[k]? = w.heap[k]?) : DsS w' v ds :=
  ⟨h.1.stay0 hs (fun k hk h0 hv => hb k hk (.inl ⟨h0, hv⟩)), fun d hd => (h.2 d hd).stay hs (fun k hk hf => hb k hk (.inr ⟨d, hd, hf⟩))⟩
def Th.vw (v : Value) (ds : List DV) : Th := ⟨footD v ds, fun w => DsS w v ds, fun w k h hk => h.foot hk, fun w w' h hs hb => h.stay hs (fun k hk hf => hb k hk hf)⟩
def noDV (room : ByteArray) : DV := ⟨room, [], none, 0⟩
theorem noDV_evs (w : World) (room : ByteArray) : EvsS w (noDV room).lv (noDV room).xs := ⟨.nil _, fun x hx => by cases hx⟩
theorem dv_at {w : World} {A : Option Addr} {n cap i : Nat} {ds : List DV} {d : DV} (h : LD.Slice w (.slice A n cap) ds) (hi : ds[i]? = some d) : ∃ b off, A = some ⟨b, off, none⟩ ∧ b < w.heap.size ∧ w.cell? ⟨b, off + i * 2, none⟩ = some (.string d.room) ∧ w.cell? ⟨b, off + i * 2 + 1, none⟩ = some d.lv := by
  obtain ⟨b, off, hA, hb, hr⟩ := h.at hi
  exact ⟨b, off, hA, hb, hr 0 _ rfl, hr 1 _ rfl⟩
theorem ofL_hit {ds : List DV} {room : ByteArray} {i : Nat} {d : DV} (hd : ds[i]? = some d) (hr : d.room = room) (hn : ∀ (j : Nat) e, j < i → ds[j]? = some e → e.room ≠ room) : ofL (vws ds) room = evs d.xs := by
  induction ds generalizing i with
  | nil => simp at hd
  | cons e r ih =>
    unfold ofL vws
    rw [List.map_cons, List.find?_cons]
    cases i with
    | zero =>
      simp only [List.getElem?_cons_zero, Option.some.injEq] at hd
      subst hd
      simp [hr]
    | succ i =>
      have h0 := hn 0 e (by omega) rfl
      simp only [List.getElem?_cons_succ] at hd
      rw [decide_eq_false h0]
      have := ih (i := i) hd (fun j x hj hx => hn (j + 1) x (by omega) (by simpa using hx))
      unfold ofL at this
      exact this
theorem ofL_miss {ds : List DV} {room : ByteArray} (hn : ∀ (j : Nat) e, ds[j]? = some e → e.room ≠ room) : ofL (vws ds) room = [] := ofL_out (by
  intro hm
  obtain ⟨p, hp, he⟩ := List.mem_map.1 hm
  obtain ⟨d, hd, rfl⟩ := List.mem_map.1 hp
  obtain ⟨j, hj, rfl⟩ := List.getElem_of_mem hd
  exact hn j _ (List.getElem?_eq_getElem hj) he)
/-- The answer's place of two cells is written. -/
theorem two_at {W : World} {B : Nat} {cs : Array Value} {t : TypeId} (hr : W.heap[B]? = some (.cells cs t (0, 0))) (a0 a1 : Value) (hs : cs.size = 2) :
    ∀ W', W' = W.setCells B 0 [a0, a1] → W'.heap[B]? = some (.cells #[a0, a1] t (0, 0)) ∧ W.grownBy W' (some B) := by
  rintro W' rfl
  obtain ⟨cur, z1, z2, z3⟩ := sm_at B t [a0, a1] 0 W _ hr (by rw [hs]; exact Nat.le_refl 2)
  have hl : cs.toList.length = 2 := hs
  have z4 : cur.toList = [a0, a1] := by
    rw [z3, List.take_zero, List.nil_append, List.drop_of_length_le (by rw [hl]; exact Nat.le_refl _), List.append_nil]
  have z5 : cur = #[a0, a1] := Array.toList_inj.1 z4
  rw [z1, z5]
  exact ⟨rfl, sm_grown W B 0 _⟩

set_option maxHeartbeats 1600000 in
theorem refOf_any (v : Value) (ds : List DV) (room : ByteArray) (w : World) (h : DsS w v ds) (hl : ds.length ≤ 1000) :
    Calls Tryz.prog 10 #[.agg #[v], .string room] w fun e w' => ∃ d : DV, e = .returned d.val ∧ EvsS w' d.lv d.xs ∧ d.room = room ∧ (d ∈ ds ∨ d = noDV room) ∧ evs d.xs = ofL (vws ds) room ∧ Below w.heap.size w w' := by
  obtain ⟨A, cap, rfl, h1, h2, -⟩ := id h.1
  unfold maxLen at h2
  have HD := Lib.hid h
  have HT : Hid (((w.alloc (.cells #[.slice A ds.length cap] 28)).alloc (.cells #[.string ⟨#[]⟩, .slice none 0 0] 36)).heap[w.heap.size]? = some (.cells #[.slice A ds.length cap] 28 (0, 0)) ∧ ((w.alloc (.cells #[.slice A ds.length cap] 28)).alloc (.cells #[.string ⟨#[]⟩, .slice none 0 0] 36)).heap[w.heap.size + 1]? = some (.cells #[.string ⟨#[]⟩, .slice none 0 0] 36 (0, 0)) ∧ Below w.heap.size w ((w.alloc (.cells #[.slice A ds.length cap] 28)).alloc (.cells #[.string ⟨#[]⟩, .slice none 0 0] 36))) := Lib.hid (by
    have hs : (w.alloc (.cells #[.slice A ds.length cap] 28)).heap.size = w.heap.size + 1 := by simp
    have h3 := heap_alloc_new (w.alloc (.cells #[.slice A ds.length cap] 28)) (.cells #[.string ⟨#[]⟩, .slice none 0 0] 36)
    rw [hs] at h3
    refine ⟨?_, h3, ((Below.refl _ w).alloc (Nat.le_refl _) _).alloc (by simp) _⟩
    rw [heap_alloc_old _ _ (by rw [hs]; omega)]
    exact heap_alloc_new w _)
  clear h
  go_enter Tryz.func10, Tryz.ntmps10
  go_upto_region 1 with (fail)
  generalize World.alloc _ _ = w2 at HT ⊢
  have hne : w.heap.size ≠ w.heap.size + 1 := by omega
  generalize hB4 : w.heap.size + 1 = B4 at HT hne ⊢
  have HLO : Hid (w.heap.size ≤ B4) := Lib.hid (by omega)
  clear hB4
  have HBW := Lib.hid HT.out.2.2
  have HX2 := Lib.hid HT.out.1
  have HX4 := Lib.hid HT.out.2.1
  clear HT
  have HD2 := Lib.hid (HD.out.below HBW.out)
  generalize hBB : w.heap.size = B2 at HX2 hne ⊢
  clear hBB
  have c0 : w2.cell? ⟨B2, 0, none⟩ = some (.slice A ds.length cap) := cell_at HX2.out 0
  go_wp2_with fail
  go_loopw [5] (fun i wr => ∃ a : Nat, i = .int .i64 (a : Int) ∧ a ≤ ds.length ∧ wr = w2 ∧ Hid (∀ (j : Nat) e, j < a → ds[j]? = some e → e.room ≠ room)) (fun i _ => ds.length - (intOf i).toNat)
  case atStart => exact ⟨0, rfl, Nat.zero_le _, rfl, Lib.hid (fun j e hj => by omega)⟩
  case round =>
    obtain ⟨a, rfl, ha, rfl, HN⟩ := hrel
    have x0 : wr.cell? ⟨B4, 0, none⟩ = some (.string ⟨#[]⟩) := cell_at HX4.out 0
    have x1 : wr.cell? ⟨B4, 1, none⟩ = some (.slice none 0 0) := cell_at HX4.out 1
    have z0 : wr.frozen? ⟨B4, 0, none⟩ = false := free_at HX4.out 0
    have z1 : wr.frozen? ⟨B4, 1, none⟩ = false := free_at HX4.out 1
    by_cases hax : a < ds.length
    · have q1 : decide ((a : Int) < (ds.length : Int)) = true := decide_eq_true (by omega)
      have hx : ds[a]? = some ds[a] := List.getElem?_eq_getElem hax
      generalize ds[a] = d at hx
      have HX := Lib.hid hx
      obtain ⟨b, off, hA, hb, e0, e1⟩ := dv_at HD2.out.1 hx
      have hix := index_any (P := Tryz.prog) knD (by decide) (b := b) (off := off) (cap := cap) hax
      simp only [LD] at hix
      rw [← hA] at hix
      unfold DV.lv at e1
      have q2 := keyB d.room room
      have HED := Lib.hid (HD2.out.2 d (List.mem_of_getElem? hx))
      clear hx hA
      by_cases hr : d.room = room
      · rw [decide_eq_true hr] at q2
        have HOL := Lib.hid (ofL_hit HX.out hr HN.out)
        have HAN := Lib.hid (two_at HX4.out (.string d.room) (.slice d.A d.xs.length d.cap) rfl _ rfl)
        simp only [World.setCells] at HAN
        have HR := Lib.hid hr
        clear hr
        go_wp2_with fail
        clear x0 x1 z0 z1 e0 e1
        generalize World.setCell _ _ _ = w9 at HAN ⊢
        have s0 : w9.cell? ⟨B4, 0, none⟩ = some (.string d.room) := cell_at HAN.out.1 0
        have s1 : w9.cell? ⟨B4, 1, none⟩ = some (.slice d.A d.xs.length d.cap) := cell_at HAN.out.1 1
        refine bodyPost_ret (v := .agg #[.string d.room, .slice d.A d.xs.length d.cap]) ?_ rfl ?_
        · simp [results, Tryz.results10, go_sem, s0, s1]
        · have hb9 : Below w.heap.size w w9 := HBW.out.grown HAN.out.2 HBW.out.size (fun k hk => by injection hk with hk; have := HLO.out; omega)
          exact ⟨d, rfl, (HD.out.2 d (List.mem_of_getElem? HX.out)).below hb9, HR.out, .inl (List.mem_of_getElem? HX.out), HOL.out.symm, hb9⟩
      · rw [decide_eq_false hr] at q2
        have HN2 : Hid (∀ (j : Nat) e, j < a + 1 → ds[j]? = some e → e.room ≠ room) := Lib.hid (fun j e hj he => by
          by_cases hja : j = a
          · subst hja
            rw [HX.out] at he
            injection he with he
            rw [← he]; exact hr
          · exact HN.out j e (by omega) he)
        clear hr
        go_wp2_with fail
        refine ⟨⟨a + 1, by go_num, by omega, trivial, HN2⟩, ?_⟩
        simp [intOf]; omega
    · have q1 : decide ((a : Int) < (ds.length : Int)) = false := decide_eq_false (by omega)
      have HOL := Lib.hid (ofL_miss (ds := ds) (room := room) (fun j e he => HN.out j e (by have := (List.getElem?_eq_some_iff.1 he).1; omega) he))
      have HAN := Lib.hid (two_at HX4.out (.string room) (.slice none 0 0) rfl _ rfl)
      simp only [World.setCells] at HAN
      go_wp2_with fail
      clear x0 x1 z0 z1
      generalize World.setCell _ _ _ = w9 at HAN ⊢
      have s0 : w9.cell? ⟨B4, 0, none⟩ = some (.string room) := cell_at HAN.out.1 0
      have s1 : w9.cell? ⟨B4, 1, none⟩ = some (.slice none 0 0) := cell_at HAN.out.1 1
      refine bodyPost_ret (v := .agg #[.string room, .slice none 0 0]) ?_ rfl ?_
      · simp [results, Tryz.results10, go_sem, s0, s1]
      · have hb9 : Below w.heap.size w w9 := HBW.out.grown HAN.out.2 HBW.out.size (fun k hk => by injection hk with hk; have := HLO.out; omega)
        exact ⟨noDV room, rfl, noDV_evs _ _, rfl, .inr rfl, HOL.out.symm, hb9⟩
end Go.Proofs.YtjiecjpepiknmaaGreat

namespace Go.Proofs.YtjiecjpepiknmaaGreat
set_option maxRecDepth 20000
open Go.RowKit
set_option linter.unusedVariables false
set_option linter.unusedSimpArgs false
theorem addY_foot {w : World} {v v' : Value} {xs xs' : List EvV} {x : EvV} (hx : xs' = xs ∨ xs' = xs ++ [x]) (hl : ∀ k, 0 < xs'.length → v'.ownBlock = some k → (0 < xs.length ∧ v.ownBlock = some k) ∨ w.heap.size ≤ k) {k : Nat} (hk : footE v' xs' k) : footE v xs k ∨ footV x k ∨ w.heap.size ≤ k := by
  rcases hk with ⟨h0, hk⟩ | ⟨y, hy, hk⟩
  · rcases hl k h0 hk with hh | hh
    · exact .inl (.inl hh)
    · exact .inr (.inr hh)
  · rcases hx with rfl | rfl
    · exact .inl (.inr ⟨y, hy, hk⟩)
    · rcases List.mem_append.1 hy with hy | hy
      · exact .inl (.inr ⟨y, hy, hk⟩)
      · rw [List.mem_singleton.1 hy] at hk
        exact .inr (.inl hk)
theorem of_foot {v : Value} {ds : List DV} {d : DV} {room : ByteArray} (hm : d ∈ ds ∨ d = noDV room) {k : Nat} (hk : footE d.lv d.xs k) : footD v ds k := by
  rcases hm with hm | rfl
  · exact .inr ⟨d, hm, hk⟩
  · rcases hk with ⟨h0, -⟩ | ⟨y, hy, -⟩
    · exact absurd h0 (Nat.lt_irrefl 0)
    · cases hy
/-- While a row is made. -/
structure OuS {α : Type} (L : Lies α) (w wr : World) (u : Value) (ts : List α) : Prop where
  below : Below w.heap.size w wr
  row : L.Mine wr w.heap.size u ts
theorem OuS.on {α : Type} {L : Lies α} {w wr w2 : World} {u : Value} {ts : List α} (h : OuS L w wr u ts) (hb : Below wr.heap.size wr w2) : OuS L w w2 u ts := ⟨h.below.trans (hb.mono h.below.size), h.row.below hb⟩
theorem OuS.drewN {α : Type} {L : Lies α} {w wr : World} {u : Value} {ts : List α} (h : OuS L w wr u ts) (n : Nat) : OuS L w (wr.drewN n) u ts := h.on ((Gr.refl _).drewN n).below
theorem OuS.put {α : Type} {L : Lies α} {w wr w2 : World} {u u' : Value} {ts ts' : List α} (h : OuS L w wr u ts) (hg : wr.grownBy w2 u.ownBlock) (hm : L.Mine w2 w.heap.size u' ts') : OuS L w w2 u' ts' := ⟨h.below.grown hg h.below.size (fun k hk => (h.row.lt k hk).1), hm⟩
theorem lit_D (w : World) (d : DV) : LD.Slice (w.alloc (.cells #[.string d.room, .slice d.A d.xs.length d.cap] 36)) (.slice (some ⟨w.heap.size, 0, none⟩) 1 1) [d] := lit_slice (L := LD) w d w.heap.size rfl #[.string d.room, .slice d.A d.xs.length d.cap] rfl
theorem one_at {W : World} {B : Nat} {c0 : Value} {t : TypeId} (hr : W.heap[B]? = some (.cells #[c0] t (0, 0))) (a0 : Value) : ∀ W', W' = W.setCell ⟨B, 0, none⟩ a0 → W'.heap[B]? = some (.cells #[a0] t (0, 0)) ∧ W.grownBy W' (some B) := by
  rintro W' rfl
  exact ⟨by rw [heap_set hr]; rfl, sm_grown W B 0 [a0]⟩
/-- What stands at the document's Add behind its first row. -/
structure A10 (w wr : World) (v : Value) (ds : List DV) (x : EvV) (B2 B3 B4 B6 : Nat) (d : DV) : Prop where
  b2 : wr.heap[B2]? = some (.cells #[v] 28 (0, 0))
  b3 : wr.heap[B3]? = some (.cells #[.string x.ev.id, .string x.ev.room, x.pv, .string x.ev.thread, .string x.ev.user, .int .i64 x.ev.does] 33 (0, 0))
  b4 : wr.heap[B4]? = some (.cells #[.slice none 0 0] 28 (0, 0))
  b6 : wr.heap[B6]? = some (.cells #[.string d.room, d.lv] 36 (0, 0))
  below : Below w.heap.size w wr
  base : w.heap.size ≤ B4
  evs : EvsS wr d.lv d.xs
  room : d.room = x.ev.room
  is : Go.Proofs.YtjiecjpepiknmaaGreat.evs d.xs = addA x.ev.room (ofL (vws ds) x.ev.room) x.ev
  foot : ∀ k, footE d.lv d.xs k → footD v ds k ∨ footV x k ∨ w.heap.size ≤ k
  far : ∀ k, footE d.lv d.xs k → k ≠ B4
theorem three_boxes (w : World) (v : Value) (x : EvV) : ∀ W, W = ((w.alloc (.cells #[v] 28)).alloc (.cells #[.string x.ev.id, .string x.ev.room, x.pv, .string x.ev.thread, .string x.ev.user, .int .i64 x.ev.does] 33)).alloc (.cells #[.slice none 0 0] 28) →
    W.heap[w.heap.size]? = some (.cells #[v] 28 (0, 0)) ∧ W.heap[w.heap.size + 1]? = some (.cells #[.string x.ev.id, .string x.ev.room, x.pv, .string x.ev.thread, .string x.ev.user, .int .i64 x.ev.does] 33 (0, 0)) ∧ W.heap[w.heap.size + 1 + 1]? = some (.cells #[.slice none 0 0] 28 (0, 0)) ∧ Below w.heap.size w W := by
  rintro W rfl
  have h2 := heap_alloc_new w (.cells #[v] 28)
  have h3 := heap_alloc_new (w.alloc (.cells #[v] 28)) (.cells #[.string x.ev.id, .string x.ev.room, x.pv, .string x.ev.thread, .string x.ev.user, .int .i64 x.ev.does] 33)
  have h4 := heap_alloc_new ((w.alloc (.cells #[v] 28)).alloc (.cells #[.string x.ev.id, .string x.ev.room, x.pv, .string x.ev.thread, .string x.ev.user, .int .i64 x.ev.does] 33)) (.cells #[.slice none 0 0] 28)
  have s1 : ∀ (u : World) (o : Obj), (u.alloc o).heap.size = u.heap.size + 1 := fun u o => by simp
  rw [s1] at h3
  rw [s1, s1] at h4
  refine ⟨?_, ?_, h4, ((Gr.refl w).alloc _ |>.alloc _ |>.alloc _).below⟩
  · rw [heap_alloc_old _ _ (by rw [s1, s1]; omega), heap_alloc_old _ _ (by rw [s1]; omega)]
    exact h2
  · rw [heap_alloc_old _ _ (by rw [s1, s1]; omega)]
    exact h3

set_option maxHeartbeats 6400000 in
theorem refAdd10_any (v : Value) (ds : List DV) (x : EvV) (w : World) (h : DsS w v ds) (hx : x.at w) (hl : ds.length ≤ 200) (hdl : ∀ d ∈ ds, d.xs.length ≤ 500) :
    Calls Tryz.prog 12 #[.agg #[v], x.val] w fun e w' => ∃ v' ds', e = .returned (.tuple #[.agg #[v'], .int .i64 (errV (vws ds) x.ev)]) ∧ DsS w' v' ds' ∧ vws ds' = addV (vws ds) x.ev ∧ (∀ k, footD v' ds' k → footD v ds k ∨ footV x k ∨ w.heap.size ≤ k) ∧ Below w.heap.size w w' := by
  obtain ⟨A, cap, rfl, h1, h2, -⟩ := id h.1
  obtain ⟨Ap, capp, hpv, hp1, hp2, -⟩ := id hx.1
  unfold maxLen at h2
  have HD := Lib.hid h
  have HX := Lib.hid hx
  have HOLD : Hid ((∀ k, footD (.slice A ds.length cap) ds k → k < w.heap.size) ∧ ∀ k, footV x k → k < w.heap.size) := Lib.hid ⟨fun k hk => h.foot hk, fun k hk => hx.foot hk⟩
  have HT := Lib.hid (three_boxes w (.slice A ds.length cap) x _ rfl)
  clear h hx hpv hp1 hp2
  unfold EvV.val
  unfold EvV.pv at HT ⊢
  go_enter Tryz.func12, Tryz.ntmps12
  go_upto_region 1 with (fail)
  generalize World.alloc _ _ = w2 at HT ⊢
  have HL24 : Hid (w.heap.size ≠ w.heap.size + 1 + 1 ∧ w.heap.size ≤ w.heap.size + 1 + 1 ∧ w.heap.size + 1 ≠ w.heap.size + 1 + 1) := Lib.hid ⟨by omega, by omega, by omega⟩
  generalize hB4 : w.heap.size + 1 + 1 = B4 at HT HL24 ⊢
  generalize hB3 : w.heap.size + 1 = B3 at HT HL24 ⊢
  clear hB4 hB3
  have HBW := Lib.hid HT.out.2.2.2
  have HX2 := Lib.hid HT.out.1
  have HX3 := Lib.hid HT.out.2.1
  have HX4 := Lib.hid HT.out.2.2.1
  clear HT
  generalize hB2 : w.heap.size = B2 at HX2 HL24 ⊢
  have HBB := Lib.hid hB2
  clear hB2
  go_cut [6, 7] from 11 to 19 (fun s6 s7 wx => ∃ B6, s6 = .pointer (some ⟨B6, 0, none⟩) ∧ s7 = .int .i64 (errV (vws ds) x.ev) ∧ Hid (∃ d, A10 w wx (.slice A ds.length cap) ds x B2 B3 B4 B6 d))
  case first =>
    have HBS : Hid (∀ W, Below w2.heap.size w2 W → W.heap[B2]? = some (.cells #[.slice A ds.length cap] 28 (0, 0)) ∧ W.heap[B3]? = some (.cells #[.string x.ev.id, .string x.ev.room, .slice x.A x.ev.parents.length x.cap, .string x.ev.thread, .string x.ev.user, .int .i64 x.ev.does] 33 (0, 0)) ∧ W.heap[B4]? = some (.cells #[.slice none 0 0] 28 (0, 0)) ∧ DsS W (.slice A ds.length cap) ds ∧ x.at W ∧ Below w.heap.size w W) := Lib.hid (fun W hb => ⟨(hb.block B2 (smem_lt HX2.out)).trans HX2.out, (hb.block B3 (smem_lt HX3.out)).trans HX3.out, (hb.block B4 (smem_lt HX4.out)).trans HX4.out, (HD.out.below HBW.out).below hb, (HX.out.below HBW.out).below hb, HBW.out.trans (hb.mono HBW.out.size)⟩)
    have HOF := Lib.hid (fun W (hb : Below w2.heap.size w2 W) => refOf_any (.slice A ds.length cap) ds x.ev.room W (HBS.out W hb).2.2.2.1 (by omega))
    have HAD := Lib.hid (fun W (hb : Below w2.heap.size w2 W) (d : DV) (hd : EvsS W d.lv d.xs) (hdl : d.xs.length ≤ 1000) => refAddY_any d.room d.lv d.xs x W hd (HBS.out W hb).2.2.2.2.1 hdl)
    unfold DV.val DV.lv at HOF
    unfold EvV.val EvV.pv at HAD
    unfold DV.lv at HAD
    refine wp_region_held_drew (S := fun W => Below w2.heap.size w2 W) (by kernel_rfl) (Below.refl _ _).drew (fun hHeld => ?_)
    generalize w2.drew = wd at hHeld ⊢
    have c0s := fun W (hb : Below w2.heap.size w2 W) => (HBS.out W hb)
    refine wpAnyH_take (i := 0) (oi := ⟨some 12, _, _, _, _, _⟩) (v := ?vq0) rfl (by kernel_rfl) (by kernel_rfl) (by kernel_rfl) (fun _ _ _ h => h) (Or.inl ⟨by rfl, ?yq0⟩) hHeld ?rq0
    case yq0 =>
      intro wx hSx
      have z : wx.cell? ⟨B2, 0, none⟩ = some (.slice A ds.length cap) := cell_at (HBS.out _ hSx).1 0
      go_simp
      try with_reducible rfl
    try simp only [Act.put, List.setIfInBounds_toArray, List.set_cons_zero, List.set_cons_succ]
    refine wpAnyH_take (i := 1) (oi := ⟨some 13, _, _, _, _, _⟩) (v := ?vq1) rfl (by kernel_rfl) (by kernel_rfl) (by kernel_rfl) (fun _ _ _ h => h) (Or.inl ⟨by rfl, ?yq1⟩) hHeld ?rq1
    case yq1 =>
      intro wx hSx
      go_simp
      try with_reducible rfl
    try simp only [Act.put, List.setIfInBounds_toArray, List.set_cons_zero, List.set_cons_succ]
    refine wpAnyH_take (i := 2) (oi := ⟨some 14, _, _, _, _, _⟩) (v := ?vq2) rfl (by kernel_rfl) (by kernel_rfl) (by kernel_rfl) (fun _ _ _ h => h) (Or.inl ⟨by rfl, ?yq2⟩) hHeld ?rq2
    case yq2 =>
      intro wx hSx
      have z : wx.cell? ⟨B3, 1, none⟩ = some (.string x.ev.room) := cell_at (HBS.out _ hSx).2.1 1
      go_simp
      try with_reducible rfl
    try simp only [Act.put, List.setIfInBounds_toArray, List.set_cons_zero, List.set_cons_succ]
    refine wpAnyH_take (i := 4) (oi := ⟨some 16, _, _, _, _, _⟩) (v := ?vq4) rfl (by kernel_rfl) (by kernel_rfl) (by kernel_rfl) (fun _ _ _ h => h) (Or.inl ⟨by rfl, ?yq4⟩) hHeld ?rq4
    case yq4 =>
      intro wx hSx
      have z0 : wx.cell? ⟨B3, 0, none⟩ = some (.string x.ev.id) := cell_at (HBS.out _ hSx).2.1 0
      have z1 : wx.cell? ⟨B3, 1, none⟩ = some (.string x.ev.room) := cell_at (HBS.out _ hSx).2.1 1
      have z2 : wx.cell? ⟨B3, 2, none⟩ = some (.slice x.A x.ev.parents.length x.cap) := cell_at (HBS.out _ hSx).2.1 2
      have z3 : wx.cell? ⟨B3, 3, none⟩ = some (.string x.ev.thread) := cell_at (HBS.out _ hSx).2.1 3
      have z4 : wx.cell? ⟨B3, 4, none⟩ = some (.string x.ev.user) := cell_at (HBS.out _ hSx).2.1 4
      have z5 : wx.cell? ⟨B3, 5, none⟩ = some (.int .i64 x.ev.does) := cell_at (HBS.out _ hSx).2.1 5
      go_simp
      try with_reducible rfl
    try simp only [Act.put, List.setIfInBounds_toArray, List.set_cons_zero, List.set_cons_succ]
    refine wpAnyH_ready (rs := [3, 9]) (by kernel_rfl) (by simp) ?_
    refine AllReadyH.cons (o := ⟨some 15, _, _, _, _, _⟩) rfl (fun K hK => ?wkof) (AllReadyH.cons (o := ⟨some 6, _, _, _, _, _⟩) rfl (fun K hK => ?wkalloc) AllReadyH.nil)
    case wkof =>
      have HOW := Lib.hid (HOF.out wd hHeld)
      go_simp
      refine HOW.out.mono ?_
      rintro e wok ⟨d, rfl, hde, hdr, hdm, hdo, hbo⟩
      have HDE := Lib.hid hde
      have HDR := Lib.hid hdr
      have HDM := Lib.hid hdm
      have HDO := Lib.hid hdo
      have HDL : Hid (d.xs.length ≤ 1000) := Lib.hid (by
        rcases hdm with hdm | hdm
        · exact Nat.le_trans (hdl d hdm) (by decide)
        · rw [hdm]; exact Nat.zero_le _)
      clear HOW hde hdr hdm hdo
      have hHeld2 := hHeld.trans (hbo.mono hHeld.size)
      clear hHeld
      refine hK.out _ _ hHeld2 (fun hHeld => ?_)
      clear hK K hbo hHeld2
      try simp only [Act.put, List.setIfInBounds_toArray, List.set_cons_zero, List.set_cons_succ]
      refine wpAnyH_ready (rs := [5, 9]) (by kernel_rfl) (by simp) ?_
      refine AllReadyH.cons (o := ⟨some 17, _, _, _, _, _⟩) rfl (fun K hK => ?wkoadd) (AllReadyH.cons (o := ⟨some 6, _, _, _, _, _⟩) rfl (fun K hK => ?wkoalloc) AllReadyH.nil)
      case wkoadd =>
        have HAW := Lib.hid (HAD.out wok hHeld d HDE.out HDL.out)
        have HSZ : Hid (w2.heap.size ≤ wok.heap.size) := Lib.hid hHeld.size
        go_simp
        refine HAW.out.mono ?_
        rintro e wako ⟨va, xs', rfl, hes, hev, hbo, hxx, hll⟩
        obtain ⟨Av, cv, hva, -⟩ := id hes.1
        subst hva
        have HES := Lib.hid hes
        have HEV := Lib.hid hev
        have HXX := Lib.hid hxx
        have HLL : Hid (∀ k, 0 < xs'.length → (Value.slice Av xs'.length cv).ownBlock = some k → (0 < d.xs.length ∧ d.lv.ownBlock = some k) ∨ wok.heap.size ≤ k) := Lib.hid hll
        have HERR : Hid (errA d.room (evs d.xs) x.ev = errV (vws ds) x.ev) := Lib.hid (by rw [HDR.out, HDO.out]; rfl)
        clear HAW hes hev hxx hll
        have hHeld2 := hHeld.trans (hbo.mono hHeld.size)
        clear hHeld
        refine hK.out _ _ hHeld2 (fun hHeld => ?_)
        clear hK K hbo hHeld2
        try simp only [Act.put, List.setIfInBounds_toArray, List.set_cons_zero, List.set_cons_succ]
        refine wpAnyH_take (i := 6) (oi := ⟨some 11, _, _, _, _, _⟩) (v := ?vmko6) rfl (by kernel_rfl) (by kernel_rfl) (by kernel_rfl) (fun _ _ _ h => h) (Or.inl ⟨by rfl, ?ymko6⟩) hHeld ?rmko6
        case ymko6 =>
          intro wx hSx
          go_simp
          try with_reducible rfl
        try simp only [Act.put, List.setIfInBounds_toArray, List.set_cons_zero, List.set_cons_succ]
        refine wpAnyH_take (i := 7) (oi := ⟨some 18, _, _, _, _, _⟩) (v := ?vmko7) rfl (by kernel_rfl) (by kernel_rfl) (by kernel_rfl) (fun _ _ _ h => h) (Or.inl ⟨by rfl, ?ymko7⟩) hHeld ?rmko7
        case ymko7 =>
          intro wx hSx
          go_simp
          try with_reducible rfl
        try simp only [Act.put, List.setIfInBounds_toArray, List.set_cons_zero, List.set_cons_succ]
        refine wpAnyH_take (i := 8) (oi := ⟨some 19, _, _, _, _, _⟩) (v := ?vmko8) rfl (by kernel_rfl) (by kernel_rfl) (by kernel_rfl) (fun _ _ _ h => h) (Or.inl ⟨by rfl, ?ymko8⟩) hHeld ?rmko8
        case ymko8 =>
          intro wx hSx
          go_simp
          try with_reducible rfl
        try simp only [Act.put, List.setIfInBounds_toArray, List.set_cons_zero, List.set_cons_succ]
        refine wpAnyH_ready (rs := [9]) (by kernel_rfl) (by simp) ?_
        refine AllReadyH.cons (o := ⟨some 6, _, _, _, _, _⟩) rfl (fun K hK => ?wkoaalloc) AllReadyH.nil
        case wkoaalloc =>
          have hbn := below_new wako (.cells #[.string ⟨#[]⟩, .slice none 0 0] 36)
          have h6 := heap_alloc_new wako (.cells #[.string ⟨#[]⟩, .slice none 0 0] 36)
          have hlow := hHeld.size
          have HFAR : Hid (∀ k, footE (Value.slice Av xs'.length cv) xs' k → k ≠ wako.heap.size) := Lib.hid (fun k hk => by
            have := HES.out.foot hk
            omega)
          replace HES := Lib.hid (HES.out.below hbn)
          have hHeld2 := hHeld.trans (hbn.mono hHeld.size)
          clear hHeld
          go_simp
          refine hK.out _ _ hHeld2 (fun hHeld => ?_)
          clear hK K hbn hHeld2
          generalize wako.alloc _ = wekoa at hHeld h6 HES ⊢
          generalize wako.heap.size = B6 at h6 hlow HFAR ⊢
          try simp only [Act.put, List.setIfInBounds_toArray, List.set_cons_zero, List.set_cons_succ]
          refine wpAnyH_ready (rs := [10]) (by kernel_rfl) (by simp) ?_
          refine AllReadyH.cons (o := ⟨none, _, _, _, _, _⟩) rfl (fun K hK => ?_) AllReadyH.nil
          have y0 : wekoa.cell? ⟨B6, 0, none⟩ = some (.string ⟨#[]⟩) := cell_at h6 0
          have y1 : wekoa.cell? ⟨B6, 1, none⟩ = some (.slice none 0 0) := cell_at h6 1
          have z0 : wekoa.frozen? ⟨B6, 0, none⟩ = false := free_at h6 0
          have z1 : wekoa.frozen? ⟨B6, 1, none⟩ = false := free_at h6 1
          have HAN := Lib.hid (two_at h6 (.string d.room) (.slice Av xs'.length cv) rfl _ rfl)
          simp only [World.setCells] at HAN
          have HHW := Lib.hid hHeld
          have HLOW := Lib.hid hlow
          go_simp
          clear y0 y1 z0 z1
          generalize World.setCell _ _ _ = w9 at HAN ⊢
          have hb9 : Below w2.heap.size w2 w9 := HHW.out.grown HAN.out.2 HHW.out.size (fun k hk => by injection hk with hk; have := HLOW.out; omega)
          have HA10 : Hid (A10 w w9 (.slice A ds.length cap) ds x B2 B3 B4 B6 ⟨d.room, xs', Av, cv⟩) := Lib.hid ⟨(HBS.out _ hb9).1, (HBS.out _ hb9).2.1, (HBS.out _ hb9).2.2.1, HAN.out.1, (HBS.out _ hb9).2.2.2.2.2, (by rw [← HBB.out] at HL24; exact HL24.out.2.1), HES.out.stay HAN.out.2.size (fun k hk hf => HAN.out.2.block k hk (fun e => HFAR.out k hf (by injection e))), HDR.out, (by rw [← HDO.out, ← HDR.out]; exact HEV.out), fun k hk => by
            rcases addY_foot (w := w) HXX.out (fun k h0 hk => by
              rcases HLL.out k h0 hk with hh | hh
              · exact .inl hh
              · exact .inr (Nat.le_trans (by have := HBW.out.size; have := HSZ.out; omega) hh)) hk with hh | hh
            · exact .inl (of_foot HDM.out hh)
            · exact .inr hh, fun k hk e => by
            subst e
            have hb4 := smem_lt HX4.out
            rcases addY_foot HXX.out HLL.out hk with hh | hh | hh
            · have := HOLD.out.1 _ (of_foot HDM.out hh)
              have := HL24.out.2.1
              have := HBB.out
              omega
            · have := HOLD.out.2 _ hh
              have := HL24.out.2.1
              have := HBB.out
              omega
            · have := HSZ.out
              omega⟩
          refine hK.out _ _ hb9 (fun hHeld => ?_)
          clear hK K
          try simp only [Act.put, List.setIfInBounds_toArray, List.set_cons_zero, List.set_cons_succ]
          refine wpAnyH_take (i := 11) (oi := ⟨some 7, _, _, _, _, _⟩) (v := ?vzkoan11) rfl (by kernel_rfl) (by kernel_rfl) (by kernel_rfl) (fun _ _ _ h => h) (Or.inl ⟨by rfl, ?yzkoan11⟩) hHeld ?rzkoan11
          case yzkoan11 =>
            intro wx hSx
            go_simp
            try with_reducible rfl
          try simp only [Act.put, List.setIfInBounds_toArray, List.set_cons_zero, List.set_cons_succ]
          refine wpAnyH_done (by kernel_rfl) ?_ _
          go_wp2_with fail
          go_meet
          exact ⟨B6, rfl, by rw [← HERR.out], Lib.hid ⟨_, HA10.out⟩⟩
      case wkoalloc =>
        have hbn := below_new wok (.cells #[.string ⟨#[]⟩, .slice none 0 0] 36)
        have h6 := heap_alloc_new wok (.cells #[.string ⟨#[]⟩, .slice none 0 0] 36)
        have hlow := hHeld.size
        replace HDE := Lib.hid (HDE.out.below hbn)
        have hHeld2 := hHeld.trans (hbn.mono hHeld.size)
        clear hHeld
        go_simp
        refine hK.out _ _ hHeld2 (fun hHeld => ?_)
        clear hK K hbn hHeld2
        generalize wok.alloc _ = weko at hHeld h6 HDE ⊢
        generalize wok.heap.size = B6 at h6 hlow ⊢
        try simp only [Act.put, List.setIfInBounds_toArray, List.set_cons_zero, List.set_cons_succ]
        refine wpAnyH_ready (rs := [5]) (by kernel_rfl) (by simp) ?_
        refine AllReadyH.cons (o := ⟨some 17, _, _, _, _, _⟩) rfl (fun K hK => ?wkonadd) AllReadyH.nil
        case wkonadd =>
          have HAW := Lib.hid (HAD.out weko hHeld d HDE.out HDL.out)
          have HSZ : Hid (w2.heap.size ≤ weko.heap.size) := Lib.hid hHeld.size
          go_simp
          refine HAW.out.mono ?_
          rintro e wakon ⟨va, xs', rfl, hes, hev, hbo, hxx, hll⟩
          obtain ⟨Av, cv, hva, -⟩ := id hes.1
          subst hva
          have HES := Lib.hid hes
          have HEV := Lib.hid hev
          have HXX := Lib.hid hxx
          have HLL : Hid (∀ k, 0 < xs'.length → (Value.slice Av xs'.length cv).ownBlock = some k → (0 < d.xs.length ∧ d.lv.ownBlock = some k) ∨ weko.heap.size ≤ k) := Lib.hid hll
          have HERR : Hid (errA d.room (evs d.xs) x.ev = errV (vws ds) x.ev) := Lib.hid (by rw [HDR.out, HDO.out]; rfl)
          clear HAW hes hev hxx hll
          have HFAR : Hid (∀ k, footE (Value.slice Av xs'.length cv) xs' k → k ≠ B6) := Lib.hid (fun k hk => by
            have hb6 := smem_lt h6
            rcases addY_foot (w := weko) HXX.out HLL.out hk with hh | hh | hh
            · have := HOLD.out.1 k (of_foot HDM.out hh)
              have := HBW.out.size
              omega
            · have := HOLD.out.2 k hh
              have := HBW.out.size
              omega
            · omega)
          replace h6 := (hbo.block B6 (smem_lt h6)).trans h6
          have hHeld2 := hHeld.trans (hbo.mono hHeld.size)
          clear hHeld
          refine hK.out _ _ hHeld2 (fun hHeld => ?_)
          clear hK K hbo hHeld2
          try simp only [Act.put, List.setIfInBounds_toArray, List.set_cons_zero, List.set_cons_succ]
          refine wpAnyH_take (i := 6) (oi := ⟨some 11, _, _, _, _, _⟩) (v := ?vmkon6) rfl (by kernel_rfl) (by kernel_rfl) (by kernel_rfl) (fun _ _ _ h => h) (Or.inl ⟨by rfl, ?ymkon6⟩) hHeld ?rmkon6
          case ymkon6 =>
            intro wx hSx
            go_simp
            try with_reducible rfl
          try simp only [Act.put, List.setIfInBounds_toArray, List.set_cons_zero, List.set_cons_succ]
          refine wpAnyH_take (i := 7) (oi := ⟨some 18, _, _, _, _, _⟩) (v := ?vmkon7) rfl (by kernel_rfl) (by kernel_rfl) (by kernel_rfl) (fun _ _ _ h => h) (Or.inl ⟨by rfl, ?ymkon7⟩) hHeld ?rmkon7
          case ymkon7 =>
            intro wx hSx
            go_simp
            try with_reducible rfl
          try simp only [Act.put, List.setIfInBounds_toArray, List.set_cons_zero, List.set_cons_succ]
          refine wpAnyH_take (i := 8) (oi := ⟨some 19, _, _, _, _, _⟩) (v := ?vmkon8) rfl (by kernel_rfl) (by kernel_rfl) (by kernel_rfl) (fun _ _ _ h => h) (Or.inl ⟨by rfl, ?ymkon8⟩) hHeld ?rmkon8
          case ymkon8 =>
            intro wx hSx
            go_simp
            try with_reducible rfl
          try simp only [Act.put, List.setIfInBounds_toArray, List.set_cons_zero, List.set_cons_succ]
          refine wpAnyH_ready (rs := [10]) (by kernel_rfl) (by simp) ?_
          refine AllReadyH.cons (o := ⟨none, _, _, _, _, _⟩) rfl (fun K hK => ?_) AllReadyH.nil
          have y0 : wakon.cell? ⟨B6, 0, none⟩ = some (.string ⟨#[]⟩) := cell_at h6 0
          have y1 : wakon.cell? ⟨B6, 1, none⟩ = some (.slice none 0 0) := cell_at h6 1
          have z0 : wakon.frozen? ⟨B6, 0, none⟩ = false := free_at h6 0
          have z1 : wakon.frozen? ⟨B6, 1, none⟩ = false := free_at h6 1
          have HAN := Lib.hid (two_at h6 (.string d.room) (.slice Av xs'.length cv) rfl _ rfl)
          simp only [World.setCells] at HAN
          have HHW := Lib.hid hHeld
          have HLOW := Lib.hid hlow
          go_simp
          clear y0 y1 z0 z1
          generalize World.setCell _ _ _ = w9 at HAN ⊢
          have hb9 : Below w2.heap.size w2 w9 := HHW.out.grown HAN.out.2 HHW.out.size (fun k hk => by injection hk with hk; have := HLOW.out; omega)
          have HA10 : Hid (A10 w w9 (.slice A ds.length cap) ds x B2 B3 B4 B6 ⟨d.room, xs', Av, cv⟩) := Lib.hid ⟨(HBS.out _ hb9).1, (HBS.out _ hb9).2.1, (HBS.out _ hb9).2.2.1, HAN.out.1, (HBS.out _ hb9).2.2.2.2.2, (by rw [← HBB.out] at HL24; exact HL24.out.2.1), HES.out.stay HAN.out.2.size (fun k hk hf => HAN.out.2.block k hk (fun e => HFAR.out k hf (by injection e))), HDR.out, (by rw [← HDO.out, ← HDR.out]; exact HEV.out), fun k hk => by
            rcases addY_foot (w := w) HXX.out (fun k h0 hk => by
              rcases HLL.out k h0 hk with hh | hh
              · exact .inl hh
              · exact .inr (Nat.le_trans (by have := HBW.out.size; have := HSZ.out; omega) hh)) hk with hh | hh
            · exact .inl (of_foot HDM.out hh)
            · exact .inr hh, fun k hk e => by
            subst e
            have hb4 := smem_lt HX4.out
            rcases addY_foot HXX.out HLL.out hk with hh | hh | hh
            · have := HOLD.out.1 _ (of_foot HDM.out hh)
              have := HL24.out.2.1
              have := HBB.out
              omega
            · have := HOLD.out.2 _ hh
              have := HL24.out.2.1
              have := HBB.out
              omega
            · have := HSZ.out
              omega⟩
          refine hK.out _ _ hb9 (fun hHeld => ?_)
          clear hK K
          try simp only [Act.put, List.setIfInBounds_toArray, List.set_cons_zero, List.set_cons_succ]
          refine wpAnyH_take (i := 11) (oi := ⟨some 7, _, _, _, _, _⟩) (v := ?vzkona11) rfl (by kernel_rfl) (by kernel_rfl) (by kernel_rfl) (fun _ _ _ h => h) (Or.inl ⟨by rfl, ?yzkona11⟩) hHeld ?rzkona11
          case yzkona11 =>
            intro wx hSx
            go_simp
            try with_reducible rfl
          try simp only [Act.put, List.setIfInBounds_toArray, List.set_cons_zero, List.set_cons_succ]
          refine wpAnyH_done (by kernel_rfl) ?_ _
          go_wp2_with fail
          go_meet
          exact ⟨B6, rfl, by rw [← HERR.out], Lib.hid ⟨_, HA10.out⟩⟩
    case wkalloc =>
      have hbn := below_new wd (.cells #[.string ⟨#[]⟩, .slice none 0 0] 36)
      have h6 := heap_alloc_new wd (.cells #[.string ⟨#[]⟩, .slice none 0 0] 36)
      have hlow := hHeld.size
      have hHeld2 := hHeld.trans (hbn.mono hHeld.size)
      clear hHeld
      go_simp
      refine hK.out _ _ hHeld2 (fun hHeld => ?_)
      clear hK K hbn hHeld2
      generalize wd.alloc _ = wek at hHeld h6 ⊢
      generalize wd.heap.size = B6 at h6 hlow ⊢
      try simp only [Act.put, List.setIfInBounds_toArray, List.set_cons_zero, List.set_cons_succ]
      refine wpAnyH_ready (rs := [3]) (by kernel_rfl) (by simp) ?_
      refine AllReadyH.cons (o := ⟨some 15, _, _, _, _, _⟩) rfl (fun K hK => ?wknof) AllReadyH.nil
      case wknof =>
        have HOW := Lib.hid (HOF.out wek hHeld)
        go_simp
        refine HOW.out.mono ?_
        rintro e wokn ⟨d, rfl, hde, hdr, hdm, hdo, hbo⟩
        have HDE := Lib.hid hde
        have HDR := Lib.hid hdr
        have HDM := Lib.hid hdm
        have HDO := Lib.hid hdo
        have HDL : Hid (d.xs.length ≤ 1000) := Lib.hid (by
          rcases hdm with hdm | hdm
          · exact Nat.le_trans (hdl d hdm) (by decide)
          · rw [hdm]; exact Nat.zero_le _)
        clear HOW hde hdr hdm hdo
        replace h6 := (hbo.block B6 (smem_lt h6)).trans h6
        have hHeld2 := hHeld.trans (hbo.mono hHeld.size)
        clear hHeld
        refine hK.out _ _ hHeld2 (fun hHeld => ?_)
        clear hK K hbo hHeld2
        try simp only [Act.put, List.setIfInBounds_toArray, List.set_cons_zero, List.set_cons_succ]
        refine wpAnyH_ready (rs := [5]) (by kernel_rfl) (by simp) ?_
        refine AllReadyH.cons (o := ⟨some 17, _, _, _, _, _⟩) rfl (fun K hK => ?wknoadd) AllReadyH.nil
        case wknoadd =>
          have HAW := Lib.hid (HAD.out wokn hHeld d HDE.out HDL.out)
          have HSZ : Hid (w2.heap.size ≤ wokn.heap.size) := Lib.hid hHeld.size
          go_simp
          refine HAW.out.mono ?_
          rintro e wakno ⟨va, xs', rfl, hes, hev, hbo, hxx, hll⟩
          obtain ⟨Av, cv, hva, -⟩ := id hes.1
          subst hva
          have HES := Lib.hid hes
          have HEV := Lib.hid hev
          have HXX := Lib.hid hxx
          have HLL : Hid (∀ k, 0 < xs'.length → (Value.slice Av xs'.length cv).ownBlock = some k → (0 < d.xs.length ∧ d.lv.ownBlock = some k) ∨ wokn.heap.size ≤ k) := Lib.hid hll
          have HERR : Hid (errA d.room (evs d.xs) x.ev = errV (vws ds) x.ev) := Lib.hid (by rw [HDR.out, HDO.out]; rfl)
          clear HAW hes hev hxx hll
          have HFAR : Hid (∀ k, footE (Value.slice Av xs'.length cv) xs' k → k ≠ B6) := Lib.hid (fun k hk => by
            have hb6 := smem_lt h6
            rcases addY_foot (w := wokn) HXX.out HLL.out hk with hh | hh | hh
            · have := HOLD.out.1 k (of_foot HDM.out hh)
              have := HBW.out.size
              omega
            · have := HOLD.out.2 k hh
              have := HBW.out.size
              omega
            · omega)
          replace h6 := (hbo.block B6 (smem_lt h6)).trans h6
          have hHeld2 := hHeld.trans (hbo.mono hHeld.size)
          clear hHeld
          refine hK.out _ _ hHeld2 (fun hHeld => ?_)
          clear hK K hbo hHeld2
          try simp only [Act.put, List.setIfInBounds_toArray, List.set_cons_zero, List.set_cons_succ]
          refine wpAnyH_take (i := 6) (oi := ⟨some 11, _, _, _, _, _⟩) (v := ?vmkno6) rfl (by kernel_rfl) (by kernel_rfl) (by kernel_rfl) (fun _ _ _ h => h) (Or.inl ⟨by rfl, ?ymkno6⟩) hHeld ?rmkno6
          case ymkno6 =>
            intro wx hSx
            go_simp
            try with_reducible rfl
          try simp only [Act.put, List.setIfInBounds_toArray, List.set_cons_zero, List.set_cons_succ]
          refine wpAnyH_take (i := 7) (oi := ⟨some 18, _, _, _, _, _⟩) (v := ?vmkno7) rfl (by kernel_rfl) (by kernel_rfl) (by kernel_rfl) (fun _ _ _ h => h) (Or.inl ⟨by rfl, ?ymkno7⟩) hHeld ?rmkno7
          case ymkno7 =>
            intro wx hSx
            go_simp
            try with_reducible rfl
          try simp only [Act.put, List.setIfInBounds_toArray, List.set_cons_zero, List.set_cons_succ]
          refine wpAnyH_take (i := 8) (oi := ⟨some 19, _, _, _, _, _⟩) (v := ?vmkno8) rfl (by kernel_rfl) (by kernel_rfl) (by kernel_rfl) (fun _ _ _ h => h) (Or.inl ⟨by rfl, ?ymkno8⟩) hHeld ?rmkno8
          case ymkno8 =>
            intro wx hSx
            go_simp
            try with_reducible rfl
          try simp only [Act.put, List.setIfInBounds_toArray, List.set_cons_zero, List.set_cons_succ]
          refine wpAnyH_ready (rs := [10]) (by kernel_rfl) (by simp) ?_
          refine AllReadyH.cons (o := ⟨none, _, _, _, _, _⟩) rfl (fun K hK => ?_) AllReadyH.nil
          have y0 : wakno.cell? ⟨B6, 0, none⟩ = some (.string ⟨#[]⟩) := cell_at h6 0
          have y1 : wakno.cell? ⟨B6, 1, none⟩ = some (.slice none 0 0) := cell_at h6 1
          have z0 : wakno.frozen? ⟨B6, 0, none⟩ = false := free_at h6 0
          have z1 : wakno.frozen? ⟨B6, 1, none⟩ = false := free_at h6 1
          have HAN := Lib.hid (two_at h6 (.string d.room) (.slice Av xs'.length cv) rfl _ rfl)
          simp only [World.setCells] at HAN
          have HHW := Lib.hid hHeld
          have HLOW := Lib.hid hlow
          go_simp
          clear y0 y1 z0 z1
          generalize World.setCell _ _ _ = w9 at HAN ⊢
          have hb9 : Below w2.heap.size w2 w9 := HHW.out.grown HAN.out.2 HHW.out.size (fun k hk => by injection hk with hk; have := HLOW.out; omega)
          have HA10 : Hid (A10 w w9 (.slice A ds.length cap) ds x B2 B3 B4 B6 ⟨d.room, xs', Av, cv⟩) := Lib.hid ⟨(HBS.out _ hb9).1, (HBS.out _ hb9).2.1, (HBS.out _ hb9).2.2.1, HAN.out.1, (HBS.out _ hb9).2.2.2.2.2, (by rw [← HBB.out] at HL24; exact HL24.out.2.1), HES.out.stay HAN.out.2.size (fun k hk hf => HAN.out.2.block k hk (fun e => HFAR.out k hf (by injection e))), HDR.out, (by rw [← HDO.out, ← HDR.out]; exact HEV.out), fun k hk => by
            rcases addY_foot (w := w) HXX.out (fun k h0 hk => by
              rcases HLL.out k h0 hk with hh | hh
              · exact .inl hh
              · exact .inr (Nat.le_trans (by have := HBW.out.size; have := HSZ.out; omega) hh)) hk with hh | hh
            · exact .inl (of_foot HDM.out hh)
            · exact .inr hh, fun k hk e => by
            subst e
            have hb4 := smem_lt HX4.out
            rcases addY_foot HXX.out HLL.out hk with hh | hh | hh
            · have := HOLD.out.1 _ (of_foot HDM.out hh)
              have := HL24.out.2.1
              have := HBB.out
              omega
            · have := HOLD.out.2 _ hh
              have := HL24.out.2.1
              have := HBB.out
              omega
            · have := HSZ.out
              omega⟩
          refine hK.out _ _ hb9 (fun hHeld => ?_)
          clear hK K
          try simp only [Act.put, List.setIfInBounds_toArray, List.set_cons_zero, List.set_cons_succ]
          refine wpAnyH_take (i := 11) (oi := ⟨some 7, _, _, _, _, _⟩) (v := ?vzknoa11) rfl (by kernel_rfl) (by kernel_rfl) (by kernel_rfl) (fun _ _ _ h => h) (Or.inl ⟨by rfl, ?yzknoa11⟩) hHeld ?rzknoa11
          case yzknoa11 =>
            intro wx hSx
            go_simp
            try with_reducible rfl
          try simp only [Act.put, List.setIfInBounds_toArray, List.set_cons_zero, List.set_cons_succ]
          refine wpAnyH_done (by kernel_rfl) ?_ _
          go_wp2_with fail
          go_meet
          exact ⟨B6, rfl, by rw [← HERR.out], Lib.hid ⟨_, HA10.out⟩⟩
  case rest =>
    obtain ⟨B6, rfl, rfl, HY⟩ := hcut
    obtain ⟨d, hy⟩ := HY.out
    have HA := Lib.hid hy
    clear HY hy HX2 HX3 HX4 HBW
    have HDSC : Hid (DsS wc (.slice A ds.length cap) ds) := Lib.hid (HD.out.below HA.out.below)
    have HBASE := Lib.hid HA.out.base
    have HBW := Lib.hid HA.out.below
    by_cases he : errV (vws ds) x.ev = 0
    · have q1 : (errV (vws ds) x.ev != 0) = false := by rw [he]; rfl
      have HE := Lib.hid he
      clear he
      have HC : Hid (∀ W, Below wc.heap.size wc W → W.heap[B2]? = some (.cells #[.slice A ds.length cap] 28 (0, 0)) ∧ W.heap[B3]? = some (.cells #[.string x.ev.id, .string x.ev.room, .slice x.A x.ev.parents.length x.cap, .string x.ev.thread, .string x.ev.user, .int .i64 x.ev.does] 33 (0, 0)) ∧ W.heap[B4]? = some (.cells #[.slice none 0 0] 28 (0, 0)) ∧ W.heap[B6]? = some (.cells #[.string d.room, .slice d.A d.xs.length d.cap] 36 (0, 0)) ∧ DsS W (.slice A ds.length cap) ds) := Lib.hid (fun W hb => ⟨(hb.block B2 (smem_lt HA.out.b2)).trans HA.out.b2, (hb.block B3 (smem_lt HA.out.b3)).trans HA.out.b3, (hb.block B4 (smem_lt HA.out.b4)).trans HA.out.b4, (hb.block B6 (smem_lt HA.out.b6)).trans HA.out.b6, HDSC.out.below hb⟩)
      have HRM : Hid (d.room = x.ev.room) := Lib.hid HA.out.room
      have HC0 := Lib.hid (HC.out wc (Below.refl _ _))
      go_wp2_with fail
      go_loopw [8, 9, 10] (fun u dn i wr => ∃ (a : Nat) (b : Bool) (ts : List DV) (Ao : Option Addr) (co : Nat), u = .slice Ao ts.length co ∧ dn = .bool b ∧ i = .int .i64 (a : Int) ∧ a ≤ ds.length ∧ ts.length ≤ 2 * a ∧ Hid (OuS LD wc wr u ts) ∧ Hid (putKTo DV.room d ds a = (b, ts))) (fun _ _ i _ => ds.length - (intOf i).toNat)
      case atStart => exact ⟨0, false, [], none, 0, rfl, rfl, rfl, Nat.zero_le _, Nat.le_refl _, Lib.hid ⟨Below.refl _ _, .nil _ _⟩, Lib.hid rfl⟩
      case round =>
        obtain ⟨a, b, ts, Ao, co, rfl, rfl, rfl, ha, hta, HO, HT⟩ := hrel
        have HBX := Lib.hid (HC.out wr HO.out.below)
        have c20 : wr.cell? ⟨B2, 0, none⟩ = some (.slice A ds.length cap) := cell_at HBX.out.1 0
        by_cases hay : a < ds.length
        · have q2 : decide ((a : Int) < (ds.length : Int)) = true := decide_eq_true (by omega)
          have hy : ds[a]? = some ds[a] := List.getElem?_eq_getElem hay
          generalize ds[a] = y at hy
          have HTS := Lib.hid (putKTo_succ (key := DV.room) (x := d) hy)
          rw [HT.out] at HTS
          obtain ⟨bo, oo, hA, hbo, f0, f1⟩ := dv_at HDSC.out.1 hy
          have hix := index_any (P := Tryz.prog) knD (by decide) (b := bo) (off := oo) (cap := cap) hay
          simp only [LD] at hix
          rw [← hA] at hix
          unfold DV.lv at f1
          have HYC : Hid (∀ W, Below wc.heap.size wc W → W.cell? ⟨bo, oo + a * 2, none⟩ = some (.string y.room) ∧ W.cell? ⟨bo, oo + a * 2 + 1, none⟩ = some (.slice y.A y.xs.length y.cap)) := Lib.hid (fun W hb => ⟨(hb.cell (p := ⟨bo, oo + a * 2, none⟩) hbo).trans f0, (hb.cell (p := ⟨bo, oo + a * 2 + 1, none⟩) hbo).trans f1⟩)
          clear f0 f1
          obtain ⟨e0, e1⟩ := HYC.out wr HO.out.below
          generalize hys : (y.room.toList == x.ev.room.toList) = ys
          have hyd := hys
          rw [keyB] at hyd
          have HYD : Hid (decide (y.room = d.room) = ys) := Lib.hid (by rw [HRM.out]; exact hyd)
          clear hyd hy hA
          have c31 : wr.cell? ⟨B3, 1, none⟩ = some (.string x.ev.room) := cell_at HBX.out.2.1 1
          cases b with
          | true =>
            go_upto_region 9 with (fail)
            go_quiet (fail)
            replace HO := Lib.hid (HO.out.drewN nq)
            clear c20 c31 e0 e1
            generalize World.drewN _ _ = w4 at HO ⊢
            have HBX4 := Lib.hid (HC.out w4 HO.out.below)
            have c20 : w4.cell? ⟨B2, 0, none⟩ = some (.slice A ds.length cap) := cell_at HBX4.out.1 0
            have c31 : w4.cell? ⟨B3, 1, none⟩ = some (.string x.ev.room) := cell_at HBX4.out.2.1 1
            obtain ⟨e0, e1⟩ := HYC.out w4 HO.out.below
            go_upto_region 12 with (fail)
            go_quiet (fail)
            replace HO := Lib.hid (HO.out.drewN nq)
            clear c20 c31 e0 e1
            generalize World.drewN _ _ = w5 at HO ⊢
            have HBX5 := Lib.hid (HC.out w5 HO.out.below)
            have c20 : w5.cell? ⟨B2, 0, none⟩ = some (.slice A ds.length cap) := cell_at HBX5.out.1 0
            have c31 : w5.cell? ⟨B3, 1, none⟩ = some (.string x.ev.room) := cell_at HBX5.out.2.1 1
            obtain ⟨e0, e1⟩ := HYC.out w5 HO.out.below
            cases ys with
            | true =>
              have HF : Hid (putKTo DV.room d ds (a + 1) = (true, ts)) := Lib.hid (by rw [HTS.out]; unfold putKStep; simp [of_decide_eq_true HYD.out])
              go_wp2_with fail
              refine ⟨⟨a + 1, true, ts, Ao, co, rfl, rfl, by go_num, by omega, by (try simp only [List.length_append, List.length_cons, List.length_nil]); omega, HO, HF⟩, ?_⟩
              simp [intOf]; omega
            | false =>
              have HF : Hid (putKTo DV.room d ds (a + 1) = (true, ts ++ [y])) := Lib.hid (by rw [HTS.out]; unfold putKStep; simp [of_decide_eq_false HYD.out])
              have hlit6 := Lib.hid (lit_D w5 y)
              have hbn6 := below_new w5 (.cells #[.string y.room, .slice y.A y.xs.length y.cap] 36)
              have HO6 := Lib.hid (HO.out.on hbn6)
              have hs6 := HO6.out.below.size
              clear hbn6
              go_wp2_with (at_builtin; refine wpList_puts rfl knD (.tmp 57) (.tmp 63) 26 rfl (v := .slice Ao ts.length co) rfl HO6.out.row hs6 (.slice (some ⟨w5.heap.size, 0, none⟩) 1 1) [y] 1 rfl rfl (hlit6.out.srcN knD rfl) (by first | omega | (rw [List.length_append]; simp only [List.length_cons, List.length_nil]; omega)) ?_; intro A6 c6 w6 m6 g6 o6; have HP6 : Hid (OuS LD wc w6 (.slice A6 (ts.length + 1) c6) (ts ++ [y])) := Lib.hid (HO6.out.put g6 m6); clear m6 g6 o6)
              refine ⟨⟨a + 1, true, ts ++ [y], A6, c6, by rw [List.length_append]; rfl, rfl, by go_num, by omega, by (try simp only [List.length_append, List.length_cons, List.length_nil]); omega, HP6, HF⟩, ?_⟩
              simp [intOf]; omega
          | false =>
            generalize hle : leS d.room y.room = le
            have hq5 : (Op.bytesLess x.ev.room.toList y.room.toList || x.ev.room.toList == y.room.toList) = le := by rw [leq_less, ← HRM.out]; exact hle
            cases le with
            | false =>
              have hny : y.room ≠ d.room := fun e => by
                have := leS_iff.2 (List.lt_irrefl d.room.toList)
                rw [e, this] at hle
                cases hle
              obtain rfl : ys = false := by rw [← HYD.out]; exact decide_eq_false hny
              have HF : Hid (putKTo DV.room d ds (a + 1) = (false, ts ++ [y])) := Lib.hid (by rw [HTS.out]; unfold putKStep; simp [hle, hny])
              clear hny hle
              go_upto_region 9 with (fail)
              go_quiet (fail)
              replace HO := Lib.hid (HO.out.drewN nq)
              clear c20 c31 e0 e1
              generalize World.drewN _ _ = w4 at HO ⊢
              have HBX4 := Lib.hid (HC.out w4 HO.out.below)
              have c20 : w4.cell? ⟨B2, 0, none⟩ = some (.slice A ds.length cap) := cell_at HBX4.out.1 0
              have c31 : w4.cell? ⟨B3, 1, none⟩ = some (.string x.ev.room) := cell_at HBX4.out.2.1 1
              obtain ⟨e0, e1⟩ := HYC.out w4 HO.out.below
              go_upto_region 12 with (fail)
              go_quiet (fail)
              replace HO := Lib.hid (HO.out.drewN nq)
              clear c20 c31 e0 e1
              generalize World.drewN _ _ = w5 at HO ⊢
              have HBX5 := Lib.hid (HC.out w5 HO.out.below)
              have c20 : w5.cell? ⟨B2, 0, none⟩ = some (.slice A ds.length cap) := cell_at HBX5.out.1 0
              have c31 : w5.cell? ⟨B3, 1, none⟩ = some (.string x.ev.room) := cell_at HBX5.out.2.1 1
              obtain ⟨e0, e1⟩ := HYC.out w5 HO.out.below
              have hlit6 := Lib.hid (lit_D w5 y)
              have hbn6 := below_new w5 (.cells #[.string y.room, .slice y.A y.xs.length y.cap] 36)
              have HO6 := Lib.hid (HO.out.on hbn6)
              have hs6 := HO6.out.below.size
              clear hbn6
              go_wp2_with (at_builtin; refine wpList_puts rfl knD (.tmp 57) (.tmp 63) 26 rfl (v := .slice Ao ts.length co) rfl HO6.out.row hs6 (.slice (some ⟨w5.heap.size, 0, none⟩) 1 1) [y] 1 rfl rfl (hlit6.out.srcN knD rfl) (by first | omega | (rw [List.length_append]; simp only [List.length_cons, List.length_nil]; omega)) ?_; intro A6 c6 w6 m6 g6 o6; have HP6 : Hid (OuS LD wc w6 (.slice A6 (ts.length + 1) c6) (ts ++ [y])) := Lib.hid (HO6.out.put g6 m6); clear m6 g6 o6)
              refine ⟨⟨a + 1, false, ts ++ [y], A6, c6, by rw [List.length_append]; rfl, rfl, by go_num, by omega, by (try simp only [List.length_append, List.length_cons, List.length_nil]); omega, HP6, HF⟩, ?_⟩
              simp [intOf]; omega
            | true =>
              have HLE := Lib.hid hle
              clear hle
              go_upto_region 9 with (fail)
              go_quiet (fail)
              replace HO := Lib.hid (HO.out.drewN nq)
              clear c20 c31 e0 e1
              generalize World.drewN _ _ = w4 at HO ⊢
              have HBX4 := Lib.hid (HC.out w4 HO.out.below)
              have c20 : w4.cell? ⟨B2, 0, none⟩ = some (.slice A ds.length cap) := cell_at HBX4.out.1 0
              have c31 : w4.cell? ⟨B3, 1, none⟩ = some (.string x.ev.room) := cell_at HBX4.out.2.1 1
              obtain ⟨e0, e1⟩ := HYC.out w4 HO.out.below
              have d60 : w4.cell? ⟨B6, 0, none⟩ = some (.string d.room) := cell_at HBX4.out.2.2.2.1 0
              have d61 : w4.cell? ⟨B6, 1, none⟩ = some (.slice d.A d.xs.length d.cap) := cell_at HBX4.out.2.2.2.1 1
              have hlit5 := Lib.hid (lit_D w4 d)
              have hbn5 := below_new w4 (.cells #[.string d.room, .slice d.A d.xs.length d.cap] 36)
              have HO5 := Lib.hid (HO.out.on hbn5)
              have hs5 := HO5.out.below.size
              clear hbn5
              go_upto_region 11 with (at_builtin; refine wpList_puts rfl knD (.tmp 44) (.tmp 46) 26 rfl (v := .slice Ao ts.length co) rfl HO5.out.row hs5 (.slice (some ⟨w4.heap.size, 0, none⟩) 1 1) [d] 1 rfl rfl (hlit5.out.srcN knD rfl) (by first | omega | (rw [List.length_append]; simp only [List.length_cons, List.length_nil]; omega)) ?_; intro A5 c5 w5 m5 g5 o5; have HP5 : Hid (OuS LD wc w5 (.slice A5 (ts.length + 1) c5) (ts ++ [d])) := Lib.hid (HO5.out.put g5 m5); clear m5 g5 o5)
              have L3 : Hid ((ts ++ [d]).length = ts.length + 1) := Lib.hid (by rw [List.length_append]; rfl)
              replace HO := HP5
              clear c20 c31 e0 e1 d60 d61
              have HBX5 := Lib.hid (HC.out w5 HO.out.below)
              have c20 : w5.cell? ⟨B2, 0, none⟩ = some (.slice A ds.length cap) := cell_at HBX5.out.1 0
              have c31 : w5.cell? ⟨B3, 1, none⟩ = some (.string x.ev.room) := cell_at HBX5.out.2.1 1
              obtain ⟨e0, e1⟩ := HYC.out w5 HO.out.below
              go_upto_region 12 with (fail)
              go_quiet (fail)
              replace HO := Lib.hid (HO.out.drewN nq)
              clear c20 c31 e0 e1
              generalize World.drewN _ _ = w6 at HO ⊢
              have HBX6 := Lib.hid (HC.out w6 HO.out.below)
              have c20 : w6.cell? ⟨B2, 0, none⟩ = some (.slice A ds.length cap) := cell_at HBX6.out.1 0
              have c31 : w6.cell? ⟨B3, 1, none⟩ = some (.string x.ev.room) := cell_at HBX6.out.2.1 1
              obtain ⟨e0, e1⟩ := HYC.out w6 HO.out.below
              cases ys with
              | true =>
                have HF : Hid (putKTo DV.room d ds (a + 1) = (true, ts ++ [d])) := Lib.hid (by have hq := of_decide_eq_true HYD.out; rw [HTS.out]; unfold putKStep; rw [HLE.out]; simp [hq])
                go_wp2_with fail
                refine ⟨⟨a + 1, true, ts ++ [d], A5, c5, by rw [List.length_append]; rfl, rfl, by go_num, by omega, by (try simp only [List.length_append, List.length_cons, List.length_nil]); omega, HO, HF⟩, ?_⟩
                simp [intOf]; omega
              | false =>
                have HF : Hid (putKTo DV.room d ds (a + 1) = (true, ts ++ [d] ++ [y])) := Lib.hid (by rw [HTS.out]; unfold putKStep; simp [of_decide_eq_false HYD.out, HLE.out])
                have hlit7 := Lib.hid (lit_D w6 y)
                have hbn7 := below_new w6 (.cells #[.string y.room, .slice y.A y.xs.length y.cap] 36)
                have HO7 := Lib.hid (HO.out.on hbn7)
                have hs7 := HO7.out.below.size
                clear hbn7
                go_wp2_with (at_builtin; refine wpList_puts rfl knD (.tmp 57) (.tmp 63) 26 rfl (v := .slice A5 (ts.length + 1) c5) rfl HO7.out.row hs7 (.slice (some ⟨w6.heap.size, 0, none⟩) 1 1) [y] 1 rfl rfl (hlit7.out.srcN knD rfl) (by rw [L3.out]; omega) ?_; rw [L3.out]; intro A7 c7 w7 m7 g7 o7; have HP7 : Hid (OuS LD wc w7 (.slice A7 ((ts.length + 1) + 1) c7) ((ts ++ [d]) ++ [y])) := Lib.hid (HO7.out.put g7 m7); clear m7 g7 o7)
                refine ⟨⟨a + 1, true, ts ++ [d] ++ [y], A7, c7, by rw [List.length_append, L3.out]; rfl, rfl, by go_num, by omega, by (try simp only [List.length_append, List.length_cons, List.length_nil]); omega, HP7, HF⟩, ?_⟩
                simp [intOf]; omega
        · have q2 : decide ((a : Int) < (ds.length : Int)) = false := decide_eq_false (by omega)
          obtain rfl : a = ds.length := by omega
          have HPA := Lib.hid (putKTo_all (key := DV.room) d ds)
          rw [HT.out] at HPA
          have HFIN : Hid (∀ zs, zs = putK DV.room d ds → vws zs = addV (vws ds) x.ev ∧ ∀ z ∈ zs, z = d ∨ z ∈ ds) := Lib.hid (fun zs hz => by
            subst hz
            constructor
            · unfold addV
              rw [if_pos HE.out]
              have h1 := putK_map (key := DV.room) Prod.fst DV.rl (fun _ => rfl) d ds
              show List.map DV.rl (putK DV.room d ds) = _
              rw [h1]
              show putK Prod.fst (d.room, evs d.xs) (vws ds) = _
              rw [HA.out.is, HRM.out]
            · intro z hz
              have h1 := putKTo_mem (key := DV.room) (x := d) (l := ds) ds.length z
              rw [HT.out] at h1
              have h2 := HPA.out
              simp only at h2
              rw [← h2] at hz
              split at hz
              · exact h1 hz
              · rcases List.mem_append.1 hz with hz | hz
                · exact h1 hz
                · exact .inl (List.mem_singleton.1 hz))
          have HEV : Hid (∀ W, Below wc.heap.size wc W → EvsS W d.lv d.xs ∧ DsS W (.slice A ds.length cap) ds) := Lib.hid (fun W hb => ⟨HA.out.evs.below hb, HDSC.out.below hb⟩)
          have HEND : Hid (∀ (zs : List DV) (u : Value) (W W9 : World), zs = putK DV.room d ds → OuS LD wc W u zs → W.heap[B4]? = some (.cells #[.slice none 0 0] 28 (0, 0)) → W9 = W.setCell ⟨B4, 0, none⟩ u → DsS W9 u zs ∧ vws zs = addV (vws ds) x.ev ∧ (∀ k, footD u zs k → footD (.slice A ds.length cap) ds k ∨ footV x k ∨ w.heap.size ≤ k) ∧ Below w.heap.size w W9 ∧ W9.heap[B4]? = some (.cells #[u] 28 (0, 0))) := Lib.hid (fun zs u W W9 hz ho h4 h9 => by
            obtain ⟨g1, g2⟩ := one_at h4 u W9 h9
            obtain ⟨f1, f2⟩ := HFIN.out zs hz
            have hb4 : B4 < wc.heap.size := smem_lt HA.out.b4
            have hst : ∀ k, k < W.heap.size → k ≠ B4 → W9.heap[k]? = W.heap[k]? := fun k hk hne => g2.block k hk (fun e => hne (by injection e))
            have hft : ∀ z ∈ zs, ∀ k, footE z.lv z.xs k → k ≠ B4 ∧ (footD (.slice A ds.length cap) ds k ∨ footV x k ∨ w.heap.size ≤ k) := fun z hz k hk => by
              rcases f2 z hz with rfl | hz
              · refine ⟨fun e => ?_, HA.out.foot k hk⟩
                subst e
                rcases HA.out.foot k hk with hh | hh | hh
                · have := HOLD.out.1 k hh; have := HBASE.out; omega
                · have := HOLD.out.2 k hh; have := HBASE.out; omega
                · exact HA.out.far k hk rfl
              · have h1 : footD (.slice A ds.length cap) ds k := .inr ⟨z, hz, hk⟩
                exact ⟨fun e => by have := HOLD.out.1 k h1; have := HBASE.out; omega, .inl h1⟩
            have hes : ∀ z ∈ zs, EvsS W z.lv z.xs := fun z hz => by
              rcases f2 z hz with rfl | hz
              · exact (HEV.out W ho.below).1
              · exact (HEV.out W ho.below).2.2 z hz
            refine ⟨⟨(ho.row.keep (fun k hk => hst k (ho.row.lt k hk).2 (by have := (ho.row.lt k hk).1; omega))).slice, fun z hz => (hes z hz).stay g2.size (fun k hk hf => hst k hk (hft z hz k hf).1)⟩, f1, fun k hk => ?_, ?_, g1⟩
            · rcases hk with ⟨h0, hk⟩ | ⟨z, hz, hk⟩
              · have := (ho.row.lt k hk).1
                have := HBW.out.size
                exact .inr (.inr (by omega))
              · exact (hft z hz k hk).2
            · exact (HBW.out.trans (ho.below.mono HBW.out.size)).grown g2 (Nat.le_trans HBW.out.size ho.below.size) (fun k hk => by injection hk with hk; have := HBASE.out; omega))
          cases b with
          | true =>
            have HZ : Hid (ts = putK DV.room d ds) := Lib.hid (by have := HPA.out; simpa using this)
            have y0 : wr.cell? ⟨B4, 0, none⟩ = some (.slice none 0 0) := cell_at HBX.out.2.2.1 0
            have z0 : wr.frozen? ⟨B4, 0, none⟩ = false := free_at HBX.out.2.2.1 0
            have HAN := Lib.hid (HEND.out ts _ wr _ HZ.out HO.out HBX.out.2.2.1 rfl)
            go_wp2_with fail
            clear c20 y0 z0
            generalize World.setCell _ _ _ = w9 at HAN ⊢
            have s0 : w9.cell? ⟨B4, 0, none⟩ = some (.slice Ao ts.length co) := cell_at HAN.out.2.2.2.2 0
            refine bodyPost_ret (v := .tuple #[.agg #[.slice Ao ts.length co], .int .i64 0]) ?_ rfl ?_
            · simp [results, Tryz.results12, go_sem, s0]
            · exact ⟨_, by rw [HE.out], ts, HAN.out.1, HAN.out.2.1, HAN.out.2.2.1, HAN.out.2.2.2.1⟩
          | false =>
            have HZ : Hid (ts ++ [d] = putK DV.room d ds) := Lib.hid (by have := HPA.out; simpa using this)
            have d60 : wr.cell? ⟨B6, 0, none⟩ = some (.string d.room) := cell_at HBX.out.2.2.2.1 0
            have d61 : wr.cell? ⟨B6, 1, none⟩ = some (.slice d.A d.xs.length d.cap) := cell_at HBX.out.2.2.2.1 1
            have hlit5 := Lib.hid (lit_D wr d)
            have HO5 := Lib.hid (HO.out.on (below_new wr (.cells #[.string d.room, .slice d.A d.xs.length d.cap] 36)))
            have hs5 := HO5.out.below.size
            go_upto_region 16 with (at_builtin; refine wpList_puts rfl knD (.tmp 67) (.tmp 69) 26 rfl (v := .slice Ao ts.length co) rfl HO5.out.row hs5 (.slice (some ⟨wr.heap.size, 0, none⟩) 1 1) [d] 1 rfl rfl (hlit5.out.srcN knD rfl) (by omega) ?_; intro A5 c5 w5 m5 g5 o5; have HP5 : Hid (OuS LD wc w5 (.slice A5 (ts.length + 1) c5) (ts ++ [d])) := Lib.hid (HO5.out.put g5 m5); clear m5 g5 o5)
            have HBX5 := Lib.hid (HC.out w5 HP5.out.below)
            have y0 : w5.cell? ⟨B4, 0, none⟩ = some (.slice none 0 0) := cell_at HBX5.out.2.2.1 0
            have z0 : w5.frozen? ⟨B4, 0, none⟩ = false := free_at HBX5.out.2.2.1 0
            have HAN := Lib.hid (HEND.out (ts ++ [d]) _ w5 _ HZ.out HP5.out HBX5.out.2.2.1 rfl)
            clear c20 d60 d61
            go_wp2_with fail
            clear y0 z0
            generalize World.setCell _ _ _ = w9 at HAN ⊢
            have s0 : w9.cell? ⟨B4, 0, none⟩ = some (.slice A5 (ts.length + 1) c5) := cell_at HAN.out.2.2.2.2 0
            refine bodyPost_ret (v := .tuple #[.agg #[.slice A5 (ts.length + 1) c5], .int .i64 0]) ?_ rfl ?_
            · simp [results, Tryz.results12, go_sem, s0]
            · exact ⟨_, by rw [HE.out], ts ++ [d], HAN.out.1, HAN.out.2.1, HAN.out.2.2.1, HAN.out.2.2.2.1⟩
    · have q1 : (errV (vws ds) x.ev != 0) = true := by rw [bne_iff_ne]; exact he
      have HAV : Hid (addV (vws ds) x.ev = vws ds) := Lib.hid (by unfold addV; rw [if_neg he])
      have c20 : wc.cell? ⟨B2, 0, none⟩ = some (.slice A ds.length cap) := cell_at HA.out.b2 0
      have y0 : wc.cell? ⟨B4, 0, none⟩ = some (.slice none 0 0) := cell_at HA.out.b4 0
      have z0 : wc.frozen? ⟨B4, 0, none⟩ = false := free_at HA.out.b4 0
      have HAN := Lib.hid (one_at HA.out.b4 (.slice A ds.length cap) _ rfl)
      clear he
      go_wp2_with fail
      clear c20 y0 z0
      generalize World.setCell _ _ _ = w9 at HAN ⊢
      have s0 : w9.cell? ⟨B4, 0, none⟩ = some (.slice A ds.length cap) := cell_at HAN.out.1 0
      refine bodyPost_ret (v := .tuple #[.agg #[.slice A ds.length cap], .int .i64 (errV (vws ds) x.ev)]) ?_ rfl ?_
      · simp [results, Tryz.results12, go_sem, s0]
      · exact ⟨_, ds, rfl, HDSC.out.stay HAN.out.2.size (fun k hk hf => HAN.out.2.block k hk (fun e => by injection e with e; have := HOLD.out.1 k hf; have := HBASE.out; omega)), HAV.out.symm, fun k hk => .inl hk, HBW.out.grown HAN.out.2 HBW.out.size (fun k hk => by injection hk with hk; have := HBASE.out; omega)⟩
end Go.Proofs.YtjiecjpepiknmaaGreat

namespace Go.Proofs.YtjiecjpepiknmaaGreat
set_option maxRecDepth 20000
open Go.RowKit
set_option linter.unusedVariables false
set_option linter.unusedSimpArgs false
theorem ofL_put {V : Vw} (h : Up (V.map Prod.fst)) (r : ByteArray) (l : List Ev) (r' : ByteArray) : ofL (putK Prod.fst (r, l) V) r' = if r' = r then l else ofL V r' := by
  have hu := putK_up (key := Prod.fst) (x := (r, l)) h
  by_cases hr : r' = r
  · subst hr
    rw [if_pos rfl]
    exact ofL_in hu (p := (r', l)) ((putK_mem h).2 (.inl rfl))
  · rw [if_neg hr]
    by_cases hm : r' ∈ V.map Prod.fst
    · obtain ⟨p, hp, rfl⟩ := List.mem_map.1 hm
      rw [ofL_in h hp]
      exact ofL_in hu ((putK_mem h).2 (.inr ⟨hp, hr⟩))
    · rw [ofL_out hm]
      refine ofL_out (fun hm' => ?_)
      obtain ⟨p, hp, rfl⟩ := List.mem_map.1 hm'
      rcases (putK_mem h).1 hp with rfl | ⟨hp, -⟩
      · exact hr rfl
      · exact hm (List.mem_map.2 ⟨p, hp, rfl⟩)
theorem ofL_addV {V : Vw} {e : Ev} (h : Up (V.map Prod.fst)) (he : errV V e = 0) (r : ByteArray) : ofL (addV V e) r = if r = e.room then ofL V r ++ [e] else ofL V r := by
  unfold addV
  rw [if_pos he, ofL_put h]
  have : addA e.room (ofL V e.room) e = ofL V e.room ++ [e] := by
    unfold addA
    exact if_pos he
  rw [this]
  by_cases hr : r = e.room
  · rw [if_pos hr, if_pos hr, hr]
  · rw [if_neg hr, if_neg hr]
abbrev inRoom (es : List Ev) (r : ByteArray) : List Ev := es.filter (fun e => decide (e.room = r))
/-- Each is taken behind those ahead of it. -/
def AllOk (es : List Ev) : Prop := ∀ (i : Nat) e, es[i]? = some e → errA e.room (inRoom (es.take i) e.room) e = 0
def foldV (es : List Ev) : Vw := es.foldl addV []
theorem foldV_snoc (es : List Ev) (e : Ev) : foldV (es ++ [e]) = addV (foldV es) e := by simp [foldV]
theorem foldV_ok (es : List Ev) : VOk es.length (foldV es) := by
  induction es using snoc_ind with
  | h0 => exact VOk.nil
  | hs l e ih =>
    rw [foldV_snoc, List.length_append]
    exact addV_ok ih
theorem foldV_ofL (es : List Ev) (h : AllOk es) : ∀ r, ofL (foldV es) r = inRoom es r := by
  induction es using snoc_ind with
  | h0 => intro r; rfl
  | hs l e ih =>
    intro r
    have hl : AllOk l := fun i x hx => by
      have hi := (List.getElem?_eq_some_iff.1 hx).1
      have := h i x (by rw [List.getElem?_append_left hi]; exact hx)
      rw [List.take_append_of_le_length (by omega)] at this
      exact this
    have he : errV (foldV l) e = 0 := by
      have := h l.length e (by simp)
      rw [List.take_left] at this
      unfold errV
      rw [ih hl]
      exact this
    rw [foldV_snoc, ofL_addV (foldV_ok l).up he, ih hl, inRoom, inRoom, List.filter_append]
    by_cases hr : r = e.room
    · rw [if_pos hr, List.filter_cons, if_pos (decide_eq_true hr.symm)]
      rfl
    · rw [if_neg hr, List.filter_cons, if_neg (by simp only [decide_eq_true_eq]; exact fun e' => hr e'.symm)]
      simp
theorem allOk_take {es : List Ev} (h : AllOk es) (n : Nat) : AllOk (es.take n) := fun i e he => by
  rw [List.getElem?_take] at he
  split at he
  · have := h i e he
    rw [List.take_take, Nat.min_eq_left (by omega)]
    exact this
  · cases he
theorem allOk_err {es : List Ev} (h : AllOk es) {i : Nat} {e : Ev} (he : es[i]? = some e) : errV (foldV (es.take i)) e = 0 := by
  unfold errV
  rw [foldV_ofL _ (allOk_take h i)]
  exact h i e he
theorem foldV_take {es : List Ev} {i : Nat} {e : Ev} (he : es[i]? = some e) : foldV (es.take (i + 1)) = addV (foldV (es.take i)) e := by
  rw [List.take_add_one, he]
  exact foldV_snoc _ _
theorem valid_room {r : ByteArray} {l : List Ev} (h : Valid r l) : ∀ e ∈ l, e.room = r := by
  intro e he
  obtain ⟨i, hi, rfl⟩ := List.getElem_of_mem he
  exact (err_zero (h i _ (List.getElem?_eq_getElem hi))).2.1
theorem inRoom_all {r : ByteArray} {l : List Ev} (h : ∀ e ∈ l, e.room = r) : inRoom l r = l := by
  rw [inRoom, List.filter_eq_self]
  intro e he
  exact decide_eq_true (h e he)
theorem inRoom_none {r : ByteArray} {l : List Ev} (h : ∀ e ∈ l, e.room ≠ r) : inRoom l r = [] := by
  rw [inRoom, List.filter_eq_nil_iff]
  intro e he
  simp only [decide_eq_true_eq]
  exact h e he
theorem allOk_two {a b : ByteArray} {la lb : List Ev} (ha : Valid a la) (hb : Valid b lb) (hne : a ≠ b) : AllOk (la ++ lb) := by
  intro i e he
  by_cases hi : i < la.length
  · rw [List.getElem?_append_left hi] at he
    rw [List.take_append_of_le_length (by omega), valid_room ha e (List.mem_of_getElem? he), inRoom_all (fun x hx => valid_room ha x (List.mem_of_mem_take hx))]
    exact ha i e he
  · rw [List.getElem?_append_right (by omega)] at he
    rw [List.take_append, List.take_of_length_le (by omega), valid_room hb e (List.mem_of_getElem? he), inRoom, List.filter_append]
    have h1 := inRoom_none (r := b) (l := la) (fun x hx => by rw [valid_room ha x hx]; exact hne)
    have h2 := inRoom_all (r := b) (l := lb.take (i - la.length)) (fun x hx => valid_room hb x (List.mem_of_mem_take hx))
    unfold inRoom at h1 h2
    rw [h1, h2, List.nil_append]
    exact hb _ e he
theorem rooms_two : roomS 0 ≠ roomS 1 := by decide +kernel
/-- What is made of both. -/
def madeL (gs hs : List GV) : List Ev := madeTo (roomS 0) (gps gs) (min gs.length 9) ++ madeTo (roomS 1) (gps hs) (min hs.length 9)
theorem made_rows (r : Int) (gs : List GV) : Rowed (roomS r) (madeTo (roomS r) (gps gs) (min gs.length 9)) ∧ (madeTo (roomS r) (gps gs) (min gs.length 9)).length ≤ 9 := by
  have h := madeTo_row (roomS_room r) (gps gs) (min gs.length 9) (by omega) (by rw [List.length_map]; omega)
  exact ⟨h.1, by rw [h.2]; omega⟩
theorem madeL_ok (gs hs : List GV) : AllOk (madeL gs hs) := allOk_two (made_rows 0 gs).1.valid (made_rows 1 hs).1.valid rooms_two
theorem madeL_len (gs hs : List GV) : (madeL gs hs).length ≤ 18 := by
  unfold madeL
  rw [List.length_append]
  have := (made_rows 0 gs).2
  have := (made_rows 1 hs).2
  omega

set_option maxHeartbeats 1600000 in
theorem refMade10_any (va vb : Value) (gs hs : List GV) (w : World) (ha : GsS w va gs) (hb : GsS w vb hs) :
    Calls Tryz.prog 47 #[va, vb] w fun e w' => ∃ v zs, e = .returned v ∧ EvsS w' v zs ∧ evs zs = madeL gs hs ∧ LV.Mine w' w.heap.size v zs ∧ Below w.heap.size w w' ∧ ∀ k, footE v zs k → w.heap.size ≤ k := by
  obtain ⟨Aa, ca, rfl, -⟩ := id ha.1
  obtain ⟨Ab, cb, rfl, -⟩ := id hb.1
  have HA := Lib.hid ha
  have HB := Lib.hid hb
  have HR0 := Lib.hid (fun W => roomOf_any 0 W (by omega) (by omega))
  have HR1 := Lib.hid (fun W => roomOf_any 1 W (by omega) (by omega))
  have HMA := Lib.hid (fun W (hb : Below w.heap.size w W) => refMade_any (roomS 0) _ gs W (HA.out.below hb) (roomS_room 0))
  have HMB := Lib.hid (fun W (hb : Below w.heap.size w W) => refMade_any (roomS 1) _ hs W (HB.out.below hb) (roomS_room 1))
  have HLA : Hid ((madeTo (roomS 0) (gps gs) (min gs.length 9)).length ≤ 9) := Lib.hid (made_rows 0 gs).2
  have HLB : Hid ((madeTo (roomS 1) (gps hs) (min hs.length 9)).length ≤ 9) := Lib.hid (made_rows 1 hs).2
  have HML : Hid (madeL gs hs = madeTo (roomS 0) (gps gs) (min gs.length 9) ++ madeTo (roomS 1) (gps hs) (min hs.length 9)) := Lib.hid rfl
  generalize madeTo (roomS 0) (gps gs) (min gs.length 9) = la at HMA HLA HML
  generalize madeTo (roomS 1) (gps hs) (min hs.length 9) = lb at HMB HLB HML
  generalize madeL gs hs = lab at HML ⊢
  generalize roomS 0 = r0 at HR0 HMA
  generalize roomS 1 = r1 at HR1 HMB
  clear ha hb HA HB
  go_enter Tryz.func47, Tryz.ntmps47
  go_wp2_with fail
  go_at_call 11
  refine (HR0.out _).mono ?_
  rintro e w1 ⟨rfl, hb1⟩
  have HB1 := Lib.hid hb1
  have HQ := Lib.hid (HMA.out w1 hb1)
  clear hb1
  go_wp2_with fail
  go_at_call 80
  refine HQ.out.mono ?_
  rintro e w2 ⟨v2, xs, rfl, hes, hev, hb2, hfp⟩
  obtain ⟨A2, c2, rfl, -⟩ := id hes.1
  have HB2 := Lib.hid (HB1.out.trans (hb2.mono HB1.out.size))
  have HE2 := Lib.hid hes
  have HV2 := Lib.hid hev
  have HF2 : Hid (∀ x ∈ xs, ∀ k, footV x k → w.heap.size ≤ k ∧ k < w2.heap.size) := Lib.hid (fun x hx k hk => by
    have := hfp x hx k hk.2
    have := HB1.out.size
    omega)
  have hs2 : w.heap.size ≤ w2.heap.size := HB2.out.size
  have hxl : xs.length ≤ 9 := by rw [← evs_len, hev]; exact HLA.out
  clear hes hev hb2 hfp HQ
  have hfl2 : ∀ w, (Instr.field 36 (.agg #[.string r0, .slice A2 xs.length c2]) 1).run Tryz.prog w = .ok (.slice A2 xs.length c2) w := fun w => by kernel_rfl
  go_upto_region 3 with (at_builtin; refine wpList_puts rfl knV (.tmp 6) (.tmp 10) 23 rfl (v := .slice none 0 0) rfl (Lies.Mine.nil w2 w.heap.size) hs2 (.slice A2 xs.length c2) xs xs.length rfl rfl (HE2.out.1.srcN knV rfl) (by simp only [List.length_nil]; omega) ?_; rw [List.length_nil, Nat.zero_add, List.nil_append]; intro A3 c3 w3 m3 g3 o3; have HM3 : Hid (LV.Mine w3 w.heap.size (.slice A3 xs.length c3) xs) := Lib.hid m3; have HG3 : Hid (Below w2.heap.size w2 w3) := Lib.hid ((Below.refl _ _).grown g3 (Nat.le_refl _) (fun k hk => by cases hk)); have HO3 : Hid (∀ k, (Value.slice A3 xs.length c3).ownBlock = some k → w2.heap.size ≤ k) := Lib.hid (fun k hk => (o3 k hk).resolve_left (fun e => by cases e)); clear m3 g3 o3)
  have HB3 := Lib.hid (HB2.out.trans (HG3.out.mono HB2.out.size))
  have HE3 : Hid (∀ x ∈ xs, x.at w3) := Lib.hid (fun x hx => (HE2.out.2 x hx).below HG3.out)
  clear HE2
  go_wp2_with fail
  go_at_call 11
  refine (HR1.out _).mono ?_
  rintro e w4 ⟨rfl, hb4⟩
  have HB4 := Lib.hid (HB3.out.trans (hb4.mono HB3.out.size))
  have HM4 := Lib.hid (HM3.out.below hb4)
  have HE4 : Hid (∀ x ∈ xs, x.at w4) := Lib.hid (fun x hx => (HE3.out x hx).below hb4)
  have HQ := Lib.hid (HMB.out w4 HB4.out)
  clear hb4 HM3 HE3
  go_wp2_with fail
  go_at_call 80
  refine HQ.out.mono ?_
  rintro e w5 ⟨v5, ys, rfl, hes, hev, hb5, hfp⟩
  obtain ⟨A5, c5, rfl, -⟩ := id hes.1
  have HB5 := Lib.hid (HB4.out.trans (hb5.mono HB4.out.size))
  have HM5 := Lib.hid (HM4.out.below hb5)
  have HX5 : Hid (∀ x ∈ xs, x.at w5) := Lib.hid (fun x hx => (HE4.out x hx).below hb5)
  have HE5 := Lib.hid hes
  have HV5 := Lib.hid hev
  have HF5 : Hid (∀ y ∈ ys, ∀ k, footV y k → w4.heap.size ≤ k ∧ k < w5.heap.size) := Lib.hid (fun x hx k hk => hfp x hx k hk.2)
  have hs5 : w.heap.size ≤ w5.heap.size := HB5.out.size
  have hyl : ys.length ≤ 9 := by rw [← evs_len, hev]; exact HLB.out
  have HOW : Hid (∀ k, (Value.slice A3 xs.length c3).ownBlock = some k → k < w4.heap.size) := Lib.hid (fun k hk => (HM4.out.lt k hk).2)
  have HOW2 : Hid (∀ x ∈ xs, ∀ k, footV x k → k < w2.heap.size) := Lib.hid (fun x hx k hk => (HF2.out x hx k hk).2)
  clear hes hev hb5 hfp HQ
  have hfl5 : ∀ w, (Instr.field 36 (.agg #[.string r1, .slice A5 ys.length c5]) 1).run Tryz.prog w = .ok (.slice A5 ys.length c5) w := fun w => by kernel_rfl
  go_wp2_with (at_builtin; refine wpList_puts rfl knV (.tmp 12) (.tmp 16) 23 rfl (v := .slice A3 xs.length c3) rfl HM5.out hs5 (.slice A5 ys.length c5) ys ys.length rfl rfl (HE5.out.1.srcN knV rfl) (by omega) ?_; intro A6 c6 w6 m6 g6 o6; have HM6 : Hid (LV.Mine w6 w.heap.size (.slice A6 (xs.length + ys.length) c6) (xs ++ ys)) := Lib.hid m6; have HG6 : Hid (w5.grownBy w6 (Value.slice A3 xs.length c3).ownBlock) := Lib.hid g6; clear m6 g6 o6)
  go_ret
  have hlow3 : ∀ k, (Value.slice A3 xs.length c3).ownBlock = some k → w.heap.size ≤ k := fun k hk => (HM5.out.lt k hk).1
  refine ⟨_, xs ++ ys, rfl, ⟨HM6.out.slice, fun z hz => ?_⟩, ?_, HM6.out, HB5.out.grown HG6.out HB5.out.size hlow3, fun k hk => ?_⟩
  · rcases List.mem_append.1 hz with hz | hz
    · refine (HX5.out z hz).stay0 HG6.out.size (fun k hk hf => HG6.out.block k hk (fun e => ?_))
      have h1 := HO3.out k e.symm
      have h2 := HOW2.out z hz k hf
      omega
    · refine (HE5.out.2 z hz).stay0 HG6.out.size (fun k hk hf => HG6.out.block k hk (fun e => ?_))
      have h1 := (HF5.out z hz k hf).1
      have h2 := HOW.out k e.symm
      omega
  · show List.map EvV.ev (xs ++ ys) = lab
    rw [List.map_append]
    show evs xs ++ evs ys = lab
    rw [HV2.out, HV5.out, HML.out]
  · rcases hk with ⟨h0, hk⟩ | ⟨z, hz, hk⟩
    · exact (HM6.out.lt k hk).1
    · rcases List.mem_append.1 hz with hz | hz
      · exact (HF2.out z hz k hk).1
      · have := (HF5.out z hz k hk).1
        have := HB4.out.size
        omega
end Go.Proofs.YtjiecjpepiknmaaGreat

namespace Go.Proofs.YtjiecjpepiknmaaGreat
set_option maxRecDepth 20000
open Go.RowKit
set_option linter.unusedVariables false
set_option linter.unusedSimpArgs false
/-- While a view is built. -/
structure BuV (w wr : World) (v : Value) (xs : List EvV) (B2 B3 : Nat) (u : Value) (ds : List DV) (a : Nat) : Prop where
  below : Below w.heap.size w wr
  b2 : wr.heap[B2]? = some (.cells #[.slice none 0 0] 28 (0, 0))
  b3 : wr.heap[B3]? = some (.cells #[u] 28 (0, 0))
  low : w.heap.size ≤ B2 ∧ w.heap.size ≤ B3 ∧ B2 ≠ B3
  dss : DsS wr u ds
  is : vws ds = foldV (evs (xs.take a))
  foot : ∀ k, footD u ds k → footE v xs k ∨ (w.heap.size ≤ k ∧ k ≠ B2 ∧ k ≠ B3)
structure Bu5 (w wr : World) (v : Value) (xs : List EvV) (B2 B3 : Nat) (u0 : Value) (B5 : Nat) (u : Value) (ds : List DV) (V : Vw) : Prop where
  below : Below w.heap.size w wr
  b2 : wr.heap[B2]? = some (.cells #[.slice none 0 0] 28 (0, 0))
  b3 : wr.heap[B3]? = some (.cells #[u0] 28 (0, 0))
  b5 : wr.heap[B5]? = some (.cells #[u] 28 (0, 0))
  dss : DsS wr u ds
  is : vws ds = V
  foot : ∀ k, footD u ds k → footE v xs k ∨ (w.heap.size ≤ k ∧ k ≠ B2 ∧ k ≠ B3 ∧ k ≠ B5)
theorem vws_ok {ds : List DV} {es : List Ev} (h : vws ds = foldV es) : VOk es.length (vws ds) := by rw [h]; exact foldV_ok es
theorem vws_len {ds : List DV} {n : Nat} (h : VOk n (vws ds)) : ds.length ≤ n ∧ ∀ d ∈ ds, d.xs.length ≤ n := by
  have h1 := h.len
  rw [List.length_map] at h1
  refine ⟨h1, fun d hd => ?_⟩
  have := (h.each d.rl (List.mem_map.2 ⟨d, hd, rfl⟩)).2.1
  rw [evs_len] at this
  exact this
theorem two_vs (w : World) : ∀ W, W = (w.alloc (.cells #[.slice none 0 0] 28)).alloc (.cells #[.slice none 0 0] 28) → W.heap[w.heap.size]? = some (.cells #[.slice none 0 0] 28 (0, 0)) ∧ W.heap[w.heap.size + 1]? = some (.cells #[.slice none 0 0] 28 (0, 0)) ∧ Below w.heap.size w W := by
  rintro W rfl
  have hs : (w.alloc (.cells #[.slice none 0 0] 28)).heap.size = w.heap.size + 1 := by simp
  have h3 := heap_alloc_new (w.alloc (.cells #[.slice none 0 0] 28)) (.cells #[.slice none 0 0] 28)
  rw [hs] at h3
  refine ⟨?_, h3, ((Below.refl _ w).alloc (Nat.le_refl _) _).alloc (by simp) _⟩
  rw [heap_alloc_old _ _ (by rw [hs]; omega)]
  exact heap_alloc_new w _

set_option maxHeartbeats 6400000 in
theorem refBuild10_any (v : Value) (xs : List EvV) (w : World) (h : EvsS w v xs) (hl : xs.length ≤ 100) :
    Calls Tryz.prog 48 #[v] w fun e w' => ∃ u ds, e = .returned (.agg #[u]) ∧ DsS w' u ds ∧ vws ds = foldV (evs xs) ∧ (∀ k, footD u ds k → footE v xs k ∨ w.heap.size ≤ k) ∧ Below w.heap.size w w' := by
  obtain ⟨A, cap, rfl, h1, h2, -⟩ := id h.1
  unfold maxLen at h2
  have HE := Lib.hid h
  have HT := Lib.hid (two_vs w _ rfl)
  have HOLD : Hid (∀ k, footE (.slice A xs.length cap) xs k → k < w.heap.size) := Lib.hid (fun k hk => h.foot hk)
  clear h
  go_enter Tryz.func48, Tryz.ntmps48
  go_upto_region 2 with (fail)
  generalize World.alloc _ _ = w2 at HT ⊢
  have HS0 : Hid (BuV w w2 (.slice A xs.length cap) xs w.heap.size (w.heap.size + 1) (.slice none 0 0) [] 0) := Lib.hid ⟨HT.out.2.2, HT.out.1, HT.out.2.1, ⟨Nat.le_refl _, by omega, by omega⟩, ⟨.nil _, fun d hd => by cases hd⟩, rfl, fun k hk => by
    rcases hk with ⟨h0, -⟩ | ⟨d, hd, -⟩
    · exact absurd h0 (Nat.lt_irrefl 0)
    · cases hd⟩
  clear HT
  generalize w.heap.size + 1 = B3 at HS0 ⊢
  generalize hB2 : w.heap.size = B2 at HS0 ⊢
  have HBB := Lib.hid hB2
  clear hB2
  go_wp2_with fail
  go_loopw [4] (fun i wr => ∃ a : Nat, i = .int .i64 (a : Int) ∧ a ≤ xs.length ∧ Hid (∃ u ds, BuV w wr (.slice A xs.length cap) xs B2 B3 u ds a)) (fun i _ => xs.length - (intOf i).toNat)
  case atStart => exact ⟨0, rfl, Nat.zero_le _, Lib.hid ⟨_, _, HS0.out⟩⟩
  case round =>
    clear HS0
    obtain ⟨a, rfl, ha, HY⟩ := hrel
    obtain ⟨u, ds, hbu⟩ := HY.out
    obtain ⟨Au, cu, hu, -⟩ := id hbu.dss.1
    subst hu
    have HA := Lib.hid hbu
    clear HY hbu
    by_cases hax : a < xs.length
    · have q1 : decide ((a : Int) < (xs.length : Int)) = true := decide_eq_true (by omega)
      have hx : xs[a]? = some xs[a] := List.getElem?_eq_getElem hax
      generalize xs[a] = x at hx
      have HX := Lib.hid hx
      clear hx
      go_upto_region 5 with (fail)
      have hix0 := hax
      have hat : EvsS wr (.slice A xs.length cap) xs := HE.out.below HA.out.below
      obtain ⟨b, off, hA, hb, hrg⟩ := ev_at hat HX.out
      have hix := index_any (P := Tryz.prog) knV (by decide) (b := b) (off := off) (cap := cap) hax
      simp only [LV] at hix
      rw [← hA] at hix
      have HRG := Lib.hid hrg
      have HXA : Hid (x.at wr) := Lib.hid (hat.2 x (List.mem_of_getElem? HX.out))
      have HFX : Hid (∀ k, footV x k → footE (.slice A xs.length cap) xs k) := Lib.hid (fun k hk => .inr ⟨x, List.mem_of_getElem? HX.out, hk⟩)
      have HB0 : Hid (b < wr.heap.size) := Lib.hid hb
      clear hat hA hb hrg hix0
      go_cut [5, 6] from 7 to 22 (fun s5 s6 wx => ∃ B5 u' ds', s5 = .pointer (some ⟨B5, 0, none⟩) ∧ Hid (Bu5 w wx (.slice A xs.length cap) xs B2 B3 (.slice Au ds.length cu) B5 u' ds' (addV (vws ds) x.ev)))
      case first =>
        have HBS : Hid (∀ W, Below wr.heap.size wr W → W.heap[B3]? = some (.cells #[.slice Au ds.length cu] 28 (0, 0)) ∧ W.rangeAt b (off + a * 6) x.cells ∧ DsS W (.slice Au ds.length cu) ds ∧ x.at W ∧ W.heap[B2]? = some (.cells #[.slice none 0 0] 28 (0, 0)) ∧ Below w.heap.size w W) := Lib.hid (fun W hb => ⟨(hb.block B3 (smem_lt HA.out.b3)).trans HA.out.b3, fun j z hz => (hb.cell (p := ⟨b, off + a * 6 + j, none⟩) HB0.out).trans (HRG.out j z hz), HA.out.dss.below hb, HXA.out.below hb, (hb.block B2 (smem_lt HA.out.b2)).trans HA.out.b2, HA.out.below.trans (hb.mono HA.out.below.size)⟩)
        have HVK := Lib.hid (vws_len (vws_ok HA.out.is))
        have HTL : Hid ((evs (xs.take a)).length ≤ 100) := Lib.hid (by rw [evs_len, List.length_take]; omega)
        have HAD := Lib.hid (fun W (hb : Below wr.heap.size wr W) => refAdd10_any (.slice Au ds.length cu) ds x W (HBS.out W hb).2.2.1 (HBS.out W hb).2.2.2.1 (by have := HVK.out.1; have := HTL.out; omega) (fun d hd => by have := HVK.out.2 d hd; have := HTL.out; omega))
        have HFO : Hid (∀ k, footD (.slice Au ds.length cu) ds k → k < wr.heap.size) := Lib.hid (fun k hk => HA.out.dss.foot hk)
        have HFX2 : Hid (∀ k, footV x k → k < wr.heap.size) := Lib.hid (fun k hk => HXA.out.foot hk)
        have H23 : Hid (B2 < wr.heap.size ∧ B3 < wr.heap.size) := Lib.hid ⟨smem_lt HA.out.b2, smem_lt HA.out.b3⟩
        unfold EvV.val EvV.pv at HAD
        refine wp_region_held_drew (S := fun W => Below wr.heap.size wr W) (by kernel_rfl) (Below.refl _ _).drew (fun hHeld => ?_)
        generalize wr.drew = wd at hHeld ⊢
        refine wpAnyH_take (i := 0) (oi := ⟨some 14, _, _, _, _, _⟩) (v := ?vq0) rfl (by kernel_rfl) (by kernel_rfl) (by kernel_rfl) (fun _ _ _ h => h) (Or.inl ⟨by rfl, ?yq0⟩) hHeld ?rq0
        case yq0 =>
          intro wx hSx
          have z : wx.cell? ⟨B3, 0, none⟩ = some (.slice Au ds.length cu) := cell_at (HBS.out _ hSx).1 0
          go_simp
          try with_reducible rfl
        try simp only [Act.put, List.setIfInBounds_toArray, List.set_cons_zero, List.set_cons_succ]
        refine wpAnyH_take (i := 1) (oi := ⟨some 15, _, _, _, _, _⟩) (v := ?vq1) rfl (by kernel_rfl) (by kernel_rfl) (by kernel_rfl) (fun _ _ _ h => h) (Or.inl ⟨by rfl, ?yq1⟩) hHeld ?rq1
        case yq1 =>
          intro wx hSx
          go_simp
          try with_reducible rfl
        try simp only [Act.put, List.setIfInBounds_toArray, List.set_cons_zero, List.set_cons_succ]
        refine wpAnyH_take (i := 2) (oi := ⟨some 16, _, _, _, _, _⟩) (v := ?vq2) rfl (by kernel_rfl) (by kernel_rfl) (by kernel_rfl) (fun _ _ _ h => h) (Or.inl ⟨by rfl, ?yq2⟩) hHeld ?rq2
        case yq2 =>
          intro wx hSx
          go_simp
          try with_reducible rfl
        try simp only [Act.put, List.setIfInBounds_toArray, List.set_cons_zero, List.set_cons_succ]
        refine wpAnyH_take (i := 3) (oi := ⟨some 17, _, _, _, _, _⟩) (v := ?vq3) rfl (by kernel_rfl) (by kernel_rfl) (by kernel_rfl) (fun _ _ _ h => h) (Or.inl ⟨by rfl, ?yq3⟩) hHeld ?rq3
        case yq3 =>
          intro wx hSx
          go_simp
          try with_reducible rfl
        try simp only [Act.put, List.setIfInBounds_toArray, List.set_cons_zero, List.set_cons_succ]
        refine wpAnyH_take (i := 4) (oi := ⟨some 18, _, _, _, _, _⟩) (v := ?vq4) rfl (by kernel_rfl) (by kernel_rfl) (by kernel_rfl) (fun _ _ _ h => h) (Or.inl ⟨by rfl, ?yq4⟩) hHeld ?rq4
        case yq4 =>
          intro wx hSx
          obtain ⟨z0, z1, z2, z3, z4, z5⟩ := ev_cells (HBS.out _ hSx).2.1
          unfold EvV.pv at z2
          go_simp
          try with_reducible rfl
        try simp only [Act.put, List.setIfInBounds_toArray, List.set_cons_zero, List.set_cons_succ]
        refine wpAnyH_ready (rs := [5, 9]) (by kernel_rfl) (by simp) ?_
        refine AllReadyH.cons (o := ⟨some 19, _, _, _, _, _⟩) rfl (fun K hK => ?wkadd) (AllReadyH.cons (o := ⟨some 5, _, _, _, _, _⟩) rfl (fun K hK => ?wkalloc) AllReadyH.nil)
        case wkadd =>
          have HAW := Lib.hid (HAD.out wd hHeld)
          have HSZ : Hid (wr.heap.size ≤ wd.heap.size) := Lib.hid hHeld.size
          go_simp
          refine HAW.out.mono ?_
          rintro e wak ⟨u', ds', rfl, hes, hev, hft, hbo⟩
          obtain ⟨A', c', hu', -⟩ := id hes.1
          subst hu'
          have HES := Lib.hid hes
          have HEV := Lib.hid hev
          have HFT : Hid (∀ k, footD (.slice A' ds'.length c') ds' k → footD (.slice Au ds.length cu) ds k ∨ footV x k ∨ wd.heap.size ≤ k) := Lib.hid hft
          clear HAW hes hev hft
          have hHeld2 := hHeld.trans (hbo.mono hHeld.size)
          clear hHeld
          refine hK.out _ _ hHeld2 (fun hHeld => ?_)
          clear hK K hbo hHeld2
          try simp only [Act.put, List.setIfInBounds_toArray, List.set_cons_zero, List.set_cons_succ]
          refine wpAnyH_take (i := 6) (oi := ⟨some 13, _, _, _, _, _⟩) (v := ?vmk6) rfl (by kernel_rfl) (by kernel_rfl) (by kernel_rfl) (fun _ _ _ h => h) (Or.inl ⟨by rfl, ?ymk6⟩) hHeld ?rmk6
          case ymk6 =>
            intro wx hSx
            go_simp
            try with_reducible rfl
          try simp only [Act.put, List.setIfInBounds_toArray, List.set_cons_zero, List.set_cons_succ]
          refine wpAnyH_take (i := 7) (oi := ⟨some 20, _, _, _, _, _⟩) (v := ?vmk7) rfl (by kernel_rfl) (by kernel_rfl) (by kernel_rfl) (fun _ _ _ h => h) (Or.inl ⟨by rfl, ?ymk7⟩) hHeld ?rmk7
          case ymk7 =>
            intro wx hSx
            go_simp
            try with_reducible rfl
          try simp only [Act.put, List.setIfInBounds_toArray, List.set_cons_zero, List.set_cons_succ]
          refine wpAnyH_take (i := 8) (oi := ⟨some 21, _, _, _, _, _⟩) (v := ?vmk8) rfl (by kernel_rfl) (by kernel_rfl) (by kernel_rfl) (fun _ _ _ h => h) (Or.inl ⟨by rfl, ?ymk8⟩) hHeld ?rmk8
          case ymk8 =>
            intro wx hSx
            go_simp
            try with_reducible rfl
          try simp only [Act.put, List.setIfInBounds_toArray, List.set_cons_zero, List.set_cons_succ]
          refine wpAnyH_ready (rs := [9]) (by kernel_rfl) (by simp) ?_
          refine AllReadyH.cons (o := ⟨some 5, _, _, _, _, _⟩) rfl (fun K hK => ?wkaalloc) AllReadyH.nil
          case wkaalloc =>
            have hbn := below_new wak (.cells #[.slice none 0 0] 28)
            have h5 := heap_alloc_new wak (.cells #[.slice none 0 0] 28)
            have hlow := hHeld.size
            have HFAR : Hid (∀ k, footD (.slice A' ds'.length c') ds' k → k ≠ wak.heap.size) := Lib.hid (fun k hk => by
              have := HES.out.foot hk
              omega)
            replace HES := Lib.hid (HES.out.below hbn)
            have hHeld2 := hHeld.trans (hbn.mono hHeld.size)
            clear hHeld
            go_simp
            refine hK.out _ _ hHeld2 (fun hHeld => ?_)
            clear hK K hbn hHeld2
            generalize wak.alloc _ = weka at hHeld h5 HES ⊢
            generalize wak.heap.size = B5 at h5 hlow HFAR ⊢
            try simp only [Act.put, List.setIfInBounds_toArray, List.set_cons_zero, List.set_cons_succ]
            refine wpAnyH_ready (rs := [10]) (by kernel_rfl) (by simp) ?_
            refine AllReadyH.cons (o := ⟨none, _, _, _, _, _⟩) rfl (fun K hK => ?_) AllReadyH.nil
            have y0 : weka.cell? ⟨B5, 0, none⟩ = some (.slice none 0 0) := cell_at h5 0
            have z0 : weka.frozen? ⟨B5, 0, none⟩ = false := free_at h5 0
            have HAN := Lib.hid (one_at h5 (.slice A' ds'.length c') _ rfl)
            have HHW := Lib.hid hHeld
            have HLOW := Lib.hid hlow
            go_simp
            clear y0 z0
            generalize World.setCell _ _ _ = w9 at HAN ⊢
            have hb9 : Below wr.heap.size wr w9 := HHW.out.grown HAN.out.2 HHW.out.size (fun k hk => by injection hk with hk; have := HLOW.out; omega)
            have HB5 : Hid (Bu5 w w9 (.slice A xs.length cap) xs B2 B3 (.slice Au ds.length cu) B5 (.slice A' ds'.length c') ds' (addV (vws ds) x.ev)) := Lib.hid ⟨(HBS.out _ hb9).2.2.2.2.2, (HBS.out _ hb9).2.2.2.2.1, (HBS.out _ hb9).1, HAN.out.1, HES.out.stay HAN.out.2.size (fun k hk hf => HAN.out.2.block k hk (fun e => HFAR.out k hf (by injection e))), HEV.out, fun k hk => by
              rcases HFT.out k hk with hh | hh | hh
              · rcases HA.out.foot k hh with hj | hj
                · exact .inl hj
                · exact .inr ⟨hj.1, hj.2.1, hj.2.2, HFAR.out k hk⟩
              · exact .inl (HFX.out k hh)
              · have h1 := HSZ.out
                have h2 := H23.out
                have h3 := HA.out.below.size
                exact .inr ⟨by omega, by omega, by omega, HFAR.out k hk⟩⟩
            refine hK.out _ _ hb9 (fun hHeld => ?_)
            clear hK K
            try simp only [Act.put, List.setIfInBounds_toArray, List.set_cons_zero, List.set_cons_succ]
            refine wpAnyH_take (i := 11) (oi := ⟨some 6, _, _, _, _, _⟩) (v := ?vzkan11) rfl (by kernel_rfl) (by kernel_rfl) (by kernel_rfl) (fun _ _ _ h => h) (Or.inl ⟨by rfl, ?yzkan11⟩) hHeld ?rzkan11
            case yzkan11 =>
              intro wx hSx
              go_simp
              try with_reducible rfl
            try simp only [Act.put, List.setIfInBounds_toArray, List.set_cons_zero, List.set_cons_succ]
            refine wpAnyH_done (by kernel_rfl) ?_ _
            go_wp2_with fail
            go_meet
            exact ⟨B5, _, _, rfl, HB5⟩
        case wkalloc =>
          have hbn := below_new wd (.cells #[.slice none 0 0] 28)
          have h5 := heap_alloc_new wd (.cells #[.slice none 0 0] 28)
          have hlow := hHeld.size
          have hHeld2 := hHeld.trans (hbn.mono hHeld.size)
          clear hHeld
          go_simp
          refine hK.out _ _ hHeld2 (fun hHeld => ?_)
          clear hK K hbn hHeld2
          generalize wd.alloc _ = wek at hHeld h5 ⊢
          generalize wd.heap.size = B5 at h5 hlow ⊢
          try simp only [Act.put, List.setIfInBounds_toArray, List.set_cons_zero, List.set_cons_succ]
          refine wpAnyH_ready (rs := [5]) (by kernel_rfl) (by simp) ?_
          refine AllReadyH.cons (o := ⟨some 19, _, _, _, _, _⟩) rfl (fun K hK => ?wknadd) AllReadyH.nil
          case wknadd =>
            have HAW := Lib.hid (HAD.out wek hHeld)
            have HSZ : Hid (wr.heap.size ≤ wek.heap.size) := Lib.hid hHeld.size
            go_simp
            refine HAW.out.mono ?_
            rintro e wakn ⟨u', ds', rfl, hes, hev, hft, hbo⟩
            obtain ⟨A', c', hu', -⟩ := id hes.1
            subst hu'
            have HES := Lib.hid hes
            have HEV := Lib.hid hev
            have HFT : Hid (∀ k, footD (.slice A' ds'.length c') ds' k → footD (.slice Au ds.length cu) ds k ∨ footV x k ∨ wek.heap.size ≤ k) := Lib.hid hft
            clear HAW hes hev hft
            have HFAR : Hid (∀ k, footD (.slice A' ds'.length c') ds' k → k ≠ B5) := Lib.hid (fun k hk => by
              have hb5 := smem_lt h5
              rcases HFT.out k hk with hh | hh | hh
              · have := HFO.out k hh
                omega
              · have := HFX2.out k hh
                omega
              · omega)
            replace h5 := (hbo.block B5 (smem_lt h5)).trans h5
            have hHeld2 := hHeld.trans (hbo.mono hHeld.size)
            clear hHeld
            refine hK.out _ _ hHeld2 (fun hHeld => ?_)
            clear hK K hbo hHeld2
            try simp only [Act.put, List.setIfInBounds_toArray, List.set_cons_zero, List.set_cons_succ]
            refine wpAnyH_take (i := 6) (oi := ⟨some 13, _, _, _, _, _⟩) (v := ?vmkn6) rfl (by kernel_rfl) (by kernel_rfl) (by kernel_rfl) (fun _ _ _ h => h) (Or.inl ⟨by rfl, ?ymkn6⟩) hHeld ?rmkn6
            case ymkn6 =>
              intro wx hSx
              go_simp
              try with_reducible rfl
            try simp only [Act.put, List.setIfInBounds_toArray, List.set_cons_zero, List.set_cons_succ]
            refine wpAnyH_take (i := 7) (oi := ⟨some 20, _, _, _, _, _⟩) (v := ?vmkn7) rfl (by kernel_rfl) (by kernel_rfl) (by kernel_rfl) (fun _ _ _ h => h) (Or.inl ⟨by rfl, ?ymkn7⟩) hHeld ?rmkn7
            case ymkn7 =>
              intro wx hSx
              go_simp
              try with_reducible rfl
            try simp only [Act.put, List.setIfInBounds_toArray, List.set_cons_zero, List.set_cons_succ]
            refine wpAnyH_take (i := 8) (oi := ⟨some 21, _, _, _, _, _⟩) (v := ?vmkn8) rfl (by kernel_rfl) (by kernel_rfl) (by kernel_rfl) (fun _ _ _ h => h) (Or.inl ⟨by rfl, ?ymkn8⟩) hHeld ?rmkn8
            case ymkn8 =>
              intro wx hSx
              go_simp
              try with_reducible rfl
            try simp only [Act.put, List.setIfInBounds_toArray, List.set_cons_zero, List.set_cons_succ]
            refine wpAnyH_ready (rs := [10]) (by kernel_rfl) (by simp) ?_
            refine AllReadyH.cons (o := ⟨none, _, _, _, _, _⟩) rfl (fun K hK => ?_) AllReadyH.nil
            have y0 : wakn.cell? ⟨B5, 0, none⟩ = some (.slice none 0 0) := cell_at h5 0
            have z0 : wakn.frozen? ⟨B5, 0, none⟩ = false := free_at h5 0
            have HAN := Lib.hid (one_at h5 (.slice A' ds'.length c') _ rfl)
            have HHW := Lib.hid hHeld
            have HLOW := Lib.hid hlow
            go_simp
            clear y0 z0
            generalize World.setCell _ _ _ = w9 at HAN ⊢
            have hb9 : Below wr.heap.size wr w9 := HHW.out.grown HAN.out.2 HHW.out.size (fun k hk => by injection hk with hk; have := HLOW.out; omega)
            have HB5 : Hid (Bu5 w w9 (.slice A xs.length cap) xs B2 B3 (.slice Au ds.length cu) B5 (.slice A' ds'.length c') ds' (addV (vws ds) x.ev)) := Lib.hid ⟨(HBS.out _ hb9).2.2.2.2.2, (HBS.out _ hb9).2.2.2.2.1, (HBS.out _ hb9).1, HAN.out.1, HES.out.stay HAN.out.2.size (fun k hk hf => HAN.out.2.block k hk (fun e => HFAR.out k hf (by injection e))), HEV.out, fun k hk => by
              rcases HFT.out k hk with hh | hh | hh
              · rcases HA.out.foot k hh with hj | hj
                · exact .inl hj
                · exact .inr ⟨hj.1, hj.2.1, hj.2.2, HFAR.out k hk⟩
              · exact .inl (HFX.out k hh)
              · have h1 := HSZ.out
                have h2 := H23.out
                have h3 := HA.out.below.size
                exact .inr ⟨by omega, by omega, by omega, HFAR.out k hk⟩⟩
            refine hK.out _ _ hb9 (fun hHeld => ?_)
            clear hK K
            try simp only [Act.put, List.setIfInBounds_toArray, List.set_cons_zero, List.set_cons_succ]
            refine wpAnyH_take (i := 11) (oi := ⟨some 6, _, _, _, _, _⟩) (v := ?vzkna11) rfl (by kernel_rfl) (by kernel_rfl) (by kernel_rfl) (fun _ _ _ h => h) (Or.inl ⟨by rfl, ?yzkna11⟩) hHeld ?rzkna11
            case yzkna11 =>
              intro wx hSx
              go_simp
              try with_reducible rfl
            try simp only [Act.put, List.setIfInBounds_toArray, List.set_cons_zero, List.set_cons_succ]
            refine wpAnyH_done (by kernel_rfl) ?_ _
            go_wp2_with fail
            go_meet
            exact ⟨B5, _, _, rfl, HB5⟩
      case rest =>
        obtain ⟨B5, u', ds', rfl, HY⟩ := hcut
        obtain ⟨A', c', hu', -⟩ := id HY.out.dss.1
        subst hu'
        have x0 : wc.cell? ⟨B5, 0, none⟩ = some (.slice A' ds'.length c') := cell_at HY.out.b5 0
        have y0 : wc.cell? ⟨B3, 0, none⟩ = some (.slice Au ds.length cu) := cell_at HY.out.b3 0
        have z0 : wc.frozen? ⟨B3, 0, none⟩ = false := free_at HY.out.b3 0
        have HAN := Lib.hid (one_at HY.out.b3 (.slice A' ds'.length c') _ rfl)
        have HTK : Hid (foldV (evs (xs.take (a + 1))) = addV (vws ds) x.ev) := Lib.hid (by
          rw [List.take_add_one, HX.out]
          show foldV (List.map EvV.ev (xs.take a ++ [x])) = _
          rw [List.map_append, HA.out.is]
          exact foldV_snoc _ _)
        have HBN : Hid (∀ W, wc.heap[B3]? = some (.cells #[.slice Au ds.length cu] 28 (0, 0)) → (W.heap[B3]? = some (.cells #[.slice A' ds'.length c'] 28 (0, 0)) ∧ wc.grownBy W (some B3)) → BuV w W (.slice A xs.length cap) xs B2 B3 (.slice A' ds'.length c') ds' (a + 1)) := Lib.hid (fun W h3 h9 => by
          have hst : ∀ k, k < wc.heap.size → k ≠ B3 → W.heap[k]? = wc.heap[k]? := fun k hk hne => h9.2.block k hk (fun e => hne (by injection e))
          have hf3 : ∀ k, footD (.slice A' ds'.length c') ds' k → k ≠ B3 := fun k hk => by
            rcases HY.out.foot k hk with hh | hh
            · have := HOLD.out k hh
              have := HA.out.low.2.1
              omega
            · exact hh.2.2.1
          refine ⟨HY.out.below.grown h9.2 HY.out.below.size (fun k hk => by injection hk with hk; have := HA.out.low.2.1; omega), (hst B2 (smem_lt HY.out.b2) HA.out.low.2.2).trans HY.out.b2, h9.1, HA.out.low, HY.out.dss.stay h9.2.size (fun k hk hf => hst k hk (hf3 k hf)), HY.out.is.trans HTK.out.symm, fun k hk => ?_⟩
          rcases HY.out.foot k hk with hh | hh
          · exact .inl hh
          · exact .inr ⟨hh.1, hh.2.1, hh.2.2.1⟩)
        go_wp2_with fail
        refine ⟨⟨a + 1, by go_num, by omega, Lib.hid ⟨_, _, HBN.out _ HY.out.b3 HAN.out⟩⟩, ?_⟩
        simp [intOf]; omega
    · have q1 : decide ((a : Int) < (xs.length : Int)) = false := decide_eq_false (by omega)
      have HIS : Hid (vws ds = foldV (evs xs)) := Lib.hid (by rw [HA.out.is, List.take_of_length_le (by omega)])
      have x0 : wr.cell? ⟨B3, 0, none⟩ = some (.slice Au ds.length cu) := cell_at HA.out.b3 0
      have y0 : wr.cell? ⟨B2, 0, none⟩ = some (.slice none 0 0) := cell_at HA.out.b2 0
      have z0 : wr.frozen? ⟨B2, 0, none⟩ = false := free_at HA.out.b2 0
      have HAN := Lib.hid (one_at HA.out.b2 (.slice Au ds.length cu) _ rfl)
      go_wp2_with fail
      clear x0 y0 z0
      generalize World.setCell _ _ _ = w9 at HAN ⊢
      have s0 : w9.cell? ⟨B2, 0, none⟩ = some (.slice Au ds.length cu) := cell_at HAN.out.1 0
      refine bodyPost_ret (v := .agg #[.slice Au ds.length cu]) ?_ rfl ?_
      · simp [results, Tryz.results48, go_sem, s0]
      · have hst : ∀ k, k < wr.heap.size → k ≠ B2 → w9.heap[k]? = wr.heap[k]? := fun k hk hne => HAN.out.2.block k hk (fun e => hne (by injection e))
        refine ⟨_, ds, rfl, HA.out.dss.stay HAN.out.2.size (fun k hk hf => hst k hk (fun e => ?_)), HIS.out, fun k hk => ?_, HA.out.below.grown HAN.out.2 HA.out.below.size (fun k hk => by injection hk with hk; have := HA.out.low.1; omega)⟩
        · rcases HA.out.foot k hf with hh | hh
          · have := HOLD.out k hh
            have := HA.out.low.1
            omega
          · exact hh.2.1 e
        · rcases HA.out.foot k hk with hh | hh
          · exact .inl hh
          · exact .inr hh.1
end Go.Proofs.YtjiecjpepiknmaaGreat

namespace Go.Proofs.YtjiecjpepiknmaaGreat
set_option maxRecDepth 20000
open Go.RowKit
set_option linter.unusedVariables false
set_option linter.unusedSimpArgs false
section
variable {C : Dags} {w wr w' : World} {vs : List VI} {ts : List Th} {v : VI} {i : Nat}
theorem vw_thing {va : Value} {zs : List EvV} {u : Value} {ds : List DV} (h : Kv C w wr vs (Th.evs va zs :: ts)) (hb : Below wr.heap.size wr w') (hd : DsS w' u ds) (hf : ∀ k, footD u ds k → footE va zs k ∨ wr.heap.size ≤ k) : Kv C w w' vs (Th.vw u ds :: ts) :=
  (h.add (t := Th.vw u ds) hb hd (fun k hk => (hf k hk).elim (fun hh => .inr ⟨Th.evs va zs, List.mem_cons_self, hh⟩) .inl)).less (fun t ht => by
    rcases List.mem_cons.1 ht with rfl | ht
    · exact List.mem_cons_self
    · exact List.mem_cons_of_mem _ (List.mem_cons_of_mem _ ht))

set_option maxHeartbeats 6400000 in
theorem build10_new (CR : DagRms C) (va vb : Value) (gs hs : List GV) (h : Kv C w wr vs ts) (ha : GsS wr va gs) (hb : GsS wr vb hs) :
    Calls Tryz.prog 8 #[va, vb] wr fun e w' => ∃ (v : VI) (u : Value) (ds : List DV), e = .returned (.tuple #[.pointer (some ⟨v.g, 0, none⟩), .agg #[u]]) ∧ v.V = vws ds ∧ vws ds = foldV (madeL gs hs) ∧ Kv C w w' (vs ++ [v]) (Th.vw u ds :: ts) ∧ ∀ k, footD u ds k → wr.heap.size ≤ k := by
  obtain ⟨wb, hwb⟩ : ∃ wb, wb = wr := ⟨_, rfl⟩
  subst hwb
  have HA := Lib.hid ha
  have HB := Lib.hid hb
  have HTS : Hid (∀ t ∈ ts, ∀ k, t.P k → k < wb.heap.size) := Lib.hid (fun t ht k hk => t.lt wb k (h.is ht) hk)
  have HWB : Hid (w.heap.size ≤ wb.heap.size) := Lib.hid h.below.size
  have HK := Lib.hid (show Kv C w (wb.alloc (.cells #[.slice none 0 0] 28)) vs (Th.box wb.heap.size (.cells #[.slice none 0 0] 28 (0, 0)) :: ts) from h.add (t := Th.box wb.heap.size (.cells #[.slice none 0 0] 28 (0, 0))) (below_new wb _) (heap_alloc_new wb _) (fun k hk => .inl (Nat.le_of_eq hk.symm)))
  have hbn := below_new wb (.cells #[.slice none 0 0] 28)
  have HMK := Lib.hid (refMade10_any va vb gs hs _ (ha.below hbn) (hb.below hbn))
  obtain ⟨Aa, ca, rfl, -⟩ := id ha.1
  obtain ⟨Ab, cb, rfl, -⟩ := id hb.1
  have HOK := Lib.hid (madeL_ok gs hs)
  have HML := Lib.hid (madeL_len gs hs)
  clear h ha hb hbn
  generalize madeL gs hs = ml at HMK HOK HML ⊢
  go_enter Tryz.func8, Tryz.ntmps8
  go_upto_region 1 with (fail)
  generalize World.alloc _ _ = w0 at HK HMK ⊢
  have HB5 : Hid (wb.heap.size ≤ wb.heap.size) := Lib.hid (Nat.le_refl _)
  generalize hB5 : wb.heap.size = B5 at HK HTS HWB HB5 ⊢
  have HBE := Lib.hid hB5
  clear hB5 HB5
  go_wp2_with fail
  go_at_call 47
  refine HMK.out.mono ?_
  rintro e w1 ⟨vl, zs, rfl, hes, hev, hm, hb1, hft⟩
  have HK1 := Lib.hid (show Kv C w w1 vs (Th.evs vl zs :: Th.box B5 (.cells #[.slice none 0 0] 28 (0, 0)) :: ts) from HK.out.add (t := Th.evs vl zs) hb1 hes (fun k hk => .inl (hft k hk)))
  obtain ⟨Al, cl, rfl, -, hcl, -⟩ := id hes.1
  unfold maxLen at hcl
  have HEV := Lib.hid hev
  have hzl : zs.length ≤ 18 := by rw [← evs_len, hev]; exact HML.out
  have HFZ : Hid (∀ k, footE (.slice Al zs.length cl) zs k → B5 < k) := Lib.hid (fun k hk => by
    have h1 := hft k hk
    have h2 := smem_lt (show w0.heap[B5]? = _ from HK.out.is List.mem_cons_self)
    omega)
  clear hes hev hm hb1 hft HMK HK
  have HQ := Lib.hid (viewNew_any HK1.out)
  go_wp2_with fail
  go_at_call 46
  refine HQ.out.mono ?_
  rintro e w2 ⟨v0, rfl, hv0, hk2⟩
  have HK2 := Lib.hid hk2
  have HV0 := Lib.hid hv0
  clear hk2 hv0 HQ HK1
  go_wp2_with fail
  go_loopw [8] (fun x wr => ∃ a : Nat, x = .int .i64 (a : Int) ∧ a ≤ zs.length ∧ Hid (∃ v, v.g = v0.g ∧ v.V = foldV ((evs zs).take a) ∧ Kv C w wr (vs ++ [v]) (Th.evs (.slice Al zs.length cl) zs :: Th.box B5 (.cells #[.slice none 0 0] 28 (0, 0)) :: ts))) (fun x _ => zs.length - (intOf x).toNat)
  case atStart => exact ⟨0, rfl, Nat.zero_le _, Lib.hid ⟨v0, rfl, HV0.out, HK2.out⟩⟩
  case round =>
    clear HK2
    obtain ⟨a, rfl, ha, HY⟩ := hrel
    obtain ⟨v, hvg, hvV, hk⟩ := HY.out
    have HVG := Lib.hid hvg
    have HVV := Lib.hid hvV
    have HK := Lib.hid hk
    clear HY hvg hvV hk
    have hlast : (vs ++ [v])[vs.length]? = some v := by simp
    have HLAST := Lib.hid hlast
    clear hlast
    have HES := Lib.hid (show EvsS wr (.slice Al zs.length cl) zs from HK.out.is List.mem_cons_self)
    by_cases hax : a < zs.length
    · have q1 : decide ((a : Int) < (zs.length : Int)) = true := decide_eq_true (by omega)
      have hx : zs[a]? = some zs[a] := List.getElem?_eq_getElem hax
      generalize zs[a] = x at hx
      have HX := Lib.hid hx
      obtain ⟨b, off, hA, hb, hrg⟩ := ev_at HES.out hx
      have hix := index_any (P := Tryz.prog) knV (by decide) (b := b) (off := off) (cap := cl) hax
      simp only [LV] at hix
      rw [← hA] at hix
      obtain ⟨e0, e1, e2, e3, e4, e5⟩ := ev_cells hrg
      unfold EvV.pv at e2
      have HER : Hid (errV v.V x.ev = 0) := Lib.hid (by
        rw [HVV.out, HEV.out]
        refine allOk_err HOK.out ?_
        rw [← HEV.out]
        exact evs_get hx)
      have HNX : Hid (foldV ((evs zs).take (a + 1)) = addV v.V x.ev) := Lib.hid (by
        rw [HVV.out]
        exact foldV_take (evs_get hx))
      have HVO : Hid (VOk 99 v.V) := Lib.hid (by
        rw [HVV.out]
        exact (foldV_ok _).mono (by rw [List.length_take, evs_len]; omega))
      have HRM : Hid (x.ev.room.size ≤ 40) := Lib.hid (by
        have h1 := HER.out
        unfold errV at h1
        exact (may_short (err_zero h1).1).2.1)
      have HKX := Lib.hid (HK.out.with (t := Th.ev x) (HES.out.2 x (List.mem_of_getElem? hx)) (fun k hk jj y hy => (HK.out.th _ List.mem_cons_self).2 jj y hy k (.inr ⟨x, List.mem_of_getElem? hx, hk⟩)))
      have HQ := Lib.hid (viewAdd_any CR HKX.out HLAST.out HVO.out x List.mem_cons_self HRM.out)
      rw [HER.out, HVG.out] at HQ
      unfold EvV.val EvV.pv at HQ
      clear hx hA hb hrg
      go_wp2_with fail
      go_at_call 13
      refine HQ.out.mono ?_
      rintro e w4 ⟨v', rfl, hg', hV', hk4⟩
      have HN4 : Hid (∃ v, v.g = v0.g ∧ v.V = foldV ((evs zs).take (a + 1)) ∧ Kv C w w4 (vs ++ [v]) (Th.evs (.slice Al zs.length cl) zs :: Th.box B5 (.cells #[.slice none 0 0] 28 (0, 0)) :: ts)) := Lib.hid ⟨v', hg', hV'.trans HNX.out.symm, by
        have h9 := hk4.less (ts' := Th.evs (.slice Al zs.length cl) zs :: Th.box B5 (.cells #[.slice none 0 0] 28 (0, 0)) :: ts) (fun t ht => List.mem_cons_of_mem _ ht)
        have h8 : (vs ++ [v]).set vs.length v' = vs ++ [v'] := by simp
        rw [h8] at h9
        exact h9⟩
      clear hg' hV' hk4 HQ e0 e1 e2 e3 e4 e5
      go_wp2_with fail
      refine ⟨⟨a + 1, by go_num, by omega, HN4⟩, ?_⟩
      simp [intOf]; omega
    · have q1 : decide ((a : Int) < (zs.length : Int)) = false := decide_eq_false (by omega)
      have HBU := Lib.hid (refBuild10_any (.slice Al zs.length cl) zs wr HES.out (by omega))
      have HTK : Hid ((evs zs).take a = evs zs) := Lib.hid (List.take_of_length_le (by rw [evs_len]; omega))
      go_wp2_with fail
      go_at_call 48
      refine HBU.out.mono ?_
      rintro e w4 ⟨u, ds, rfl, hds, hvw, hft, hb4⟩
      obtain ⟨Au, cu, rfl, -⟩ := id hds.1
      have HK4 := Lib.hid (show Kv C w w4 (vs ++ [v]) (Th.vw (.slice Au ds.length cu) ds :: Th.box B5 (.cells #[.slice none 0 0] 28 (0, 0)) :: ts) from vw_thing HK.out hb4 hds hft)
      have HVW := Lib.hid hvw
      have HFT : Hid (∀ k, footD (.slice Au ds.length cu) ds k → B5 < k) := Lib.hid (fun k hk => by
        rcases hft k hk with hh | hh
        · exact HFZ.out k hh
        · have h2 := smem_lt (show wr.heap[B5]? = _ from HK.out.is (List.mem_cons_of_mem _ List.mem_cons_self))
          omega)
      have HB5 := Lib.hid (HK4.out.is (List.mem_cons_of_mem _ List.mem_cons_self))
      have y0 : w4.cell? ⟨B5, 0, none⟩ = some (.slice none 0 0) := cell_at HB5.out 0
      have z0 : w4.frozen? ⟨B5, 0, none⟩ = false := free_at HB5.out 0
      have HAN := Lib.hid (one_at HB5.out (.slice Au ds.length cu) _ rfl)
      clear hds hvw hft hb4 HBU
      go_wp2_with fail
      clear y0 z0
      generalize World.setCell _ _ _ = w9 at HAN ⊢
      have s0 : w9.cell? ⟨B5, 0, none⟩ = some (.slice Au ds.length cu) := cell_at HAN.out.1 0
      refine bodyPost_ret (v := .tuple #[.pointer (some ⟨v0.g, 0, none⟩), .agg #[.slice Au ds.length cu]]) ?_ rfl ?_
      · simp [results, Tryz.results8, go_sem, s0]
      · refine ⟨v, _, ds, by rw [HVG.out], ?_, ?_, ?_, fun k hk => by rw [HBE.out]; exact Nat.le_of_lt (HFT.out k hk)⟩
        · rw [HVV.out, HTK.out, HVW.out]
        · rw [HVW.out, HEV.out]
        · have h9 := HK4.out.swap.put (t' := Th.box B5 (.cells #[.slice Au ds.length cu] 28 (0, 0))) HAN.out.2 (fun k hk => by
            injection hk with hk
            subst hk
            refine ⟨rfl, HWB.out, fun t ht hp => ?_⟩
            rcases List.mem_cons.1 ht with rfl | ht
            · exact Nat.lt_irrefl _ (HFT.out _ hp)
            · have := HTS.out t ht _ hp
              omega) HAN.out.1 (fun k hk => .inl hk)
          exact h9.less (fun t ht => List.mem_cons_of_mem _ ht)

theorem build10_any (CR : DagRms C) (va vb : Value) (gs hs : List GV) (h : Kv C w wr vs ts) (ha : GsS wr va gs) (hb : GsS wr vb hs) :
    Calls Tryz.prog 8 #[va, vb] wr fun e w' => ∃ (v : VI) (u : Value) (ds : List DV), e = .returned (.tuple #[.pointer (some ⟨v.g, 0, none⟩), .agg #[u]]) ∧ v.V = vws ds ∧ vws ds = foldV (madeL gs hs) ∧ Kv C w w' (vs ++ [v]) (Th.vw u ds :: ts) :=
  (build10_new CR va vb gs hs h ha hb).mono (fun e w' ⟨v, u, ds, he, h1, h2, h3, _⟩ => ⟨v, u, ds, he, h1, h2, h3⟩)

def rmS : ByteArray := ⟨#[33, 114, 58, 115]⟩
def usS : ByteArray := ⟨#[64, 97, 58, 115]⟩
def idT : ByteArray := ⟨#[36, 116]⟩
def idU : ByteArray := ⟨#[36, 117]⟩
def idX : ByteArray := ⟨#[36, 120]⟩
def evT : Ev := ⟨idT, rmS, [], ⟨#[]⟩, usS, 0⟩
def evU : Ev := ⟨idU, rmS, [], idT, usS, 0⟩
theorem ex_adds : addV [] evT = [(rmS, [evT])] ∧ addV [(rmS, [evT])] evU = [(rmS, [evT, evU])] := by decide +kernel
theorem ex_fits : fitsL (ofL [(rmS, [evT, evU])] rmS) idU idT = 0 ∧ fitsL (ofL [(rmS, [evT, evU])] rmS) idU mainS = 7 ∧ fitsL (ofL [(rmS, [evT, evU])] rmS) idT mainS = 0 ∧ fitsL (ofL [(rmS, [evT, evU])] rmS) idU ⟨#[]⟩ = 0 ∧ fitsL (ofL [(rmS, [evT, evU])] rmS) idX ⟨#[]⟩ = 4 := by decide +kernel
theorem lone_ev (h : Kv C w wr vs ts) (e : Ev) (hp : e.parents = []) (hk : e.ok) : Kv C w wr vs (Th.ev ⟨e, none, 0⟩ :: ts) := h.with (t := Th.ev ⟨e, none, 0⟩) ⟨by unfold EvV.pv; simp only [hp]; exact .nil _, hk⟩ (fun k hk jj y hy => by
  have := hk.1
  simp only [hp] at this
  exact absurd this (Nat.lt_irrefl 0))

set_option maxHeartbeats 3200000 in
theorem lives10_any (CR : DagRms C) (h : Kv C w wr vs ts) : Calls Tryz.prog 22 #[] wr fun e w' => e = .returned (.bool true) ∧ Kv C w w' vs ts := by
  have HK := Lib.hid h
  have HQ := Lib.hid (viewNew_any (Kv.start (C := C) wr))
  clear h
  go_enter Tryz.func22, Tryz.ntmps22
  go_wp2_with fail
  go_at_call 46
  refine HQ.out.mono ?_
  rintro e w1 ⟨v0, rfl, hv0, hk⟩
  have HK1 := Lib.hid (lone_ev hk evT rfl (by unfold Ev.ok maxLen; decide))
  have HA := Lib.hid (viewAdd_any CR HK1.out (i := 0) rfl (by rw [hv0]; exact VOk.nil.mono (by decide)) ⟨evT, none, 0⟩ List.mem_cons_self (by decide))
  have HV0 := Lib.hid hv0
  clear hk hv0 HQ
  go_wp2_with fail
  go_at_call 13
  refine HA.out.mono ?_
  rintro e w2 ⟨v1, rfl, hg1, hv1, hk⟩
  rw [HV0.out, ex_adds.1] at hv1
  have HK2 := Lib.hid (lone_ev (show Kv C wr w2 [v1] [] from hk.less (fun t ht => by cases ht)) evU rfl (by unfold Ev.ok maxLen; decide))
  have HA2 := Lib.hid (viewAdd_any CR HK2.out (i := 0) rfl (by rw [hv1, ← ex_adds.1]; exact (addV_ok VOk.nil).mono (by decide)) ⟨evU, none, 0⟩ List.mem_cons_self (by decide))
  have HG1 := Lib.hid hg1
  have HV1 := Lib.hid hv1
  rw [hg1] at HA2
  clear hk hg1 hv1 HA
  go_wp2_with fail
  go_at_call 13
  refine HA2.out.mono ?_
  rintro e w3 ⟨v2, rfl, hg2, hv2, hk⟩
  rw [HV1.out, ex_adds.2] at hv2
  have HK3 := Lib.hid (show Kv C wr w3 [v2] [] from hk.less (fun t ht => by cases ht))
  have HF := Lib.hid (fun W (hw : Kv C wr W [v2] []) (id t : ByteArray) (hu : id.size ≤ maxLen) => viewFits_any hw (i := 0) rfl rmS id t (by decide) hu)
  rw [hv2, hg2] at HF
  clear hk hg2 hv2 HA2
  have HQ := Lib.hid (HF.out w3 HK3.out idU idT (by decide))
  rw [ex_fits.1] at HQ
  go_wp2_with fail
  go_at_call 61
  refine HQ.out.mono ?_
  rintro e w4 ⟨rfl, hk4⟩
  have HK4 := Lib.hid hk4
  clear hk4 HQ
  have HQ := Lib.hid (HF.out w4 HK4.out idU mainS (by decide))
  rw [ex_fits.2.1] at HQ
  go_wp2_with fail
  go_at_call 61
  refine HQ.out.mono ?_
  rintro e w5 ⟨rfl, hk5⟩
  have HK5 := Lib.hid hk5
  clear hk5 HQ
  have HQ := Lib.hid (HF.out w5 HK5.out idT mainS (by decide))
  rw [ex_fits.2.2.1] at HQ
  go_wp2_with fail
  go_at_call 61
  refine HQ.out.mono ?_
  rintro e w6 ⟨rfl, hk6⟩
  have HK6 := Lib.hid hk6
  clear hk6 HQ
  have HQ := Lib.hid (HF.out w6 HK6.out idU ⟨#[]⟩ (by decide))
  rw [ex_fits.2.2.2.1] at HQ
  go_wp2_with fail
  go_at_call 61
  refine HQ.out.mono ?_
  rintro e w7 ⟨rfl, hk7⟩
  have HK7 := Lib.hid hk7
  clear hk7 HQ
  have HQ := Lib.hid (HF.out w7 HK7.out idX ⟨#[]⟩ (by decide))
  rw [ex_fits.2.2.2.2] at HQ
  go_wp2_with fail
  go_at_call 61
  refine HQ.out.mono ?_
  rintro e w8 ⟨rfl, hk8⟩
  have HK8 := Lib.hid (HK.out.later hk8.below)
  clear hk8 HQ
  go_wp2_with fail
  go_ret
  exact ⟨rfl, HK8.out⟩
end
end Go.Proofs.YtjiecjpepiknmaaGreat
