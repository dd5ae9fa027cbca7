/-
  What the statements stand on, part ZA16.
-/
import Derived.Test.YtnnapkakbdpkaaaGreatZA15
set_option linter.unusedVariables false
set_option linter.unusedSimpArgs false
namespace Go.Proofs.YtnnapkakbdpkaaaGreat
set_option maxRecDepth 20000
open Go.RowKit Go.Maps Go.ChangeMaps
theorem makeR_any (n : Nat) (hn : n ≤ 1000) : ∃ cs : Array Value, cs.size = n * 6 ∧ ∀ w, (Instr.makeSlice 62 (.int .i64 0) (.int .i64 (n : Int))).run Tryz.prog w = .ok (.slice (some ⟨w.heap.size, 0, none⟩) 0 n) (w.alloc (.cells cs 130)) := by
 obtain ⟨i0, hi0, hz0, hz1, hz2⟩ := info_parts knR.info
 have hb : (i0.bytes : Int) * (n : Int) ≤ 281474976710656 := by rw [hz2]; omega
 refine ⟨madeCells zeroM.cells (n * 6), size_madeCells _ _, fun w => ?_⟩
 have hr := run_make (P := Tryz.prog) w 62 130 i0 _ Tryz.underlying62 hi0 hz0 .i64 .i64 0 (n : Int) (Int.le_refl _) (by omega) hb (by omega)
 rw [hz1, Int.toNat_natCast] at hr
 exact hr
theorem mine_madeR (w : World) (n : Nat) (hn : n ≤ 1000) (cs : Array Value) (hc : cs.size = n * 6) : LR.Mine (w.alloc (.cells cs 130)) w.heap.size (.slice (some ⟨w.heap.size, 0, none⟩) 0 n) [] :=
 .inr ⟨w.heap.size, 0, n, cs, rfl, Nat.le_refl _, heap_alloc_new w _, Nat.zero_le _, by unfold maxLen; omega, by rw [show LR.c = 6 from rfl]; omega, by simp [Lies.vs]⟩
theorem MdM.came {D : Dv} {l : List Mk} (h : MdM D l) (hr : RowM l) (ho : ∀ m ∈ l, m.k.ok) {x c : Value} {q : Lit} {y : Dv × List MemPlace} (hkey : keyOf Tryz.prog 87 x = some q) (hR : heldR c = some y) (hat : ∀ zd, D.atKey q zd = y.1) : ∃ m ∈ l, q = kk m.k ∧ x = m.k.val ∧ c = m.po.val := by
 have h4 : Maps.has D q = true := Maps.has_true_of_atKey hat
 have h' := h
 obtain ⟨es, rfl, hp⟩ := h
 rw [Maps.has_eq, List.any_eq_true] at h4
 obtain ⟨p, hm, he⟩ := h4
 obtain ⟨m, hmm, rfl⟩ := List.mem_map.1 (hp.mem_iff.1 hm)
 have hq : kk m.k = q := WideAt.sameKey_eq he
 subst hq
 refine ⟨m, hmm, rfl, key_isK (ho m hmm) hkey, ?_⟩
 have h5 := h'.at_ hr ho hmm (.held zeroP)
 rw [hat] at h5
 unfold heldR at hR
 injection hR with hR
 subst hR
 injection h5
structure AlS (w wr : World) (r : RI) (it : Nat) (u : Value) (xs : List Mk) (left : Lit → Bool) (cnt : Nat) : Prop where
 below : Below w.heap.size w wr
 rg : wr.ranges Tryz.prog 87 heldR r.mb it r.l.length r.D left cnt
 newr : w.heap.size ≤ it
 row : LR.Mine wr w.heap.size u xs
 sub : ∀ m ∈ xs, m ∈ r.l ∧ left (kk m.k) = false
 nd : xs.Nodup
 all : ∀ m ∈ r.l, left (kk m.k) = false → m ∈ xs
section
variable {w wr w2 : World} {r : RI} {it : Nat} {u u2 : Value} {xs : List Mk} {left : Lit → Bool} {cnt cnt2 : Nat} {m : Mk}
theorem AlS.noC (h : AlS w wr r it u xs left cnt) : ∀ k, u.ownBlock = some k → k ≠ r.mb ∧ k ≠ it := by
 obtain ⟨es, clock, since, seen, c0, hb, _, _, _, hr, _⟩ := h.rg
 intro k hk
 rcases h.row with ⟨rfl, _⟩ | ⟨g, off, cap, cur, rfl, _, hh, _⟩
 ·cases hk
 ·simp only [Value.ownBlock, Option.some.injEq] at hk
  subst hk
  refine ⟨fun e => ?_, fun e => ?_⟩
  ·rw [e, hb] at hh; cases hh
  ·rw [e, hr] at hh; cases hh
theorem AlS.on (h : AlS w wr r it u xs left cnt) (hb : Below wr.heap.size wr w2) : AlS w w2 r it u xs left cnt :=
 ⟨h.below.trans (hb.mono h.below.size), h.rg.kept ⟨hb.os, hb.tape, hb.output, hb.size, fun k hk _ => hb.block k hk⟩ (row := none) (by simp) (by simp), h.newr, h.row.below hb, h.sub, h.nd, h.all⟩
theorem AlS.next (h : AlS w wr r it u xs left cnt) (ho : ∀ m ∈ r.l, m.k.ok) (hm : m ∈ r.l) (hl : left (kk m.k) = true) (hg : wr.grownBy w2 (some it)) (hr : w2.ranges Tryz.prog 87 heldR r.mb it r.l.length r.D (fun z => left z && !z.sameKey (kk m.k)) cnt2) :
  Below w.heap.size w w2 ∧ LR.Mine w2 w.heap.size u xs := by
 have hn := h.noC
 exact ⟨h.below.grown hg h.below.size (fun k hk => by injection hk with hk; have := h.newr; omega), h.row.grown hg (fun k hk e => (hn k hk).2 (by injection e))⟩
theorem left_struck {a b : Rk} (ha : a.ok) (hb : b.ok) (left : Lit → Bool) : (left (kk a) && !(kk a).sameKey (kk b)) = if a = b then false else left (kk a) := by
 by_cases e : a = b
 ·subst e
  rw [WideAt.sameKey_self (kk_key a), if_pos rfl]
  simp
 ·rw [Maps.sameKey_ne (fun e' => e (kk_inj ha hb e')), if_neg e]
  simp
theorem AlS.more (h : AlS w wr r it u xs left cnt) (hrow : RowM r.l) (ho : ∀ m ∈ r.l, m.k.ok) (hm : m ∈ r.l) (hl : left (kk m.k) = true) {w3 : World} (hb : Below w.heap.size w w3) (hr : w3.ranges Tryz.prog 87 heldR r.mb it r.l.length r.D (fun z => left z && !z.sameKey (kk m.k)) cnt2) (hu : LR.Mine w3 w.heap.size u2 (xs ++ [m])) :
  AlS w w3 r it u2 (xs ++ [m]) (fun z => left z && !z.sameKey (kk m.k)) cnt2 := by
 have hnm : m ∉ xs := fun hx => by
  rw [(h.sub m hx).2] at hl
  cases hl
 refine ⟨hb, hr, h.newr, hu, fun x hx => ?_, ?_, fun x hx hf => ?_⟩
 ·rcases List.mem_append.1 hx with hx | hx
  ·refine ⟨(h.sub x hx).1, ?_⟩
   rw [(h.sub x hx).2]
   rfl
  ·rw [List.mem_singleton] at hx
   subst hx
   refine ⟨hm, ?_⟩
   show (left (kk x.k) && !(kk x.k).sameKey (kk x.k)) = false
   rw [WideAt.sameKey_self (kk_key _)]
   simp
 ·rw [List.nodup_append]
  refine ⟨h.nd, by simp, fun a ha b hb' e => ?_⟩
  rw [List.mem_singleton] at hb'
  subst hb' e
  exact hnm ha
 ·replace hf : (left (kk x.k) && !(kk x.k).sameKey (kk m.k)) = false := hf
  rw [left_struck (ho x hx) (ho m hm)] at hf
  rw [List.mem_append, List.mem_singleton]
  by_cases e : x.k = m.k
  ·exact .inr (keys_oneM hrow hx hm e)
  ·rw [if_neg e] at hf
   exact .inl (h.all x hx hf)
theorem AlS.done (h : AlS w wr r it u xs left cnt) (hrow : RowM r.l) (hl : ∀ q, left q = false) : xs.Perm r.l := by
 have hn : r.l.Nodup := by
  rw [List.nodup_iff_pairwise_ne]
  exact hrow.imp (fun hh e => bk_ne hh (congrArg Mk.k e))
 exact (List.perm_ext_iff_of_nodup h.nd hn).2 (fun x => ⟨fun hx => (h.sub x hx).1, fun hx => h.all x hx (hl _)⟩)
theorem AlS.len (h : AlS w wr r it u xs left cnt) (hrow : RowM r.l) : xs.length ≤ r.l.length := by
 have hn : xs.Subset r.l := fun x hx => (h.sub x hx).1
 exact (List.Nodup.length_le_of_subset h.nd hn)
end
set_option maxHeartbeats 1600000 in
theorem rcAll_any {w : World} {r : RI} (h : CRs w r) (hl : r.l.length ≤ 1000) :
  Calls Tryz.prog 156 #[.pointer (some ⟨r.g, 0, none⟩)] w fun e w' => ∃ v, e = .returned v ∧ LR.Mine w' w.heap.size v r.l ∧ Below w.heap.size w w' := by
 have c0 : w.cell? ⟨r.g, 0, none⟩ = some (.map (some r.mb)) := cell_at h.hd 0
 have hlen := World.ownsMap.len h.map Tryz.underlying140
 rw [h.len] at hlen
 obtain ⟨cs, hcs, hmk⟩ := makeR_any r.l.length hl
 have HM0 := Lib.hid (mine_madeR w r.l.length hl cs hcs)
 have hw0 := below_new w (.cells cs 130)
 have HB0 := Lib.hid hw0
 have c0' : (w.alloc (.cells cs 130)).cell? ⟨r.g, 0, none⟩ = some (.map (some r.mb)) := cell_at (h.below hw0).hd 0
 have hown : OwnK (w.alloc (.cells cs 130)) r.mb r.l.length r.D := (h.below hw0).map
 have HH := Lib.hid h
 have HL := Lib.hid hl
 clear h hw0 hl hcs
 go_enter Tryz.func156, Tryz.ntmps156
 go_wp2_with (first
  | (at_range; refine wpList_range_own _ rfl _ 140 rfl 87 83 keyedK Tryz.underlying140 heldR r.mb r.l.length r.D rfl hown ?_; intro w2 hrg2 hg2 hs2)
  | go_in)
 go_frame
 have HA0 : Hid (AlS w w2 r (w.alloc (.cells cs 130)).heap.size (.slice (some ⟨w.heap.size, 0, none⟩) 0 r.l.length) [] (Maps.has r.D) (Maps.size r.D)) := Lib.hid (by
  refine ⟨HB0.out.grown hg2 HB0.out.size (fun k hk => (by cases hk)), hrg2, HB0.out.size, HM0.out.grown hg2 (fun k hk e => (by cases e)), (fun m hm => (by cases hm)), List.nodup_nil, (fun m hm hf => ?_)⟩
  have := HH.out.is.has HH.out.okk (HH.out.okk m hm)
  rw [hf] at this
  cases hg : getM r.l m.k with
  | none => exact absurd rfl (getM_none.1 hg m hm)
  | some q => rw [hg] at this; cases this)
 generalize World.heap (World.alloc _ _) = hp at HA0 ⊢
 generalize hp.size = it at HA0 ⊢
 generalize w.heap.size = B0 at HA0 ⊢
 clear hrg2 hg2 hs2 hown HM0 HB0 c0 c0' hlen hmk
 go_loopw [3, 4, 5] (fun u _ _ wr => ∃ (b2 o2 c : Nat) (xs : List Mk) (left : Lit → Bool) (cnt : Nat), u = .slice (some ⟨b2, o2, none⟩) xs.length c ∧ Hid (AlS w wr r it u xs left cnt)) (fun _ _ _ wr => wr.rangeLeft r.mb it)
 case atStart => exact ⟨_, _, _, [], _, _, rfl, HA0⟩
 case round =>
  obtain ⟨b2, o2, c, xs, left, cnt, rfl, HA⟩ := hrel
  clear HA0
  have hrg := HA.out.rg
  have hle0 := hrg.left_eq
  go_wp2_with (first
   | (at_next; refine wpList_next_ranges (α := Value) (β := Value) _ rfl _ rfl 87 keyedK heldR id id (fun key q _ => ⟨key, rfl⟩) (fun v y _ => ⟨v, rfl⟩) r.mb it r.l.length r.D left cnt rfl hrg ?_ ?_)
   | go_in)
  ·intro hc0 hl0
   have HPM := Lib.hid (HA.out.done HH.out.row hl0)
   clear hrg hle0
   go_wp2_with fail
   go_at_call 160
   refine (sortR_any HA.out.row rfl (by have := HPM.out.length_eq; have := HL.out; omega) HPM.out HH.out.row).mono ?_
   rintro e w2 ⟨rfl, m2, b2'⟩
   have M2 := Lib.hid m2
   have B2 := Lib.hid (HA.out.below.trans b2')
   clear m2 b2'
   go_wp2_with fail
   go_ret
   exact ⟨_, rfl, M2.out, B2.out⟩
  ·intro x c' q ya yb w1 cnt1 hkey hlk hR hat hrg1 hlt hg1 hs1 hen
   obtain ⟨m, hmm, rfl, rfl, rfl⟩ := HH.out.is.came HH.out.row HH.out.okk hkey hR hat
   have HMM := Lib.hid hmm
   have HLK := Lib.hid hlk
   have HRG := Lib.hid hrg1
   have HNX := Lib.hid (HA.out.next HH.out.okk hmm hlk hg1 hrg1)
   have HOW := Lib.hid (fun W => rcOwn_any m W (HH.out.ok m hmm))
   try simp only [id] at hen
   unfold Mk.val at HOW
   unfold Rk.val Po.val at hen ⊢
   clear hkey hlk hR hat hmm hrg hg1 hs1
   go_wp2_with fail
   go_at_call 103
   have hbx := ((Gr.refl w1).alloc (.cells #[.string m.k.room, .string m.k.user, .string m.k.thread, .bool m.k.priv] 87) |>.alloc (.cells #[.int .i64 m.po.depth, .string m.po.id] 83)).below
   refine (HOW.out _).mono ?_
   rintro e w3 ⟨rfl, hb3⟩
   have hb4 := hbx.trans (hb3.mono hbx.size)
   have hb5 := below_new w3 (.cells #[.string m.k.room, .string m.k.user, .string m.k.thread, .bool m.k.priv, .int .i64 m.po.depth, .string m.po.id] 130)
   have HB5 := Lib.hid (hb4.trans (hb5.mono hb4.size))
   have hlit := Lib.hid (lit_slice (L := LR) w3 m w3.heap.size rfl #[.string m.k.room, .string m.k.user, .string m.k.thread, .bool m.k.priv, .int .i64 m.po.depth, .string m.po.id] rfl)
   replace hlit := Lib.hid (show LR.Slice (w3.alloc (.cells #[.string m.k.room, .string m.k.user, .string m.k.thread, .bool m.k.priv, .int .i64 m.po.depth, .string m.po.id] 130)) (.slice (some ⟨w3.heap.size, 0, none⟩) 1 1) [m] from hlit.out)
   have M4 := Lib.hid (HNX.out.2.below HB5.out)
   have B4 := Lib.hid (HNX.out.1.trans (HB5.out.mono HNX.out.1.size))
   have hsz := B4.out.size
   have HR4 := Lib.hid (HRG.out.kept (w' := w3.alloc (.cells #[.string m.k.room, .string m.k.user, .string m.k.thread, .bool m.k.priv, .int .i64 m.po.depth, .string m.po.id] 130)) ⟨HB5.out.os, HB5.out.tape, HB5.out.output, HB5.out.size, fun k hk _ => HB5.out.block k hk⟩ (row := none) (by simp) (by simp))
   have HLN := Lib.hid (HA.out.len HH.out.row)
   clear hbx hb3 hb4 hb5 hen hrg1 HNX HRG HOW HB5
   go_wp2_with (at_builtin; refine wpList_puts rfl knR (.tmp 22) (.tmp 27) 62 rfl (v := .slice (some ⟨b2, o2, none⟩) xs.length c) rfl M4.out hsz (.slice (some ⟨w3.heap.size, 0, none⟩) 1 1) [m] 1 rfl rfl (hlit.out.srcN knR rfl) (by have := HLN.out; have := HL.out; omega) ?_; intro A5 cap5 w5 m5 g5 o5)
   have HN := Lib.hid (HA.out.noC b2 rfl)
   have HA5 := Lib.hid (HA.out.more HH.out.row HH.out.okk HMM.out HLK.out (B4.out.grown g5 hsz (fun k hk => (M4.out.lt k hk).1)) (HR4.out.kept g5 (fun e => HN.out.1 (by injection e with e; exact e.symm)) (fun e => HN.out.2 (by injection e with e; exact e.symm))) m5)
   obtain ⟨b4, o4, rfl⟩ : ∃ b4 o4, A5 = some ⟨b4, o4, none⟩ := by
    rcases m5 with ⟨hv, _⟩ | ⟨b4, o4, _, _, hv, _⟩
    ·injection hv with _ e _
     omega
    ·injection hv with e _ _
     exact ⟨b4, o4, e⟩
   clear m5 g5 o5 M4 B4 HR4 hlit hsz
   go_wp2_with fail
   refine ⟨⟨b4, o4, cap5, xs ++ [m], _, _, ?_, HA5⟩, ?_⟩
   ·rw [List.length_append]; rfl
   ·rw [HA5.out.rg.left_eq, hle0]
    exact hlt
end Go.Proofs.YtnnapkakbdpkaaaGreat

namespace Go.Proofs.YtnnapkakbdpkaaaGreat
set_option maxRecDepth 20000
open Go.RowKit Go.Maps Go.ChangeMaps
section
variable {α : Type} {p : α → Bool} {us zs : List α} {x : α} {i j a k : Nat}
structure DlA (p : α → Bool) (us zs : List α) (i j : Nat) : Prop where
 len : zs.length = us.length
 lt : i < j
 le : j ≤ us.length
 front : zs.take i = (us.take j).filter (fun x => !p x)
 rest : zs.drop j = us.drop j
theorem DlA.get (h : DlA p us zs i j) (hj : j < us.length) : zs[j]? = us[j]? := by
 have := congrArg (fun l : List α => l[0]?) h.rest
 simpa using this
theorem DlA.skip (h : DlA p us zs i j) (hx : us[j]? = some x) (hp : p x = true) : DlA p us zs i (j + 1) := by
 have hj := (List.getElem?_eq_some_iff.1 hx).1
 refine ⟨h.len, by have := h.lt; omega, hj, ?_, ?_⟩
 ·rw [List.take_add_one, hx, List.filter_append, h.front]
  simp [hp]
 ·rw [← List.drop_drop, ← List.drop_drop, h.rest]
theorem DlA.keep (h : DlA p us zs i j) (hx : us[j]? = some x) (hp : p x = false) : DlA p us (zs.set i x) (i + 1) (j + 1) := by
 have hj := (List.getElem?_eq_some_iff.1 hx).1
 have hl := h.len
 have hlt := h.lt
 refine ⟨by rw [List.length_set]; exact hl, by omega, hj, ?_, ?_⟩
 ·rw [List.take_add_one, List.getElem?_set_self (by omega), List.take_set_of_le (Nat.le_refl _), h.front, List.take_add_one, hx, List.filter_append]
  simp [hp]
 ·rw [List.drop_set_of_lt (by omega), ← List.drop_drop, ← List.drop_drop, h.rest]
theorem DlA.start (hk : k < us.length) (hf : (us.take k).filter (fun x => !p x) = us.take k) (hp : ∀ x, us[k]? = some x → p x = true) : DlA p us us k (k + 1) := by
 have hx := List.getElem?_eq_getElem hk
 refine ⟨rfl, Nat.lt_succ_self _, hk, ?_, rfl⟩
 rw [List.take_add_one, hx, List.filter_append, hf]
 have := hp _ hx
 simp [this]
end
theorem run_clear_many {P : Program} (w : World) (t e ty : TypeId) (z : Value) (ht : P.underlying t = some (.slice e)) (hv : ∀ w, (zeroValue e).run P w = .ok z w) (vs : List Value) (b o n c : Nat) (hzc : (Builtin.zeroCells z.cells n).toList = vs) (h1 : ∀ v ∈ vs, v.oneCell' = true) (hn : 0 < n)
  (hc : ∀ j, j < vs.length → (w.cell? ⟨b, o + j, none⟩).isSome = true) (hf : ∀ j, j < vs.length → w.frozen? ⟨b, o + j, none⟩ = false) :
  (Builtin.clear_ #[t] ty #[.slice (some ⟨b, o, none⟩) n c]).run P w = .ok (.tuple #[]) (w.setCells b o vs) := by
 have hst := run_storeCells_cells (P := P) b o vs 0 w (by simpa using hc) (by simpa using hf) h1
 simp only [Nat.add_zero] at hst
 obtain ⟨m, rfl⟩ : ∃ m, n = m + 1 := ⟨n - 1, by omega⟩
 simp [Builtin.clear_, run_underlying ht, hv, hzc, hst]
theorem zeroCells_mem {cs : Array Value} {n : Nat} {v : Value} (h : v ∈ (Builtin.zeroCells cs n).toList) : v ∈ cs.toList := by
 unfold Builtin.zeroCells at h
 rw [Array.toList_map, List.mem_map] at h
 obtain ⟨i, hi, rfl⟩ := h
 have hp : 0 < cs.size := by
  have := Array.mem_range.1 (Array.mem_toList_iff.1 hi)
  rcases Nat.eq_zero_or_pos cs.size with h0 | h0
  ·rw [h0] at this; omega
  ·exact h0
 have hlt := Nat.mod_lt i hp
 rw [getElem!_pos cs _ hlt]
 exact Array.getElem_mem_toList hlt
theorem TurnP.trans {P : Nat → Prop} {w w' w'' : World} (h : TurnP P w w') (h' : TurnP P w' w'') : TurnP P w w'' :=
 ⟨h'.os.trans h.os, h'.tape.trans h.tape, h'.output.trans h.output, Nat.le_trans h.size h'.size, fun k hk hp => (h'.block k (Nat.lt_of_lt_of_le hk h.size) hp).trans (h.block k hk hp)⟩
theorem TurnP.of {P : Nat → Prop} {w w' : World} (h : Below w.heap.size w w') : TurnP P w w' := ⟨h.os, h.tape, h.output, h.size, fun k hk _ => h.block k hk⟩
end Go.Proofs.YtnnapkakbdpkaaaGreat

namespace Go.Proofs.YtnnapkakbdpkaaaGreat
set_option maxRecDepth 20000
open Go.RowKit Go.Maps Go.ChangeMaps
theorem eqlK (a b : Rk) (w : World) : (Op.equalIn 10000 97 (.agg #[.string a.room, .string a.user, .string a.thread, .bool a.priv]) (.agg #[.string b.room, .string b.user, .string b.thread, .bool b.priv])).run Tryz.prog w = .ok (decide (a = b)) w := by
 have h : decide (a = b) = ((a.room.toList == b.room.toList) && (a.user.toList == b.user.toList) && (a.thread.toList == b.thread.toList) && (a.priv == b.priv)) := by
  rw [eqT_iff, eqT_iff, eqT_iff, Bool.eq_iff_iff]
  cases a; cases b
  simp [and_assoc]
 rw [h]
 go_simp
 repeat' split
 all_goals simp_all
theorem eqlP (a b : Po) (w : World) : (Op.equalIn 10000 83 (.agg #[.int .i64 a.depth, .string a.id]) (.agg #[.int .i64 b.depth, .string b.id])).run Tryz.prog w = .ok (decide (a = b)) w := by
 have h : decide (a = b) = ((a.depth == b.depth) && (a.id.toList == b.id.toList)) := by
  rw [eqT_iff, Bool.eq_iff_iff]
  cases a; cases b
  simp
 rw [h]
 go_simp
 repeat' split
 all_goals simp_all
end Go.Proofs.YtnnapkakbdpkaaaGreat

namespace Go.Proofs.YtnnapkakbdpkaaaGreat
set_option maxRecDepth 20000
open Go.RowKit Go.Maps Go.ChangeMaps
theorem setCell_idem {w : World} {b i : Nat} {cur : Array Value} {t : TypeId} {f : Nat × Nat} {v : Value} (h : w.heap[b]? = some (.cells cur t f)) (hv : cur[i]? = some v) : w.setCell ⟨b, i, none⟩ v = w := by
 have hh : (w.setCell ⟨b, i, none⟩ v).heap = w.heap := by
  apply Array.ext_getElem?
  intro k
  simp only [World.setCell, Array.getElem?_modify]
  by_cases e : b = k
  ·subst e
   rw [if_pos rfl, h]
   simp only [Option.map_some]
   have : cur.setIfInBounds i v = cur := by
    apply Array.ext_getElem?
    intro j
    rw [Array.getElem?_setIfInBounds]
    split
    ·rename_i e
     subst e
     split
     ·exact hv.symm
     ·rename_i hlt
      rw [Array.getElem?_eq_none (by omega)]
    ·rfl
   simp [this]
  ·rw [if_neg e]
 cases w
 simp only [World.setCell] at hh ⊢
 rw [hh]
theorem Lies.Slice.cells {α : Type} {L : Lies α} {w : World} {b off n cap i : Nat} {xs : List α} {x : α} (h : L.Slice w (.slice (some ⟨b, off, none⟩) n cap) xs) (hi : xs[i]? = some x) : w.rangeAt b (off + i * L.c) (L.cl x) := by
 obtain ⟨b', off', hA, hb, hr⟩ := h.at hi
 injection hA with hA
 injection hA with e1 e2 _
 subst e1 e2
 exact hr
structure PuS (w wr : World) (v : Value) (l : List Mk) (B1 : Nat) (o1 : Obj) (B2 : Nat) (o2 : Obj) : Prop where
 row : LM.Slice wr v l
 tw : TwG w wr B1 o1 B2 o2
theorem PuS.on {w wr w2 : World} {v : Value} {l : List Mk} {B1 B2 : Nat} {o1 o2 : Obj} (h : PuS w wr v l B1 o1 B2 o2) (hg : Gr wr w2) : PuS w w2 v l B1 o1 B2 o2 := ⟨h.row.below hg.below, h.tw.on hg⟩
end Go.Proofs.YtnnapkakbdpkaaaGreat
