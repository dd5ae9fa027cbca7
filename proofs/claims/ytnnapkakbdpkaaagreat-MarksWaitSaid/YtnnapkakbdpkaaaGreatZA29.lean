/-
  What the statements stand on, part ZA29.
-/
import Derived.Handy
import Derived.Test.YtnnapkakbdpkaaaGreatZA28
set_option linter.unusedVariables false
set_option linter.unusedSimpArgs false
namespace Go.Proofs.YtnnapkakbdpkaaaGreat
set_option maxRecDepth 20000
open Go.RowKit
section
variable {C : Dags} {w w' wr : World} {vs : List VI} {ts ms : List Th} {m m' t : Th} {vi : VI} {q i j : Nat} {x : MkI}
theorem Km.turnAdd (h : Km C w wr vs ms ts) (hi : ms[i]? = some m) (ht : TurnP m.P wr w') (hI : m'.I w') (hP : ∀ k, m'.P k → m.P k ∨ wr.heap.size ≤ k) (hIt : t.I w') (hPt : ∀ k, t.P k → wr.heap.size ≤ k) (hne : ∀ k, t.P k → ¬ m'.P k) : Km C w w' vs (ms.set i m') (t :: ts) := by
 have h1 := h.turn hi ht hI hP
 have hmm := List.mem_of_getElem? hi
 refine ⟨h.kv.turnTh ht (List.mem_append_left _ hmm) (h.lo m hmm) (fun u hu => ?_), h1.lo, h1.dj, fun a ha u hu k ka ku => ?_⟩
 ·rcases List.mem_append.1 hu with hu | hu
  ·obtain ⟨n, hn, he⟩ := List.getElem_of_mem hu
   have hu' : (ms.set i m')[n]? = some u := by rw [List.getElem?_eq_getElem hn, he]
   rw [List.getElem?_set] at hu'
   split at hu'
   ·next e =>
    split at hu'
    ·injection hu' with hu'
     subst hu'
     exact .inr ⟨hI, hP⟩
    ·cases hu'
   ·next e => exact .inl ⟨List.mem_append_left _ (List.mem_of_getElem? hu'), fun k hk => h.dj i n m u hi hu' e k hk⟩
  ·rcases List.mem_cons.1 hu with rfl | hu
   ·exact .inr ⟨hIt, fun k hk => .inr (hPt k hk)⟩
   ·exact .inl ⟨List.mem_append_right _ hu, fun k hk => h.dt m hmm u hu k hk⟩
 ·rcases List.mem_cons.1 hu with rfl | hu
  ·obtain ⟨n, hn, he⟩ := List.getElem_of_mem ha
   have ha' : (ms.set i m')[n]? = some a := by rw [List.getElem?_eq_getElem hn, he]
   rw [List.getElem?_set] at ha'
   split at ha'
   ·split at ha'
    ·injection ha' with ha'
     subst ha'
     exact hne k ku ka
    ·cases ha'
   ·have h2 := a.lt wr k (h.isM ha') ka
    have h3 := hPt k ku
    omega
  ·exact h1.dt a ha u hu k ka ku
theorem Km.drop (h : Km C w wr vs (ms ++ [m]) ts) : Km C w wr vs ms ts :=
 ⟨h.kv.less (fun t ht => by
  rcases List.mem_append.1 ht with ht | ht
  ·exact List.mem_append_left _ (List.mem_append_left _ ht)
  ·exact List.mem_append_right _ ht), fun a ha => h.lo a (List.mem_append_left _ ha), fun i j a b ha hb => h.dj i j a b (by
   rw [List.getElem?_append_left (List.getElem?_eq_some_iff.1 ha).1]; exact ha) (by
   rw [List.getElem?_append_left (List.getElem?_eq_some_iff.1 hb).1]; exact hb), fun a ha => h.dt a (List.mem_append_left _ ha)⟩
theorem Km.puts {α : Type} {L : Lies α} {B : Nat} {v v' : Value} {us us' : List α} (h : Km C w wr vs ms ts) (hi : ms[i]? = some (Th.mine L B v us)) (hg : wr.grownBy w' v.ownBlock) (hI : L.Mine w' B v' us') (ho : ∀ k, v'.ownBlock = some k → v.ownBlock = some k ∨ wr.heap.size ≤ k) : Km C w w' vs (ms.set i (Th.mine L B v' us')) ts :=
 h.turn hi ⟨hg.os, hg.tape, hg.output, hg.size, fun k hk hn => hg.block k hk (fun e => hn e.symm)⟩ hI (fun k hk => ho k hk)
theorem AtM.push {ms' : List Th} (h : AtM x i j ms ts) : AtM x i j (ms ++ ms') ts :=
 ⟨by rw [List.getElem?_append_left (List.getElem?_eq_some_iff.1 h.hi).1]; exact h.hi, by rw [List.getElem?_append_left (List.getElem?_eq_some_iff.1 h.hj).1]; exact h.hj, h.ne, h.hb⟩
theorem tk_park (s : Ms) (V : Vw) (e : Edu) : s.tk V e = ⟨(s.tk V e).l, s.p⟩ := by
 unfold Ms.tk
 split <;> rfl
theorem set_last {α : Type} (l : List α) (a b : α) : (l ++ [a]).set l.length b = l ++ [b] := by
 rw [List.set_append_right _ _ (Nat.le_refl _), Nat.sub_self]
 rfl
theorem get_last {α : Type} (l : List α) (a : α) : (l ++ [a])[l.length]? = some a := by
 rw [List.getElem?_append_right (Nat.le_refl _), Nat.sub_self]
 rfl
set_option maxHeartbeats 6400000 in
theorem marksArrive_any (h : Km codeDags w wr vs ms ts) (hq : vs[q]? = some vi) (ha : AtM x i j ms ts) (hl : x.r.l.length + x.p.l.length ≤ 100000) (hsm : ∀ e ∈ x.p.l, e.small) (room id : ByteArray) (hr : room.size ≤ 40) (hid : id.size ≤ maxLen) :
  Calls Tryz.prog 20 #[.pointer (some ⟨x.g, 0, none⟩), .pointer (some ⟨vi.g, 0, none⟩), .string room, .string id] wr fun a w' => ∃ (x' : MkI) (u : Value), a = .returned u ∧ x.to x' (x.ms.arr vi.V room id).1 ∧ LRK.Mine w' wr.heap.size u ((x.ms.arr vi.V room id).2.map keyE) ∧ Km codeDags w w' vs ((ms.set i x'.park).set j x'.tab) ts := by
 have h := h.add (t := Th.low wr.heap.size) (Below.refl _ _) (Nat.le_refl _) (fun k hk => hk.elim)
 have ha := ha.more (t := Th.low wr.heap.size)
 have HLESS : Hid (∀ W ms', Km codeDags w W vs ms' (Th.low wr.heap.size :: ts) → Km codeDags w W vs ms' ts) := Lib.hid (fun W ms' hk => hk.less (fun t ht => List.mem_cons_of_mem _ ht))
 have hlm : Th.low wr.heap.size ∈ Th.low wr.heap.size :: ts := List.mem_cons_self
 have HPOS := Lib.hid (viewPosition_any h.kv hq room id hr hid)
 have HNO := Lib.hid (fun hh => Ms.arr_no (s := x.ms) (V := vi.V) (room := room) (id := id) hh)
 have HYES := Lib.hid (fun hh => Ms.arr_yes (s := x.ms) (V := vi.V) (room := room) (id := id) hh)
 have HK := Lib.hid h
 have HA := Lib.hid ha
 have HQ := Lib.hid hq
 have HSM := Lib.hid hsm
 have hlo := h.below.size
 clear h ha hsm hq hr hid
 generalize hasE (ofL vi.V room) id = hh at *
 generalize Th.low wr.heap.size :: ts = ts1 at *
 go_enter Tryz.func20, Tryz.ntmps20
 go_wp2_with fail
 go_at_call 29
 refine HPOS.out.mono ?_
 rintro a w1 ⟨p, rfl, -, hk⟩
 have HK1 := Lib.hid (HK.out.ofKv hk)
 clear HPOS hk
 obtain ⟨pd, pi⟩ := p
 simp only [Po.val]
 have hn := heap_alloc_new w1 (.cells #[.int .i64 0, .string ⟨#[]⟩] 83)
 have HK2 := Lib.hid (HK1.out.later (below_setRow (below_new w1 (.cells #[.int .i64 0, .string ⟨#[]⟩] 83)) (Nat.le_refl _) #[.int .i64 pd, .string pi]))
 go_upto_region 2 with (refine wpList_store_row rfl 83 (.tmp 9) (.tmp 21) rfl w1.heap.size #[.int .i64 pd, .string pi] rfl rfl 83 _ hn pos_info rfl (one2 _ _) ?_)
 generalize World.setRow _ _ _ = w2 at HK2 ⊢
 clear hn HK1
 cases hh
 ·have e0 := HNO.out rfl
  have HR := Lib.hid (HLESS.out _ _ HK2.out)
  have HST := Lib.hid HA.out.stay
  clear HK2 HYES HNO
  go_wp2_with fail
  go_ret
  exact ⟨x, .slice none 0 0, rfl, ⟨rfl, rfl, rfl, by rw [e0]⟩, by rw [e0]; exact Lies.Mine.nil _ _, by rw [HST.out]; exact HR.out⟩
 have HARR := Lib.hid (HYES.out rfl)
 clear HYES HNO
 have HPT := Lib.hid (fun W (hp : CPk W x.B x.b x.v x.p) => pkTake_any hp room id (by omega))
 obtain ⟨e0, e1, e2, e3⟩ := mkO_at (HK2.out.isT HA.out.hb)
 go_wp2_with fail
 go_at_call 53
 refine (HPT.out _ (HK2.out.isM HA.out.hi)).mono ?_
 rintro a w3 ⟨u, v', rfl, hu, hput, hap⟩
 have hsz2 : wr.heap.size ≤ w2.heap.size := HK2.out.isT hlm
 have HK3 := Lib.hid (HK2.out.turnAdd (t := Th.mine LE w2.heap.size u (x.p.took room id)) (m' := Th.park x.B x.b v' (x.p.take room id)) HA.out.hi hput.turn hput.pk (fun k hk' => by
  rcases hk' with rfl | hk'
  ·exact .inl (.inl rfl)
  ·rcases hput.own k hk' with h1 | h1
   ·exact .inl (.inr h1)
   ·exact .inr h1) hu (fun k hk => (hu.lt k hk).1) (fun k hk hm => by
  rcases hm with rfl | hm
  ·have h1 := (hu.lt _ hk).1
   have h2 := smem_lt (HK2.out.isM HA.out.hi).hd
   omega
  ·exact hap k hk hm))
 have hsz3 : w2.heap.size ≤ w3.heap.size := hput.turn.size
 clear hap hput HPT e0 e1 e2 e3
 -- the marks with what has been taken
 obtain ⟨X1, hX1⟩ : ∃ y : MkI, y = ⟨x.g, x.B, x.b, v', x.p.take room id, x.r⟩ := ⟨_, rfl⟩
 have HTO : Hid (x.to X1 X1.ms) := Lib.hid (by rw [hX1]; exact ⟨rfl, rfl, rfl, rfl⟩)
 have HA3 : Hid (AtM X1 i j (ms.set i X1.park) ts1) := Lib.hid (by
  have h1 := (List.getElem?_eq_some_iff.1 HA.out.hi).1
  refine ⟨by rw [List.getElem?_set_self h1], ?_, HA.out.ne, HTO.out.box ▸ HA.out.hb⟩
  rw [List.getElem?_set_ne HA.out.ne, hX1]
  exact HA.out.hj)
 replace HK3 : Hid (Km codeDags w w3 vs (ms.set i X1.park) (Th.mine LE w2.heap.size u (x.p.took room id) :: ts1)) := by
  rw [hX1]
  exact HK3
 have HS0 : Hid ((⟨x.ms.l, x.ms.p.take room id⟩ : Ms) = X1.ms) := Lib.hid (by rw [hX1]; rfl)
 have hg : X1.g = x.g := HTO.out.g
 have HLN : Hid (X1.r.l.length + (x.p.took room id).length ≤ 100000) := Lib.hid (by
  have := took_le x.p room id
  rw [hX1]
  show x.r.l.length + _ ≤ _
  omega)
 have HTS : Hid (∀ e ∈ x.p.took room id, e.small) := Lib.hid (fun e he => HSM.out e (mem_took.1 he).1)
 rw [show x.ms.p = x.p from rfl] at HARR HS0
 rw [HS0.out] at HARR
 have HSUB : Hid (ms.set i X1.park = ms.set i X1.park) := Lib.hid rfl
 clear hX1 HSM HS0 HSUB HK2
 generalize x.p.took room id = tk at *
 obtain ⟨A, cap, rfl, h1, h2, -⟩ := hu.shape
 unfold maxLen at h2
 have HU : Hid (∀ W ms' ts', Km codeDags w W vs ms' (Th.mine LE w2.heap.size (.slice A tk.length cap) tk :: ts') → LE.Mine W w2.heap.size (.slice A tk.length cap) tk) := Lib.hid (fun W ms' ts' hk => hk.isT List.mem_cons_self)
 clear hu
 generalize hms : ms.set i X1.park = ms1 at *
 have HM0 := Lib.hid ((HK3.out.made (m := Th.mine LNo w3.heap.size (.slice none 0 0) []) (Below.refl _ _) (Lies.Mine.nil _ _) (fun k hk => by cases hk)).add (t := Th.low w3.heap.size) (Below.refl _ _) (Nat.le_refl _) (fun k hk => hk.elim))
 have HLS2 : Hid (∀ W ms', Km codeDags w W vs ms' (Th.low w3.heap.size :: Th.mine LE w2.heap.size (.slice A tk.length cap) tk :: ts1) → Km codeDags w W vs ms' ts) := Lib.hid (fun W ms' hk => HLESS.out _ _ (hk.less (fun t ht => List.mem_cons_of_mem _ (List.mem_cons_of_mem _ ht))))
 have hml : Th.low w3.heap.size ∈ Th.low w3.heap.size :: Th.mine LE w2.heap.size (.slice A tk.length cap) tk :: ts1 := List.mem_cons_self
 have hmt : Th.mine LE w2.heap.size (.slice A tk.length cap) tk ∈ Th.low w3.heap.size :: Th.mine LE w2.heap.size (.slice A tk.length cap) tk :: ts1 := List.mem_cons_of_mem _ List.mem_cons_self
 have HA4 : Hid (AtM X1 i j ms1 (Th.low w3.heap.size :: Th.mine LE w2.heap.size (.slice A tk.length cap) tk :: ts1)) := Lib.hid (HA3.out.more.more)
 generalize Th.low w3.heap.size :: Th.mine LE w2.heap.size (.slice A tk.length cap) tk :: ts1 = ts2 at *
 have H0 : Hid (∃ r' : RI, r'.g = X1.r.g ∧ (arrF vi.V X1.ms (tk.take 0)).1 = ⟨r'.l, X1.p⟩ ∧ Km codeDags w w3 vs (ms1.set j (Th.tab r') ++ [Th.mine LNo w3.heap.size (.slice none 0 0) (arrF vi.V X1.ms (tk.take 0)).2]) ts2) := Lib.hid ⟨X1.r, rfl, rfl, by
  rw [show ms1.set j (Th.tab X1.r) = ms1 from set_is HA3.out.hj]
  exact HM0.out⟩
 have hsz5 : wr.heap.size ≤ w3.heap.size := Nat.le_trans hsz2 hsz3
 clear HM0 HK3 hsz2 hsz3 HLESS hlm
 generalize w2.heap.size = B2 at *
 generalize w3.heap.size = B3 at *
 clear hg
 go_wp2_with fail
 go_loopw [33, 11, 13, 14, 15] (fun n v _ _ _ wz => ∃ a : Nat, n = .int .i64 (a : Int) ∧ a ≤ tk.length ∧ Hid (∃ r' : RI, r'.g = X1.r.g ∧ (arrF vi.V X1.ms (tk.take a)).1 = ⟨r'.l, X1.p⟩ ∧ Km codeDags w wz vs (ms1.set j (Th.tab r') ++ [Th.mine LNo B3 v (arrF vi.V X1.ms (tk.take a)).2]) ts2)) (fun n _ _ _ _ _ => tk.length - (intOf n).toNat)
 case atStart => exact ⟨0, rfl, Nat.zero_le _, H0⟩
 case round =>
  obtain ⟨a, rfl, ha, HKR⟩ := hrel
  clear H0
  obtain ⟨r', hr1, hr2, hkr⟩ := HKR.out
  have HR := Lib.hid (And.intro hr1 hr2)
  have HKR := Lib.hid hkr
  have HLA : Hid (r'.l.length ≤ 100000 ∧ (arrF vi.V X1.ms (tk.take a)).2.length ≤ a ∧ ∀ y ∈ (arrF vi.V X1.ms (tk.take a)).2, y ∈ tk) := Lib.hid (by
   have h1 := (arrF_len vi.V (tk.take a) (X1.ms, [])).2
   have h2 := HLN.out
   have h3 := arrF_sub vi.V (tk.take a) (X1.ms, [])
   have h4 : (tk.take a).length ≤ a := by rw [List.length_take]; omega
   show r'.l.length ≤ 100000 ∧ (List.foldl (arrS vi.V) (X1.ms, []) (tk.take a)).2.length ≤ a ∧ _
   have h5 : (List.foldl (arrS vi.V) (X1.ms, []) (tk.take a)).1.l = r'.l := by
    show (arrF vi.V X1.ms (tk.take a)).1.l = r'.l
    rw [hr2]
   rw [h5] at h1
   have h6 : X1.ms.l.length = X1.r.l.length := rfl
   simp only [List.length_nil] at h1
   refine ⟨by omega, by omega, fun y hy => ?_⟩
   rcases h3 y hy with hy | hy
   ·cases hy
   ·exact List.mem_of_mem_take hy)
  clear hr1 hr2 hkr
  by_cases hax : a < tk.length
  ·have q1 : decide ((a : Int) < (tk.length : Int)) = true := decide_eq_true (by omega)
   have hx : tk[a]? = some tk[a] := List.getElem?_eq_getElem hax
   generalize tk[a] = y at hx
   have HY := Lib.hid (HTS.out y (List.mem_of_getElem? hx))
   have HNX := Lib.hid (arr_next (V := vi.V) (s := X1.ms) hx)
   generalize arrF vi.V X1.ms (tk.take a) = qa at *
   obtain ⟨bo, oo, rfl, hbo, hco⟩ := (show LE.Mine _ B2 (.slice A tk.length cap) tk from HKR.out.isT hmt).slice.at hx
   have hiy := index_any (P := Tryz.prog) knE (by decide) (b := bo) (off := oo) (cap := cap) hax
   simp only [LE] at hiy hco
   obtain ⟨a0, a1, a2, a3, a4, a5, a6, a7, a8, a9, a10⟩ := range11 hco
   clear hx hco
   obtain ⟨q1l, q1k⟩ := qa
   obtain ⟨hrg, hrq⟩ := HR.out
   simp only at hrq
   subst hrq
   have HK5 := Lib.hid (HKR.out.add (t := Th.box _ (.cells y.cells.toArray 43 (0, 0))) (below_new _ (.cells y.cells.toArray 43)) (heap_alloc_new _ (.cells y.cells.toArray 43)) (fun k hk => .inl (Nat.le_of_eq hk.symm)))
   obtain ⟨xa, hxa⟩ : ∃ xa : MkI, xa = ⟨X1.g, X1.B, X1.b, X1.v, X1.p, r'⟩ := ⟨_, rfl⟩
   have hxg : x.g = xa.g := by rw [hxa]; exact HTO.out.g.symm
   have hxms : (⟨r'.l, X1.p⟩ : Ms) = xa.ms := by rw [hxa]; rfl
   have HXL : Hid (xa.r.l.length ≤ 100000) := Lib.hid (by rw [hxa]; exact HLA.out.1)
   have HXP : Hid (xa.p = X1.p ∧ xa.r.g = X1.r.g) := Lib.hid (by rw [hxa]; exact ⟨rfl, hrg⟩)
   have HJL : Hid (j < (ms1.set j (Th.tab r')).length ∧ (ms1.set j (Th.tab r')).length = ms1.length) := Lib.hid ⟨by rw [List.length_set]; exact (List.getElem?_eq_some_iff.1 HA4.out.hj).1, List.length_set⟩
   have HAX : Hid (∀ t : Th, AtM xa i j (ms1.set j (Th.tab r') ++ [Th.mine LNo B3 u11 q1k]) (t :: ts2)) := Lib.hid (fun t => by
    have h5 := HA4.out.to (x' := xa) (s := xa.ms) ⟨by rw [hxa], by rw [hxa], by rw [hxa]; exact hrg, rfl⟩
    rw [show ms1.set i xa.park = ms1 from by rw [hxa]; exact set_is HA4.out.hi, show xa.tab = Th.tab r' from by rw [hxa]; rfl] at h5
    exact h5.more.push)
   rw [hxms] at HNX
   simp only at HLA HKR HK5
   have HTK := Lib.hid (fun W t (hk : Km codeDags w W vs (ms1.set j (Th.tab r') ++ [Th.mine LNo B3 u11 q1k]) (t :: ts2)) => marksTake_any hk HQ.out (HAX.out t) HXL.out y HY.out)
   rw [hxg]
   clear hxa hxms hrg HKR HR HU hbo HY HXL HAX
   have hkm : xa.ms.p = X1.p := HXP.out.1
   obtain ⟨yk, yr, yu, yz, yt, yp, yo, ys, yy, yc, ym⟩ := y
   simp only [Edu.val, Edu.cells] at HTK HK5 a0 a1 a2 a3 a4 a5 a6 a7 a8 a9 a10
   go_upto_region 8 with (fail)
   generalize World.alloc _ _ = w5 at HK5 ⊢
   generalize wr.heap.size = g7 at HK5 ⊢
   clear a0 a1 a2 a3 a4 a5 a6 a7 a8 a9 a10 hiy
   obtain ⟨d0, d1, d2, d3, d4, d5, d6, d7, d8, d9, d10⟩ := cells11 (HK5.out.isT List.mem_cons_self)
   go_wp2_with fail
   go_at_call 45
   refine (HTK.out _ _ HK5.out).mono ?_
   rintro b w6 ⟨r2, rfl, e1, e2, hk6⟩
   rw [List.set_append_left _ _ HJL.out.1, List.set_set] at hk6
   have HK6 := Lib.hid hk6
   have HE : Hid (r2.g = X1.r.g ∧ (xa.ms.tk vi.V ⟨yk, yr, yu, yz, yt, yp, yo, ys, yy, yc, ym⟩) = ⟨r2.l, X1.p⟩) := Lib.hid ⟨e1.trans HXP.out.2, by rw [tk_park, e2, hkm]⟩
   clear d0 d1 d2 d3 d4 d5 d6 d7 d8 d9 d10 HK5 HTK hk6 e1 e2 hkm
   unfold arrS at HNX
   rw [HE.out.2] at HNX
   simp only at HNX
   cases hon : xa.ms.tkOn vi.V ⟨yk, yr, yu, yz, yt, yp, yo, ys, yy, yc, ym⟩
   ·rw [hon, cond_false] at HNX
    have HF := Lib.hid (HK6.out.less (ts' := ts2) (fun t ht => List.mem_cons_of_mem _ ht))
    clear HK6
    go_wp2_with fail
    refine ⟨⟨a + 1, by go_num, by omega, Lib.hid ⟨r2, HE.out.1, by rw [HNX.out], by rw [HNX.out]; exact HF.out⟩⟩, ?_⟩
    simp [intOf]; omega
   ·rw [hon, cond_true] at HNX
    obtain ⟨d0, d1, d2, d3, d4, d5, d6, d7, d8, d9, d10⟩ := cells11 (HK6.out.isT List.mem_cons_self)
    have hsr : LNo.Slice (w6.alloc (.cells #[.int .i64 yk, .string yr, .string yu, .string yz, .string yt, .bool yp, .bool yo, .int .i64 ys, .int .i64 yy, .int .i64 yc, .int .i64 ym] 125)) (.slice (some ⟨w6.heap.size, 0, none⟩) 1 1) [⟨yk, yr, yu, yz, yt, yp, yo, ys, yy, yc, ym⟩] := lit_slice (L := LNo) w6 ⟨yk, yr, yu, yz, yt, yp, yo, ys, yy, yc, ym⟩ w6.heap.size rfl #[.int .i64 yk, .string yr, .string yu, .string yz, .string yt, .bool yp, .bool yo, .int .i64 ys, .int .i64 yy, .int .i64 yc, .int .i64 ym] rfl
    have HSR := Lib.hid (hsr.srcN knNo (n := 1) rfl)
    have HK7 := Lib.hid (HK6.out.later (below_new w6 (.cells #[.int .i64 yk, .string yr, .string yu, .string yz, .string yt, .bool yp, .bool yo, .int .i64 ys, .int .i64 yy, .int .i64 yc, .int .i64 ym] 125)))
    have HLT : Hid ((ms1.set j (Th.tab r2)).length = ms1.length) := Lib.hid List.length_set
    have HMI : Hid (LNo.Mine (w6.alloc (.cells #[.int .i64 yk, .string yr, .string yu, .string yz, .string yt, .bool yp, .bool yo, .int .i64 ys, .int .i64 yy, .int .i64 yc, .int .i64 ym] 125)) B3 u11 q1k) := Lib.hid (HK7.out.isM (i := (ms1.set j (Th.tab r2)).length) (m := Th.mine LNo B3 u11 q1k) (get_last _ _))
    have HB3 : Hid (B3 ≤ (w6.alloc (.cells #[.int .i64 yk, .string yr, .string yu, .string yz, .string yt, .bool yp, .bool yo, .int .i64 ys, .int .i64 yy, .int .i64 yc, .int .i64 ym] 125)).heap.size) := Lib.hid (HK7.out.isT (List.mem_cons_of_mem _ hml))
    have hl5 : q1k.length + 1 ≤ 1000000 := by have := HLA.out.2.1; have := HLN.out; omega
    clear hsr HK6
    go_wp2_with (refine wpList_puts rfl knNo (.tmp 45) (.tmp 47) 123 rfl rfl HMI.out HB3.out (.slice (some ⟨w6.heap.size, 0, none⟩) 1 1) [⟨yk, yr, yu, yz, yt, yp, yo, ys, yy, yc, ym⟩] 1 rfl rfl HSR.out hl5 (fun A2 cap2 w8 hm8 hg8 ho8 => ?_))
    have hk8 := HK7.out.puts (i := (ms1.set j (Th.tab r2)).length) (get_last _ _) hg8 hm8 (fun k hk => by
     rcases ho8 k hk with h1 | h1
     ·exact .inl h1
     ·exact .inr h1)
    rw [set_last] at hk8
    have HF := Lib.hid (hk8.less (ts' := ts2) (fun t ht => List.mem_cons_of_mem _ ht))
    refine ⟨⟨a + 1, by go_num, by omega, Lib.hid ⟨r2, HE.out.1, by rw [HNX.out], by rw [HNX.out]; exact HF.out⟩⟩, ?_⟩
    simp [intOf]; omega
  ·have q1 : decide ((a : Int) < (tk.length : Int)) = false := decide_eq_false (by omega)
   obtain rfl : a = tk.length := by omega
   rw [List.take_length] at HKR HR HLA
   obtain ⟨hrg, hrq⟩ := HR.out
   have hmi : LNo.Mine _ B3 u11 (arrF vi.V X1.ms tk).2 := HKR.out.isM (i := (ms1.set j (Th.tab r')).length) (get_last _ _)
   have HEK := Lib.hid (eachKey_any hmi.slice (by have := HLA.out.2.1; have := HLN.out; omega) (fun e he => (HTS.out e (HLA.out.2.2 e he)).brief))
   have hlow : B3 ≤ wr.heap.size := HKR.out.isT hml
   clear hmi
   go_wp2_with fail
   go_at_call 54
   refine HEK.out.mono ?_
   rintro b w6 ⟨u, rfl, hu, hb⟩
   have HKF := Lib.hid (HLS2.out _ _ (HKR.out.later hb).drop)
   have HUF := Lib.hid (hu.mono (Nat.le_trans hsz5 hlow))
   clear hu hb HEK
   go_wp2_with fail
   go_ret
   refine ⟨⟨X1.g, X1.B, X1.b, X1.v, X1.p, r'⟩, u, rfl, ⟨HTO.out.g, HTO.out.b, hrg.trans HTO.out.t, ?_⟩, ?_, ?_⟩
   ·rw [HARR.out, hrq]
    rfl
   ·rw [HARR.out]
    exact HUF.out
   ·show Km codeDags w _ vs ((ms.set i X1.park).set j (Th.tab r')) ts
    rw [hms]
    exact HKF.out
end
end Go.Proofs.YtnnapkakbdpkaaaGreat

namespace Go.Proofs.YtnnapkakbdpkaaaGreat
set_option maxRecDepth 20000
open Go.RowKit
theorem roomK_well : ∀ k : Fin 2, (roomK k.val).size ≤ 40 ∧ namedB 33 (roomK k.val) = true := by decide +kernel
theorem userK_well : ∀ k : Fin 9, (userK k.val).size ≤ 40 ∧ namedB 64 (userK k.val) = true := by decide +kernel
theorem eventK_well : ∀ k : Fin 9, (eventK k.val).size ≤ 40 ∧ eventB (eventK k.val) = true := by decide +kernel
theorem threadK_well : ∀ k : Fin 11, (threadK k.val).size ≤ 40 ∧ threadB (threadK k.val) = true := by decide +kernel
theorem roomS_well (n : Int) : (roomS n).size ≤ 40 ∧ namedB 33 (roomS n) = true := roomK_well ⟨aroundN n 2, aroundN_lt _ (m := 2) (by decide)⟩
theorem userS_well (n : Int) : (userS n).size ≤ 40 ∧ namedB 64 (userS n) = true := userK_well ⟨aroundN n 9, aroundN_lt _ (m := 9) (by decide)⟩
theorem eventS_well (n : Int) : (eventS n).size ≤ 40 ∧ eventB (eventS n) = true := eventK_well ⟨aroundN n 9, aroundN_lt _ (m := 9) (by decide)⟩
theorem threadS_well (n : Int) : (threadS n).size ≤ 40 ∧ threadB (threadS n) = true := threadK_well ⟨aroundN n 11, aroundN_lt _ (m := 11) (by decide)⟩
theorem may_made {r u v t : ByteArray} {p : Bool} {c m : Int} (hr : namedB 33 r = true) (hu : namedB 64 u = true) (hv : eventB v = true) (ht : threadB t = true) (hc : 0 ≤ c ∧ c ≤ 1099511627776) (hm : 0 ≤ m ∧ m ≤ 1099511627776) : mayR ⟨1, r, u, v, t, p, false, 0, 0, c, m⟩ = true := by
 unfold mayR
 rw [local_ref]
 unfold kindB
 simp only [hr, hu, hv, ht]
 simp [hc.1, hc.2, hm.1, hm.2]
theorem waitE_is (e : Edu) : waitE e = ⟨1, roomS e.span, userS e.state, eventS e.stamp, threadS (e.thread.size : Int), e.priv, false, 0, 0, aroundI e.tick 100, aroundI e.stamp 9⟩ := by
 unfold waitE
 rw [wait_good]
 rfl
theorem around_bd (n : Int) (m : Nat) (h0 : 0 < m) (hm : m ≤ 1000) : 0 ≤ aroundI n m ∧ aroundI n m ≤ 1099511627776 := by
 have := aroundI_bd n (m : Int) (by omega)
 omega
theorem wait_may (e : Edu) : mayR (waitE e) = true := by
 rw [waitE_is]
 exact may_made (roomS_well _).2 (userS_well _).2 (eventS_well _).2 (threadS_well _).2 (around_bd _ 100 (by decide) (by decide)) (around_bd _ 9 (by decide) (by decide))
theorem wait_small (e : Edu) : (waitE e).small := by
 rw [waitE_is]
 exact ⟨(roomS_well _).1, (userS_well _).1, (eventS_well _).1, (threadS_well _).1⟩
theorem few_small (e : Edu) : (fewEd e).small := ⟨fewS_size e.room 40, fewS_size e.user 40, fewS_size e.event 40, fewS_size e.thread 40⟩
theorem good_small (e : Edu) : (goodE e).small := by
 rcases good_ways e with ⟨-, h⟩ | ⟨-, h⟩ | ⟨-, h⟩ <;> rw [h]
 ·exact ⟨(roomS_well _).1, (userS_well _).1, (eventS_well _).1, (threadS_well _).1⟩
 ·exact ⟨(roomS_well _).1, (userS_well _).1, Nat.zero_le _, Nat.zero_le _⟩
 ·exact ⟨Nat.zero_le _, (userS_well _).1, Nat.zero_le _, Nat.zero_le _⟩
end Go.Proofs.YtnnapkakbdpkaaaGreat

namespace Go.Proofs.YtnnapkakbdpkaaaGreat
set_option maxRecDepth 20000
open Go.RowKit
section
variable {w : World} {g mb : Nat} {room : ByteArray} {ns : List NdV} {D : Dv}
theorem room_code7 (h : DgS w g room mb ns D) : Calls Tryz.prog 49 #[.pointer (some ⟨g, 0, none⟩)] w fun e w' => e = .returned (.string room) ∧ Below w.heap.size w w' := by
 have c0 : w.cell? ⟨g, 0, none⟩ = some (.string room) := cell_at h.hd 0
 have hs := h.rs
 have HC := Lib.hid (fun W => clone_any room W (by omega))
 clear h hs
 go_enter Tryz.func49, Tryz.ntmps49
 go_wp2_with fail
 go_at_call 81
 refine (HC.out _).mono ?_
 rintro e w1 ⟨rfl, hb⟩
 go_wp2_with fail
 go_ret
 exact ⟨rfl, hb⟩
end
theorem codeRms : DagRms codeDags := ⟨fun {w g room l} h hl => by
 obtain ⟨mb, ns, D, h, rfl⟩ := h
 refine (room_code7 h).mono ?_
 rintro e w' ⟨rfl, hb⟩
 exact ⟨rfl, h.still hb⟩⟩
end Go.Proofs.YtnnapkakbdpkaaaGreat

namespace Go.Proofs.YtnnapkakbdpkaaaGreat
set_option maxRecDepth 20000
open Go.RowKit
def rmS : ByteArray := ⟨#[33, 114, 58, 115]⟩
def usS : ByteArray := ⟨#[64, 97, 58, 115]⟩
def idB : ByteArray := ⟨#[36, 98]⟩
def evB : Ev := ⟨idB, rmS, [], ⟨#[]⟩, usS, 0⟩
def rcB : Edu := ⟨1, rmS, usS, idB, ⟨#[]⟩, false, false, 0, 0, 0, 0⟩
theorem ex_may : mayR rcB = true := by decide +kernel
theorem ex_fit : fitV [] rcB = 4 := by decide +kernel
theorem ex_add : addV [] evB = [(rmS, [evB])] ∧ errV [] evB = 0 := by decide +kernel
theorem ex_put : (⟨[], (⟨2, [], 0⟩ : Pk).put rcB⟩ : Ms) = ⟨[], ⟨2, [rcB], 0⟩⟩ := by rfl
theorem ex_arr : ((⟨[], ⟨2, [rcB], 0⟩⟩ : Ms).arr [(rmS, [evB])] rmS idB).2.length = 1 ∧ ((⟨[], ⟨2, [rcB], 0⟩⟩ : Ms).arr [(rmS, [evB])] rmS idB).1.l.length = 1 ∧ ((⟨[], ⟨2, [rcB], 0⟩⟩ : Ms).arr [(rmS, [evB])] rmS idB).1.p.l.length = 0 := by decide +kernel
theorem ex_small : rcB.small := ⟨by decide, by decide, by decide, by decide⟩
theorem Km.lone {C : Dags} {w wr : World} {vs : List VI} {ts ms : List Th} (h : Km C w wr vs ms ts) (e : Ev) (hp : e.parents = []) (hk : e.ok) : Km C w wr vs ms (Th.ev ⟨e, none, 0⟩ :: ts) :=
 h.add (t := Th.ev ⟨e, none, 0⟩) (Below.refl _ _) ⟨by unfold EvV.pv; simp only [hp]; exact .nil _, hk⟩ (fun k hk => by
  have := hk.1
  simp only [hp] at this
  exact absurd this (Nat.lt_irrefl 0))
theorem all_of (x : MkI) {w wr : World} {vs : List VI} {ts ms : List Th} {i j : Nat} (h : Km codeDags w wr vs ms ts) (ha : AtM x i j ms ts) (hl : x.r.l.length ≤ 1000) : Calls Tryz.prog 156 #[.pointer (some ⟨x.r.g, 0, none⟩)] wr fun e w' => ∃ v, e = .returned v ∧ LR.Mine w' wr.heap.size v x.r.l ∧ Below wr.heap.size wr w' := rcAll_any (h.isM ha.hj) hl
set_option maxHeartbeats 6400000 in
theorem lives13_any (w : World) : Calls Tryz.prog 25 #[] w fun e w' => e = .returned (.bool true) ∧ Below w.heap.size w w' := by
 have HN := Lib.hid (marksNew_yes 2 (by decide) (by decide) (Km.start (C := codeDags) w))
 go_enter Tryz.func25, Tryz.ntmps25
 go_wp2_with fail
 go_at_call 9
 refine HN.out.mono ?_
 rintro e w1 ⟨x, rfl, hx, hk⟩
 have HX := Lib.hid hx
 have HK1 := Lib.hid hk
 have HV := Lib.hid (viewNew_any hk.kv)
 clear HN hx hk
 go_wp2_with fail
 go_at_call 10
 refine HV.out.mono ?_
 rintro e w2 ⟨v, rfl, hv, hk⟩
 have HK2 := Lib.hid (HK1.out.ofKv hk)
 have HV0 := Lib.hid hv
 clear HV hk hv HK1
 have HL0 : Hid (x.r.l = [] ∧ x.p = ⟨2, [], 0⟩) := Lib.hid ⟨congrArg Ms.l HX.out, congrArg Ms.p HX.out⟩
 have HA2 : Hid (∀ ts, AtM x 0 1 [x.park, x.tab] (x.box :: ts)) := Lib.hid (fun ts => ⟨rfl, rfl, by decide, List.mem_cons_self⟩)
 have HB2 : Hid (x.box ∈ [x.box]) := Lib.hid List.mem_cons_self
 have HK3 := Lib.hid (show Km codeDags w (w2.alloc (.cells rcB.cells.toArray 43)) [v] [x.park, x.tab] [x.box] from HK2.out.later (below_new w2 _))
 have h3 := heap_alloc_new w2 (.cells rcB.cells.toArray 43)
 have HPUT := Lib.hid (marksPut_any HK3.out (q := 0) rfl (HA2.out _) (by rw [HL0.out.1]; decide) (by rw [HL0.out.2]; decide) (by rw [HL0.out.2]; decide) (by rw [HL0.out.2]; decide) rcB ex_small)
 rw [(Ms.put_wait (s := x.ms) ex_may (V := v.V) (by rw [HV0.out]; exact ex_fit)).1, (Ms.put_wait (s := x.ms) ex_may (V := v.V) (by rw [HV0.out]; exact ex_fit)).2.1, (Ms.put_wait (s := x.ms) ex_may (V := v.V) (by rw [HV0.out]; exact ex_fit)).2.2, HX.out, ex_put] at HPUT
 simp only [rcB, Edu.val, Edu.cells, rmS, usS, idB] at HPUT h3 HK3
 go_upto_region 6 with (fail)
 generalize World.alloc _ _ = w3 at HPUT h3 HK3 ⊢
 generalize w2.heap.size = g4 at h3 ⊢
 obtain ⟨d0, d1, d2, d3, d4, d5, d6, d7, d8, d9, d10⟩ := cells11 h3
 clear HK2 h3
 go_wp2_with fail
 go_at_call 15
 refine HPUT.out.mono ?_
 rintro e w4 ⟨x1, rfl, hto, hk⟩
 have HT1 := Lib.hid hto
 have HK4 := Lib.hid (show Km codeDags w w4 [v] [x1.park, x1.tab] [x.box] from hk)
 have HK5 := Lib.hid (HK4.out.lone evB rfl (by unfold Ev.ok maxLen; decide))
 have HAD := Lib.hid (viewAdd_any codeRms HK5.out.kv (i := 0) rfl (by rw [HV0.out]; exact VOk.nil.mono (by decide)) ⟨evB, none, 0⟩ (List.mem_append_right _ List.mem_cons_self) (by decide))
 clear hto hk HPUT HK3 d0 d1 d2 d3 d4 d5 d6 d7 d8 d9 d10
 go_wp2_with fail
 go_at_call 16
 refine HAD.out.mono ?_
 rintro e w5 ⟨v1, rfl, hg1, hv1, hk⟩
 rw [HV0.out, ex_add.1] at hv1
 have HK6 := Lib.hid ((HK5.out.ofKv hk).less (ts' := [x.box]) (fun t ht => List.mem_cons_of_mem _ ht))
 have hx1 : x1.ms = ⟨[], ⟨2, [rcB], 0⟩⟩ := HT1.out.ms
 have HL1 : Hid (x1.r.l = [] ∧ x1.p = ⟨2, [rcB], 0⟩) := Lib.hid ⟨congrArg Ms.l hx1, congrArg Ms.p hx1⟩
 have HA3 : Hid (AtM x1 0 1 [x1.park, x1.tab] [x.box]) := Lib.hid ⟨rfl, rfl, by decide, by rw [HT1.out.box]; exact List.mem_cons_self⟩
 have HARR := Lib.hid (marksArrive_any HK6.out (q := 0) rfl HA3.out (by rw [HL1.out.1, HL1.out.2]; decide) (by rw [HL1.out.2]; intro e he; rw [List.mem_singleton.1 he]; exact ex_small) rmS idB (by decide) (by unfold maxLen; decide))
 rw [hx1, hv1, hg1, HT1.out.g] at HARR
 have hlo5 := HK6.out.below.size
 clear hk HAD HK5 HK4 hx1 hv1 hg1
 simp only [rmS, idB] at HARR
 go_wp2_with fail
 go_at_call 20
 refine HARR.out.mono ?_
 rintro e w6 ⟨x2, u, rfl, hto, hu, hk⟩
 have HT2 := Lib.hid hto
 have HK7 := Lib.hid (show Km codeDags w w6 _ [x2.park, x2.tab] [x.box] from hk)
 obtain ⟨A, c, hus, h1, h2, -⟩ := hu.shape
 have hlen : List.length (List.map keyE (Ms.arr ⟨[], ⟨2, [rcB], 0⟩⟩ [({ data := #[33, 114, 58, 115] }, [evB])] { data := #[33, 114, 58, 115] } { data := #[36, 98] }).2) = 1 := by
  rw [List.length_map]
  exact ex_arr.1
 rw [hlen] at hus h1
 subst hus
 have hms2 : x2.ms = (Ms.arr ⟨[], ⟨2, [rcB], 0⟩⟩ [({ data := #[33, 114, 58, 115] }, [evB])] { data := #[33, 114, 58, 115] } { data := #[36, 98] }).1 := HT2.out.ms
 have HL2 : Hid (x2.r.l.length = 1 ∧ x2.p.l.length = 0) := Lib.hid ⟨by
  show x2.ms.l.length = 1
  rw [hms2]; exact ex_arr.2.1, by
  show x2.ms.p.l.length = 0
  rw [hms2]; exact ex_arr.2.2⟩
 have HA4 : Hid (AtM x2 0 1 [x2.park, x2.tab] [x.box]) := Lib.hid ⟨rfl, rfl, by decide, by rw [HT2.out.box, HT1.out.box]; exact List.mem_cons_self⟩
 have hxg : x2.g = x.g := HT2.out.g.trans HT1.out.g
 have HWT := Lib.hid (marksWaits_any HK7.out HA4.out (by rw [HL2.out.2]; decide))
 rw [hxg] at HWT
 clear hms2 hlen hto hu hk HARR HK6 hxg
 go_wp2_with fail
 go_at_call 24
 refine HWT.out.mono ?_
 rintro e w7 ⟨u2, rfl, hu2, hb⟩
 have HK8 := Lib.hid (HK7.out.later hb)
 obtain ⟨A2, c2, hus2, -⟩ := hu2.shape
 rw [HL2.out.2] at hus2
 subst hus2
 have hob : w7.heap[x.g]? = some (.cells (mkO x2.r.g x2.b) 71 (0, 0)) := by
  have h5 := HK8.out.isT HA4.out.hb
  rw [MkI.box, HT2.out.g, HT1.out.g] at h5
  exact h5
 obtain ⟨e0, e1, e2, e3⟩ := mkO_at hob
 have HAL := Lib.hid (all_of x2 HK8.out HA4.out (by rw [HL2.out.1]; decide))
 clear hb hu2 hob HWT HK7
 go_wp2_with fail
 refine HAL.out.mono ?_
 rintro e w8 ⟨u3, rfl, hu3, hb⟩
 have HF := Lib.hid ((HK8.out.later hb).below)
 obtain ⟨A3, c3, hus3, -⟩ := hu3.shape
 rw [HL2.out.1] at hus3
 subst hus3
 clear hb hu3 HAL HK8 e0 e1 e2 e3
 go_wp2_with fail
 go_ret
 exact ⟨rfl, HF.out⟩
end Go.Proofs.YtnnapkakbdpkaaaGreat

namespace Go.Proofs.YtnnapkakbdpkaaaGreat
set_option maxRecDepth 20000
open Go.RowKit
section
variable {C : Dags} {w wr : World} {vs : List VI} {ts ms : List Th} {v : Value} {zs : List EvV} {y : EvV}
theorem Km.evOf (h : Km C w wr vs ms ts) (ht : Th.evs v zs ∈ ts) (hy : y ∈ zs) : Km C w wr vs ms (Th.ev y :: ts) := by
 have hes : EvsS wr v zs := h.isT ht
 have hk := h.kv.with (t := Th.ev y) (hes.2 y hy) (fun k hk j u hu => (h.kv.th _ (List.mem_append_right _ ht)).2 j u hu k (.inr ⟨y, hy, hk⟩))
 refine ⟨hk.less (fun u hu => ?_), h.lo, h.dj, fun m hm u hu k hmk huk => ?_⟩
 ·rcases List.mem_append.1 hu with hu | hu
  ·exact List.mem_cons_of_mem _ (List.mem_append_left _ hu)
  ·rcases List.mem_cons.1 hu with rfl | hu
   ·exact List.mem_cons_self
   ·exact List.mem_cons_of_mem _ (List.mem_append_right _ hu)
 ·rcases List.mem_cons.1 hu with rfl | hu
  ·exact h.dt m hm _ ht k hmk (.inr ⟨y, hy, huk⟩)
  ·exact h.dt m hm u hu k hmk huk
end
theorem Km.keep {C : Dags} {w wr : World} {vs : List VI} {ts ms : List Th} {m : Th} (h : Km C w wr vs (ms ++ [m]) ts) : Km C w wr vs ms (m :: ts) := by
 have hd := h.drop
 refine ⟨h.kv.less (fun u hu => ?_), hd.lo, hd.dj, fun a ha u hu k ka ku => ?_⟩
 ·rcases List.mem_append.1 hu with hu | hu
  ·exact List.mem_append_left _ (List.mem_append_left _ hu)
  ·rcases List.mem_cons.1 hu with rfl | hu
   ·exact List.mem_append_left _ (List.mem_append_right _ List.mem_cons_self)
   ·exact List.mem_append_right _ hu
 ·rcases List.mem_cons.1 hu with rfl | hu
  ·obtain ⟨n, hn⟩ := List.getElem?_of_mem ha
   have hnl := (List.getElem?_eq_some_iff.1 hn).1
   exact h.dj n ms.length a u (by rw [List.getElem?_append_left hnl]; exact hn) (get_last _ _) (by omega) k ka ku
  ·exact hd.dt a ha u hu k ka ku
theorem pkput_len2 (p : Pk) (e : Edu) : (p.put e).l.length ≤ p.l.length + 1 ∧ (p.put e).lost ≤ p.lost + 1 ∧ (p.put e).most = p.most := by
 refine ⟨?_, ?_, Pk.put_most p e⟩
 ·unfold Pk.put
  cases hasP p.l e <;> cases p.over <;> simp
 ·unfold Pk.put
  cases hasP p.l e <;> cases p.over <;> simp
theorem msput_len (s : Ms) (V : Vw) (e : Edu) : (s.put V e).l.length ≤ s.l.length + 1 ∧ (s.put V e).p.l.length ≤ s.p.l.length + 1 ∧ (s.put V e).p.lost ≤ s.p.lost + 1 ∧ (s.put V e).p.most = s.p.most := by
 unfold Ms.put
 have h1 := put_leM s.l (markE V e)
 obtain ⟨h2, h3, h4⟩ := pkput_len2 s.p e
 cases mayR e
 ·simp only [cond_false]
  exact ⟨by omega, by omega, by omega, by trivial⟩
 ·simp only [cond_true]
  split
  ·simp only
   exact ⟨by omega, h2, h3, h4⟩
  ·split
   ·simp only
    exact ⟨by omega, by omega, by omega, by trivial⟩
   ·exact ⟨by omega, by omega, by omega, by trivial⟩
theorem msput_off {s : Ms} {V : Vw} {e : Edu} (h : s.on V e = false) : (s.put V e).l = s.l := by
 unfold Ms.put Ms.on at *
 cases hm : mayR e
 ·rfl
 ·rw [hm, Bool.true_and] at h
  simp only [cond_true]
  split
  ·rfl
  ·split
   ·next hf =>
    rw [decide_eq_true hf, Bool.true_and] at h
    exact putM_off h
   ·rfl
theorem msput_on {s : Ms} {V : Vw} {e : Edu} (hr : RowM s.l) (h : s.on V e = true) : Ms.err V e = 0 ∧ hasE (ofL V e.room) e.event = true ∧ getM (s.put V e).l (keyE e) = some (posV V e.room e.event) ∧ ∀ old, getM s.l (keyE e) = some old → beforeP old (posV V e.room e.event) = true := by
 have h1 := h
 unfold Ms.on at h1
 rw [Bool.and_eq_true, Bool.and_eq_true] at h1
 obtain ⟨hm, hf, ho⟩ := h1
 have hf := of_decide_eq_true hf
 obtain ⟨h2, h3, h4⟩ := Ms.put_in (s := s) hm hf
 refine ⟨h4, ?_, ?_, fun old hg => ?_⟩
 ·cases hc : hasE (ofL V e.room) e.event
  ·rw [fit_known.2 hc] at hf; cases hf
  ·rfl
 ·rw [h2]
  show getM (putM s.l (markE V e)) (keyE e) = _
  rw [get_putM hr, show (markE V e).k = keyE e from rfl, if_pos rfl, if_pos ho]
  rfl
 ·unfold onM at ho
  rw [show (markE V e).k = keyE e from rfl, hg] at ho
  exact ho
theorem msput_row (s : Ms) (V : Vw) (e : Edu) (h : RowM s.l) : RowM (s.put V e).l := by
 unfold Ms.put
 cases mayR e
 ·exact h
 ·simp only [cond_true]
  split
  ·exact h
  ·split
   ·exact row_putM h
   ·exact h
end Go.Proofs.YtnnapkakbdpkaaaGreat

namespace Go.Proofs.YtnnapkakbdpkaaaGreat
open Go.Joins Go.ChangeShapes Go.WideShapes Go.RowKit Go.Deep
section
variable {H : Type} {enc : TypeId × Value → H} {P : Program} {w : World} {base : Nat} {spare : Nat → Bool} {held : Bool}
set_option maxHeartbeats 1600000 in
theorem open_agg11 {r : Reach} {b0 : Nat} {t : TypeId} {f0 f1 f2 f3 f4 f5 f6 f7 f8 f9 f10 : Field} {v : Value} {d : DataW H} {p : List MemPlace} (hs : P.underlying t = some (.struct #[f0, f1, f2, f3, f4, f5, f6, f7, f8, f9, f10])) (hone : oneCellFields P #[f0, f1, f2, f3, f4, f5, f6, f7, f8, f9, f10] = true) (hC : P.cellsOf t = 11)
  (hv : Value.okWide P w r b0 t v) (h : DataW.Trod enc P w base spare held t v d p) :
  ∃ (v0 v1 v2 v3 v4 v5 v6 v7 v8 v9 v10 : Value) (y0 y1 y2 y3 y4 y5 y6 y7 y8 y9 y10 : DataW H × List MemPlace) (n : Nat), v = .agg #[v0, v1, v2, v3, v4, v5, v6, v7, v8, v9, v10] ∧ d = .agg [y0.1, y1.1, y2.1, y3.1, y4.1, y5.1, y6.1, y7.1, y8.1, y9.1, y10.1] ∧ p = y0.2 ++ (y1.2 ++ (y2.2 ++ (y3.2 ++ (y4.2 ++ (y5.2 ++ (y6.2 ++ (y7.2 ++ (y8.2 ++ (y9.2 ++ (y10.2)))))))))) ∧ DataW.trod enc P w base spare held n f0.type [v0] = some y0 ∧ DataW.trod enc P w base spare held n f1.type [v1] = some y1 ∧ DataW.trod enc P w base spare held n f2.type [v2] = some y2 ∧ DataW.trod enc P w base spare held n f3.type [v3] = some y3 ∧ DataW.trod enc P w base spare held n f4.type [v4] = some y4 ∧ DataW.trod enc P w base spare held n f5.type [v5] = some y5 ∧ DataW.trod enc P w base spare held n f6.type [v6] = some y6 ∧ DataW.trod enc P w base spare held n f7.type [v7] = some y7 ∧ DataW.trod enc P w base spare held n f8.type [v8] = some y8 ∧ DataW.trod enc P w base spare held n f9.type [v9] = some y9 ∧ DataW.trod enc P w base spare held n f10.type [v10] = some y10 := by
 obtain ⟨cs, rfl, hsz⟩ := okWide_struct hs hv
 obtain ⟨l⟩ := cs
 match l, hsz.trans hC with
 | [c0, c1, c2, c3, c4, c5, c6, c7, c8, c9, c10], _ =>
  obtain ⟨fuel, hf⟩ := h
  obtain ⟨xs, n, _, hx, _, hlen, hg⟩ := DataW.trod_struct hs hf
  obtain ⟨o0, k0⟩ := hone_of hone 0 f0 rfl
  obtain ⟨o1, k1⟩ := hone_of hone 1 f1 rfl
  obtain ⟨o2, k2⟩ := hone_of hone 2 f2 rfl
  obtain ⟨o3, k3⟩ := hone_of hone 3 f3 rfl
  obtain ⟨o4, k4⟩ := hone_of hone 4 f4 rfl
  obtain ⟨o5, k5⟩ := hone_of hone 5 f5 rfl
  obtain ⟨o6, k6⟩ := hone_of hone 6 f6 rfl
  obtain ⟨o7, k7⟩ := hone_of hone 7 f7 rfl
  obtain ⟨o8, k8⟩ := hone_of hone 8 f8 rfl
  obtain ⟨o9, k9⟩ := hone_of hone 9 f9 rfl
  obtain ⟨o10, k10⟩ := hone_of hone 10 f10 rfl
  match xs, hlen with
  | [y0, y1, y2, y3, y4, y5, y6, y7, y8, y9, y10], _ =>
   simp only [Prod.mk.injEq] at hx
   exact ⟨c0, c1, c2, c3, c4, c5, c6, c7, c8, c9, c10, y0, y1, y2, y3, y4, y5, y6, y7, y8, y9, y10, n, rfl, by simpa using hx.1, by simpa using hx.2, by simpa [Value.cells, o0, k0] using hg 0 f0 rfl, by simpa [Value.cells, o1, k1] using hg 1 f1 rfl, by simpa [Value.cells, o2, k2] using hg 2 f2 rfl, by simpa [Value.cells, o3, k3] using hg 3 f3 rfl, by simpa [Value.cells, o4, k4] using hg 4 f4 rfl, by simpa [Value.cells, o5, k5] using hg 5 f5 rfl, by simpa [Value.cells, o6, k6] using hg 6 f6 rfl, by simpa [Value.cells, o7, k7] using hg 7 f7 rfl, by simpa [Value.cells, o8, k8] using hg 8 f8 rfl, by simpa [Value.cells, o9, k9] using hg 9 f9 rfl, by simpa [Value.cells, o10, k10] using hg 10 f10 rfl⟩
theorem open_edu {r : Reach} {b0 : Nat} {t : TypeId} {f0 f1 f2 f3 f4 f5 f6 f7 f8 f9 f10 : Field} {v : Value} {d : DataW H} {p : List MemPlace} (hs : P.underlying t = some (.struct #[f0, f1, f2, f3, f4, f5, f6, f7, f8, f9, f10])) (hone : oneCellFields P #[f0, f1, f2, f3, f4, f5, f6, f7, f8, f9, f10] = true) (hC : P.cellsOf t = 11)
  (u0 : P.underlying f0.type = some (.int .i64)) (u1 : P.underlying f1.type = some .string) (u2 : P.underlying f2.type = some .string) (u3 : P.underlying f3.type = some .string) (u4 : P.underlying f4.type = some .string) (u5 : P.underlying f5.type = some .bool) (u6 : P.underlying f6.type = some .bool) (u7 : P.underlying f7.type = some (.int .i64)) (u8 : P.underlying f8.type = some (.int .i64)) (u9 : P.underlying f9.type = some (.int .i64)) (u10 : P.underlying f10.type = some (.int .i64))
  (hv : Value.okWide P w r b0 t v) (h : DataW.Trod enc P w base spare held t v d p) :
  ∃ e : Edu, v = e.val ∧ e.fits ∧ e.room.size ≤ maxLen ∧ e.user.size ≤ maxLen ∧ e.event.size ≤ maxLen ∧ e.thread.size ≤ maxLen ∧ p = [] := by
 obtain ⟨v0, v1, v2, v3, v4, v5, v6, v7, v8, v9, v10, y0, y1, y2, y3, y4, y5, y6, y7, y8, y9, y10, n, rfl, _, rfl, t0, t1, t2, t3, t4, t5, t6, t7, t8, t9, t10⟩ := open_agg11 hs hone hC hv h
 obtain ⟨x0, e0, rfl, w0⟩ := DataW.trod_int u0 t0
 obtain ⟨x1, e1, rfl, w1⟩ := DataW.trod_string u1 t1
 obtain ⟨x2, e2, rfl, w2⟩ := DataW.trod_string u2 t2
 obtain ⟨x3, e3, rfl, w3⟩ := DataW.trod_string u3 t3
 obtain ⟨x4, e4, rfl, w4⟩ := DataW.trod_string u4 t4
 obtain ⟨x5, e5, rfl⟩ := DataW.trod_bool u5 t5
 obtain ⟨x6, e6, rfl⟩ := DataW.trod_bool u6 t6
 obtain ⟨x7, e7, rfl, w7⟩ := DataW.trod_int u7 t7
 obtain ⟨x8, e8, rfl, w8⟩ := DataW.trod_int u8 t8
 obtain ⟨x9, e9, rfl, w9⟩ := DataW.trod_int u9 t9
 obtain ⟨x10, e10, rfl, w10⟩ := DataW.trod_int u10 t10
 simp only [List.cons.injEq, and_true] at e0 e1 e2 e3 e4 e5 e6 e7 e8 e9 e10
 subst e0 e1 e2 e3 e4 e5 e6 e7 e8 e9 e10
 exact ⟨⟨x0, x1, x2, x3, x4, x5, x6, x7, x8, x9, x10⟩, rfl, ⟨bounds_i64 w0, bounds_i64 w7, bounds_i64 w8, bounds_i64 w9, bounds_i64 w10⟩, w1, w2, w3, w4, rfl⟩
end
end Go.Proofs.YtnnapkakbdpkaaaGreat
