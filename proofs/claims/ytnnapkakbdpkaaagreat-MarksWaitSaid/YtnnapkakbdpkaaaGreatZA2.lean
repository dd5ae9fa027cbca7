/-
  What the statements stand on, part ZA2.
-/
import Derived.Test.YtnnapkakbdpkaaaGreatZA1
set_option linter.unusedVariables false
set_option linter.unusedSimpArgs false
namespace Go.Proofs.YtnnapkakbdpkaaaGreat
section
variable {P : Program} {ops : Array Oper} {Q : Exit → Act → World → Prop} {md : Region.Mode}
theorem anyH_narrow {S S' : World → Prop} (hS : ∀ w, S' w → S w) : ∀ (fuel : Nat) (listed : Array Bool) (a : Act) (w : World), wpAnyH P md ops Q S' fuel listed a w → wpAnyH P md ops Q S fuel listed a w
 | 0, _, _, _, h => h
 | fuel + 1, _, _, _, h => ⟨h.1, fun i hi => wpOp_mono (fun a' w' h' => ⟨hS _ h'.1, anyH_narrow hS fuel _ a' w' h'.2⟩) (h.2 i hi)⟩
variable {S : World → Prop}
def Asks (P : Program) (ops : Array Oper) (S : World → Prop) (o : Oper) (v : Value) (a : Act) : Prop :=
 Region.wanted o (yielded ops a.tmps) = true ∧ ∀ w, S w → ∃ f args, (execOp a.eval o).run P w = .ok (.enter f args) w ∧ Calls P f args w fun e w' => e = .returned v ∧ w = w'
theorem Asks.here {i : Nat} {o : Oper} {v : Value} {a : Act} (hi : ops[i]? = some o) (hy : Asks P ops S o v a) {K : Act → World → Prop} {w : World} (hS : S w) (h : K (a.put o.dst v) w) : wpOp P ops Q i K a w := by
 unfold wpOp
 simp only [hi]
 rw [if_pos hy.1]
 obtain ⟨f, args, hr, hc⟩ := hy.2 w hS
 left
 unfold Oper.wp
 rw [hr, Oper.upon_enter]
 exact hc.mono fun e w' ⟨he, hw⟩ => by subst he; subst hw; exact h
theorem Asks.stays {oi : Oper} {v : Value} {a b : Act} (hy : Asks P ops S oi v a) (he : execOp b.eval oi = execOp a.eval oi)
  (hw : Region.wanted oi (yielded ops b.tmps) = Region.wanted oi (yielded ops a.tmps)) : Asks P ops S oi v b := by
 unfold Asks at *
 rw [he, hw]
 exact hy
theorem Asks.past {j : Nat} {oi oj : Oper} {v : Value} (hj : ops[j]? = some oj) (hap : oi.apart ops oj = true)
  (hsi : ∀ cs b, oi.op ≠ .select cs b) (hsj : ∀ cs b, oj.op ≠ .select cs b)
  (hQ : ∀ c a w, Q (.panic c) (a.put oi.dst v) w → Q (.panic c) a w) {K : Act → World → Prop} {a : Act} {w : World}
  (hy : Asks P ops S oi v a) (h : wpOp P ops Q j K (a.put oi.dst v) w) :
  wpOp P ops Q j (fun b w' => Asks P ops S oi v b ∧ K (b.put oi.dst v) w') a w := by
 obtain ⟨n1, n2, n3⟩ := Oper.apart_spec hap
 have stay : ∀ (b : Act) (u : Value), Asks P ops S oi v b → Asks P ops S oi v (b.put oj.dst u) := fun b u hb =>
  hb.stays (execOp_put oi hsi b oj.dst u n3) (wanted_put oi b oj.dst u n3)
 have turn : ∀ (b : Act) (u : Value) (w' : World), K ((b.put oi.dst v).put oj.dst u) w' → K ((b.put oj.dst u).put oi.dst v) w' := fun b u w' hk => by
  rw [← Act.put_comm b v u n2]; exact hk
 unfold wpOp at h ⊢
 simp only [hj] at h ⊢
 rw [wanted_put oj a oi.dst v n1] at h
 by_cases hw : Region.wanted oj (yielded ops a.tmps) = true
 ·rw [if_pos hw] at h ⊢
  have same := execOp_put oj hsj a oi.dst v n1
  rcases h with h | ⟨h, out⟩
  ·left
   unfold Oper.wp at h ⊢
   rw [same] at h
   revert h
   cases (execOp a.eval oj).run P w with
   | halt x w' => intro h; cases x <;> simp only [Oper.upon] at h ⊢; exact hQ _ _ _ h
   | ok n w' =>
    intro h
    cases n <;> simp only [Oper.upon] at h ⊢
    case value u => exact ⟨stay a u hy, turn a u _ h⟩
    case skip => exact ⟨stay a _ hy, turn a _ _ h⟩
    case defer d =>
     refine ⟨stay _ _ (hy.stays rfl rfl), turn _ _ _ ?_⟩
     rw [← Act.put_defers]
     exact h
    case enter f args =>
     refine h.mono fun e w'' he => ?_
     cases e with
     | returned u => exact ⟨stay a u hy, turn a u _ he⟩
     | panicked c => exact hQ _ _ _ he
     | outgrown => exact he
    case row r args => exact Rows.mono h fun u w'' he => ⟨stay a u hy, turn a u _ he⟩
  ·right
   refine ⟨?_, out⟩
   unfold Oper.asks at h ⊢
   rw [same] at h
   exact h
 ·rw [if_neg hw] at h ⊢
  exact ⟨stay a _ hy, turn a _ _ h⟩
theorem anyH_asks_first {i : Nat} {oi : Oper} {v : Value} (hi : ops[i]? = some oi) (hsel : ∀ (j : Nat) (o : Oper) cs b, ops[j]? = some o → o.op ≠ .select cs b)
  (hQ : ∀ c a w, Q (.panic c) (a.put oi.dst v) w → Q (.panic c) a w) :
  ∀ (fuel : Nat) (listed : Array Bool) (a : Act) (w : World),
   (∀ j oj, ops[j]? = some oj → j ≠ i → listed.getD j true = false → (∀ e ∈ oj.after, Region.binds md e = true → e.on ≠ i) → oi.apart ops oj = true) →
   i ∈ Region.ready md ops listed → Asks P ops S oi v a → S w →
   wpAnyH P md ops Q S fuel (listed.setIfInBounds i true) (a.put oi.dst v) w → wpAnyH P md ops Q S (fuel + 1) listed a w := by
 intro fuel
 induction fuel with
 | zero =>
  intro listed a w _ hr hy hS H
  refine ⟨fun h => (by rw [h] at hr; cases hr), fun j hj => ?_⟩
  by_cases e : j = i
  ·subst e; exact hy.here hi hS ⟨hS, H⟩
  ·have hn := ready_mono hj e
   rw [H.1] at hn
   cases hn
 | succ fuel ih =>
  intro listed a w hfree hr hy hS H
  refine ⟨fun h => (by rw [h] at hr; cases hr), fun j hj => ?_⟩
  by_cases e : j = i
  ·subst e; exact hy.here hi hS ⟨hS, H⟩
  ·obtain ⟨hun, oj, hoj, hall⟩ := mem_ready.1 hj
   have hno : ∀ x ∈ oj.after, Region.binds md x = true → x.on ≠ i := fun x hx hb he => by
    have g1 := hall x hx hb
    have g0 := (mem_ready.1 hr).1
    rw [he] at g1
    rcases Nat.lt_or_ge i listed.size with hlt | hge
    ·simp [hlt] at g0 g1; rw [g0] at g1; cases g1
    ·simp [Array.getElem?_eq_none hge] at g1
   refine wpOp_mono (fun b w' hb => ⟨hb.2.1, ih (listed.setIfInBounds j true) b w' ?_ (ready_mono hr (Ne.symm e)) hb.1 hb.2.1 ?_⟩)
    (Asks.past hoj (hfree j oj hoj e hun hno) (fun cs b => hsel i oi cs b hi) (fun cs b => hsel j oj cs b hoj) hQ hy (H.2 j (ready_mono hj e)))
   ·intro k ok hk hki hku hkn
    refine hfree k ok hk hki ?_ hkn
    by_cases hjk : j = k
    ·subst hjk; exact hun
    ·rw [getD_set_ne true hjk] at hku; exact hku
   ·rw [Array.setIfInBounds_comm _ _ e]
    exact hb.2.2
theorem anyH_asks {i : Nat} {oi : Oper} {v : Value} {fuel : Nat} {listed : Array Bool} {a : Act} {w : World} (hi : ops[i]? = some oi)
  (hs : Region.noSelect ops = true) (hf : Region.free md ops listed i = true) (hr : (Region.ready md ops listed).contains i = true)
  (hQ : ∀ c a w, Q (.panic c) (a.put oi.dst v) w → Q (.panic c) a w) (hy : Asks P ops S oi v a) (hS : S w)
  (h : wpAnyH P md ops Q S fuel (listed.setIfInBounds i true) (a.put oi.dst v) w) : wpAnyH P md ops Q S (fuel + 1) listed a w :=
 anyH_asks_first hi (Region.noSelect_spec hs) hQ fuel listed a w (Region.free_spec hi hf) (by simpa using hr) hy hS h
end
end Go.Proofs.YtnnapkakbdpkaaaGreat
namespace Go.Proofs.YtnnapkakbdpkaaaGreat
open Go.RowKit
set_option maxRecDepth 4000
theorem below_new (w : World) (o : Obj) : Below w.heap.size w (w.alloc o) := (Below.refl _ w).alloc (Nat.le_refl _) o
theorem cell_at {w : World} {g : Nat} {cs : Array Value} {t : TypeId} (h : w.heap[g]? = some (.cells cs t (0, 0))) (i : Nat) : w.cell? ⟨g, i, none⟩ = cs[i]? := cell_of_row w g i cs t (0, 0) h
theorem free_at {w : World} {g : Nat} {cs : Array Value} {t : TypeId} (h : w.heap[g]? = some (.cells cs t (0, 0))) (i : Nat) : w.frozen? ⟨g, i, none⟩ = false := by simp [World.frozen?, h]
theorem heap_set {w : World} {g : Nat} {cs : Array Value} {t : TypeId} (h : w.heap[g]? = some (.cells cs t (0, 0))) (i : Nat) (u : Value) : (w.setCell ⟨g, i, none⟩ u).heap[g]? = some (.cells (cs.setIfInBounds i u) t (0, 0)) := by
 simp [World.setCell, Array.getElem?_modify, h]
theorem own_new (w : World) (bs : List UInt8) (cur : Array Value) (n : Nat) (hn : bs.length = n) (h : cur.toList = bVs bs) (hm : n ≤ 1000) (B : Nat) (hB : B = w.heap.size) : Own (w.alloc (.cells cur 5)) B n bs := by
 subst hB hn
 refine ⟨cur, heap_alloc_new w _, Nat.le_refl _, by unfold maxLen; omega, ?_, ?_⟩
 ·rw [← Array.length_toList, h, bVs_len]
 ·rw [h, List.take_of_length_le (by rw [bVs_len]; exact Nat.le_refl _)]
def serverK (k : Nat) : ByteArray := strOf [115, UInt8.ofNat (49 + k)]
def userK (k : Nat) : ByteArray := strOf [64, UInt8.ofNat (97 + k / 3), 58, 115, UInt8.ofNat (49 + k % 3)]
def roomK (k : Nat) : ByteArray := if k = 0 then strOf [33, 114, 58, 115, 49] else strOf [33, 113, 58, 115, 50]
def eventK (k : Nat) : ByteArray := strOf [36, 101, UInt8.ofNat (48 + k)]
def threadK (k : Nat) : ByteArray := if k = 9 then strOf [] else if k = 10 then strOf [109, 97, 105, 110] else eventK k
def aroundN (n m : Int) : Nat := (aroundI n m).toNat
theorem aroundN_lt (n : Int) {m : Nat} (h : 0 < m) : aroundN n (m : Int) < m := by
 have := aroundI_bd n (m : Int) (by omega)
 unfold aroundN
 omega
theorem aroundN_cast (n : Int) {m : Int} (h : 0 < m) : ((aroundN n m : Nat) : Int) = aroundI n m := by
 have := aroundI_bd n m h
 unfold aroundN
 omega
def userS (n : Int) : ByteArray := userK (aroundN n 9)
def roomS (n : Int) : ByteArray := roomK (aroundN n 2)
def eventS (n : Int) : ByteArray := eventK (aroundN n 9)
def threadS (n : Int) : ByteArray := threadK (aroundN n 11)
theorem userK_user : ∀ k : Fin 9, namedB 64 (userK k.val) = true := by decide +kernel
theorem roomK_room : ∀ k : Fin 2, namedB 33 (roomK k.val) = true := by decide +kernel
theorem eventK_event : ∀ k : Fin 9, eventB (eventK k.val) = true := by decide +kernel
theorem userS_user (n : Int) : namedB 64 (userS n) = true := userK_user ⟨aroundN n 9, aroundN_lt n (m := 9) (by decide)⟩
theorem roomS_room (n : Int) : namedB 33 (roomS n) = true := roomK_room ⟨aroundN n 2, aroundN_lt n (m := 2) (by decide)⟩
theorem add_any (p q : ByteArray) (hp : p.size ≤ 10000) (hq : q.size ≤ 10000) (w : World) : (Op.stringOp .add p q).run Tryz.prog w = .ok (.string (p ++ q)) w := run_string_add_sum w p q (by omega)
end Go.Proofs.YtnnapkakbdpkaaaGreat
namespace Go.Proofs.YtnnapkakbdpkaaaGreat
open Go.RowKit
set_option maxRecDepth 4000
def serverS (n : Int) : ByteArray := serverK (aroundN n 3)
theorem around_nat (n : Int) {m : Nat} (h : 0 < m) : aroundI n (m : Int) = ((aroundN n (m : Int) : Nat) : Int) := (aroundN_cast n (by omega)).symm
theorem serverK_cell {k : Nat} (h : k < 3) : (#[.string ⟨#[115, 49]⟩, .string ⟨#[115, 50]⟩, .string ⟨#[115, 51]⟩] : Array Value)[k]? = some (.string (serverK k)) := by
 rcases (show k = 0 ∨ k = 1 ∨ k = 2 by omega) with rfl | rfl | rfl <;> rfl
theorem roomK_cell {k : Nat} (h : k < 2) : (#[.string ⟨#[33, 114, 58, 115, 49]⟩, .string ⟨#[33, 113, 58, 115, 50]⟩] : Array Value)[k]? = some (.string (roomK k)) := by
 rcases (show k = 0 ∨ k = 1 by omega) with rfl | rfl <;> rfl
def partK (k : Nat) : ByteArray := strOf [64, UInt8.ofNat (97 + k), 58]
theorem partK_cell {k : Nat} (h : k < 3) : (#[.string ⟨#[64, 97, 58]⟩, .string ⟨#[64, 98, 58]⟩, .string ⟨#[64, 99, 58]⟩] : Array Value)[k]? = some (.string (partK k)) := by
 rcases (show k = 0 ∨ k = 1 ∨ k = 2 by omega) with rfl | rfl | rfl <;> rfl
set_option maxHeartbeats 800000 in
theorem serverOf_any (n : Int) (w : World) (h0 : -9223372036854775808 ≤ n) (h1 : n ≤ 9223372036854775807) :
  Calls Tryz.prog 86 #[.int .i64 n] w fun e w' => e = .returned (.string (serverS n)) ∧ Below w.heap.size w w' := by
 have hk := aroundN_lt n (m := 3) (by decide)
 have ha := around_nat n (m := 3) (by decide)
 have hc := serverK_cell hk
 unfold serverS
 simp only [Int.cast_ofNat_Int] at hk ha hc
 generalize aroundN n 3 = k at *
 go_enter Tryz.func86, Tryz.ntmps86
 go_wp2_with fail
 have hb := Lib.hid (below_new w (.cells #[.string ⟨#[115, 49]⟩, .string ⟨#[115, 50]⟩, .string ⟨#[115, 51]⟩] 9))
 have hh := (cell_at (heap_alloc_new w (.cells #[.string ⟨#[115, 49]⟩, .string ⟨#[115, 50]⟩, .string ⟨#[115, 51]⟩] 9)) k).trans hc
 generalize hW : (w.alloc (.cells #[.string ⟨#[115, 49]⟩, .string ⟨#[115, 50]⟩, .string ⟨#[115, 51]⟩] 9)) = W at *
 clear hW hc
 refine (around_any n 3 _ h0 h1 (by decide) (by decide)).mono ?_
 rintro e wx ⟨rfl, rfl⟩
 rw [ha]
 have hk2 : (k : Int) < 3 := by omega
 go_wp2_with fail
 go_ret
 exact ⟨rfl, hb.out⟩
set_option maxHeartbeats 800000 in
theorem roomOf_any (n : Int) (w : World) (h0 : -9223372036854775808 ≤ n) (h1 : n ≤ 9223372036854775807) :
  Calls Tryz.prog 32 #[.int .i64 n] w fun e w' => e = .returned (.string (roomS n)) ∧ Below w.heap.size w w' := by
 have hk := aroundN_lt n (m := 2) (by decide)
 have ha := around_nat n (m := 2) (by decide)
 have hc := roomK_cell hk
 unfold roomS
 simp only [Int.cast_ofNat_Int] at hk ha hc
 generalize aroundN n 2 = k at *
 go_enter Tryz.func32, Tryz.ntmps32
 go_wp2_with fail
 have hb := Lib.hid (below_new w (.cells #[.string ⟨#[33, 114, 58, 115, 49]⟩, .string ⟨#[33, 113, 58, 115, 50]⟩] 9))
 have hh := (cell_at (heap_alloc_new w (.cells #[.string ⟨#[33, 114, 58, 115, 49]⟩, .string ⟨#[33, 113, 58, 115, 50]⟩] 9)) k).trans hc
 generalize hW : (w.alloc (.cells #[.string ⟨#[33, 114, 58, 115, 49]⟩, .string ⟨#[33, 113, 58, 115, 50]⟩] 9)) = W at *
 clear hW hc
 refine (around_any n 2 _ h0 h1 (by decide) (by decide)).mono ?_
 rintro e wx ⟨rfl, rfl⟩
 rw [ha]
 have hk2 : (k : Int) < 2 := by omega
 go_wp2_with fail
 go_ret
 exact ⟨rfl, hb.out⟩
theorem around_self : ∀ j : Fin 3, aroundN ((j.val : Nat) : Int) 3 = j.val := by decide +kernel
theorem around_self9 : ∀ j : Fin 9, aroundN ((j.val : Nat) : Int) 9 = j.val := by decide +kernel
theorem user_parts : ∀ k : Fin 9, partK (k.val / 3) ++ serverK (k.val % 3) = userK k.val := by decide +kernel
theorem partK_size (k : Nat) : (partK k).size = 3 := rfl
theorem serverK_size (k : Nat) : (serverK k).size = 2 := rfl
set_option maxHeartbeats 3200000 in
theorem userOf_any (n : Int) (w : World) (h0 : -9223372036854775808 ≤ n) (h1 : n ≤ 9223372036854775807) :
  Calls Tryz.prog 58 #[.int .i64 n] w fun e w' => e = .returned (.string (userS n)) ∧ Below w.heap.size w w' := by
 have hk := aroundN_lt n (m := 9) (by decide)
 have ha := around_nat n (m := 9) (by decide)
 unfold userS
 simp only [Int.cast_ofNat_Int] at hk ha
 generalize aroundN n 9 = k at *
 have HU := Lib.hid (user_parts ⟨k, hk⟩)
 have hc := partK_cell (show k / 3 < 3 by omega)
 have HS := Lib.hid (fun w => serverOf_any ((k % 3 : Nat) : Int) w (by omega) (by omega))
 unfold serverS at HS
 rw [show aroundN ((k % 3 : Nat) : Int) 3 = k % 3 from around_self ⟨k % 3, by omega⟩] at HS
 have HD := Lib.hid (add_any (partK (k / 3)) (serverK (k % 3)) (by rw [partK_size]; omega) (by rw [serverK_size]; omega))
 rw [show partK (k / 3) ++ serverK (k % 3) = userK k from HU.out] at HD
 clear HU
 have hm3 : ((k : Int)).tmod 3 = ((k % 3 : Nat) : Int) := by rw [Int.tmod_eq_emod_of_nonneg (by omega)]; omega
 have hd3 : ((k : Int)).tdiv 3 = ((k / 3 : Nat) : Int) := by rw [Int.tdiv_eq_ediv_of_nonneg (by omega)]; omega
 have hk3 : k / 3 < 3 := by omega
 generalize userK k = uk at *
 generalize serverK (k % 3) = sk at *
 generalize partK (k / 3) = pk at *
 go_enter Tryz.func58, Tryz.ntmps58
 go_wp2_with fail
 refine (around_any n 9 _ h0 h1 (by decide) (by decide)).mono ?_
 rintro e wx ⟨rfl, rfl⟩
 rw [ha]
 go_upto_region 2 with (fail)
 refine wp_region_held_drew (S := fun w' => Below w.heap.size w w') (by kernel_rfl) (Below.drew (Below.refl _ _)) (fun hHeld => ?_)
 generalize hwd : w.drew = wd at hHeld ⊢
 clear hwd
 refine wpAnyH_take (i := 1) (oi := ⟨some 7, _, _, _, _, _⟩) (v := ?v1) rfl (by kernel_rfl) (by kernel_rfl) (by kernel_rfl) (fun _ _ _ h => h) (Or.inl ⟨by rfl, ?y1⟩) hHeld ?r1
 case y1 =>
  intro wx hSx
  go_simp
  try with_reducible rfl
 try simp only [actS]
 refine wpAnyH_take (i := 2) (oi := ⟨some 8, _, _, _, _, _⟩) (v := ?v2) rfl (by kernel_rfl) (by kernel_rfl) (by kernel_rfl) (fun _ _ _ h => h) (Or.inl ⟨by rfl, ?y2⟩) hHeld ?r2
 case y2 =>
  intro wx hSx
  go_simp
  first | done | (rw [hd3]; rfl) | rfl
 try simp only [actS]
 refine wpAnyH_take (i := 5) (oi := ⟨some 11, _, _, _, _, _⟩) (v := ?v5) rfl (by kernel_rfl) (by kernel_rfl) (by kernel_rfl) (fun _ _ _ h => h) (Or.inl ⟨by rfl, ?y5⟩) hHeld ?r5
 case y5 =>
  intro wx hSx
  go_simp
  try with_reducible rfl
 try simp only [actS]
 refine wpAnyH_take (i := 6) (oi := ⟨some 12, _, _, _, _, _⟩) (v := ?v6) rfl (by kernel_rfl) (by kernel_rfl) (by kernel_rfl) (fun _ _ _ h => h) (Or.inl ⟨by rfl, ?y6⟩) hHeld ?r6
 case y6 =>
  intro wx hSx
  go_simp
  first | done | (rw [hm3]; rfl) | rfl
 try simp only [actS]
 rw [IntWalk.i64_in ((k : Int) / 3) (by omega), show ((k : Int) / 3) = ((k / 3 : Nat) : Int) by omega, show ((k : Int) % 3) = ((k % 3 : Nat) : Int) by omega]
 clear hm3 hd3
 generalize hq : k / 3 = q at *
 generalize hj : k % 3 = j at *
 clear hq hj
 have hk4 : ((q : Nat) : Int) < 3 := by omega
 refine wpAnyH_ready (rs := [0, 7]) (by kernel_rfl) (by simp) ?_
 refine AllReadyH.cons (o := ⟨some 6, _, _, _, _, _⟩) rfl (fun K hK => ?wayA) (AllReadyH.cons (o := ⟨some 13, _, _, _, _, _⟩) rfl (fun K hK => ?wayB) AllReadyH.nil)
 case wayA =>
  have hnew := heap_alloc_new wd (.cells #[.string ⟨#[64, 97, 58]⟩, .string ⟨#[64, 98, 58]⟩, .string ⟨#[64, 99, 58]⟩] 9)
  have hH := later hHeld (below_new wd (.cells #[.string ⟨#[64, 97, 58]⟩, .string ⟨#[64, 98, 58]⟩, .string ⟨#[64, 99, 58]⟩] 9))
  go_simp
  refine hK.out _ _ hH (fun _ => ?_)
  clear hK K hHeld
  try simp only [actS]
  generalize hW3 : World.alloc _ _ = W3 at hnew hH ⊢
  clear hW3
  generalize hgg : wd.heap.size = g at hnew ⊢
  clear hgg
  refine anyH_narrow (S' := fun w' => Below w.heap.size w w' ∧ w'.heap[g]? = some (.cells #[.string ⟨#[64, 97, 58]⟩, .string ⟨#[64, 98, 58]⟩, .string ⟨#[64, 99, 58]⟩] 9 (0, 0))) (fun _ h => h.1) _ _ _ _ ?_
  have hHeld : Below w.heap.size w W3 ∧ W3.heap[g]? = _ := ⟨hH, hnew⟩
  clear hH hnew
  refine wpAnyH_take (i := 3) (oi := ⟨some 9, _, _, _, _, _⟩) (v := ?vA3) rfl (by kernel_rfl) (by kernel_rfl) (by kernel_rfl) (fun _ _ _ h => h) (Or.inl ⟨by rfl, ?yA3⟩) hHeld ?rA3
  case yA3 =>
   intro wx hSx
   go_simp
   try with_reducible rfl
  try simp only [actS]
  refine wpAnyH_take (i := 4) (oi := ⟨some 10, _, _, _, _, _⟩) (v := ?vA4) rfl (by kernel_rfl) (by kernel_rfl) (by kernel_rfl) (fun _ _ _ h => h) (Or.inl ⟨by rfl, ?yA4⟩) hHeld ?rA4
  case yA4 =>
   intro wx hSx
   have hcc := (cell_at hSx.2 q).trans hc
   go_simp
   try with_reducible rfl
  try simp only [actS]
  refine wpAnyH_ready (rs := [7]) (by kernel_rfl) (by simp) ?_
  refine AllReadyH.cons (o := ⟨some 13, _, _, _, _, _⟩) rfl (fun K hK => ?_) AllReadyH.nil
  go_simp
  refine (HS.out _).mono ?_
  rintro e wn ⟨rfl, hbn⟩
  have hH : Below w.heap.size w wn ∧ wn.heap[g]? = _ := ⟨later hHeld.1 hbn, (hbn.block _ (heap_lt hHeld.2)).trans hHeld.2⟩
  refine hK.out _ _ hH (fun _ => ?_)
  replace hHeld := hH
  clear hK K hbn hH
  try simp only [actS]
  refine wpAnyH_take (i := 8) (oi := ⟨some 14, _, _, _, _, _⟩) (v := ?vA8) rfl (by kernel_rfl) (by kernel_rfl) (by kernel_rfl) (fun _ _ _ h => h) (Or.inl ⟨by rfl, ?yA8⟩) hHeld ?rA8
  case yA8 =>
   intro wx hSx
   have had := HD.out
   go_simp
   try with_reducible rfl
  try simp only [actS]
  refine wpAnyH_take (i := 9) (oi := ⟨some 2, _, _, _, _, _⟩) (v := ?vA9) rfl (by kernel_rfl) (by kernel_rfl) (by kernel_rfl) (fun _ _ _ h => h) (Or.inl ⟨by rfl, ?yA9⟩) hHeld ?rA9
  case yA9 =>
   intro wx hSx
   go_simp
   try with_reducible rfl
  try simp only [actS]
  refine wpAnyH_done (by kernel_rfl) ?_ _
  have HB := Lib.hid hHeld.1
  clear hHeld
  go_wp2_with fail
  go_ret
  exact ⟨rfl, HB.out⟩
 case wayB =>
  go_simp
  refine (HS.out _).mono ?_
  rintro e wn ⟨rfl, hbn⟩
  replace hHeld := later hHeld hbn
  refine hK.out _ _ hHeld (fun _ => ?_)
  clear hK K hbn
  try simp only [actS]
  refine wpAnyH_ready (rs := [0]) (by kernel_rfl) (by simp) ?_
  refine AllReadyH.cons (o := ⟨some 6, _, _, _, _, _⟩) rfl (fun K hK => ?_) AllReadyH.nil
  have hnew := heap_alloc_new wn (.cells #[.string ⟨#[64, 97, 58]⟩, .string ⟨#[64, 98, 58]⟩, .string ⟨#[64, 99, 58]⟩] 9)
  have hH := later hHeld (below_new wn (.cells #[.string ⟨#[64, 97, 58]⟩, .string ⟨#[64, 98, 58]⟩, .string ⟨#[64, 99, 58]⟩] 9))
  go_simp
  refine hK.out _ _ hH (fun _ => ?_)
  clear hK K hHeld
  try simp only [actS]
  generalize hW3 : World.alloc _ _ = W3 at hnew hH ⊢
  clear hW3
  generalize hgg : wn.heap.size = g at hnew ⊢
  clear hgg
  refine anyH_narrow (S' := fun w' => Below w.heap.size w w' ∧ w'.heap[g]? = some (.cells #[.string ⟨#[64, 97, 58]⟩, .string ⟨#[64, 98, 58]⟩, .string ⟨#[64, 99, 58]⟩] 9 (0, 0))) (fun _ h => h.1) _ _ _ _ ?_
  have hHeld : Below w.heap.size w W3 ∧ W3.heap[g]? = _ := ⟨hH, hnew⟩
  clear hH hnew
  refine wpAnyH_take (i := 3) (oi := ⟨some 9, _, _, _, _, _⟩) (v := ?vB3) rfl (by kernel_rfl) (by kernel_rfl) (by kernel_rfl) (fun _ _ _ h => h) (Or.inl ⟨by rfl, ?yB3⟩) hHeld ?rB3
  case yB3 =>
   intro wx hSx
   go_simp
   try with_reducible rfl
  try simp only [actS]
  refine wpAnyH_take (i := 4) (oi := ⟨some 10, _, _, _, _, _⟩) (v := ?vB4) rfl (by kernel_rfl) (by kernel_rfl) (by kernel_rfl) (fun _ _ _ h => h) (Or.inl ⟨by rfl, ?yB4⟩) hHeld ?rB4
  case yB4 =>
   intro wx hSx
   have hcc := (cell_at hSx.2 q).trans hc
   go_simp
   try with_reducible rfl
  try simp only [actS]
  refine wpAnyH_take (i := 8) (oi := ⟨some 14, _, _, _, _, _⟩) (v := ?vB8) rfl (by kernel_rfl) (by kernel_rfl) (by kernel_rfl) (fun _ _ _ h => h) (Or.inl ⟨by rfl, ?yB8⟩) hHeld ?rB8
  case yB8 =>
   intro wx hSx
   have had := HD.out
   go_simp
   try with_reducible rfl
  try simp only [actS]
  refine wpAnyH_take (i := 9) (oi := ⟨some 2, _, _, _, _, _⟩) (v := ?vB9) rfl (by kernel_rfl) (by kernel_rfl) (by kernel_rfl) (fun _ _ _ h => h) (Or.inl ⟨by rfl, ?yB9⟩) hHeld ?rB9
  case yB9 =>
   intro wx hSx
   go_simp
   try with_reducible rfl
  try simp only [actS]
  refine wpAnyH_done (by kernel_rfl) ?_ _
  have HB := Lib.hid hHeld.1
  clear hHeld
  go_wp2_with fail
  go_ret
  exact ⟨rfl, HB.out⟩
theorem dec_conv (w : World) (k : Nat) (hk : k < 10) (c : Int) (hc : c = 48 + (k : Int)) : (convert 171 9 (.slice (some ⟨w.heap.size, 0, none⟩) 1 1)).run Tryz.prog (w.alloc (.cells #[.int .u8 c] 5)) = .ok (.string (strOf [UInt8.ofNat (48 + k)])) (w.alloc (.cells #[.int .u8 c] 5)) := by
 refine conv_row (lo := 0) ((own_new w [UInt8.ofNat (48 + k)] #[.int .u8 c] 1 rfl ?_ (by decide) _ rfl).row (Nat.zero_le _))
 subst hc
 simp [bVs, bV]
 omega
set_option maxHeartbeats 3200000 in
theorem decimal_any (k : Nat) (w : World) (hk : k < 10) :
  Calls Tryz.prog 63 #[.int .i64 (k : Int)] w fun e w' => e = .returned (.string (strOf [UInt8.ofNat (48 + k)])) ∧ Below w.heap.size w w' := by
 have hb := Lib.hid (fun c => below_new w (.cells #[.int .u8 c] 5))
 rcases (show k = 0 ∨ k = 1 ∨ k = 2 ∨ k = 3 ∨ k = 4 ∨ k = 5 ∨ k = 6 ∨ k = 7 ∨ k = 8 ∨ k = 9 by omega) with rfl | rfl | rfl | rfl | rfl | rfl | rfl | rfl | rfl | rfl
 ·have hc := dec_conv w 0 (by decide) 48 (by decide)
  go_enter Tryz.func63, Tryz.ntmps63
  go_wp2_with fail
  go_ret
  exact ⟨rfl, hb.out _⟩
 ·have hc := dec_conv w 1 (by decide) 49 (by decide)
  go_enter Tryz.func63, Tryz.ntmps63
  go_wp2_with fail
  go_ret
  exact ⟨rfl, hb.out _⟩
 ·have hc := dec_conv w 2 (by decide) 50 (by decide)
  go_enter Tryz.func63, Tryz.ntmps63
  go_wp2_with fail
  go_ret
  exact ⟨rfl, hb.out _⟩
 ·have hc := dec_conv w 3 (by decide) 51 (by decide)
  go_enter Tryz.func63, Tryz.ntmps63
  go_wp2_with fail
  go_ret
  exact ⟨rfl, hb.out _⟩
 ·have hc := dec_conv w 4 (by decide) 52 (by decide)
  go_enter Tryz.func63, Tryz.ntmps63
  go_wp2_with fail
  go_ret
  exact ⟨rfl, hb.out _⟩
 ·have hc := dec_conv w 5 (by decide) 53 (by decide)
  go_enter Tryz.func63, Tryz.ntmps63
  go_wp2_with fail
  go_ret
  exact ⟨rfl, hb.out _⟩
 ·have hc := dec_conv w 6 (by decide) 54 (by decide)
  go_enter Tryz.func63, Tryz.ntmps63
  go_wp2_with fail
  go_ret
  exact ⟨rfl, hb.out _⟩
 ·have hc := dec_conv w 7 (by decide) 55 (by decide)
  go_enter Tryz.func63, Tryz.ntmps63
  go_wp2_with fail
  go_ret
  exact ⟨rfl, hb.out _⟩
 ·have hc := dec_conv w 8 (by decide) 56 (by decide)
  go_enter Tryz.func63, Tryz.ntmps63
  go_wp2_with fail
  go_ret
  exact ⟨rfl, hb.out _⟩
 ·have hc := dec_conv w 9 (by decide) 57 (by decide)
  go_enter Tryz.func63, Tryz.ntmps63
  go_wp2_with fail
  go_ret
  exact ⟨rfl, hb.out _⟩
theorem eventK_add : ∀ k : Fin 9, (⟨#[36, 101]⟩ : ByteArray) ++ strOf [UInt8.ofNat (48 + k.val)] = eventK k.val := by decide +kernel
set_option maxHeartbeats 800000 in
theorem eventOf_any (n : Int) (w : World) (h0 : -9223372036854775808 ≤ n) (h1 : n ≤ 9223372036854775807) :
  Calls Tryz.prog 38 #[.int .i64 n] w fun e w' => e = .returned (.string (eventS n)) ∧ Below w.heap.size w w' := by
 have hk := aroundN_lt n (m := 9) (by decide)
 have ha := around_nat n (m := 9) (by decide)
 unfold eventS
 simp only [Int.cast_ofNat_Int] at hk ha
 generalize aroundN n 9 = k at *
 have hd := add_any ⟨#[36, 101]⟩ (strOf [UInt8.ofNat (48 + k)]) (by decide) (by rw [strOf_size]; exact (by decide : 1 ≤ 10000))
 rw [show (⟨#[36, 101]⟩ : ByteArray) ++ strOf [UInt8.ofNat (48 + k)] = eventK k from eventK_add ⟨k, hk⟩] at hd
 have HD := Lib.hid (fun w => decimal_any k w (by omega))
 generalize strOf [UInt8.ofNat (48 + k)] = sd at *
 generalize eventK k = ek at *
 go_enter Tryz.func38, Tryz.ntmps38
 go_wp2_with fail
 refine (around_any n 9 _ h0 h1 (by decide) (by decide)).mono ?_
 rintro e wx ⟨rfl, rfl⟩
 rw [ha]
 go_wp2_with fail
 refine (HD.out _).mono ?_
 rintro e w1 ⟨rfl, hb⟩
 replace hb := Lib.hid hb
 go_wp2_with fail
 go_ret
 exact ⟨rfl, hb.out⟩
set_option maxHeartbeats 800000 in
theorem threadOf_any (n : Int) (w : World) (h0 : -9223372036854775808 ≤ n) (h1 : n ≤ 9223372036854775807) :
  Calls Tryz.prog 59 #[.int .i64 n] w fun e w' => e = .returned (.string (threadS n)) ∧ Below w.heap.size w w' := by
 have hk := aroundN_lt n (m := 11) (by decide)
 have ha := around_nat n (m := 11) (by decide)
 unfold threadS
 simp only [Int.cast_ofNat_Int] at hk ha
 generalize aroundN n 11 = k at *
 have hz := Lib.hid (Below.refl w.heap.size w)
 go_enter Tryz.func59, Tryz.ntmps59
 go_wp2_with fail
 refine (around_any n 11 _ h0 h1 (by decide) (by decide)).mono ?_
 rintro e wx ⟨rfl, rfl⟩
 rw [ha]
 by_cases h9 : k = 9
 ·subst h9
  go_wp2_with fail
  go_ret
  exact ⟨rfl, hz.out⟩
 ·have q9 : ((k : Int) == 9) = false := by rw [beq_eq_false_iff_ne]; omega
  by_cases h10 : k = 10
  ·subst h10
   go_wp2_with fail
   go_ret
   exact ⟨rfl, hz.out⟩
  ·have q10 : ((k : Int) == 10) = false := by rw [beq_eq_false_iff_ne]; omega
   have HE := Lib.hid (fun w => eventOf_any (k : Int) w (by omega) (by omega))
   unfold eventS at HE
   rw [show aroundN (k : Int) 9 = k from around_self9 ⟨k, by omega⟩] at HE
   have ht : threadK k = eventK k := by unfold threadK; rw [if_neg h9, if_neg h10]
   go_wp2_with fail
   refine (HE.out _).mono ?_
   rintro e w1 ⟨rfl, hb⟩
   replace hb := Lib.hid hb
   go_wp2_with fail
   go_ret
   exact ⟨by rw [ht]; rfl, hb.out⟩
end Go.Proofs.YtnnapkakbdpkaaaGreat

namespace Go.Proofs.YtnnapkakbdpkaaaGreat
set_option maxRecDepth 20000
structure Ev where
 id : ByteArray
 room : ByteArray
 parents : List ByteArray
 thread : ByteArray
 user : ByteArray
 does : Int
theorem key_eq (a b : ByteArray) : a = b ↔ a.data.toList = b.data.toList := by
 constructor
 ·rintro rfl; rfl
 ·intro h
  cases a; cases b
  simp only [ByteArray.mk.injEq]
  exact Array.toList_inj.1 h
theorem keyB (a b : ByteArray) : (a.toList == b.toList) = decide (a = b) := by
 rw [Bool.eq_iff_iff, beq_iff_eq, decide_eq_true_iff, ByteArray.toList_eq, ByteArray.toList_eq]
 exact (key_eq a b).symm
theorem key_ext {a b : ByteArray} (h : a.toList = b.toList) : a = b := by
 rw [ByteArray.toList_eq, ByteArray.toList_eq] at h
 exact (key_eq a b).2 h
instance : DecidableEq Ev := fun a b => decidable_of_iff (a.id = b.id ∧ a.room = b.room ∧ a.parents = b.parents ∧ a.thread = b.thread ∧ a.user = b.user ∧ a.does = b.does) (by cases a; cases b; simp)
def Ev.ok (e : Ev) : Prop := e.id.size ≤ maxLen ∧ e.room.size ≤ maxLen ∧ e.thread.size ≤ maxLen ∧ e.user.size ≤ maxLen ∧ (∀ p ∈ e.parents, p.size ≤ maxLen) ∧ (-9223372036854775808 ≤ e.does ∧ e.does ≤ 9223372036854775807)
def parB (e : Ev) (i : Nat) : Bool := eventB (e.parents.getD i ⟨#[]⟩) && !decide (e.parents.getD i ⟨#[]⟩ = e.id) && (decide (i = 0) || Op.bytesLess (e.parents.getD (i - 1) ⟨#[]⟩).toList (e.parents.getD i ⟨#[]⟩).toList)
def parTo (e : Ev) (k : Nat) : Bool := (List.range k).all (parB e)
theorem parTo_succ (e : Ev) (k : Nat) : parTo e (k + 1) = (parTo e k && parB e k) := by simp [parTo, List.range_succ]
theorem parTo_stop {e : Ev} {k n : Nat} (hk : k < n) (h : parB e k = false) : parTo e n = false := by
 rw [Bool.eq_false_iff]
 intro hn
 have := (List.all_eq_true.1 hn) k (by rw [List.mem_range]; exact hk)
 rw [h] at this
 cases this
def headB (e : Ev) : Bool := eventB e.id && namedB 33 e.room && namedB 64 e.user && decide (e.parents.length ≤ 4) && decide (0 ≤ e.does) && decide (e.does ≤ 2)
def thrB (e : Ev) : Bool := decide (e.thread = ⟨#[]⟩) || (eventB e.thread && !decide (e.thread = e.id) && decide (e.does = 0))
def mayE (e : Ev) : Bool := headB e && thrB e && parTo e e.parents.length
def idx (l : List Ev) (id : ByteArray) : Option Nat := l.findIdx? (fun e => decide (e.id = id))
def idxI (l : List Ev) (id : ByteArray) : Int := match idx l id with | some i => (i : Int) | none => -1
def hasE (l : List Ev) (id : ByteArray) : Bool := (idx l id).isSome
theorem idx_hit {l : List Ev} {id : ByteArray} {i : Nat} {x : Ev} (hx : l[i]? = some x) (hk : x.id = id) (hn : ∀ (j : Nat) y, j < i → l[j]? = some y → y.id ≠ id) : idx l id = some i := by
 have hi := (List.getElem?_eq_some_iff.1 hx)
 obtain ⟨hi, he⟩ := hi
 rw [idx, List.findIdx?_eq_some_iff_getElem]
 refine ⟨hi, by rw [he]; exact decide_eq_true hk, fun j hj => ?_⟩
 simp only [decide_eq_true_eq]
 exact hn j _ hj (List.getElem?_eq_getElem _)
theorem idx_miss {l : List Ev} {id : ByteArray} (hn : ∀ (j : Nat) y, l[j]? = some y → y.id ≠ id) : idx l id = none := by
 rw [idx, List.findIdx?_eq_none_iff]
 intro x hx
 obtain ⟨j, hj, he⟩ := List.getElem_of_mem hx
 exact decide_eq_false (hn j x (by rw [List.getElem?_eq_getElem hj, he]))
theorem idx_some {l : List Ev} {id : ByteArray} {i : Nat} (h : idx l id = some i) : ∃ x, l[i]? = some x ∧ x.id = id ∧ ∀ (j : Nat) y, j < i → l[j]? = some y → y.id ≠ id := by
 rw [idx, List.findIdx?_eq_some_iff_getElem] at h
 obtain ⟨hi, he, hn⟩ := h
 refine ⟨l[i], List.getElem?_eq_getElem hi, of_decide_eq_true he, fun j y hj hy => ?_⟩
 obtain ⟨hj', hy'⟩ := List.getElem?_eq_some_iff.1 hy
 have := hn j hj
 rw [hy'] at this
 simpa using this
theorem has_iff {l : List Ev} {id : ByteArray} : hasE l id = true ↔ ∃ x ∈ l, x.id = id := by
 unfold hasE
 constructor
 ·intro h
  obtain ⟨i, hi⟩ := Option.isSome_iff_exists.1 h
  obtain ⟨x, hx, he, _⟩ := idx_some hi
  exact ⟨x, List.mem_of_getElem? hx, he⟩
 ·rintro ⟨x, hx, he⟩
  cases h : idx l id with
  | some i => rfl
  | none =>
   rw [idx, List.findIdx?_eq_none_iff] at h
   have := h x hx
   simp [he] at this
def errA (room : ByteArray) (l : List Ev) (e : Ev) : Int :=
 if (mayE e && decide (e.room = room)) = false then 1
 else if hasE l e.id then 9
 else if e.parents.all (hasE l) = false then 4
 else if e.thread = ⟨#[]⟩ then 0
 else match idx l e.thread with
  | none => 4
  | some k => match l[k]? with
   | none => 4
   | some t => if t.thread = ⟨#[]⟩ ∧ t.does = 0 then 0 else 7
def addA (room : ByteArray) (l : List Ev) (e : Ev) : List Ev := if errA room l e = 0 then l ++ [e] else l
end Go.Proofs.YtnnapkakbdpkaaaGreat
