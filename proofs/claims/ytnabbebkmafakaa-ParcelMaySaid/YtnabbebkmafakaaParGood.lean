/-
  Plain facts on parcels that are made of any: they may be. No function of the program is named here.
-/
import Derived.Test.YtnabbebkmafakaaParArg
import Derived.Test.YtnabbebkmafakaaML
namespace Go.Proofs.Ytnabbebkmafakaa
open Go.RowKit
set_option linter.unusedVariables false
set_option linter.unusedSimpArgs false

/-- A parcel that may be, made of any. -/
def goodTo (frm dest : ByteArray) : Int := aroundI (frm.size : Int) 3 + 1 + aroundI (dest.size : Int) 2
def goodP (p : Par) : Par := ⟨p.ack, serverS (aroundI (p.frm.size : Int) 3), serverS (goodTo p.frm p.dest), 1 + aroundI p.id 1099511627776, bif p.ack then [] else (p.edus.take 5).map publicE⟩
theorem server_apart : ∀ a : Fin 3, ∀ b : Fin 2, (serverK (aroundN ((a.val : Nat) : Int) 3)).toList ≠ (serverK (aroundN (((a.val : Nat) : Int) + 1 + ((b.val : Nat) : Int)) 3)).toList := by decide +kernel
theorem serverS_server (n : Int) : serverB (serverS n) = true := serverK_server ⟨aroundN n 3, aroundN_lt n (m := 3) (by decide)⟩
theorem good_mayP (p : Par) : mayP (goodP p) = true := by
  have hi := aroundI_bd p.id 1099511627776 (by decide)
  have h3 := aroundI_bd (p.frm.size : Int) 3 (by decide)
  have h2 := aroundI_bd (p.dest.size : Int) 2 (by decide)
  have hap := server_apart ⟨(aroundI (p.frm.size : Int) 3).toNat, by omega⟩ ⟨(aroundI (p.dest.size : Int) 2).toNat, by omega⟩
  simp only at hap
  rw [show (((aroundI (p.frm.size : Int) 3).toNat : Nat) : Int) = aroundI (p.frm.size : Int) 3 by omega, show (((aroundI (p.dest.size : Int) 2).toNat : Nat) : Int) = aroundI (p.dest.size : Int) 2 by omega] at hap
  have hlen : ((p.edus.take 5).map publicE).length ≤ 5 := by rw [List.length_map, List.length_take]; omega
  have hall : ((p.edus.take 5).map publicE).all mayB = true := by
    rw [List.all_eq_true]
    intro e he
    obtain ⟨x, _, rfl⟩ := List.mem_map.1 he
    exact public_may x
  unfold mayP goodP
  simp only [Bool.and_eq_true, decide_eq_true_iff]
  refine ⟨serverS_server _, serverS_server _, hap, by omega, ?_, ?_, ?_⟩
  · cases p.ack
    · simp only [cond_false]; omega
    · simp
  · intro ha
    rw [ha]
    rfl
  · cases p.ack
    · exact hall
    · rfl
/-- Its first five EDUs, its texts cut. -/
def fewP (p : Par) : Par := ⟨p.ack, fewS p.frm 40, fewS p.dest 40, p.id, (p.edus.take 5).map fewE⟩
/-- Are two the same? -/
def sameL : List Edu → List Edu → Bool
  | [], [] => true
  | a :: l, b :: m => eqE a b && sameL l m
  | _, _ => false
theorem sameL_iff : ∀ l m : List Edu, sameL l m = true ↔ l = m
  | [], [] => by simp [sameL]
  | [], _ :: _ => by simp [sameL]
  | _ :: _, [] => by simp [sameL]
  | a :: l, b :: m => by rw [sameL, Bool.and_eq_true, eqE_iff, sameL_iff l m, List.cons.injEq]
def sameP (a b : Par) : Bool := sameL a.edus b.edus && ((a.ack == b.ack) && ((a.frm.toList == b.frm.toList) && ((a.dest.toList == b.dest.toList) && (a.id == b.id))))
theorem sameP_iff (a b : Par) : sameP a b = true ↔ a = b := by
  unfold sameP
  obtain ⟨a1, a2, a3, a4, a5⟩ := a
  obtain ⟨b1, b2, b3, b4, b5⟩ := b
  simp only [Bool.and_eq_true, sameL_iff, beq_iff_eq, toList_iff, Par.mk.injEq]
  constructor
  · rintro ⟨h1, h2, h3, h4, h5⟩
    exact ⟨h2, h3, h4, h5, h1⟩
  · rintro ⟨h1, h2, h3, h4, h5⟩
    exact ⟨h5, h1, h2, h3, h4⟩
/-- The answer of a parcel. -/
def answerP (p : Par) : Par := ⟨true, p.dest, p.frm, p.id, []⟩
theorem answer_mayP {p : Par} (h : mayP p = true) : mayP (answerP p) = true := by
  obtain ⟨hf, ht, hne, hi, _⟩ := mayP_parts h
  unfold mayP answerP
  simp only [Bool.and_eq_true, decide_eq_true_iff]
  exact ⟨ht, hf, fun e => hne e.symm, hi, by simp, by simp, rfl⟩
end Go.Proofs.Ytnabbebkmafakaa
