/-
  MemberHomes: users' homes are the document's, rising, each once.
-/
import Derived.Test.YtfbfdkibdjinaaaGreatM9C
namespace Go.Proofs.YtfbfdkibdjinaaaGreat
set_option maxRecDepth 20000
open Go.RowKit
set_option linter.unusedVariables false
set_option linter.unusedSimpArgs false


set_option maxHeartbeats 6400000 in
theorem memberHomes_walk (C : Dags) (CA : DagAlls C) (v u : Value) (l : List ByteArray) (ns : List Int) (w : World) (h : LT.Slice w v l) (hlz : ∀ x ∈ l, x.size ≤ maxLen) (hu : LI.Slice w u ns) (hnz : ∀ x ∈ ns, i64B x) :
    Calls Tryz.prog 5 #[v, u] w fun e w' => e = .returned (.bool true) ∧ Below w.heap.size w w' := by
  obtain ⟨A, cap, rfl, h1, h2, -⟩ := id h
  obtain ⟨A', cap', rfl, h1', h2', -⟩ := id hu
  unfold maxLen at h2 h2'
  have HL := Lib.hid h
  have HN := Lib.hid hu
  have HLZ := Lib.hid hlz
  have HNZ := Lib.hid hnz
  clear h hu hlz hnz
  go_enter Tryz.func5, Tryz.ntmps5
  go_wp2_with fail
  go_loopw [5, 6] (fun q i wr => ∃ (a : Nat) (ts : List ByteArray) (Ao : Option Addr) (co : Nat), q = .slice Ao ts.length co ∧ i = .int .i64 (a : Int) ∧ a ≤ 6 ∧ ts.length ≤ a ∧ Hid (HdS w wr q ts) ∧ Hid (∀ t ∈ ts, t.size ≤ 40)) (fun _ i _ => 6 - (intOf i).toNat)
  case atStart => exact ⟨0, [], none, 0, rfl, rfl, Nat.zero_le _, Nat.le_refl _, Lib.hid ⟨Below.refl _ _, .inl ⟨rfl, rfl⟩⟩, Lib.hid (fun t ht => by cases ht)⟩
  case round =>
    obtain ⟨a, ts, Ao, co, rfl, rfl, ha, hta, HO, HT⟩ := hrel
    by_cases hax : a < l.length ∧ a < 6
    · obtain ⟨hax, ha6⟩ := hax
      have hx : l[a]? = some l[a] := List.getElem?_eq_getElem hax
      generalize l[a] = x at hx
      have hxs := HLZ.out x (List.mem_of_getElem? hx)
      obtain ⟨bo, oo, rfl, hbo, hco⟩ := text_at HL.out hx
      have hiy := index_any (P := Tryz.prog) knT (by decide) (b := bo) (off := oo) (cap := cap) hax
      simp only [LT] at hiy
      rw [Nat.mul_one] at hiy
      have e4 : wr.cell? ⟨bo, oo + a, none⟩ = some (.string x) := (HO.out.below.cell (p := ⟨bo, oo + a, none⟩) hbo).trans hco
      have HFW := Lib.hid (few_any x 12 (by omega) wr hxs)
      rw [show ((12 : Nat) : Int) = 12 from rfl] at HFW
      have HFS := Lib.hid (Nat.le_trans (fewS_size x 12) (show (12 : Nat) ≤ 40 by omega))
      generalize fewS x 12 = f at HFW HFS
      clear hx hco
      go_wp2_with fail
      go_at_call 10
      refine HFW.out.mono ?_
      rintro e w4 ⟨rfl, rfl⟩
      have hlit1 := Lib.hid (lit_text wr f)
      have hb1 := below_new wr (.cells #[.string f] 9)
      have HA1 := Lib.hid (HO.out.on hb1)
      have hs1 : w.heap.size ≤ (wr.alloc (.cells #[.string f] 9)).heap.size := HA1.out.below.size
      clear hb1
      go_wp2_with (at_builtin; refine wpList_puts rfl knT (.tmp 18) (.tmp 24) 31 rfl (v := .slice Ao (ts.length) co) rfl HA1.out.row hs1 (.slice (some ⟨wr.heap.size, 0, none⟩) 1 1) [f] 1 rfl rfl (hlit1.out.srcN knT rfl) (by omega) ?_; intro A1 c1 w1 m1 g1 o1; have H1 : Hid (HdS w w1 (.slice A1 (ts.length + 1) c1) (ts ++ [f])) := Lib.hid ⟨HA1.out.below.grown g1 hs1 (fun k hk => (HA1.out.row.lt k hk).1), m1⟩; clear m1 g1 o1)
      refine ⟨⟨a + 1, ts ++ [f], A1, c1, by rw [List.length_append]; rfl, by go_num, by omega, by rw [List.length_append]; simp only [List.length_cons, List.length_nil]; omega, H1, Lib.hid (fun t ht => by
        rcases List.mem_append.1 ht with ht | ht
        · exact HT.out t ht
        · rw [List.mem_singleton.1 ht]; exact HFS.out)⟩, ?_⟩
      simp [intOf]; omega
    · have hcs : l.length ≤ a ∨ (a < l.length ∧ 6 ≤ a) := by omega
      have hts : ts.length ≤ 6 := by omega
      have HLP : ∀ (wz : World), wz = wr → True := fun _ _ => trivial
      clear hax HLP
      rcases hcs with hcs | hcs
      · skip
        go_wp2_with fail
        go_loopw [5, 7] (fun q i wr => ∃ (a : Nat) (ts : List ByteArray) (Ao : Option Addr) (co : Nat), q = .slice Ao ts.length co ∧ i = .int .i64 (a : Int) ∧ a ≤ 6 ∧ ts.length ≤ a + 6 ∧ Hid (HdS w wr q ts) ∧ Hid (∀ t ∈ ts, t.size ≤ 40)) (fun _ i _ => 6 - (intOf i).toNat)
        case atStart => exact ⟨0, ts, Ao, co, rfl, rfl, Nat.zero_le _, by omega, HO, HT⟩
        case round =>
          clear HO HT hta hts
          obtain ⟨a, ts, Ao, co, rfl, rfl, ha, hta, HO, HT⟩ := hrel
          by_cases hax : a < ns.length ∧ a < 6
          · obtain ⟨hax, ha6⟩ := hax
            have hx : ns[a]? = some ns[a] := List.getElem?_eq_getElem hax
            generalize ns[a] = x at hx
            have hxs := HNZ.out x (List.mem_of_getElem? hx)
            obtain ⟨bo, oo, rfl, hbo, hco⟩ := HN.out.at hx
            have hiy := index_any (P := Tryz.prog) knI (by decide) (b := bo) (off := oo) (cap := cap') hax
            simp only [LI] at hiy hco
            rw [Nat.mul_one] at hiy hco
            have e4 : wr.cell? ⟨bo, oo + a, none⟩ = some (.int .i64 x) := (HO.out.below.cell (p := ⟨bo, oo + a, none⟩) hbo).trans (by have := hco 0 _ rfl; simpa using this)
            have HUS := Lib.hid (userOf_any x wr hxs.1 hxs.2)
            have HFS := Lib.hid (userS_len9 x)
            generalize userS x = f at HUS HFS
            clear hx hco hxs
            go_wp2_with fail
            go_at_call 9
            refine HUS.out.mono ?_
            rintro e w4 ⟨rfl, b4⟩
            have HO4 := Lib.hid (HO.out.on b4)
            clear b4 HO HUS e4
            have hlit2 := Lib.hid (lit_text w4 f)
            have hb2 := below_new w4 (.cells #[.string f] 9)
            have HA2 := Lib.hid (HO4.out.on hb2)
            have hs2 : w.heap.size ≤ (w4.alloc (.cells #[.string f] 9)).heap.size := HA2.out.below.size
            clear hb2
            go_wp2_with (at_builtin; refine wpList_puts rfl knT (.tmp 36) (.tmp 42) 31 rfl (v := .slice Ao (ts.length) co) rfl HA2.out.row hs2 (.slice (some ⟨w4.heap.size, 0, none⟩) 1 1) [f] 1 rfl rfl (hlit2.out.srcN knT rfl) (by omega) ?_; intro A2 c2 w2 m2 g2 o2; have H2 : Hid (HdS w w2 (.slice A2 (ts.length + 1) c2) (ts ++ [f])) := Lib.hid ⟨HA2.out.below.grown g2 hs2 (fun k hk => (HA2.out.row.lt k hk).1), m2⟩; clear m2 g2 o2)
            refine ⟨⟨a + 1, ts ++ [f], A2, c2, by rw [List.length_append]; rfl, by go_num, by omega, by rw [List.length_append]; simp only [List.length_cons, List.length_nil]; omega, H2, Lib.hid (fun t ht => by
              rcases List.mem_append.1 ht with ht | ht
              · exact HT.out t ht
              · rw [List.mem_singleton.1 ht]; exact HFS.out)⟩, ?_⟩
            simp [intOf]; omega
          · have hcn : ns.length ≤ a ∨ (a < ns.length ∧ 6 ≤ a) := by omega
            have HH1 := Lib.hid (homes_any (.slice Ao ts.length co) ts wr HO.out.row.slice (by omega) (fun t ht => Nat.le_trans (HT.out t ht) (by omega)))
            clear hax
            rcases hcn with hcn | hcn
            · skip
              go_wp2_with fail
              go_at_call 25
              refine HH1.out.mono ?_
              rintro e w5 ⟨v5, rfl, m5, b5⟩
              have HO5 := Lib.hid (HO.out.on b5)
              have HM5 := Lib.hid m5
              have HH2 := Lib.hid (refHomes_any (.slice Ao ts.length co) ts w5 HO5.out.row.slice (by omega) (fun t ht => Nat.le_trans (HT.out t ht) (by unfold maxLen; omega)))
              obtain ⟨A5, c5, rfl, -⟩ := id m5.shape
              clear m5 b5 HH1 HO
              go_wp2_with fail
              go_at_call 26
              refine HH2.out.mono ?_
              rintro e w6 ⟨v6, rfl, m6, b6⟩
              have HO6 := Lib.hid (HO5.out.on b6)
              have HST := Lib.hid (sameTexts_any _ v6 _ _ w6 (HM5.out.below b6).slice m6.slice)
              rw [decide_eq_true rfl] at HST
              obtain ⟨A6, c6, rfl, -⟩ := id m6.shape
              clear m6 b6 HH2 HO5 HM5
              go_wp2_with fail
              go_at_call 16
              refine HST.out.mono ?_
              rintro e w7 ⟨rfl, dd, rfl⟩
              have HO7 := Lib.hid (HO6.out.on (⟨rfl, rfl, rfl, Nat.le_refl _, fun _ _ => rfl⟩ : Below w6.heap.size w6 (w6.drewN dd)))
              have HLV := Lib.hid (lives9_any C CA (w6.drewN dd))
              generalize w6.drewN dd = w8 at HO7 HLV ⊢
              clear HST HO6
              go_wp2_with fail
              go_at_call 19
              refine HLV.out.mono ?_
              rintro e w9 ⟨rfl, b9⟩
              have HB9 := Lib.hid (HO7.out.below.trans (b9.mono HO7.out.below.size))
              go_wp2_with fail
              go_ret
              exact ⟨rfl, HB9.out⟩
            · obtain ⟨hcn1, hcn2⟩ := hcn
              go_wp2_with fail
              go_at_call 25
              refine HH1.out.mono ?_
              rintro e w5 ⟨v5, rfl, m5, b5⟩
              have HO5 := Lib.hid (HO.out.on b5)
              have HM5 := Lib.hid m5
              have HH2 := Lib.hid (refHomes_any (.slice Ao ts.length co) ts w5 HO5.out.row.slice (by omega) (fun t ht => Nat.le_trans (HT.out t ht) (by unfold maxLen; omega)))
              obtain ⟨A5, c5, rfl, -⟩ := id m5.shape
              clear m5 b5 HH1 HO
              go_wp2_with fail
              go_at_call 26
              refine HH2.out.mono ?_
              rintro e w6 ⟨v6, rfl, m6, b6⟩
              have HO6 := Lib.hid (HO5.out.on b6)
              have HST := Lib.hid (sameTexts_any _ v6 _ _ w6 (HM5.out.below b6).slice m6.slice)
              rw [decide_eq_true rfl] at HST
              obtain ⟨A6, c6, rfl, -⟩ := id m6.shape
              clear m6 b6 HH2 HO5 HM5
              go_wp2_with fail
              go_at_call 16
              refine HST.out.mono ?_
              rintro e w7 ⟨rfl, dd, rfl⟩
              have HO7 := Lib.hid (HO6.out.on (⟨rfl, rfl, rfl, Nat.le_refl _, fun _ _ => rfl⟩ : Below w6.heap.size w6 (w6.drewN dd)))
              have HLV := Lib.hid (lives9_any C CA (w6.drewN dd))
              generalize w6.drewN dd = w8 at HO7 HLV ⊢
              clear HST HO6
              go_wp2_with fail
              go_at_call 19
              refine HLV.out.mono ?_
              rintro e w9 ⟨rfl, b9⟩
              have HB9 := Lib.hid (HO7.out.below.trans (b9.mono HO7.out.below.size))
              go_wp2_with fail
              go_ret
              exact ⟨rfl, HB9.out⟩
      · obtain ⟨hcs1, hcs2⟩ := hcs
        go_wp2_with fail
        go_loopw [5, 7] (fun q i wr => ∃ (a : Nat) (ts : List ByteArray) (Ao : Option Addr) (co : Nat), q = .slice Ao ts.length co ∧ i = .int .i64 (a : Int) ∧ a ≤ 6 ∧ ts.length ≤ a + 6 ∧ Hid (HdS w wr q ts) ∧ Hid (∀ t ∈ ts, t.size ≤ 40)) (fun _ i _ => 6 - (intOf i).toNat)
        case atStart => exact ⟨0, ts, Ao, co, rfl, rfl, Nat.zero_le _, by omega, HO, HT⟩
        case round =>
          clear HO HT hta hts
          obtain ⟨a, ts, Ao, co, rfl, rfl, ha, hta, HO, HT⟩ := hrel
          by_cases hax : a < ns.length ∧ a < 6
          · obtain ⟨hax, ha6⟩ := hax
            have hx : ns[a]? = some ns[a] := List.getElem?_eq_getElem hax
            generalize ns[a] = x at hx
            have hxs := HNZ.out x (List.mem_of_getElem? hx)
            obtain ⟨bo, oo, rfl, hbo, hco⟩ := HN.out.at hx
            have hiy := index_any (P := Tryz.prog) knI (by decide) (b := bo) (off := oo) (cap := cap') hax
            simp only [LI] at hiy hco
            rw [Nat.mul_one] at hiy hco
            have e4 : wr.cell? ⟨bo, oo + a, none⟩ = some (.int .i64 x) := (HO.out.below.cell (p := ⟨bo, oo + a, none⟩) hbo).trans (by have := hco 0 _ rfl; simpa using this)
            have HUS := Lib.hid (userOf_any x wr hxs.1 hxs.2)
            have HFS := Lib.hid (userS_len9 x)
            generalize userS x = f at HUS HFS
            clear hx hco hxs
            go_wp2_with fail
            go_at_call 9
            refine HUS.out.mono ?_
            rintro e w4 ⟨rfl, b4⟩
            have HO4 := Lib.hid (HO.out.on b4)
            clear b4 HO HUS e4
            have hlit2 := Lib.hid (lit_text w4 f)
            have hb2 := below_new w4 (.cells #[.string f] 9)
            have HA2 := Lib.hid (HO4.out.on hb2)
            have hs2 : w.heap.size ≤ (w4.alloc (.cells #[.string f] 9)).heap.size := HA2.out.below.size
            clear hb2
            go_wp2_with (at_builtin; refine wpList_puts rfl knT (.tmp 36) (.tmp 42) 31 rfl (v := .slice Ao (ts.length) co) rfl HA2.out.row hs2 (.slice (some ⟨w4.heap.size, 0, none⟩) 1 1) [f] 1 rfl rfl (hlit2.out.srcN knT rfl) (by omega) ?_; intro A2 c2 w2 m2 g2 o2; have H2 : Hid (HdS w w2 (.slice A2 (ts.length + 1) c2) (ts ++ [f])) := Lib.hid ⟨HA2.out.below.grown g2 hs2 (fun k hk => (HA2.out.row.lt k hk).1), m2⟩; clear m2 g2 o2)
            refine ⟨⟨a + 1, ts ++ [f], A2, c2, by rw [List.length_append]; rfl, by go_num, by omega, by rw [List.length_append]; simp only [List.length_cons, List.length_nil]; omega, H2, Lib.hid (fun t ht => by
              rcases List.mem_append.1 ht with ht | ht
              · exact HT.out t ht
              · rw [List.mem_singleton.1 ht]; exact HFS.out)⟩, ?_⟩
            simp [intOf]; omega
          · have hcn : ns.length ≤ a ∨ (a < ns.length ∧ 6 ≤ a) := by omega
            have HH1 := Lib.hid (homes_any (.slice Ao ts.length co) ts wr HO.out.row.slice (by omega) (fun t ht => Nat.le_trans (HT.out t ht) (by omega)))
            clear hax
            rcases hcn with hcn | hcn
            · skip
              go_wp2_with fail
              go_at_call 25
              refine HH1.out.mono ?_
              rintro e w5 ⟨v5, rfl, m5, b5⟩
              have HO5 := Lib.hid (HO.out.on b5)
              have HM5 := Lib.hid m5
              have HH2 := Lib.hid (refHomes_any (.slice Ao ts.length co) ts w5 HO5.out.row.slice (by omega) (fun t ht => Nat.le_trans (HT.out t ht) (by unfold maxLen; omega)))
              obtain ⟨A5, c5, rfl, -⟩ := id m5.shape
              clear m5 b5 HH1 HO
              go_wp2_with fail
              go_at_call 26
              refine HH2.out.mono ?_
              rintro e w6 ⟨v6, rfl, m6, b6⟩
              have HO6 := Lib.hid (HO5.out.on b6)
              have HST := Lib.hid (sameTexts_any _ v6 _ _ w6 (HM5.out.below b6).slice m6.slice)
              rw [decide_eq_true rfl] at HST
              obtain ⟨A6, c6, rfl, -⟩ := id m6.shape
              clear m6 b6 HH2 HO5 HM5
              go_wp2_with fail
              go_at_call 16
              refine HST.out.mono ?_
              rintro e w7 ⟨rfl, dd, rfl⟩
              have HO7 := Lib.hid (HO6.out.on (⟨rfl, rfl, rfl, Nat.le_refl _, fun _ _ => rfl⟩ : Below w6.heap.size w6 (w6.drewN dd)))
              have HLV := Lib.hid (lives9_any C CA (w6.drewN dd))
              generalize w6.drewN dd = w8 at HO7 HLV ⊢
              clear HST HO6
              go_wp2_with fail
              go_at_call 19
              refine HLV.out.mono ?_
              rintro e w9 ⟨rfl, b9⟩
              have HB9 := Lib.hid (HO7.out.below.trans (b9.mono HO7.out.below.size))
              go_wp2_with fail
              go_ret
              exact ⟨rfl, HB9.out⟩
            · obtain ⟨hcn1, hcn2⟩ := hcn
              go_wp2_with fail
              go_at_call 25
              refine HH1.out.mono ?_
              rintro e w5 ⟨v5, rfl, m5, b5⟩
              have HO5 := Lib.hid (HO.out.on b5)
              have HM5 := Lib.hid m5
              have HH2 := Lib.hid (refHomes_any (.slice Ao ts.length co) ts w5 HO5.out.row.slice (by omega) (fun t ht => Nat.le_trans (HT.out t ht) (by unfold maxLen; omega)))
              obtain ⟨A5, c5, rfl, -⟩ := id m5.shape
              clear m5 b5 HH1 HO
              go_wp2_with fail
              go_at_call 26
              refine HH2.out.mono ?_
              rintro e w6 ⟨v6, rfl, m6, b6⟩
              have HO6 := Lib.hid (HO5.out.on b6)
              have HST := Lib.hid (sameTexts_any _ v6 _ _ w6 (HM5.out.below b6).slice m6.slice)
              rw [decide_eq_true rfl] at HST
              obtain ⟨A6, c6, rfl, -⟩ := id m6.shape
              clear m6 b6 HH2 HO5 HM5
              go_wp2_with fail
              go_at_call 16
              refine HST.out.mono ?_
              rintro e w7 ⟨rfl, dd, rfl⟩
              have HO7 := Lib.hid (HO6.out.on (⟨rfl, rfl, rfl, Nat.le_refl _, fun _ _ => rfl⟩ : Below w6.heap.size w6 (w6.drewN dd)))
              have HLV := Lib.hid (lives9_any C CA (w6.drewN dd))
              generalize w6.drewN dd = w8 at HO7 HLV ⊢
              clear HST HO6
              go_wp2_with fail
              go_at_call 19
              refine HLV.out.mono ?_
              rintro e w9 ⟨rfl, b9⟩
              have HB9 := Lib.hid (HO7.out.below.trans (b9.mono HO7.out.below.size))
              go_wp2_with fail
              go_ret
              exact ⟨rfl, HB9.out⟩
end Go.Proofs.YtfbfdkibdjinaaaGreat
