/- outline.Cycles; outlinelaw: walked. -/
import Derived.Test.YtljfiefobnncaaaEi
namespace Go.Proofs.Ytljfiefobnncaaa
open Go.RowKit

/-- What was made behind the book lies apart from it. -/
theorem ap_new {kb N : Nat} {vp vs : Value} {P S : List Rec} {w : World} (h : OBook kb N vp vs P S w) {v : Value} (hv : ∀ k, v.ownBlock = some k → w.heap.size ≤ k) : Ap kb vp vs P S v := fun k hk => by
  have hz := hv k hk
  refine ⟨by have := h.lt; omega, fun e => by have := (h.po.lt k e).2; omega, fun e => by have := (h.so.lt k e).2; omega, fun r hr u hu e => by have := h.old r hr u hu k e; omega⟩
set_option maxRecDepth 4000 in
set_option maxHeartbeats 1000000 in
theorem walked_any (kb N : Nat) (vp vs : Value) (P S : List Rec) (W H : Int) (s : ByteArray) (pol : Int) (draws : ByteArray) (spk : Int) (w : World) (hO : OBook kb N vp vs P S w) (hN : N ≤ 400000) :
    Calls Try.prog 11 #[.pointer (some ⟨kb, 0, none⟩), .agg #[.int .i64 W, .int .i64 H, .string s], .agg #[.int .i64 pol, .string draws, .int .i64 spk]] w fun e w' => e = .returned (.bool true) ∧ ∃ N' vp' vs' P' S', OBook kb N' vp' vs' P' S' w' ∧ N' ≤ N + 1201 ∧ Fr (fun k => k = kb ∨ vp.ownBlock = some k ∨ vs.ownBlock = some k) w w' := by
  have HO := hid hO
  clear hO
  cases hm : mayB W H s.data.toList pol spk
  · go_enter Try.func11, Try.ntmps11
    go_wp2_with fail
    refine (cycles_no W H s pol draws spk _ hm).mono ?_
    rintro e w1 ⟨rfl, b1⟩
    have B1 := hid (show Below w.heap.size w w1 from Below.trans (b := _) (by go_grown) (b1.mono (by simp; omega)))
    obtain ⟨hc, hf⟩ := bcell b1
    have z1 := b1.size
    simp at z1
    clear b1
    go_wp2_with fail
    refine (refCycles_no W H s pol draws spk _ hm).mono ?_
    rintro e w2 ⟨rfl, b2⟩
    have B2 := hid (B1.out.trans (b2.mono B1.out.size))
    clear b2 hc hf
    go_wp2_with fail
    refine (same_any id (.slice none 0 0) (.slice none 0 0) [] [] _ rfl (Seen.nil id 0 _).shown (Seen.nil id 0 _).shown (by simp) (by simp)).mono ?_
    rintro e w3 ⟨rfl, b3⟩
    have B3 := hid (B2.out.trans (b3.mono B2.out.size))
    clear b3
    go_wp2_with fail
    refine (keep_any id 0 (.slice none 0 0) [] kb N vp vs P S _ (HO.out.below B3.out) ⟨World.ownsRow_nil _ _ _ _, by simp, by simp⟩ (by simp) (by simp) (by simp) (by omega) (by simp) (fun k hk => by simp [Value.ownBlock] at hk)).mono ?_
    rintro e w4 ⟨rfl, N', vp', vs', P', S', ho, hn', hfr⟩
    have OB := hid ho
    have FR := hid hfr
    clear ho hfr
    go_wp2
    go_ret
    refine ⟨rfl, N', vp', vs', P', S', OB.out, by simp at hn'; omega, (Fr.below B3.out).trans (FR.out.imp ?_)⟩
    intro k _ hk
    rcases hk with hk | hk | hk | hk | ⟨p, hp, _⟩
    · exact .inl hk
    · exact .inr (.inl hk)
    · exact .inr (.inr hk)
    · simp [Value.ownBlock] at hk
    · simp at hp
  · obtain ⟨hg, p0, p1⟩ := may_parts hm
    obtain ⟨W, H, rfl, rfl, h1, h2, h3, h4, h5⟩ := Pm.goodB_parts hg
    obtain ⟨pol, rfl⟩ : ∃ q : Nat, pol = q := ⟨pol.toNat, by omega⟩
    have hp3 : pol ≤ 3 := by omega
    have HL := hid h5
    clear h5 hg p0 p1
    go_enter Try.func11, Try.ntmps11
    go_wp2_with fail
    refine (cycles_yes W H s pol draws spk _ hm h2 h4 HL.out hp3).mono ?_
    rintro e w1 ⟨vl, rfl, La, r1, rw1, b1, ln⟩
    have B1 := hid (show Below w.heap.size w w1 from Below.trans (b := _) (by go_grown) (b1.mono (by simp; omega)))
    obtain ⟨hc, hf⟩ := bcell b1
    have z1 := b1.size
    simp at z1
    have R1 := hid r1
    have RW1 := hid (show Rowed (fB W H s pol draws) (w.heap.size + 2) vl La w1 from ⟨rw1.row.mono (by simp), fun p hp => (rw1.pts p hp).mono (by simp), rw1.apart⟩)
    obtain ⟨ao, cap, rfl⟩ := own_len rw1.row
    clear b1 r1 rw1
    go_wp2_with fail
    refine (refCycles_yes W H s pol draws spk _ hm h1 h2 h4 HL.out hp3).mono ?_
    rintro e w2 ⟨vm, rfl, Lm, r2, sn2, b2⟩
    have B2 := hid (B1.out.trans (b2.mono B1.out.size))
    have R2 := hid r2
    have SN2 := hid sn2
    have RW2 := hid (show Rowed (fB W H s pol draws) (w.heap.size + 2) _ La w2 from ⟨own_below RW1.out.row b2, fun p hp => own_below (RW1.out.pts p hp) b2, RW1.out.apart⟩)
    obtain ⟨ao2, cap2, rfl, _⟩ := sn2.row
    clear b2 hc hf r2 sn2
    have POS := hid (show ∀ p ∈ La, 0 < p.2.2 from fun p hp => (R1.out.1 p.2 (List.mem_map_of_mem hp)).1.2.1)
    have LE := hid (show ∀ p ∈ La, p.2.2 ≤ 4356 from fun p hp => cyc_le h2 h4 (R1.out.1 p.2 (List.mem_map_of_mem hp)).1)
    go_wp2_with fail
    refine (same_any (fB W H s pol draws) _ _ La Lm _ (R1.out.unique R2.out) (RW2.out.shown POS.out) SN2.out.shown (own_max RW2.out.row) (fun p hp => by have := LE.out p hp; omega)).mono ?_
    rintro e w3 ⟨rfl, b3⟩
    have B3 := hid (B2.out.trans (b3.mono B2.out.size))
    have RW3 := hid (show Rowed (fB W H s pol draws) (w.heap.size + 2) _ La w3 from ⟨own_below RW2.out.row b3, fun p hp => own_below (RW2.out.pts p hp) b3, RW2.out.apart⟩)
    clear b3
    go_wp2_with fail
    refine (keep_any (fB W H s pol draws) (w.heap.size + 2) _ La kb N vp vs P S _ (HO.out.below B3.out) RW3.out POS.out (fun p hp => by have := LE.out p hp; omega) ln (by omega) (fun p hp => ap_new HO.out (fun k hk => by have := ((RW3.out.pts p hp).lt k hk).1; omega)) (ap_new HO.out (fun k hk => by have := (RW3.out.row.lt k hk).1; omega))).mono ?_
    rintro e w4 ⟨rfl, N', vp', vs', P', S', ho, hn', hfr⟩
    have OB := hid ho
    have FR := hid hfr
    clear ho hfr
    go_wp2
    go_ret
    have z3 := B3.out.size
    have fr2 : Fr (fun k => k = kb ∨ vp.ownBlock = some k ∨ vs.ownBlock = some k) w w4 := by
      refine ⟨FR.out.os.trans B3.out.os, FR.out.tape.trans B3.out.tape, FR.out.output.trans B3.out.output, Nat.le_trans z3 FR.out.size, fun k hk hc => (FR.out.block k (by omega) (fun hc2 => ?_)).trans (B3.out.block k hk)⟩
      rcases hc2 with e | e | e | e | ⟨p, hp, e⟩
      · exact hc (.inl e)
      · exact hc (.inr (.inl e))
      · exact hc (.inr (.inr e))
      · have := (RW3.out.row.lt k e).1; omega
      · have := ((RW3.out.pts p hp).lt k e).1; omega
    exact ⟨rfl, N', vp', vs', P', S', OB.out, by omega, fr2⟩
end Go.Proofs.Ytljfiefobnncaaa
