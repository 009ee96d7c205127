import Derived.Test.YtgapfjjdccohkaaJtraces16
import Derived.Test.YtgapfjjdccohkaaJtraces13

/- outline.Trace; lists of shapes to be read; outlinekeep.sameShapes. -/
namespace Go.Proofs.Ytgapfjjdccohkaa
open Go.RowKit

set_option maxHeartbeats 400000 in
theorem trace_no (W H : Int) (s : ByteArray) (pol : Int) (draws : ByteArray) (spk : Int) (w : World) (hm : mayB W H s.data.toList pol spk = false) :
    Calls Try.prog 25 #[.agg #[.int .i64 W, .int .i64 H, .string s], .agg #[.int .i64 pol, .string draws, .int .i64 spk]] w fun e w' => e = .returned (.tuple #[.slice none 0 0, .int .i64 4]) ∧ Below w.heap.size w w' := by
  go_enter Try.func25, Try.ntmps25
  go_wp2_with fail
  refine (polyFind_no W H s pol draws spk _ hm).mono ?_
  rintro e w1 ⟨rfl, hb⟩
  have HB := hid hb
  clear hb
  go_wp2
  go_ret2
  exact ⟨rfl, Below.trans (b := _) (by go_grown) (HB.out.mono (by simp; omega))⟩

set_option maxHeartbeats 400000 in
theorem trace_yes (W H : Nat) (s : ByteArray) (pol : Nat) (draws : ByteArray) (spk : Int) (w : World) (hm : mayB W H s.data.toList pol spk = true) (hw2 : W ≤ 32) (hh2 : H ≤ 32) (hl : s.size = W * H) (hp : pol ≤ 3) (s0 : 0 ≤ spk) (s1 : spk ≤ 1024) :
    Calls Try.prog 25 #[.agg #[.int .i64 W, .int .i64 H, .string s], .agg #[.int .i64 pol, .string draws, .int .i64 spk]] w fun e w' => ∃ vl, e = .returned (.tuple #[vl, .int .i64 0]) ∧ TraceOut W H s pol draws spk w vl w' := by
  have HL := hid hl
  clear hl
  go_enter Try.func25, Try.ntmps25
  go_wp2_with fail
  refine (polyFind_yes W H s pol draws spk _ hm hw2 hh2 HL.out hp s0 s1).mono ?_
  rintro e w1 ⟨vl, rfl, R, L, h1, h2, h3, h4, h5⟩
  have H1 := hid h1
  have H2 := hid h2
  have H3 := hid h3
  have H5 := hid h5
  clear h1 h2 h3 h5
  go_wp2
  go_ret2
  exact ⟨vl, rfl, R, L, H1.out, H2.out, H3.out.mono (by simp; omega), h4, Below.trans (b := _) (by go_grown) (H5.out.mono (by simp; omega))⟩

/-- A list of shapes, to be read. -/
structure ShownP (vl : Value) (L : List (Value × List (Int × Int))) (w : World) : Prop where
  row : ∃ ao cap, vl = .slice ao L.length cap ∧ (L.length = 0 ∨ ∃ gl, ao = some ⟨gl, 0, none⟩ ∧ gl < w.heap.size ∧ ∀ j u, (shpP L)[j]? = some u → w.cell? ⟨gl, j, none⟩ = some u)
  pts : ∀ p ∈ L, ∃ g cap, p.1 = .slice (some ⟨g, 0, none⟩) p.2.length cap ∧ 0 < p.2.length ∧ PtsAt g p.2 w
theorem RowP.shown {b : Nat} {vl : Value} {L : List (Value × List (Int × Int))} {w : World} (h : RowP b vl L w) (hn : ∀ p ∈ L, 0 < p.2.length) : ShownP vl L w := by
  refine ⟨?_, fun p hp => ?_⟩
  · obtain ⟨ao, cap, e⟩ := own_len h.row
    refine ⟨ao, cap, e, ?_⟩
    rcases h.row.2 with ⟨_, h0⟩ | ⟨g, cap', cur, e', _, hg, _⟩
    · exact .inl h0
    · right
      have e2 : ao = some ⟨g, 0, none⟩ := by rw [e] at e'; injection e'
      refine ⟨g, e2, (Array.getElem?_eq_some_iff.1 hg).1, fun j u hu => ?_⟩
      have := h.row.cells (g := g) (by rw [e']; rfl) j u hu
      rwa [add_zero_at] at this
  · obtain ⟨g, cap, e, _, h2, _⟩ := own_at (h.pts p hp) (hn p hp)
    exact ⟨g, cap, e, hn p hp, h2⟩
theorem ShownP.on {vl : Value} {L : List (Value × List (Int × Int))} {w w' : World} (h : ShownP vl L w) (hb : Below w.heap.size w w') : ShownP vl L w' := by
  refine ⟨?_, fun p hp => ?_⟩
  · obtain ⟨ao, cap, e, h1⟩ := h.row
    refine ⟨ao, cap, e, h1.imp id ?_⟩
    rintro ⟨gl, e2, h3, h4⟩
    exact ⟨gl, e2, Nat.lt_of_lt_of_le h3 hb.size, fun j u hu => (hb.cell (p := ⟨gl, j, none⟩) h3).trans (h4 j u hu)⟩
  · obtain ⟨g, cap, e, h2, h4⟩ := h.pts p hp
    exact ⟨g, cap, e, h2, h4.on hb h4.1⟩
theorem shpP_at (L : List (Value × List (Int × Int))) : ∀ (j : Nat) (h : j < L.length), (shpP L)[j * 2]? = some L[j].1 ∧ (shpP L)[j * 2 + 1]? = some (.int .i64 (Qm.twiceOf L[j].2)) := by
  induction L with
  | nil => intro j h; simp at h
  | cons p L ih =>
    intro j h
    have e : shpP (p :: L) = p.1 :: .int .i64 (Qm.twiceOf p.2) :: shpP L := by simp [shpP]
    cases j with
    | zero => rw [e]; simp
    | succ j =>
      have := ih j (by simpa using h)
      rw [e, show (j + 1) * 2 = j * 2 + 1 + 1 from by omega, show j * 2 + 1 + 1 + 1 = (j * 2 + 1) + 1 + 1 from by omega]
      simpa using this

set_option maxRecDepth 4000 in
set_option maxHeartbeats 1000000 in
theorem sameShapes_any (vl vm : Value) (La Lm : List (Value × List (Int × Int))) (w : World) (hR : La.map (·.2) = Lm.map (·.2)) (ha : ShownP vl La w) (hb : ShownP vm Lm w) (hn1 : La.length ≤ 9223372036854775807) (hm1 : ∀ p ∈ La, p.2.length ≤ 9223372036854775807) :
    Calls Try.prog 29 #[vl, vm] w fun e w' => e = .returned (.bool true) ∧ Below w.heap.size w w' := by
  have hlen : La.length = Lm.length := by have := congrArg List.length hR; simpa using this
  obtain ⟨aa, ca, rfl, hra⟩ := ha.row
  obtain ⟨ab, cb, rfl, hrb⟩ := hb.row
  obtain ⟨n, hn⟩ : ∃ n, n = La.length := ⟨_, rfl⟩
  rw [← hlen] at hrb ⊢
  rw [← hn] at hra hrb hn1 ⊢
  have HM1 := hid hm1
  clear hm1
  have HN := hid hn
  have HLEN := hid hlen
  have HRA := hid hra
  have HRB := hid hrb
  have HA := hid ha.pts
  have HB := hid hb.pts
  have HR := hid hR
  clear hn hlen hra hrb ha hb hR
  go_enter Try.func29, Try.ntmps29
  go_wp2
  go_loopw [5] (fun iv wr => ∃ i : Nat, i ≤ n ∧ iv = .int .i64 i ∧ Below w.heap.size w wr) (fun i _ => n - (intOf i).toNat)
  case atStart => exact ⟨0, by omega, rfl, Below.refl _ _⟩
  case round =>
    obtain ⟨i, hin, rfl, hbl⟩ := hrel
    have BL := hid hbl
    clear hbl
    by_cases hlt : i < n
    · obtain ⟨ga, rfl, hga, hca⟩ := HRA.out.resolve_left (by omega)
      obtain ⟨gb, rfl, hgb, hcb⟩ := HRB.out.resolve_left (by omega)
      have hia : i < La.length := by have := HN.out; omega
      have hib : i < Lm.length := by have := HN.out; have := HLEN.out; omega
      have sa := shpP_at La i hia
      have sb := shpP_at Lm i hib
      have e2 : La[i].2 = Lm[i].2 := by
        have := congrArg (fun l => l[i]?) HR.out
        simpa [hia, hib] using this
      obtain ⟨pa, hpa⟩ : ∃ p, p = La[i] := ⟨_, rfl⟩
      obtain ⟨pb, hpb⟩ : ∃ p, p = Lm[i] := ⟨_, rfl⟩
      obtain ⟨g1, c1, v1, n1, t1⟩ := HA.out pa (by rw [hpa]; exact List.getElem_mem hia)
      obtain ⟨g2, c2, v2, n2, t2⟩ := HB.out pb (by rw [hpb]; exact List.getElem_mem hib)
      rw [← hpa] at sa e2
      rw [← hpb] at sb e2
      rw [← e2] at sb t2 v2 n2
      obtain ⟨m, hm⟩ : ∃ m, m = pa.2.length := ⟨_, rfl⟩
      have mb : m ≤ 9223372036854775807 := by rw [hm]; exact HM1.out pa (by rw [hpa]; exact List.getElem_mem hia)
      obtain ⟨tw, htw⟩ : ∃ tw, tw = Qm.twiceOf pa.2 := ⟨_, rfl⟩
      obtain ⟨ps, hps⟩ : ∃ ps, ps = pa.2 := ⟨_, rfl⟩
      have lps : ps.length = m := by rw [hps, hm]
      rw [← hps] at t1 t2
      rw [v1, ← htw] at sa
      rw [v2, ← htw] at sb
      rw [← hm] at sa sb n1
      have rd : ∀ wx : World, Below w.heap.size w wx → wx.cell? ⟨ga, i * 2, none⟩ = some (.slice (some ⟨g1, 0, none⟩) m c1) ∧ wx.cell? ⟨ga, i * 2 + 1, none⟩ = some (.int .i64 tw) ∧ wx.cell? ⟨gb, i * 2, none⟩ = some (.slice (some ⟨g2, 0, none⟩) m c2) ∧ wx.cell? ⟨gb, i * 2 + 1, none⟩ = some (.int .i64 tw) := fun wx hx =>
        ⟨(hx.cell (p := ⟨ga, i * 2, none⟩) hga).trans (hca _ _ sa.1), (hx.cell (p := ⟨ga, i * 2 + 1, none⟩) hga).trans (hca _ _ sa.2), (hx.cell (p := ⟨gb, i * 2, none⟩) hgb).trans (hcb _ _ sb.1), (hx.cell (p := ⟨gb, i * 2 + 1, none⟩) hgb).trans (hcb _ _ sb.2)⟩
      have RD := hid rd
      have T1 := hid t1
      have T2 := hid t2
      have LPS := hid lps
      have i0' : (0 : Int) ≤ (i : Nat) := by omega
      have i1' : ((i : Nat) : Int) < (n : Nat) := by omega
      clear rd t1 t2 sa sb hpa hpb hm htw hps v1 v2 hca hcb e2 lps n2
      obtain ⟨r0, r1, r2, r3⟩ := RD.out _ BL.out
      go_wp2_with fail
      go_quiet (fail)
      go_wp2
      go_loopw [6] (fun kv wr => ∃ k : Nat, k ≤ m ∧ kv = .int .i64 k ∧ Below w.heap.size w wr) (fun k _ => m - (intOf k).toNat)
      case atStart => exact ⟨0, by omega, rfl, BL.out.trans ⟨rfl, rfl, rfl, Nat.le_refl _, fun _ _ => rfl⟩⟩
      case round =>
        clear r0 r1 r2 r3 BL
        obtain ⟨k, hkm, rfl, hbl⟩ := hrel
        have BL := hid hbl
        clear hbl
        obtain ⟨r0, r1, r2, r3⟩ := RD.out _ BL.out
        by_cases hk : k < m
        · obtain ⟨x0, x1⟩ := (T1.out.on BL.out T1.out.1).2 k (by have := LPS.out; omega)
          obtain ⟨y0, y1⟩ := (T2.out.on BL.out T2.out.1).2 k (by have := LPS.out; omega)
          obtain ⟨⟨px, py⟩, hpp⟩ : ∃ p, p = ps.getD k (0, 0) := ⟨_, rfl⟩
          rw [← hpp] at x0 x1 y0 y1
          dsimp only at x0 x1 y0 y1
          have k0' : (0 : Int) ≤ (k : Nat) := by omega
          have k1' : ((k : Nat) : Int) < (m : Nat) := by omega
          clear hpp
          go_wp2_with fail
          go_quiet (fail)
          go_wp2
          go_roundw
          case rel => exact ⟨k + 1, by omega, by go_num, BL.out.trans ⟨rfl, rfl, rfl, Nat.le_refl _, fun _ _ => rfl⟩⟩
          case measure => simp [intOf]; omega
        · have hk' : ((m : Nat) : Int) ≤ (k : Nat) := by omega
          go_wp2
          go_roundw
          case rel => exact ⟨i + 1, by omega, by go_num, BL.out⟩
          case measure => simp [intOf]; omega
    · have hk' : ((n : Nat) : Int) ≤ (i : Nat) := by omega
      go_wp2
      go_ret
      exact ⟨rfl, BL.out⟩
end Go.Proofs.Ytgapfjjdccohkaa

/- outlinelaw: keep: lists of shapes of any points: what holds in its first loop. -/
namespace Go.Proofs.Ytgapfjjdccohkaa
open Go.RowKit

/-- What holds when the first i lists of points have been kept. -/
structure KIp (kb N : Nat) (vp vs : Value) (P S : List Rec) (L : List (Value × List (Int × Int))) (w : World) (i : Nat) (vp' : Value) (P' : List Rec) (wr : World) : Prop where
  ob : OBook kb (N + i) vp' vs P' S wr
  fr : Fr (fun k => k = kb ∨ vp.ownBlock = some k ∨ ∃ p ∈ L.take i, p.1.ownBlock = some k) w wr
  vpb : vp'.ownBlock = vp.ownBlock ∨ ∃ q, vp'.ownBlock = some q ∧ w.heap.size ≤ q
  recs : ∀ r ∈ P', r ∈ P ∨ ∀ u ∈ r.all, ∀ k, u.ownBlock = some k → (∃ p ∈ L.take i, p.1.ownBlock = some k) ∨ w.heap.size ≤ k

section
variable {kb N : Nat} {vp vs : Value} {P S : List Rec} {b : Nat} {vl : Value} {L : List (Value × List (Int × Int))} {w : World} {i : Nat} {vp' : Value} {P' : List Rec} {wr : World}

theorem KIp.start (h : OBook kb N vp vs P S w) : KIp kb N vp vs P S L w 0 vp P w := ⟨h, Fr.refl _ _, .inl rfl, fun _ hr => .inl hr⟩

theorem takeP_apart (hR : RowP b vl L w) (hi : i < L.length) : ∀ p ∈ L.take i, ∀ k, p.1.ownBlock = some k → L[i].1.ownBlock ≠ some k := by
  intro p hp k hk e
  have ap := (List.pairwise_cons.1 hR.apart).2
  obtain ⟨j, hj, hj2, e2⟩ := mem_take_getD (d := p) hp
  have := List.pairwise_iff_getElem.1 ap j i (by simpa using hj2) (by simpa using hi) hj
  simp only [List.getElem_map] at this
  have e3 : L[j] = p := by rw [← e2, List.getD_eq_getElem?_getD, List.getElem?_eq_getElem hj2]; rfl
  rw [e3, hk, e] at this
  simp at this

theorem KIp.ready (h : KIp kb N vp vs P S L w i vp' P' wr) (hR : RowP b vl L w) (hn : ∀ p ∈ L, 0 < p.2.length) (hA : ∀ p ∈ L, Ap kb vp vs P S p.1) (hi : i < L.length) :
    ∃ gv cap, L[i].1 = .slice (some ⟨gv, 0, none⟩) L[i].2.length cap ∧ wr.ownsRow 0 47 2 (.slice (some ⟨gv, 0, none⟩) L[i].2.length cap) L[i].2.length (Qm.ptsV (L[i].2)) ∧ gv ≠ kb ∧ vp'.ownBlock ≠ some gv ∧ vs.ownBlock ≠ some gv ∧ ∀ r, r ∈ P' ∨ r ∈ S → ∀ u ∈ r.all, u.ownBlock ≠ some gv := by
  have hm := List.getElem_mem hi
  obtain ⟨gv, cap, e, _, hp, _⟩ := own_at (hR.pts _ hm) (hn _ hm)
  have ob : L[i].1.ownBlock = some gv := by rw [e]; rfl
  have ap := hA _ hm gv ob
  have ta := fun p hp k hk => takeP_apart (i := i) hR hi p hp k hk
  have gz : gv < w.heap.size := hp.1
  have o := hR.pts _ hm
  have o2 := own_fr o h.fr (fun k hk hc => by
    rw [ob] at hk; injection hk with hk; subst hk
    rcases hc with hc | hc | ⟨p, hp, hc⟩
    · exact ap.1 hc
    · exact ap.2.1 hc
    · exact ta p hp _ hc ob)
  rw [e] at o2
  refine ⟨gv, cap, e, o2.mono (Nat.zero_le _), ap.1, ?_, ap.2.2.1, ?_⟩
  · intro hc
    rcases h.vpb with hv | ⟨q, hv, hq⟩
    · exact ap.2.1 (hv ▸ hc)
    · rw [hv] at hc; injection hc with hc; omega
  · rintro r (hr | hr) u hu hc
    · rcases h.recs r hr with h1 | h1
      · exact ap.2.2.2 r (.inl h1) u hu hc
      · rcases h1 u hu gv hc with ⟨p, hp, h2⟩ | h2
        · exact ta p hp _ h2 ob
        · omega
    · exact ap.2.2.2 r (.inr hr) u hu hc

theorem KIp.step (h : KIp kb N vp vs P S L w i vp' P' wr) (hi : i < L.length) {gv : Nat} (hg : L[i].1.ownBlock = some gv) {w2 : World} {vp2 : Value} {r : Rec} (ho : OBook kb (N + i + 1) vp2 vs (P' ++ [r]) S w2) (hf : Fr (fun k => k = kb ∨ vp'.ownBlock = some k ∨ k = gv) wr w2)
    (hv : vp2.ownBlock = vp'.ownBlock ∨ ∃ q, vp2.ownBlock = some q ∧ wr.heap.size ≤ q) (hr : ∀ u ∈ r.all, ∀ k, u.ownBlock = some k → k = gv ∨ wr.heap.size ≤ k) : KIp kb N vp vs P S L w (i + 1) vp2 (P' ++ [r]) w2 := by
  have z := h.fr.size
  have sub : ∀ k, (∃ p ∈ L.take i, p.1.ownBlock = some k) → ∃ p ∈ L.take (i + 1), p.1.ownBlock = some k := fun k ⟨p, hp, e⟩ => ⟨p, by rw [List.take_succ_eq_append_getElem hi]; exact List.mem_append_left _ hp, e⟩
  have here : ∃ p ∈ L.take (i + 1), p.1.ownBlock = some gv := ⟨L[i], by rw [List.take_succ_eq_append_getElem hi]; exact List.mem_append_right _ (List.mem_singleton.2 rfl), hg⟩
  refine ⟨ho, ⟨hf.os.trans h.fr.os, hf.tape.trans h.fr.tape, hf.output.trans h.fr.output, Nat.le_trans z hf.size, fun k hk hc => ?_⟩, ?_, ?_⟩
  · refine (hf.block k (by omega) fun hc2 => hc ?_).trans (h.fr.block k hk fun hc2 => hc ?_)
    · rcases hc2 with e | e | e
      · exact .inl e
      · rcases h.vpb with e2 | ⟨q, e2, hq⟩
        · exact .inr (.inl (e2 ▸ e))
        · rw [e2] at e; injection e with e; omega
      · subst e; exact .inr (.inr here)
    · exact hc2.imp id (fun h => h.imp id (sub k))
  · rcases hv with e | ⟨q, e, hq⟩
    · rw [e]; exact h.vpb
    · exact .inr ⟨q, e, by omega⟩
  · intro q hq
    rcases List.mem_append.1 hq with hq | hq
    · exact (h.recs q hq).imp id (fun h u hu k hk => (h u hu k hk).imp (sub k) id)
    · rw [List.mem_singleton] at hq; subst hq
      right
      intro u hu k hk
      rcases hr u hu k hk with e | e
      · subst e; exact .inl here
      · exact .inr (by omega)
end

/-- The row of shapes lies apart from the points of its shapes, and from the book as it has become. -/
theorem KIp.apl {kb N : Nat} {vp vs : Value} {P S : List Rec} {b : Nat} {vl : Value} {L : List (Value × List (Int × Int))} {w : World} {i : Nat} {vp' : Value} {P' : List Rec} {wr : World} (h : KIp kb N vp vs P S L w i vp' P' wr) (hR : RowP b vl L w) (hA : Ap kb vp vs P S vl) :
    Ap kb vp' vs P' S vl ∧ (∀ k, vl.ownBlock = some k → ¬ (k = kb ∨ vp.ownBlock = some k ∨ ∃ p ∈ L.take i, p.1.ownBlock = some k)) := by
  have pl : ∀ p ∈ L, ∀ k, vl.ownBlock = some k → p.1.ownBlock ≠ some k := fun p hp k hk e => by
    rcases (List.pairwise_cons.1 hR.apart).1 p.1 (List.mem_map_of_mem hp) with h | h
    · rw [hk] at h; cases h
    · exact h (hk.trans e.symm)
  have lt : ∀ k, vl.ownBlock = some k → k < w.heap.size := fun k hk => (hR.row.lt k hk).2
  refine ⟨fun k hk => ⟨(hA k hk).1, ?_, (hA k hk).2.2.1, ?_⟩, fun k hk hc => ?_⟩
  · intro e
    rcases h.vpb with e2 | ⟨q, e2, hq⟩
    · exact (hA k hk).2.1 (e2 ▸ e)
    · rw [e2] at e; injection e with e; have := lt k hk; omega
  · rintro r (hr | hr) u hu e
    · rcases h.recs r hr with h1 | h1
      · exact (hA k hk).2.2.2 r (.inl h1) u hu e
      · rcases h1 u hu k e with ⟨p, hp, h2⟩ | h2
        · exact pl p (List.mem_of_mem_take hp) k hk h2
        · have := lt k hk; omega
    · exact (hA k hk).2.2.2 r (.inr hr) u hu e
  · rcases hc with hc | hc | ⟨p, hp, hc⟩
    · exact (hA k hk).1 hc
    · exact (hA k hk).2.1 hc
    · exact pl p (List.mem_of_mem_take hp) k hk hc

theorem shpP_pair (L : List (Value × List (Int × Int))) : shpP L = pairV (L.map fun p => (p.1, Qm.twiceOf p.2)) := by simp [shpP, pairV, List.flatMap_map]
theorem Rowed.rowP {f : Qm.Sd → Qm.Sd} {b : Nat} {vl : Value} {L : List (Value × (Qm.Sd × Nat))} {w : World} (h : Rowed f b vl L w) : RowP b vl (L.map fun p => (p.1, Qm.ptsOf f p.2)) w := by
  refine ⟨?_, ?_, ?_⟩
  · have e : shpP (L.map fun p => (p.1, Qm.ptsOf f p.2)) = shpV f L := by simp [shpP, shpV, List.flatMap_map]
    rw [e, List.length_map]; exact h.row
  · intro q hq
    obtain ⟨p, hp, rfl⟩ := List.mem_map.1 hq
    have := h.pts p hp
    simp only [Qm.ptsOf_len]; exact this
  · have := h.apart
    simpa [List.map_map, Function.comp_def] using this
end Go.Proofs.Ytgapfjjdccohkaa

/- outlinelaw: keep, of lists of shapes of any points. -/
namespace Go.Proofs.Ytgapfjjdccohkaa
open Go.RowKit
attribute [local go_sem ↓] Go.wp_at_zero Go.wp_at_succ

theorem infoShpsP : (Try.prog.info? 70).map (fun i => (i.zero, i.size, i.bytes)) = some (some (.agg #[.slice none 0 0, .slice none 0 0, .slice none 0 0, .slice none 0 0, .int .i64 0]), 5, 104) := by kernel_rfl

set_option maxRecDepth 4000 in
set_option maxHeartbeats 2000000 in
theorem keepP_any (b : Nat) (vl : Value) (L : List (Value × List (Int × Int))) (kb N : Nat) (vp vs : Value) (P S : List Rec) (w : World) (hO : OBook kb N vp vs P S w) (hR : RowP b vl L w) (hn : ∀ p ∈ L, 0 < p.2.length) (hn2 : ∀ p ∈ L, p.2.length ≤ 1000000000) (hLn : L.length ≤ 100000000) (hN : N ≤ 1000000000)
    (hA : ∀ p ∈ L, Ap kb vp vs P S p.1) (hAl : Ap kb vp vs P S vl) :
    Calls Try.prog 33 #[.pointer (some ⟨kb, 0, none⟩), vl] w fun e w' => e = .returned (.bool true) ∧ ∃ N' vp' vs' P' S', OBook kb N' vp' vs' P' S' w' ∧ N' ≤ N + L.length + 1 ∧ Fr (fun k => k = kb ∨ vp.ownBlock = some k ∨ vs.ownBlock = some k ∨ vl.ownBlock = some k ∨ ∃ p ∈ L, p.1.ownBlock = some k) w w' := by
  obtain ⟨i0, hi, hz0, hz1, hz2⟩ := info_parts infoShape
  obtain ⟨ip, hip, hzp0, hzp1, hzp2⟩ := info_parts infoShpsP
  obtain ⟨ao, cap, hvl⟩ := own_len hR.row
  have K00 := hid (KIp.start (L := L) hO)
  have HR := hid hR
  have HN := hid hn
  have HN2 := hid hn2
  have HA := hid hA
  have HAL := hid hAl
  have HV := hid hvl
  obtain ⟨n, en⟩ : ∃ n, n = L.length := ⟨_, rfl⟩
  rw [hvl, ← en]
  have EN := hid en
  have nb : n ≤ 100000000 := by omega
  clear hO hR hn hn2 hA hAl hvl en hLn
  go_enter Try.func33, Try.ntmps33
  go_wp2
  go_loopw [5] (fun iv wr => ∃ (i : Nat) (vp' : Value) (P' : List Rec), i ≤ n ∧ iv = .int .i64 i ∧ Hid (KIp kb N vp vs P S L w i vp' P' wr)) (fun i _ => n - (intOf i).toNat)
  case atStart => exact ⟨0, vp, P, by omega, rfl, K00⟩
  case round =>
    clear K00
    obtain ⟨i, vp', P', hin, rfl, h⟩ := hrel
    have apl := h.out.apl HR.out HAL.out
    have row := own_fr HR.out.row h.out.fr apl.2
    have APL := hid apl.1
    have ROW := hid row
    clear apl row
    by_cases hlt : i < n
    · have hiL : i < L.length := by have := EN.out; omega
      obtain ⟨gl, capl, hv2, hcells⟩ := own_src ROW.out (by have := EN.out; omega)
      have e1 : ao = some ⟨gl, 0, none⟩ := by have := HV.out.symm.trans hv2; injection this
      subst e1
      obtain ⟨gv, capv, ev, ov, b1, b2, b3, b4⟩ := h.out.ready HR.out HN.out HA.out hiL
      have sc := (shpP_at L i hiL).1
      rw [ev] at sc
      have c := hcells _ _ sc
      rw [add_zero_at] at c
      have m2 := HN2.out _ (List.getElem_mem hiL)
      obtain ⟨m, em⟩ : ∃ m, m = L[i].2.length := ⟨_, rfl⟩
      obtain ⟨ps, eps⟩ : ∃ ps, ps = L[i].2 := ⟨_, rfl⟩
      have lps := hid (show ps.length = m by rw [eps, em])
      rw [← em] at c ov m2
      rw [← eps] at ov
      have HG := hid (show L[i].1.ownBlock = some gv by rw [ev]; rfl)
      have OV := hid ov
      have B4 := hid b4
      have i0' : (0 : Int) ≤ (i : Nat) := by omega
      have i1' : ((i : Nat) : Int) < (n : Nat) := by omega
      clear hv2 hcells ev ov b4 sc em eps
      go_wp2_with fail
      refine (mine_any kb (N + i) vp' vs P' S gv m capv ps _ h.out.ob OV.out lps.out (by omega) m2 b1 b2 b3 B4.out).mono ?_
      rintro e w2 ⟨rfl, vp2, r, ho, hf, hv, hr⟩
      have NX := hid (h.out.step hiL HG.out ho hf hv hr)
      clear ho hf hv hr
      go_wp2
      go_roundw
      case rel => exact ⟨i + 1, vp2, P' ++ [r], by omega, by go_num, NX⟩
      case measure => simp [intOf]; omega
    · have hk' : ((n : Nat) : Int) ≤ (i : Nat) := by omega
      have ei : i = n := by omega
      go_wp2_with fail
      refine (looks_any kb _ vp' vs P' S _ h.out.ob.book).mono ?_
      rintro e w1 ⟨rfl, bl⟩
      have OB := hid (h.out.ob.below bl)
      have R1 := hid (own_below ROW.out bl)
      have FR := hid (show Fr (fun k => k = kb ∨ vp.ownBlock = some k ∨ ∃ p ∈ L, p.1.ownBlock = some k) w w1 from (h.out.fr.imp (fun k _ hk => hk.imp id (fun hk => hk.imp id (fun ⟨p, hp, e⟩ => ⟨p, List.mem_of_mem_take hp, e⟩)))).trans (Fr.below bl))
      have VPB := hid h.out.vpb
      rw [shpP_pair] at R1
      obtain ⟨l0, el0⟩ : ∃ l0, l0 = L.map (fun p => (p.1, Qm.twiceOf p.2)) := ⟨_, rfl⟩
      rw [← el0, ← EN.out] at R1
      have LL := hid (show l0.length = n by rw [el0, List.length_map, EN.out])
      rw [HV.out, ← EN.out] at R1 APL
      obtain ⟨M, eM⟩ : ∃ M, M = N + i := ⟨_, rfl⟩
      rw [← eM] at OB
      have hM : M ≤ 1100000000 := by omega
      have EM := hid eM
      clear bl h ROW el0 eM
      obtain ⟨kz, c0, c1, c2, fz⟩ := (show KB kb M vp' vs w1 from ⟨OB.out.lt, OB.out.c0, OB.out.c1, OB.out.c2, OB.out.fz⟩)
      have f0 := fz 0
      obtain ⟨mk, hmk⟩ : ∃ mk : Int, (1000 : Int) + ((M : Int) + 1) = mk := ⟨_, rfl⟩
      have mk1 : 0 ≤ mk ∧ mk ≤ 4000000000 := by omega
      have VKB := hid (show (Value.slice ao n cap).ownBlock ≠ some kb from fun e => (APL.out kb e).1 rfl)
      go_wp2
      have K0 : KB kb (M + 1) vp' vs (w1.setCell ⟨kb, 0, none⟩ (.int .i64 ((M : Int) + 1))) := KB.set0 (N := M) ⟨kz, c0, c1, c2, fz⟩ (M + 1)
      have HK0 := hid K0
      have VLT0 := hid (show ∀ k, (Value.slice ao n cap).ownBlock = some k → k < w1.heap.size from fun k hk => (R1.out.lt k hk).2)
      have hO0 := hid (show (w1.setCell ⟨kb, 0, none⟩ (.int .i64 ((M : Int) + 1))).ownsRow 0 43 2 (.slice ao n cap) n (pairV (fillP l0 (nilS, mk) 0)) by
        have := own_fr (C := fun k => k = kb) R1.out (w' := (w1.setCell ⟨kb, 0, none⟩ (.int .i64 ((M : Int) + 1)))) (Fr.set rfl) (fun k hk hc => by subst hc; exact VKB.out hk)
        have := this.mono (base' := 0) (Nat.zero_le _)
        simpa [fillP] using this)
      clear K0
      go_loopw [7] (fun iv wr => ∃ i : Nat, i ≤ n ∧ iv = .int .i64 i ∧ Hid (wr.ownsRow 0 43 2 (.slice ao n cap) n (pairV (fillP l0 (nilS, mk) i))) ∧ Hid (Fr (fun k => k = kb ∨ (Value.slice ao n cap).ownBlock = some k) w1 wr) ∧ Hid (KB kb (M + 1) vp' vs wr)) (fun i _ => n - (intOf i).toNat)
      case atStart => exact ⟨0, by omega, rfl, hO0, Fr.set (.inl rfl), HK0⟩
      case round =>
        clear hO0 HK0 c0 c1 c2 f0 fz
        obtain ⟨i, hin, rfl, ho, hf, hK⟩ := hrel
        obtain ⟨kz', c0, c1, c2, fz⟩ := hK.out
        have c0' : wr.cell? ⟨kb, 0, none⟩ = some (.int .i64 ((M : Int) + 1)) := c0
        clear c0
        by_cases hlt : i < n
        · have lf := fillP_len l0 (nilS, mk) i (by rw [LL.out]; omega)
          obtain ⟨gl, capl, hv2, _⟩ := own_src ho.out (by omega)
          have e1 : ao = some ⟨gl, 0, none⟩ := by injection hv2
          subst e1
          have pa := pairV_at (nilS, mk) (fillP l0 (nilS, mk) i) i (by rw [lf, LL.out]; exact hlt)
          have q0 := ho.out.cells (g := gl) rfl _ _ pa.1
          have q1 := ho.out.cells (g := gl) rfl _ _ pa.2
          rw [add_zero_at] at q0 q1
          have r0 := own_frozen ho.out (i * 2)
          have r1 := own_frozen ho.out (i * 2 + 1)
          have o2 := own_set (own_set ho.out (i * 2) nilS) (i * 2 + 1) (.int .i64 mk)
          rw [pairV_set _ (nilS, mk) i (by rw [lf, LL.out]; exact hlt), fillP_succ _ _ _ (by rw [LL.out]; exact hlt)] at o2
          have O2 := hid o2
          have i0' : (0 : Int) ≤ (i : Nat) := by omega
          have i1' : ((i : Nat) : Int) < (n : Nat) := by omega
          have nbk : gl ≠ kb := fun e => VKB.out (by rw [e]; rfl)
          clear pa lf o2 fz hv2
          go_wp2
          go_roundw
          case rel => exact ⟨i + 1, by omega, by go_num, O2, hf.out.trans ((Fr.set (.inr rfl)).trans (Fr.set (.inr rfl))), (hK.out.set _ nbk).set _ nbk⟩
          case measure => simp [intOf]; omega
        · have hk'' : ((n : Nat) : Int) ≤ (i : Nat) := by omega
          have ho2 := ho.out
          rw [show i = n by omega, show fillP l0 (nilS, mk) n = List.replicate n (nilS, mk) by unfold fillP; rw [List.drop_eq_nil_of_le (by rw [LL.out]; exact Nat.le_refl _), List.append_nil]] at ho2
          have HO2 := hid ho2
          have zf := hf.out.size
          have VLT := hid (show ∀ k, (Value.slice ao n cap).ownBlock = some k → k < wr.heap.size from fun k hk => Nat.lt_of_lt_of_le (VLT0.out k hk) zf)
          clear ho2 ho fz
          obtain ⟨X, hX⟩ : ∃ X, X = wr.alloc (.cells #[nilS, .int .i64 mk] 43) := ⟨_, rfl⟩
          have xs : X.heap.size = wr.heap.size + 1 := by rw [hX]; simp
          have x0 : X.cell? ⟨wr.heap.size, 0, none⟩ = some nilS := by rw [hX]; simp
          have x1 : X.cell? ⟨wr.heap.size, 1, none⟩ = some (.int .i64 mk) := by rw [hX]; simp
          have OX := hid (show X.ownsRow 0 43 2 (.slice ao n cap) n (pairV (List.replicate n (nilS, mk))) by rw [hX]; exact HO2.out.alloc _)
          have KX := hid (show KB kb (M + 1) vp' vs X by rw [hX]; exact hK.out.of (Below.heap_alloc _ _ _ kz') (by simp))
          have FX := hid (show Fr (fun k => k = kb ∨ (Value.slice ao n cap).ownBlock = some k) w1 X by rw [hX]; exact hf.out.trans (Fr.below ((Below.refl _ _).alloc (Nat.le_refl _) _)))
          have XS := hid xs
          have HX := hid hX
          clear xs hX
          go_wp2_with (first
            | (at_builtin; rw [← HX.out]; refine wpList_append_keeps rfl _ _ 35 rfl 0 43 i0 (.agg #[.slice none 0 0, .int .i64 0]) 2 32 Try.underlying35 hi hz0 hz1 hz2 rfl (by decide) _ _ _ rfl (OX.out.alloc _) ⟨_, 0, none⟩ 1 1 [nilS, .int .i64 mk] rfl rfl (new_at _ _ _ _ (by first | rfl | exact XS.out.symm)) (markS_one mk 1) (by unfold maxLen; omega) (by omega) (Nat.zero_le _) ?_))
          intro v1 y1 O1 G1 A1 V1 H1
          have z1 : X.heap.size < y1.heap.size := by have := G1.out.size; simp at this; omega
          have K1 := hid ((KB.of KX.out (w' := X.alloc _) (Below.heap_alloc _ (.cells #[nilS, .int .i64 mk] 43) _ KX.out.1) (by simp)).gb G1.out VKB.out)
          have F1 := hid (show Fr (fun k => k = kb ∨ (Value.slice ao n cap).ownBlock = some k) w1 y1 from FX.out.trans ((Fr.below ((Below.refl _ _).alloc (Nat.le_refl _) (.cells #[nilS, .int .i64 mk] 43))).trans (Fr.grown G1.out (fun q hq _ => .inr hq))))
          have x01 : y1.cell? ⟨wr.heap.size, 0, none⟩ = some nilS := (World.cell?_of_block (a := ⟨wr.heap.size, 0, none⟩) (G1.out.block wr.heap.size (by simp; have := XS.out; omega) (fun e => by have := VLT.out _ e.symm; omega))).trans ((World.cell?_of_block (a := ⟨wr.heap.size, 0, none⟩) (Below.heap_alloc X _ _ (by have := XS.out; show wr.heap.size < _; omega))).trans x0)
          have x11 : y1.cell? ⟨wr.heap.size, 1, none⟩ = some (.int .i64 mk) := (World.cell?_of_block (a := ⟨wr.heap.size, 1, none⟩) (G1.out.block wr.heap.size (by simp; have := XS.out; omega) (fun e => by have := VLT.out _ e.symm; omega))).trans ((World.cell?_of_block (a := ⟨wr.heap.size, 1, none⟩) (Below.heap_alloc X _ _ (by have := XS.out; show wr.heap.size < _; omega))).trans x1)
          obtain ⟨g1, cap1, hv1, _⟩ := own_src O1.out (by omega)
          subst hv1
          have M1 := hid (own_mkS (n := n + 1) (mark := mk) (by rw [markS_app]; exact O1.out))
          clear HX
          go_wp2_with (first
            | (at_builtin; refine wpList_append_keeps rfl _ _ 35 rfl 0 43 i0 (.agg #[.slice none 0 0, .int .i64 0]) 2 32 Try.underlying35 hi hz0 hz1 hz2 rfl (by decide) _ _ _ rfl (V1.out.alloc _) ⟨_, 0, none⟩ 2 2 [nilS, .int .i64 mk, nilS, .int .i64 mk] rfl rfl (new_at _ _ _ _ (by first | rfl | exact XS.out.symm)) (markS_one mk 2) (by unfold maxLen; omega) (by omega) (Nat.zero_le _) ?_))
          intro v2 y2 O2 G2 A2 V2 H2
          have z2 : y1.heap.size < y2.heap.size := by have := G2.out.size; simp at this; omega
          have K2 := hid ((KB.of K1.out (w' := y1.alloc _) (Below.heap_alloc _ (.cells #[nilS, .int .i64 mk, nilS, .int .i64 mk] 43) _ K1.out.1) (by simp)).gb G2.out VKB.out)
          have F2 := hid (show Fr (fun k => k = kb ∨ (Value.slice ao n cap).ownBlock = some k) w1 y2 from F1.out.trans ((Fr.below ((Below.refl _ _).alloc (Nat.le_refl _) (.cells #[nilS, .int .i64 mk, nilS, .int .i64 mk] 43))).trans (Fr.grown G2.out (fun q hq _ => .inr hq))))
          have x02 : y2.cell? ⟨wr.heap.size, 0, none⟩ = some nilS := (World.cell?_of_block (a := ⟨wr.heap.size, 0, none⟩) (G2.out.block wr.heap.size (by simp; have := XS.out; omega) (fun e => by have := VLT.out _ e.symm; omega))).trans ((World.cell?_of_block (a := ⟨wr.heap.size, 0, none⟩) (Below.heap_alloc y1 _ _ (by have := XS.out; show wr.heap.size < _; omega))).trans x01)
          have x12 : y2.cell? ⟨wr.heap.size, 1, none⟩ = some (.int .i64 mk) := (World.cell?_of_block (a := ⟨wr.heap.size, 1, none⟩) (G2.out.block wr.heap.size (by simp; have := XS.out; omega) (fun e => by have := VLT.out _ e.symm; omega))).trans ((World.cell?_of_block (a := ⟨wr.heap.size, 1, none⟩) (Below.heap_alloc y1 _ _ (by have := XS.out; show wr.heap.size < _; omega))).trans x11)
          obtain ⟨g2, cap2, hv2, _⟩ := own_src O2.out (by omega)
          subst hv2
          have M2 := hid (own_mkS (n := n + 2) (mark := mk) (by rw [markS_app]; exact O2.out))
          go_wp2_with (first
            | (at_builtin; refine wpList_append_keeps rfl _ _ 35 rfl 0 43 i0 (.agg #[.slice none 0 0, .int .i64 0]) 2 32 Try.underlying35 hi hz0 hz1 hz2 rfl (by decide) _ _ _ rfl (V2.out.alloc _) ⟨_, 0, none⟩ 3 3 [nilS, .int .i64 mk, nilS, .int .i64 mk, nilS, .int .i64 mk] rfl rfl (new_at _ _ _ _ (by first | rfl | exact XS.out.symm)) (markS_one mk 3) (by unfold maxLen; omega) (by omega) (Nat.zero_le _) ?_))
          intro v3 y3 O3 G3 A3 V3 H3
          have z3 : y2.heap.size < y3.heap.size := by have := G3.out.size; simp at this; omega
          have K3 := hid ((KB.of K2.out (w' := y2.alloc _) (Below.heap_alloc _ (.cells #[nilS, .int .i64 mk, nilS, .int .i64 mk, nilS, .int .i64 mk] 43) _ K2.out.1) (by simp)).gb G3.out VKB.out)
          have F3 := hid (show Fr (fun k => k = kb ∨ (Value.slice ao n cap).ownBlock = some k) w1 y3 from F2.out.trans ((Fr.below ((Below.refl _ _).alloc (Nat.le_refl _) (.cells #[nilS, .int .i64 mk, nilS, .int .i64 mk, nilS, .int .i64 mk] 43))).trans (Fr.grown G3.out (fun q hq _ => .inr hq))))
          have x03 : y3.cell? ⟨wr.heap.size, 0, none⟩ = some nilS := (World.cell?_of_block (a := ⟨wr.heap.size, 0, none⟩) (G3.out.block wr.heap.size (by simp; have := XS.out; omega) (fun e => by have := VLT.out _ e.symm; omega))).trans ((World.cell?_of_block (a := ⟨wr.heap.size, 0, none⟩) (Below.heap_alloc y2 _ _ (by have := XS.out; show wr.heap.size < _; omega))).trans x02)
          have x13 : y3.cell? ⟨wr.heap.size, 1, none⟩ = some (.int .i64 mk) := (World.cell?_of_block (a := ⟨wr.heap.size, 1, none⟩) (G3.out.block wr.heap.size (by simp; have := XS.out; omega) (fun e => by have := VLT.out _ e.symm; omega))).trans ((World.cell?_of_block (a := ⟨wr.heap.size, 1, none⟩) (Below.heap_alloc y2 _ _ (by have := XS.out; show wr.heap.size < _; omega))).trans x12)
          obtain ⟨g3, cap3, hv3, _⟩ := own_src O3.out (by omega)
          subst hv3
          have M3 := hid (own_mkS (n := n + 3) (mark := mk) (by rw [markS_app]; exact O3.out))
          have M23 := hid (Mk.appS (n := n) (m := 3) (M2.out.call ((Below.refl _ _).alloc (Nat.le_refl _) _)) G3.out H3.out)
          have M12 := hid (Mk.appS (n := n) (m := 2) (M1.out.call ((Below.refl _ _).alloc (Nat.le_refl _) _)) G2.out H2.out)
          have M13 := hid (Mk.appS (n := n) (m := 3) (M12.out.call ((Below.refl _ _).alloc (Nat.le_refl _) _)) G3.out H3.out)
          have M03 := hid (own_mkS V3.out)
          have hOP := own_fr OB.out.so F3.out (fun k hk => by
            intro hc
            rcases hc with hc | hc
            · subst hc; exact OB.out.a2 hk
            · exact (APL.out k hc).2.2.1 hk)
          have OP := hid hOP
          obtain ⟨kz3, e0, e1, e2, ef⟩ := K3.out
          have e0' : y3.cell? ⟨kb, 0, none⟩ = some (.int .i64 ((M : Int) + 1)) := e0
          have few := OB.out.few
          have n1 : S.length + 1 ≤ maxLen := by unfold maxLen; omega
          have n2 : (S.length + 1) * 104 ≤ 140737488355328 := by omega
          have wm : IntKind.i64.wrap mk = mk := by rw [IntKind.wrap_i64]; omega
          clear hOP e0 ef c0' c1 c2 x0 x1 x01 x11 x02 x12 x03 x13
          go_wp2_with fail
          go_region_law
            ((refine step_append_lies _ (by rfl) _ _ _ (by rfl) 0 70 ip (.agg #[.slice none 0 0, .slice none 0 0, .slice none 0 0, .slice none 0 0, .int .i64 0]) 5 104 Try.underlying28 hip hzp0 hzp1 hzp2 rfl (by omega) vs S.length (recsV S) (by rfl) ((OP.out.alloc _).drew) ⟨y3.heap.size, 0, none⟩ 1 1 [.slice ao n cap, .slice (some ⟨g1, 0, none⟩) (n + 1) cap1, .slice (some ⟨g2, 0, none⟩) (n + 2) cap2, .slice (some ⟨g3, 0, none⟩) (n + 3) cap3, .int .i64 mk] (by rfl) (by rfl) (World.news_of_block (cs := #[.slice ao n cap, .slice (some ⟨g1, 0, none⟩) (n + 1) cap1, .slice (some ⟨g2, 0, none⟩) (n + 2) cap2, .slice (some ⟨g3, 0, none⟩) (n + 3) cap3, .int .i64 mk]) (t := 70) (fr := (0, 0)) (heap_alloc_new y3 _)) (by simp [Value.oneCell']) (by omega) n1 n2 (Nat.zero_le _) (y3.heap.size + 1) (by simp) ?_; intro gg capg w4 O4 G4 A4 hlt4; have K4 := hid (show KB kb (M + 1) vp' vs w4 from ((K3.out.of (w' := y3.alloc _) (Below.heap_alloc _ (.cells #[.slice ao n cap, .slice (some ⟨g1, 0, none⟩) (n + 1) cap1, .slice (some ⟨g2, 0, none⟩) (n + 2) cap2, .slice (some ⟨g3, 0, none⟩) (n + 3) cap3, .int .i64 mk] 70) _ K3.out.1) (by simp)).of (w' := (y3.alloc _).drew) rfl (Nat.le_refl _)).gb G4 OB.out.a2); have k42 := K4.out.2.2.2.1; have k4f := K4.out.2.2.2.2 2))
          all_goals go_wp2
          all_goals go_ret
          all_goals
            have e1 : (Value.slice ao n cap).ownBlock = some g1 ∨ w1.heap.size ≤ g1 := by
              rcases A1.out with h | h
              · left; rw [← h]; rfl
              · right; simp [Value.ownBlock] at h; have := XS.out; omega
            have e2 : (Value.slice ao n cap).ownBlock = some g2 ∨ w1.heap.size ≤ g2 := by
              rcases A2.out with h | h
              · left; rw [← h]; rfl
              · right; simp [Value.ownBlock] at h; have := XS.out; omega
            have e3 : (Value.slice ao n cap).ownBlock = some g3 ∨ w1.heap.size ≤ g3 := by
              rcases A3.out with h | h
              · left; rw [← h]; rfl
              · right; simp [Value.ownBlock] at h; have := XS.out; omega
            have l1 := (O1.out.lt g1 rfl).2
            have l2 := (O2.out.lt g2 rfl).2
            have l3 := (O3.out.lt g3 rfl).2
            obtain ⟨vs', r, hob, hfr, _⟩ := keep_done (v := .slice ao n cap) (r := ⟨.slice ao n cap, .slice (some ⟨g1, 0, none⟩) (n + 1) cap1, .slice (some ⟨g2, 0, none⟩) (n + 2) cap2, .slice (some ⟨g3, 0, none⟩) (n + 3) cap3, mk⟩) OB.out APL.out F3.out (by
              intro u hu
              simp only [Rec.all, List.mem_cons, List.not_mem_nil, or_false] at hu
              rcases hu with rfl | rfl | rfl | rfl
              · exact M03.out
              · exact M13.out
              · exact M23.out
              · exact M3.out) (by
              intro u hu k hk
              simp only [Rec.all, List.mem_cons, List.not_mem_nil, or_false] at hu
              rcases hu with rfl | rfl | rfl | rfl
              · exact ⟨.inl hk, by have := VLT.out k hk; have := XS.out; omega⟩
              · simp only [Value.ownBlock, Option.some.injEq] at hk; subst hk; exact ⟨e1, by omega⟩
              · simp only [Value.ownBlock, Option.some.injEq] at hk; subst hk; exact ⟨e2, by omega⟩
              · simp only [Value.ownBlock, Option.some.injEq] at hk; subst hk; exact ⟨e3, by omega⟩) O4 G4 A4 K4.out
            refine ⟨rfl, M + 1, vp', vs', P', S ++ [r], hob, by have := EM.out; have := EN.out; omega, (FR.out.imp ?_).trans (hfr.imp ?_)⟩
            · intro k _ hk
              rcases hk with hk | hk | hk
              · exact .inl hk
              · exact .inr (.inl hk)
              · exact .inr (.inr (.inr (.inr hk)))
            · intro k _ hk
              rcases hk with hk | hk | hk
              · exact .inl hk
              · exact .inr (.inr (.inl hk))
              · exact .inr (.inr (.inr (.inl hk)))
end Go.Proofs.Ytgapfjjdccohkaa
