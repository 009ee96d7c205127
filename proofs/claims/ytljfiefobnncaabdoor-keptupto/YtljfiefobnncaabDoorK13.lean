import Derived.Test.YtljfiefobnncaabDoorK10
import Derived.Test.YtljfiefobnncaabDoorK12
import Derived.Test.YtljfiefobnncaabDoorK09
import Derived.Test.YtljfiefobnncaabDoorK11
import Derived.Test.YtljfiefobnncaabDoorK02

/- Plain facts on paths: what is written is read back, blanks and newlines ahead of the letters or not. Nothing of the program stands here. -/
namespace Go.Proofs.YtljfiefobnncaabDoor.Pm

def okP (p : Int × Int) : Prop := 0 ≤ p.1 ∧ p.1 ≤ 32 ∧ 0 ≤ p.2 ∧ p.2 ≤ 32
/-- A shape's text behind its first point, with pre ahead of each letter. -/
def tsL (pre : List UInt8) : List (Int × Int) → List UInt8
  | [] => pre ++ [122]
  | q :: m => pre ++ [76] ++ ptL q ++ tsL pre m
def txL (pre : List UInt8) : List (Int × Int) → List UInt8
  | [] => []
  | p :: m => pre ++ [77] ++ ptL p ++ tsL pre m
def txsL (pre : List UInt8) (L : List (List (Int × Int))) : List UInt8 := L.flatMap (txL pre)

theorem blN_pre {pre : List UInt8} (h : pre.all blB = true) {c : UInt8} (hc : blB c = false) (r : List UInt8) : blN (pre ++ c :: r) = pre.length := by
  induction pre with
  | nil => simp [blN, hc]
  | cons x pre ih =>
    simp only [List.all_cons, Bool.and_eq_true] at h
    rw [List.cons_append, blN, if_pos h.1, ih h.2, List.length_cons]; omega
theorem blN_all {pre : List UInt8} (h : pre.all blB = true) : blN pre = pre.length := by
  induction pre with
  | nil => rfl
  | cons x pre ih =>
    simp only [List.all_cons, Bool.and_eq_true] at h
    rw [blN, if_pos h.1, ih h.2, List.length_cons]; omega
theorem drop_len (a r : List UInt8) : (a ++ r).drop a.length = r := by simp
theorem skp_pre {a pre : List UInt8} (h : pre.all blB = true) {c : UInt8} (hc : blB c = false) (r : List UInt8) : skp (a ++ (pre ++ c :: r)) a.length = a.length + pre.length := by
  unfold skp; rw [drop_len, blN_pre h hc]
theorem byt_pre (a : List UInt8) (c : UInt8) (r : List UInt8) : byt (a ++ c :: r) a.length = c := by
  unfold byt; rw [List.getD_eq_getElem?_getD, List.getElem?_append_right (Nat.le_refl _), Nat.sub_self]; rfl
theorem digit_bl {c : UInt8} (h : digitB c = true) : blB c = false := by
  have b := digit_bounds h
  rw [blB_eq]
  simp only [Bool.or_eq_false_iff, beq_eq_false_iff_ne]
  omega
/-- A number that was written, with blanks ahead. -/
theorem crd_read (a pre : List UInt8) (hp : pre.all blB = true) (x : Nat) (hx : x < 33) (e : UInt8) (he : digitB e = false) (r : List UInt8) :
    crd (a ++ (pre ++ (itoaL x ++ e :: r))) a.length = .ok (x, a.length + pre.length + (itoaL x).length) := by
  obtain ⟨f1, f2, f3⟩ := itoaL_facts x hx
  have hs : skp (a ++ (pre ++ (itoaL x ++ e :: r))) a.length = a.length + pre.length := by
    cases hi : itoaL x with
    | nil => rw [hi] at f3; simp at f3
    | cons y d =>
      rw [hi] at f1
      simp only [List.all_cons, Bool.and_eq_true] at f1
      rw [List.cons_append]
      exact skp_pre hp (digit_bl f1.1) _
  have hd : (a ++ (pre ++ (itoaL x ++ e :: r))).drop (a.length + pre.length) = itoaL x ++ e :: r := by
    rw [← List.append_assoc, ← List.length_append]; exact drop_len _ _
  unfold crd
  rw [hs, hd, numC_app _ _ _ f1 he, numV_app _ _ _ _ f1 he, f2, if_neg (by omega), if_neg (by omega)]
/-- A point that was written. -/
theorem pnt_read (a : List UInt8) (p : Int × Int) (hp : okP p) (e : UInt8) (he : digitB e = false) (r : List UInt8) :
    pnt (a ++ (ptL p ++ e :: r)) a.length = .ok (p, a.length + (ptL p).length) := by
  obtain ⟨h1, h2, h3, h4⟩ := hp
  have c1 := crd_read a [] rfl p.1.toNat (by omega) 32 (by decide) (itoaL p.2.toNat ++ e :: r)
  have c2 := crd_read (a ++ itoaL p.1.toNat) [32] (by decide) p.2.toNat (by omega) e he r
  have e1 : a ++ (ptL p ++ e :: r) = a ++ ([] ++ (itoaL p.1.toNat ++ 32 :: (itoaL p.2.toNat ++ e :: r))) := by simp [ptL]
  have e2 : a ++ (ptL p ++ e :: r) = a ++ itoaL p.1.toNat ++ ([32] ++ (itoaL p.2.toNat ++ e :: r)) := by simp [ptL]
  rw [← e1] at c1
  rw [← e2] at c2
  have hb : blN ((a ++ (ptL p ++ e :: r)).drop (a.length + (itoaL p.1.toNat).length)) ≠ 0 := by
    rw [e2, ← List.length_append, drop_len, List.singleton_append, blN, if_pos (by decide)]; omega
  unfold pnt
  rw [c1]
  simp only [List.length_nil, Nat.add_zero]
  rw [if_neg hb]
  rw [List.length_append] at c2
  rw [c2]
  simp only [List.length_singleton]
  have : (ptL p).length = (itoaL p.1.toNat).length + 1 + (itoaL p.2.toNat).length := by simp [ptL]; omega
  rw [this]
  have t1 : ((p.1.toNat : Nat) : Int) = p.1 := by omega
  have t2 : ((p.2.toNat : Nat) : Int) = p.2 := by omega
  rw [t1, t2]
  simp only [Nat.add_assoc]
theorem tsL_head {pre : List UInt8} (hp : pre.all blB = true) (m : List (Int × Int)) (r : List UInt8) : ∃ e t, tsL pre m ++ r = e :: t ∧ digitB e = false := by
  cases pre with
  | nil =>
    cases m with
    | nil => exact ⟨122, r, rfl, by decide⟩
    | cons q m => exact ⟨76, _, by simp only [tsL, List.nil_append, List.cons_append]; rfl, by decide⟩
  | cons b pre =>
    simp only [List.all_cons, Bool.and_eq_true] at hp
    have hb : digitB b = false := by
      cases h : digitB b with
      | false => rfl
      | true => rw [digit_bl h] at hp; cases hp.1
    cases m with
    | nil => exact ⟨b, _, by simp only [tsL, List.cons_append]; rfl, hb⟩
    | cons q m => exact ⟨b, _, by simp only [tsL, List.cons_append]; rfl, hb⟩

theorem tail_rch {pre : List UInt8} (hp : pre.all blB = true) (l r : List UInt8) (out : List (List (Int × Int))) : ∀ (m : List (Int × Int)) (a : List UInt8) (cur : List (Int × Int)), (∀ q ∈ m, okP q) → l = a ++ (tsL pre m ++ r) →
    Rch l ⟨skp l a.length, true, cur, out⟩ ⟨skp l (a.length + (tsL pre m).length), false, [], out ++ [cur ++ m]⟩
  | [], a, cur, _, hl => by
    have e : l = a ++ (pre ++ 122 :: r) := by rw [hl]; simp [tsL]
    have s1 : skp l a.length = a.length + pre.length := by rw [e]; exact skp_pre hp (by decide) r
    have b1 : byt l (a.length + pre.length) = 122 := by rw [e, ← List.append_assoc, ← List.length_append]; exact byt_pre _ _ _
    have len : a.length + pre.length < l.length := by rw [e]; simp only [List.length_append, List.length_cons]; omega
    rw [s1]
    refine .step (stp_z len b1) ?_
    have : a.length + (tsL pre []).length = a.length + pre.length + 1 := by simp [tsL]; try omega
    rw [this, List.append_nil]
    exact .refl _
  | q :: m, a, cur, hm, hl => by
    obtain ⟨e', t, he', hd'⟩ := tsL_head hp m r
    have e : l = a ++ (pre ++ 76 :: (ptL q ++ (tsL pre m ++ r))) := by rw [hl]; simp [tsL]
    have s1 : skp l a.length = a.length + pre.length := by rw [e]; exact skp_pre hp (by decide) _
    have b1 : byt l (a.length + pre.length) = 76 := by rw [e, ← List.append_assoc, ← List.length_append]; exact byt_pre _ _ _
    have len : a.length + pre.length < l.length := by rw [e]; simp only [List.length_append, List.length_cons]; omega
    have p1 : pnt l (a.length + pre.length + 1) = .ok (q, a.length + pre.length + 1 + (ptL q).length) := by
      have := pnt_read (a ++ pre ++ [76]) q (hm q (by simp)) e' hd' t
      rw [← he'] at this
      have e2 : l = a ++ pre ++ [76] ++ (ptL q ++ (tsL pre m ++ r)) := by rw [e]; simp
      rw [← e2] at this
      simpa [Nat.add_assoc] using this
    rw [s1]
    refine .step (stp_pt (o := true) len (by simpa using b1) p1) ?_
    have ih := tail_rch hp l r out m (a ++ pre ++ [76] ++ ptL q) (cur ++ [q]) (fun x hx => hm x (by simp [hx])) (by rw [e]; simp)
    have l1 : (a ++ pre ++ [76] ++ ptL q).length = a.length + pre.length + 1 + (ptL q).length := by simp only [List.length_append, List.length_cons, List.length_nil]; try omega
    have l2 : a.length + pre.length + 1 + (ptL q).length + (tsL pre m).length = a.length + (tsL pre (q :: m)).length := by simp [tsL]; try omega
    rw [l1, l2] at ih
    have l3 : cur ++ [q] ++ m = cur ++ q :: m := by simp
    rw [l3] at ih
    exact ih

theorem shape_rch {pre : List UInt8} (hp : pre.all blB = true) (l r a : List UInt8) (out : List (List (Int × Int))) (p : Int × Int) (m : List (Int × Int)) (hm : ∀ q ∈ p :: m, okP q) (hl : l = a ++ (txL pre (p :: m) ++ r)) :
    Rch l ⟨skp l a.length, false, [], out⟩ ⟨skp l (a.length + (txL pre (p :: m)).length), false, [], out ++ [p :: m]⟩ := by
  obtain ⟨e', t, he', hd'⟩ := tsL_head hp m r
  have e : l = a ++ (pre ++ 77 :: (ptL p ++ (tsL pre m ++ r))) := by rw [hl]; simp [txL]
  have s1 : skp l a.length = a.length + pre.length := by rw [e]; exact skp_pre hp (by decide) _
  have b1 : byt l (a.length + pre.length) = 77 := by rw [e, ← List.append_assoc, ← List.length_append]; exact byt_pre _ _ _
  have len : a.length + pre.length < l.length := by rw [e]; simp only [List.length_append, List.length_cons]; omega
  have p1 : pnt l (a.length + pre.length + 1) = .ok (p, a.length + pre.length + 1 + (ptL p).length) := by
    have := pnt_read (a ++ pre ++ [77]) p (hm p (by simp)) e' hd' t
    rw [← he'] at this
    have e2 : l = a ++ pre ++ [77] ++ (ptL p ++ (tsL pre m ++ r)) := by rw [e]; simp
    rw [← e2] at this
    simpa [Nat.add_assoc] using this
  rw [s1]
  refine .step (stp_pt (o := false) len (by simpa using b1) p1) ?_
  have ih := tail_rch hp l r out m (a ++ pre ++ [77] ++ ptL p) [p] (fun x hx => hm x (by simp [hx])) (by rw [e]; simp)
  have l1 : (a ++ pre ++ [77] ++ ptL p).length = a.length + pre.length + 1 + (ptL p).length := by simp only [List.length_append, List.length_cons, List.length_nil]; try omega
  have l2 : a.length + pre.length + 1 + (ptL p).length + (tsL pre m).length = a.length + (txL pre (p :: m)).length := by simp [txL]; try omega
  rw [l1, l2] at ih
  exact ih

theorem all_rch {pre : List UInt8} (hp : pre.all blB = true) (l r : List UInt8) : ∀ (L : List (List (Int × Int))) (a : List UInt8) (out : List (List (Int × Int))), (∀ s ∈ L, 0 < s.length ∧ ∀ q ∈ s, okP q) → l = a ++ (txsL pre L ++ r) →
    Rch l ⟨skp l a.length, false, [], out⟩ ⟨skp l (a.length + (txsL pre L).length), false, [], out ++ L⟩
  | [], a, out, _, _ => by simp [txsL]; exact .refl _
  | s :: L, a, out, hs, hl => by
    obtain ⟨h0, hq⟩ := hs s (by simp)
    match s, h0 with
    | p :: m, _ =>
      have e : l = a ++ (txL pre (p :: m) ++ (txsL pre L ++ r)) := by rw [hl]; simp [txsL]
      have h1 := shape_rch hp l _ a out p m hq e
      have ih := all_rch hp l r L (a ++ txL pre (p :: m)) (out ++ [p :: m]) (fun x hx => hs x (by simp [hx])) (by rw [e]; simp)
      rw [List.length_append] at ih
      have l2 : a.length + (txL pre (p :: m)).length + (txsL pre L).length = a.length + (txsL pre ((p :: m) :: L)).length := by simp [txsL, Nat.add_assoc]
      rw [l2, List.append_assoc] at ih
      exact h1.trans ih
/-- What is written is read back. -/
theorem says_back {pre suf : List UInt8} (hp : pre.all blB = true) (hs : suf.all blB = true) (L : List (List (Int × Int))) (hL : ∀ s ∈ L, 0 < s.length ∧ ∀ q ∈ s, okP q) : Says (txsL pre L ++ suf) (st0 (txsL pre L ++ suf)) (.ok L) := by
  have h := all_rch hp (txsL pre L ++ suf) suf L [] [] hL (by simp)
  simp only [List.length_nil, Nat.zero_add, List.nil_append] at h
  refine ⟨_, h, stp_end ?_⟩
  unfold skp
  rw [drop_len, blN_all hs, List.length_append]
  exact Nat.le_refl _

theorem tsL_nil (m : List (Int × Int)) : tsL [] m = ptsL m ++ [122] := by
  induction m with
  | nil => rfl
  | cons q m ih => rw [tsL, ih, ptsL]; simp
theorem txsL_nil {L : List (List (Int × Int))} (h : ∀ s ∈ L, 0 < s.length) : txsL [] L = pathL L := by
  induction L with
  | nil => rfl
  | cons s L ih =>
    have h0 := h s (by simp)
    match s, h0 with
    | p :: m, _ =>
      have := ih (fun x hx => h x (by simp [hx]))
      unfold txsL pathL at this ⊢
      rw [List.flatMap_cons, List.flatMap_cons, this]
      congr 1
      simp only [txL, tsL_nil, shL, shP, List.nil_append, List.append_assoc]
/-- Blanks and newlines ahead of the letters. -/
def ins1 (c : UInt8) : List UInt8 := if c = 76 ∨ c = 77 ∨ c = 122 then [32, 10, c] else [c]
def insL (l : List UInt8) : List UInt8 := l.flatMap ins1
theorem insL_app (a b : List UInt8) : insL (a ++ b) = insL a ++ insL b := by simp [insL]
theorem insL_same {l : List UInt8} (h : ∀ c ∈ l, c ≠ 76 ∧ c ≠ 77 ∧ c ≠ 122) : insL l = l := by
  induction l with
  | nil => rfl
  | cons c l ih =>
    have h1 := h c (by simp)
    have h2 := ih (fun x hx => h x (by simp [hx]))
    unfold insL at h2 ⊢
    rw [List.flatMap_cons, h2]
    unfold ins1
    rw [if_neg (by simp [h1])]; rfl
theorem digit_let {c : UInt8} (h : digitB c = true) : c ≠ 76 ∧ c ≠ 77 ∧ c ≠ 122 := by
  have b := digit_bounds h
  refine ⟨?_, ?_, ?_⟩ <;> (intro e; rw [e] at b; simp at b)
theorem insL_pt {p : Int × Int} (hp : okP p) : insL (ptL p) = ptL p := by
  obtain ⟨h1, h2, h3, h4⟩ := hp
  refine insL_same fun c hc => ?_
  have f1 := (itoaL_facts p.1.toNat (by omega)).1
  have f2 := (itoaL_facts p.2.toNat (by omega)).1
  unfold ptL at hc
  simp only [List.mem_append, List.mem_singleton] at hc
  rcases hc with (hc | hc) | hc
  · exact digit_let (List.all_eq_true.1 f1 c hc)
  · subst hc; decide
  · exact digit_let (List.all_eq_true.1 f2 c hc)
theorem insL_pts {m : List (Int × Int)} (h : ∀ q ∈ m, okP q) : insL (ptsL m ++ [122]) = tsL [32, 10] m := by
  induction m with
  | nil => rfl
  | cons q m ih =>
    have := ih (fun x hx => h x (by simp [hx]))
    rw [ptsL, List.append_assoc, List.append_assoc, insL_app, insL_app, insL_pt (h q (by simp)), this, tsL]
    have : insL [76] = [32, 10, 76] := by rfl
    rw [this]; simp
theorem insL_path {L : List (List (Int × Int))} (h : ∀ s ∈ L, 0 < s.length ∧ ∀ q ∈ s, okP q) : insL (pathL L) = txsL [32, 10] L := by
  induction L with
  | nil => rfl
  | cons s L ih =>
    obtain ⟨h0, hq⟩ := h s (by simp)
    match s, h0 with
    | p :: m, _ =>
      have h3 := ih (fun x hx => h x (by simp [hx]))
      unfold txsL pathL at h3 ⊢
      rw [List.flatMap_cons, List.flatMap_cons, insL_app, h3]
      congr 1
      rw [shL, shP, List.append_assoc, List.append_assoc, insL_app, insL_app, insL_pt (hq p (by simp)), insL_pts (fun x hx => hq x (by simp [hx])), txL]
      have : insL [77] = [32, 10, 77] := by rfl
      rw [this]; simp
theorem insL_len (l : List UInt8) : (insL l).length ≤ 3 * l.length := by
  induction l with
  | nil => simp [insL]
  | cons c l ih =>
    have e : insL (c :: l) = ins1 c ++ insL l := by simp [insL]
    have h1 : (ins1 c).length ≤ 3 := by unfold ins1; split <;> simp
    rw [e]
    simp only [List.length_append, List.length_cons]
    omega
end Go.Proofs.YtljfiefobnncaabDoor.Pm

/- What is written is read back: outline.Path and outline.Shapes, of lists of shapes that may be written. -/
namespace Go.Proofs.YtljfiefobnncaabDoor
open Go.RowKit

def shQ (L : List (Value × List (Int × Int))) : List ShT := L.map fun p => (p.2, Qm.twiceOf p.2)
theorem shQ_len (L : List (Value × List (Int × Int))) : (shQ L).length = L.length := by simp [shQ]
theorem shQ_at (L : List (Value × List (Int × Int))) (i : Nat) (hi : i < L.length) : (shQ L).getD i sh0 = (L[i].2, Qm.twiceOf L[i].2) := by
  simp [shQ, List.getD_eq_getElem?_getD, hi]
theorem shQ_pts (L : List (Value × List (Int × Int))) : ptsS (shQ L) = L.map (·.2) := by simp [shQ, ptsS]
theorem ShownP.shq {ao : Option Addr} {n cap : Nat} {L : List (Value × List (Int × Int))} {w : World} (h : ShownP (.slice ao n cap) L w) : n = (shQ L).length ∧ ShIs ao (shQ L) w := by
  obtain ⟨ao', cap', e, hr⟩ := h.row
  injection e with e1 e2 _
  subst e1
  refine ⟨by rw [shQ_len]; exact e2, ?_⟩
  rcases hr with h0 | ⟨gl, rfl, hg, hc⟩
  · exact .inl (by rw [shQ_len]; exact h0)
  · by_cases hn : L.length = 0
    · exact .inl (by rw [shQ_len]; exact hn)
    refine .inr ⟨gl, 0, rfl, hg, fun i hi => ?_⟩
    rw [shQ_len] at hi
    rw [shQ_at L i hi]
    obtain ⟨g, c, e, h0, hp⟩ := h.pts L[i] (List.getElem_mem hi)
    have s := shpP_at L i hi
    rw [e] at s
    exact ⟨_, c, by rw [Nat.zero_add]; exact hc _ _ s.1, by rw [Nat.zero_add]; exact hc _ _ s.2, .inr ⟨g, 0, rfl, hp.o⟩⟩
theorem plB_q {L : List (Value × List (Int × Int))} (h : ∀ p ∈ L, 0 < p.2.length ∧ Qm.Small p.2) : plB (shQ L) = true := by
  unfold plB
  rw [List.all_eq_true]
  intro s hs
  obtain ⟨p, hp, rfl⟩ := List.mem_map.1 hs
  refine okSh_of (h p hp).1 ?_
  rw [List.all_eq_true]
  intro q hq
  exact decide_eq_true ((h p hp).2 q hq)
theorem path_len (L : List (Value × List (Int × Int))) : (Pm.pathL (L.map (·.2))).length ≤ 6 * ptN L + L.length := by
  induction L with
  | nil => simp [Pm.pathL]
  | cons s L ih =>
    have h := Pm.shP_len s.2
    have e : Pm.pathL ((s :: L).map (·.2)) = Pm.shL s.2 ++ Pm.pathL (L.map (·.2)) := by simp [Pm.pathL]
    have e2 : ptN (s :: L) = s.2.length + ptN L := by simp [ptN]
    rw [e, e2]
    unfold Pm.shL
    simp only [List.length_append, List.length_cons, List.length_nil]
    omega
theorem ptN_in {L : List (Value × List (Int × Int))} {p : Value × List (Int × Int)} (h : p ∈ L) : p.2.length ≤ ptN L := by
  induction L with
  | nil => simp at h
  | cons s L ih =>
    have e2 : ptN (s :: L) = s.2.length + ptN L := by simp [ptN]
    rcases List.mem_cons.1 h with rfl | h
    · omega
    · have := ih h; omega
theorem ptN_le {L : List (Value × List (Int × Int))} {m : Nat} (h : ∀ p ∈ L, p.2.length ≤ m) : ptN L ≤ m * L.length := by
  induction L with
  | nil => simp [ptN]
  | cons s L ih =>
    have e2 : ptN (s :: L) = s.2.length + ptN L := by simp [ptN]
    have h1 := h s (by simp)
    have h2 := ih (fun p hp => h p (by simp [hp]))
    rw [e2, List.length_cons, Nat.mul_add]
    omega
/-- Shapes that may be written. -/
structure Fine (L : List (Value × List (Int × Int))) : Prop where
  few : L.length ≤ 1048577
  sum : ptN L ≤ 10000000
  pts : ∀ p ∈ L, 0 < p.2.length ∧ Qm.Small p.2
theorem Fine.len {L : List (Value × List (Int × Int))} (h : Fine L) : (Pm.pathL (L.map (·.2))).length ≤ 62000000 := by
  have := path_len L; have := h.few; have := h.sum; omega
theorem Fine.ok {L : List (Value × List (Int × Int))} (h : Fine L) : ∀ s ∈ L.map (·.2), 0 < s.length ∧ ∀ q ∈ s, Pm.okP q := fun s hs => by
  obtain ⟨p, hp, rfl⟩ := List.mem_map.1 hs
  exact ⟨(h.pts p hp).1, fun q hq => (h.pts p hp).2 q hq⟩
theorem path_fine (ao : Option Addr) (n cap : Nat) (L : List (Value × List (Int × Int))) (hf : Fine L) (w : World) (hS : ShownP (.slice ao n cap) L w) :
    Calls Tryd.prog 8 #[.slice ao n cap] w fun e w' => e = .returned (.tuple #[.string ⟨(Pm.pathL (L.map (·.2))).toArray⟩, .int .i64 0]) ∧ Below w.heap.size w w' := by
  have h := hS.shq
  have hl := hf.len
  have c := path_any ao n cap (shQ L) h.1 (by have := hf.few; have := h.1; rw [shQ_len] at this; omega) (fun i => by
    by_cases hi : i < L.length
    · rw [shQ_at L i hi]; have := ptN_in (List.getElem_mem hi); have := hf.sum; show L[i].2.length ≤ _; omega
    · have : (shQ L).getD i sh0 = sh0 := by simp [shQ, List.getD_eq_getElem?_getD, hi]
      rw [this]; simp [sh0]) (by rw [shQ_pts]; omega) w h.2
  have e : pathOut (shQ L) = .tuple #[.string ⟨(Pm.pathL (L.map (·.2))).toArray⟩, .int .i64 0] := by
    unfold pathOut
    rw [if_pos (plB_q hf.pts), shQ_pts]
  rw [e] at c
  exact c
theorem shapes_says (s : ByteArray) (hs : s.size ≤ 1073741824) (L0 : List (List (Int × Int))) (h : Pm.Says s.data.toList (Pm.st0 s.data.toList) (.ok L0)) (w : World) :
    Calls Tryd.prog 9 #[.string s] w fun e w' => (∃ (v : Value) (La : List (Value × List (Int × Int))), e = .returned (.tuple #[v, .int .i64 0, .int .i64 0]) ∧ ShownP v La w' ∧ La.map (·.2) = L0) ∧ Below w.heap.size w w' := by
  refine (shapes_any s hs w).mono ?_
  rintro e w' ⟨⟨v, ee, p, rfl, ho⟩, hb⟩
  refine ⟨?_, hb⟩
  rcases ho with ⟨rfl, rfl, La, hr, hp, -, hsay⟩ | ⟨-, -, hsay⟩
  · refine ⟨v, La, rfl, hr.shown fun q hq => (hp q hq).1, ?_⟩
    have := hsay.unique h
    injection this
  · have := hsay.unique h
    cases this
theorem Fine.back {L : List (Value × List (Int × Int))} (h : Fine L) : Pm.Says (⟨(Pm.pathL (L.map (·.2))).toArray⟩ : ByteArray).data.toList (Pm.st0 (⟨(Pm.pathL (L.map (·.2))).toArray⟩ : ByteArray).data.toList) (.ok (L.map (·.2))) := by
  have k := Pm.says_back (pre := []) (suf := []) rfl rfl (L.map (·.2)) h.ok
  rw [List.append_nil, Pm.txsL_nil fun s hs => (h.ok s hs).1] at k
  exact k
theorem Fine.wide {L : List (Value × List (Int × Int))} (h : Fine L) {s : ByteArray} (hs : s.data.toList = Pm.insL (Pm.pathL (L.map (·.2))) ++ [10]) : Pm.Says s.data.toList (Pm.st0 s.data.toList) (.ok (L.map (·.2))) := by
  have k := Pm.says_back (pre := [32, 10]) (suf := [10]) (by decide) (by decide) (L.map (·.2)) h.ok
  rw [← Pm.insL_path h.ok, ← hs] at k
  exact k
end Go.Proofs.YtljfiefobnncaabDoor

/- outlinekeep: options. -/
namespace Go.Proofs.YtljfiefobnncaabDoor
open Go.RowKit

end Go.Proofs.YtljfiefobnncaabDoor
/- The sides of a picture, pixel by pixel. Nothing of the program stands here. -/
namespace Go.Proofs.YtljfiefobnncaabDoor.Qm

/-- The sides round a black pixel. -/
def arL (bl : Int → Int → Bool) (x y : Int) : List Sd :=
  (if bl (x - 1) y then [] else [(x, y, 0)]) ++ (if bl x (y + 1) then [] else [(x, y + 1, 1)]) ++ (if bl (x + 1) y then [] else [(x + 1, y + 1, 2)]) ++ (if bl x (y - 1) then [] else [(x + 1, y, 3)])
/-- What is on the left of a side. -/
def lp (s : Sd) : Int × Int := (lpx s.1 s.2.2, lpy s.2.1 s.2.2)

theorem mem_arL {bl : Int → Int → Bool} {x y : Int} (hb : bl x y = true) (s : Sd) : s ∈ arL bl x y ↔ isS bl s = true ∧ lp s = (x, y) := by
  obtain ⟨a, b, d⟩ := s
  constructor
  · intro h
    simp only [arL, List.mem_append] at h
    rcases h with ((h | h) | h) | h
    · split at h
      · simp at h
      · rename_i hn
        simp only [List.mem_singleton, Prod.mk.injEq] at h
        obtain ⟨rfl, rfl, rfl⟩ := h
        exact ⟨by simp [isS, outQ, hb, hn], by simp [lp, lpx, lpy]⟩
    · split at h
      · simp at h
      · rename_i hn
        simp only [List.mem_singleton, Prod.mk.injEq] at h
        obtain ⟨rfl, rfl, rfl⟩ := h
        exact ⟨by simp [isS, outQ, hb, hn], by simp [lp, lpx, lpy]⟩
    · split at h
      · simp at h
      · rename_i hn
        simp only [List.mem_singleton, Prod.mk.injEq] at h
        obtain ⟨rfl, rfl, rfl⟩ := h
        exact ⟨by simp [isS, outQ, hb, hn], by simp [lp, lpx, lpy]⟩
    · split at h
      · simp at h
      · rename_i hn
        simp only [List.mem_singleton, Prod.mk.injEq] at h
        obtain ⟨rfl, rfl, rfl⟩ := h
        exact ⟨by simp [isS, outQ, hb, hn], by simp [lp, lpx, lpy]⟩
  · rintro ⟨hs, hl⟩
    have hd := isS_lt hs
    simp only [arL, List.mem_append]
    match d, hd with
    | 0, _ =>
      simp [lp, lpx, lpy] at hl
      obtain ⟨rfl, rfl⟩ := hl
      simp [isS, outQ] at hs
      refine .inl (.inl (.inl ?_))
      simp [hs.2]
    | 1, _ =>
      simp [lp, lpx, lpy] at hl
      obtain ⟨rfl, rfl⟩ := hl
      simp [isS, outQ] at hs
      refine .inl (.inl (.inr ?_))
      simp [hs.2]
    | 2, _ =>
      simp [lp, lpx, lpy] at hl
      obtain ⟨rfl, rfl⟩ := hl
      simp [isS, outQ] at hs
      refine .inl (.inr ?_)
      simp [hs.2]
    | 3, _ =>
      simp [lp, lpx, lpy] at hl
      obtain ⟨rfl, rfl⟩ := hl
      simp [isS, outQ] at hs
      refine .inr ?_
      simp [hs.2]

theorem nodup_arL (bl : Int → Int → Bool) (x y : Int) : (arL bl x y).Nodup := by
  unfold arL
  split <;> split <;> split <;> split <;> simp
theorem len_arL (bl : Int → Int → Bool) (x y : Int) : (arL bl x y).length ≤ 4 := by
  unfold arL
  split <;> split <;> split <;> split <;> simp

/-- The sides of pixel number i. -/
def pixL (bl : Int → Int → Bool) (W i : Nat) : List Sd := if bl (i % W : Nat) (i / W : Nat) then arL bl (i % W : Nat) (i / W : Nat) else []
/-- The sides of the first m pixels, row by row. -/
def sidesTo (bl : Int → Int → Bool) (W : Nat) : Nat → List Sd
  | 0 => []
  | m + 1 => sidesTo bl W m ++ pixL bl W m
theorem mem_pixL {bl : Int → Int → Bool} {W i : Nat} {s : Sd} : s ∈ pixL bl W i ↔ isS bl s = true ∧ lp s = (((i % W : Nat) : Int), ((i / W : Nat) : Int)) := by
  unfold pixL
  split
  · rename_i h; exact mem_arL h s
  · rename_i h
    simp only [List.not_mem_nil, false_iff, not_and]
    intro hs hl
    have hd := isS_lt hs
    obtain ⟨x, y, d⟩ := s
    rw [isS_lr _ _ _ _ hd] at hs
    have h1 : lpx x d = ((i % W : Nat) : Int) := congrArg Prod.fst hl
    have h2 : lpy y d = ((i / W : Nat) : Int) := congrArg Prod.snd hl
    rw [h1, h2] at hs
    simp at hs
    exact h hs.1
theorem len_sidesTo (bl : Int → Int → Bool) (W m : Nat) : (sidesTo bl W m).length ≤ 4 * m := by
  induction m with
  | zero => simp [sidesTo]
  | succ m ih =>
    have : (pixL bl W m).length ≤ 4 := by unfold pixL; split; exact len_arL _ _ _; simp
    simp only [sidesTo, List.length_append]; omega
theorem mem_sidesTo {bl : Int → Int → Bool} {W m : Nat} {s : Sd} : s ∈ sidesTo bl W m ↔ isS bl s = true ∧ ∃ i, i < m ∧ lp s = (((i % W : Nat) : Int), ((i / W : Nat) : Int)) := by
  induction m with
  | zero => simp [sidesTo]
  | succ m ih =>
    simp only [sidesTo, List.mem_append, ih, mem_pixL]
    constructor
    · rintro (⟨h, i, hi, e⟩ | ⟨h, e⟩)
      · exact ⟨h, i, by omega, e⟩
      · exact ⟨h, m, by omega, e⟩
    · rintro ⟨h, i, hi, e⟩
      rcases Nat.lt_or_ge i m with h1 | h1
      · exact .inl ⟨h, i, h1, e⟩
      · obtain rfl : i = m := by omega
        exact .inr ⟨h, e⟩
theorem nodup_sidesTo (bl : Int → Int → Bool) (W m : Nat) : (sidesTo bl W m).Nodup := by
  induction m with
  | zero => simp [sidesTo]
  | succ m ih =>
    refine List.nodup_append.2 ⟨ih, by unfold pixL; split; exact nodup_arL _ _ _; simp, fun a ha b hb e => ?_⟩
    subst e
    obtain ⟨_, i, hi, e1⟩ := mem_sidesTo.1 ha
    obtain ⟨_, e2⟩ := mem_pixL.1 hb
    rw [e1] at e2
    have a1 := congrArg Prod.fst e2
    have a2 := congrArg Prod.snd e2
    simp only at a1 a2
    have b1 : i % W = m % W := by omega
    have b2 : i / W = m / W := by omega
    have := Nat.div_add_mod i W
    have := Nat.div_add_mod m W
    rw [b1, b2] at *
    omega
/-- All sides of the picture. -/
theorem all_sidesTo {bl : Int → Int → Bool} {W H : Nat} (hp : Pic bl W H) (s : Sd) : s ∈ sidesTo bl W (W * H) ↔ isS bl s = true := by
  rw [mem_sidesTo]
  refine ⟨fun h => h.1, fun hs => ⟨hs, ?_⟩⟩
  have hd := isS_lt hs
  obtain ⟨x, y, d⟩ := s
  rw [isS_lr _ _ _ _ hd] at hs
  simp at hs
  have hb := hp.box _ _ hs.1
  obtain ⟨a, ha⟩ := Int.eq_ofNat_of_zero_le hb.1
  obtain ⟨b, hbb⟩ := Int.eq_ofNat_of_zero_le hb.2.2.1
  rw [ha, hbb] at hb
  have ha2 : a < W := by omega
  have hb2 : b < H := by omega
  refine ⟨b * W + a, ?_, ?_⟩
  · have : (b + 1) * W ≤ H * W := Nat.mul_le_mul_right _ hb2
    rw [Nat.add_mul] at this
    rw [Nat.mul_comm W H]; omega
  · have e1 : (b * W + a) % W = a := by rw [Nat.add_comm, Nat.add_mul_mod_self_right, Nat.mod_eq_of_lt ha2]
    have e2 : (b * W + a) / W = b := by rw [Nat.add_comm, Nat.add_mul_div_right _ _ (by omega), Nat.div_eq_of_lt ha2]; omega
    rw [e1, e2]
    exact Prod.ext ha hbb
end Go.Proofs.YtljfiefobnncaabDoor.Qm

/- outlinekeep: works. -/
namespace Go.Proofs.YtljfiefobnncaabDoor
open Go.RowKit

theorem sides_one : Qm.sidesTo (Pm.blackB 1 1 [49]) 1 (1 * 1) = [(0, 0, 0), (0, 1, 1), (1, 1, 2), (1, 0, 3)] := by decide
/-- Of one black pixel there is one cycle. -/
theorem res_one : Qm.Res (fB 1 1 ⟨#[49]⟩ 0 ⟨#[]⟩) (bB 1 1 ⟨#[49]⟩) Qm.key [((0, 0, 0), 4)] := by
  refine ⟨?_, by simp, ?_⟩
  · intro c hc
    simp only [List.mem_singleton] at hc
    subst hc
    refine ⟨⟨by decide, by decide, by decide, ?_⟩, ?_⟩
    · have : ∀ (i j : Fin 4), i.val < j.val → Qm.it (fB 1 1 ⟨#[49]⟩ 0 ⟨#[]⟩) i.val (0, 0, 0) ≠ Qm.it (fB 1 1 ⟨#[49]⟩ 0 ⟨#[]⟩) j.val (0, 0, 0) := by decide
      intro i j hij hj
      exact this ⟨i, by omega⟩ ⟨j, hj⟩ hij
    · have : ∀ (i : Fin 4), 0 < i.val → Qm.key (0, 0, 0) < Qm.key (Qm.it (fB 1 1 ⟨#[49]⟩ 0 ⟨#[]⟩) i.val (0, 0, 0)) := by decide
      intro i h0 hi
      exact this ⟨i, hi⟩ h0
  · intro t ht
    have h1 := (Qm.all_sidesTo (Qm.pic_of 1 1 [49] (by omega) (by omega)) t).2 ht
    rw [sides_one] at h1
    simp only [List.mem_cons, List.mem_nil_iff, or_false] at h1
    rcases h1 with rfl | rfl | rfl | rfl
    · exact ⟨_, List.mem_singleton.2 rfl, 0, by decide, by decide⟩
    · exact ⟨_, List.mem_singleton.2 rfl, 1, by decide, by decide⟩
    · exact ⟨_, List.mem_singleton.2 rfl, 2, by decide, by decide⟩
    · exact ⟨_, List.mem_singleton.2 rfl, 3, by decide, by decide⟩

/-- What one sees of the answer for one black pixel. -/
theorem one_shown {vl : Value} {w w' : World} (h : FindOut 1 1 ⟨#[49]⟩ 0 ⟨#[]⟩ w vl w') : Below w.heap.size w w' ∧ ∃ gl cap g c, vl = .slice (some ⟨gl, 0, none⟩) 1 cap ∧ gl < w'.heap.size ∧ g < w'.heap.size ∧ w'.cell? ⟨gl, 0, none⟩ = some (.slice (some ⟨g, 0, none⟩) 4 c) ∧ w'.cell? ⟨gl, 1, none⟩ = some (.int .i64 2)
    ∧ w'.cell? ⟨g, 0, none⟩ = some (.int .i64 0) ∧ w'.cell? ⟨g, 1, none⟩ = some (.int .i64 0) ∧ w'.cell? ⟨g, 2, none⟩ = some (.int .i64 0) ∧ w'.cell? ⟨g, 3, none⟩ = some (.int .i64 1) ∧ w'.cell? ⟨g, 4, none⟩ = some (.int .i64 1) ∧ w'.cell? ⟨g, 5, none⟩ = some (.int .i64 1) ∧ w'.cell? ⟨g, 6, none⟩ = some (.int .i64 1) ∧ w'.cell? ⟨g, 7, none⟩ = some (.int .i64 0) := by
  obtain ⟨L, h1, h2, h3, _⟩ := h
  refine ⟨h3, ?_⟩
  have e := h1.unique res_one
  obtain ⟨v, rfl⟩ : ∃ v, L = [(v, ((0, 0, 0), 4))] := by
    match L, e with
    | [], e => simp at e
    | [(v, c)], e => simp at e; subst e; exact ⟨v, rfl⟩
    | _ :: _ :: _, e => simp at e
  have sh := h2.shown (fun p hp => by simp at hp; subst hp; simp)
  obtain ⟨ao, cap, rfl, hr⟩ := sh.row
  obtain ⟨gl, rfl, hgl, hc⟩ := hr.resolve_left (by simp)
  obtain ⟨g, c, hv, _, hg, hp⟩ := sh.pts _ (List.mem_singleton.2 rfl)
  simp only at hv hp
  subst hv
  have s0 := shpV_at (fB 1 1 ⟨#[49]⟩ 0 ⟨#[]⟩) [((Value.slice (some ⟨g, 0, none⟩) 4 c), ((0, 0, 0), 4))] 0 (by simp)
  have c0 := hc _ _ s0.1
  have c1 := hc _ _ s0.2
  have ep : Qm.ptsOf (fB 1 1 ⟨#[49]⟩ 0 ⟨#[]⟩) ((0, 0, 0), 4) = [(0, 0), (0, 1), (1, 1), (1, 0)] := by decide
  have et : Qm.twiceOf (Qm.ptsOf (fB 1 1 ⟨#[49]⟩ 0 ⟨#[]⟩) ((0, 0, 0), 4)) = 2 := by decide
  simp only [List.getElem_cons_zero, et] at c0 c1
  rw [ep] at hp
  have p0 := hp 0 (by simp)
  have p1 := hp 1 (by simp)
  have p2 := hp 2 (by simp)
  have p3 := hp 3 (by simp)
  exact ⟨gl, cap, g, c, rfl, hgl, hg, c0, c1, p0.1, p0.2, p1.1, p1.2, p2.1, p2.2, p3.1, p3.2⟩

set_option maxRecDepth 4000 in
set_option maxHeartbeats 1000000 in
theorem works_any (w : World) :
    Calls Tryd.prog 11 #[] w fun e w' => e = .returned (.bool true) ∧ Below w.heap.size w w' := by
  go_enter Tryd.func11, Tryd.ntmps11
  go_wp2_with fail
  refine (cycles_yes 1 1 ⟨#[49]⟩ 0 ⟨#[]⟩ 0 _ (by decide) (by omega) (by omega) rfl (by omega)).mono ?_
  rintro e w1 ⟨vl, rfl, ho⟩
  obtain ⟨hb, gl, cap, g, c, rfl, hgl, hg, c0, c1, p0, p1, p2, p3, p4, p5, p6, p7⟩ := one_shown ho
  have B1 := hid (show Below w.heap.size w w1 from Below.trans (b := _) (by go_grown) (hb.mono (by simp)))
  clear hb ho
  go_wp2
  go_ret
  exact ⟨rfl, B1.out⟩
end Go.Proofs.YtljfiefobnncaabDoor

/- Winding numbers of a list of sides. Nothing of the program stands here. -/
namespace Go.Proofs.YtljfiefobnncaabDoor.Qm

/-- What is summed over a list of sides. -/
def sm (S : List Sd) (g : Sd → Int) : Int := (S.map g).sum
theorem sm_nil (g : Sd → Int) : sm [] g = 0 := rfl
theorem sm_cons (s : Sd) (S : List Sd) (g : Sd → Int) : sm (s :: S) g = g s + sm S g := by simp [sm]
theorem sm_app (S T : List Sd) (g : Sd → Int) : sm (S ++ T) g = sm S g + sm T g := by simp [sm, List.sum_append]
theorem sm_congr {S : List Sd} {g h : Sd → Int} (e : ∀ s ∈ S, g s = h s) : sm S g = sm S h := by
  unfold sm; rw [List.map_congr_left e]
theorem sm_add (S : List Sd) (g h : Sd → Int) : sm S (fun s => g s + h s) = sm S g + sm S h := by
  induction S with
  | nil => rfl
  | cons s S ih => simp only [sm_cons, ih]; omega
theorem sm_sub (S : List Sd) (g h : Sd → Int) : sm S (fun s => g s - h s) = sm S g - sm S h := by
  induction S with
  | nil => rfl
  | cons s S ih => simp only [sm_cons, ih]; omega
theorem sm_zero {S : List Sd} {g : Sd → Int} (e : ∀ s ∈ S, g s = 0) : sm S g = 0 := by
  induction S with
  | nil => rfl
  | cons s S ih => rw [sm_cons, e s (by simp), ih (fun t ht => e t (by simp [ht]))]; rfl

/-- How often a side stands in a list. -/
def ct (S : List Sd) (t : Sd) : Int := sm S (fun s => if s = t then 1 else 0)
theorem ct_no {S : List Sd} {t : Sd} (h : t ∉ S) : ct S t = 0 := sm_zero fun s hs => by
  rw [if_neg]; rintro rfl; exact h hs
theorem ct_yes {S : List Sd} {t : Sd} (hn : S.Nodup) (h : t ∈ S) : ct S t = 1 := by
  induction S with
  | nil => simp at h
  | cons s S ih =>
    have hn' := List.nodup_cons.1 hn
    show sm (s :: S) _ = 1
    rw [sm_cons]
    by_cases e : s = t
    · subst e
      have := ct_no hn'.1
      unfold ct at this
      rw [if_pos rfl, this]; rfl
    · rw [if_neg e]
      have := ih hn'.2 (by rcases List.mem_cons.1 h with h | h; exact absurd h.symm e; exact h)
      unfold ct at this
      rw [this]; rfl

/-- What one side adds to the winding number at the middle of pixel (x, y). -/
def hw (x y : Int) (s : Sd) : Int :=
  if s.2.2 = 2 ∧ s.2.1 = y + 1 ∧ x < s.1 then 1 else if s.2.2 = 0 ∧ s.2.1 = y ∧ x < s.1 then -1 else 0
def wn (S : List Sd) (x y : Int) : Int := sm S (hw x y)

theorem wn_x (S : List Sd) (x y : Int) : wn S (x - 1) y - wn S x y = ct S (x, y + 1, 2) - ct S (x, y, 0) := by
  unfold wn ct
  rw [← sm_sub, ← sm_sub]
  refine sm_congr fun s _ => ?_
  obtain ⟨a, b, d⟩ := s
  simp only [hw, Prod.mk.injEq]
  by_cases h2 : d = 2
  · subst h2; simp; split <;> split <;> (try split) <;> omega
  · by_cases h0 : d = 0
    · subst h0; simp; split <;> split <;> (try split) <;> omega
    · simp [h2, h0]

/-- It comes back to where it began. -/
def Closed (S : List Sd) : Prop := ∀ φ : Int × Int → Int, sm S (fun s => φ (en s) - φ (fromP s)) = 0
theorem Closed.nil : Closed [] := fun _ => rfl
theorem Closed.app {S T : List Sd} (h : Closed S) (k : Closed T) : Closed (S ++ T) := fun φ => by rw [sm_app, h φ, k φ]; rfl

theorem wn_y {S : List Sd} (hS : Closed S) (hd : ∀ s ∈ S, s.2.2 < 4) (x y : Int) : wn S x (y - 1) - wn S x y = ct S (x, y, 1) - ct S (x + 1, y, 3) := by
  have h := hS (fun p => if p.2 = y ∧ x < p.1 then 1 else 0)
  have e : sm S (fun s => (hw x (y - 1) s - hw x y s) - ((if s = (x, y, 1) then (1 : Int) else 0) - (if s = (x + 1, y, 3) then 1 else 0))) = sm S (fun s => 0 - ((fun p : Int × Int => if p.2 = y ∧ x < p.1 then (1 : Int) else 0) (en s) - (fun p : Int × Int => if p.2 = y ∧ x < p.1 then (1 : Int) else 0) (fromP s))) := by
    refine sm_congr fun s hs => ?_
    have h4 := hd s hs
    obtain ⟨a, b, d⟩ := s
    match d, h4 with
    | 0, _ => simp [hw, en, fromP]; repeat' split <;> try omega
    | 1, _ => simp [hw, en, fromP]; repeat' split <;> try omega
    | 2, _ => simp [hw, en, fromP]; repeat' split <;> try omega
    | 3, _ => simp [hw, en, fromP]; repeat' split <;> try omega
  rw [sm_sub, sm_sub, sm_sub, sm_sub (g := fun _ => (0 : Int)), h, sm_zero (fun _ _ => rfl)] at e
  unfold wn ct
  omega

theorem wn_left {S : List Sd} (hS : Closed S) (hd : ∀ s ∈ S, s.2.2 < 4) (x y : Int) (hx : ∀ s ∈ S, x < s.1) : wn S x y = 0 := by
  have h := hS (fun p => if p.2 ≤ y then 1 else 0)
  rw [← h]
  refine sm_congr fun s hs => ?_
  have h4 := hd s hs
  have hx := hx s hs
  obtain ⟨a, b, d⟩ := s
  simp only at hx
  match d, h4 with
  | 0, _ => simp [hw, en, fromP, hx]; repeat' split <;> try omega
  | 1, _ => simp [hw, en, fromP]; omega
  | 2, _ => simp [hw, en, fromP, hx]; repeat' split <;> try omega
  | 3, _ => simp [hw, en, fromP]; omega
theorem wn_right {S : List Sd} (x y : Int) (hx : ∀ s ∈ S, s.1 ≤ x) : wn S x y = 0 := sm_zero fun s hs => by
  have := hx s hs
  unfold hw
  rw [if_neg (by omega), if_neg (by omega)]
end Go.Proofs.YtljfiefobnncaabDoor.Qm

/- The winding numbers of one cycle: on its left one number, on its right one less; they never change their sign. Nothing of the program stands here. -/
namespace Go.Proofs.YtljfiefobnncaabDoor.Qm

/-- The sides of a cycle. -/
def cyS (f : Sd → Sd) (c : Sd × Nat) : List Sd := (List.range c.2).map fun i => it f i c.1
theorem mem_cyS {f : Sd → Sd} {c : Sd × Nat} {t : Sd} : t ∈ cyS f c ↔ ∃ i, i < c.2 ∧ t = it f i c.1 := by
  simp only [cyS, List.mem_map, List.mem_range]
  exact ⟨fun ⟨i, h, e⟩ => ⟨i, h, e.symm⟩, fun ⟨i, h, e⟩ => ⟨i, h, e.symm⟩⟩

theorem sm_range (f : Sd → Sd) (s : Sd) (g : Sd → Int) (n : Nat) : sm ((List.range (n + 1)).map fun i => it f i s) g = sm ((List.range n).map fun i => it f i s) g + g (it f n s) := by
  rw [List.range_succ, List.map_append, sm_app]; simp [sm]
theorem sm_tele {bl jn : Int → Int → Bool} (s : Sd) (φ : Int × Int → Int) (n : Nat) : sm ((List.range n).map fun i => it (nx bl jn) i s) (fun s => φ (en s) - φ (fromP s)) = φ (fromP (it (nx bl jn) n s)) - φ (fromP s) := by
  induction n with
  | zero => simp [sm, it]
  | succ n ih =>
    rw [sm_range, ih]
    have : fromP (it (nx bl jn) (n + 1) s) = en (it (nx bl jn) n s) := rfl
    rw [this]; omega

section
variable {bl jn : Int → Int → Bool} {c : Sd × Nat}

theorem Cyc.closed (h : Cyc (nx bl jn) (fun s => isS bl s = true) c.1 c.2) : Closed (cyS (nx bl jn) c) := fun φ => by
  unfold cyS
  rw [sm_tele, h.2.2.1]; omega
theorem Cyc.nodup (h : Cyc (nx bl jn) (fun s => isS bl s = true) c.1 c.2) : (cyS (nx bl jn) c).Nodup := by
  unfold cyS
  rw [List.Nodup, List.pairwise_map]
  refine List.Pairwise.imp_of_mem ?_ List.pairwise_lt_range
  intro i j _ hj hij
  exact h.2.2.2 i j hij (List.mem_range.1 hj)
theorem it_isS {s : Sd} (h : isS bl s = true) (n : Nat) : isS bl (it (nx bl jn) n s) = true := by
  induction n with
  | zero => exact h
  | succ n ih => exact nx_isS ih
theorem Cyc.sides (h : Cyc (nx bl jn) (fun s => isS bl s = true) c.1 c.2) : ∀ s ∈ cyS (nx bl jn) c, isS bl s = true := fun s hs => by
  obtain ⟨i, _, rfl⟩ := mem_cyS.1 hs
  exact it_isS h.1 i
theorem Cyc.mem (h : Cyc (nx bl jn) (fun s => isS bl s = true) c.1 c.2) (i : Nat) : it (nx bl jn) i c.1 ∈ cyS (nx bl jn) c :=
  mem_cyS.2 ⟨i % c.2, Nat.mod_lt _ h.2.1, h.mod i⟩

/-- On the left of a side of the list, one more than on its right. -/
theorem wn_side {S : List Sd} (hS : Closed S) (hn : S.Nodup) (hs : ∀ s ∈ S, isS bl s = true) {x y : Int} {d : Nat} (h : (x, y, d) ∈ S) : wn S (lpx x d) (lpy y d) = wn S (rpx x d) (rpy y d) + 1 := by
  have h0 := hs _ h
  have h4 := isS_lt h0
  have c1 := ct_yes hn h
  have no : ∀ t : Sd, isS bl t = false → ct S t = 0 := fun t ht => ct_no fun hm => by rw [hs t hm] at ht; simp at ht
  have hd : ∀ s ∈ S, s.2.2 < 4 := fun s hm => isS_lt (hs s hm)
  simp only at h4
  match d, h4 with
  | 0, _ =>
    have a := wn_x S x y
    have b := no (x, y + 1, 2) (by simp [isS, outQ] at h0 ⊢; simp [h0])
    simp only [lpx, lpy, rpx, rpy]; simp
    omega
  | 1, _ =>
    have a := wn_y hS hd x y
    have b := no (x + 1, y, 3) (by simp [isS, outQ] at h0 ⊢; simp [h0])
    simp only [lpx, lpy, rpx, rpy]; simp
    omega
  | 2, _ =>
    have a := wn_x S x (y - 1)
    rw [show y - 1 + 1 = y from by omega] at a
    have b := no (x, y - 1, 0) (by simp [isS, outQ] at h0 ⊢; simp [h0])
    simp only [lpx, lpy, rpx, rpy]; simp
    omega
  | 3, _ =>
    have a := wn_y hS hd (x - 1) y
    rw [show x - 1 + 1 = x from by omega] at a
    have b := no (x - 1, y, 1) (by simp [isS, outQ] at h0 ⊢; simp [h0])
    simp only [lpx, lpy, rpx, rpy]; simp
    omega

/-- Where two pixels side by side are of one colour, no side parts them. -/
theorem wn_same_x {S : List Sd} (hs : ∀ s ∈ S, isS bl s = true) {x y : Int} (h : bl (x - 1) y = bl x y) : wn S (x - 1) y = wn S x y := by
  have no : ∀ t : Sd, isS bl t = false → ct S t = 0 := fun t ht => ct_no fun hm => by rw [hs t hm] at ht; simp at ht
  have a := wn_x S x y
  have b := no (x, y + 1, 2) (by simp [isS, outQ, h])
  have d := no (x, y, 0) (by simp [isS, outQ, h])
  omega
theorem wn_same_y {S : List Sd} (hS : Closed S) (hs : ∀ s ∈ S, isS bl s = true) {x y : Int} (h : bl x (y - 1) = bl x y) : wn S x (y - 1) = wn S x y := by
  have no : ∀ t : Sd, isS bl t = false → ct S t = 0 := fun t ht => ct_no fun hm => by rw [hs t hm] at ht; simp at ht
  have a := wn_y hS (fun s hm => isS_lt (hs s hm)) x y
  have b := no (x, y, 1) (by simp [isS, outQ, h])
  have d := no (x + 1, y, 3) (by simp [isS, outQ, h])
  omega
end
end Go.Proofs.YtljfiefobnncaabDoor.Qm
