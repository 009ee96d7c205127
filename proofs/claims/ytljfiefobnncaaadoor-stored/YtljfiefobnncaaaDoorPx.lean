/- Plain facts: the P1 file is read; half of a P4 file is none. -/
import Derived.Test.YtljfiefobnncaaaDoorPw
namespace Go.Proofs.YtljfiefobnncaaaDoor.Pm

/-- The bytes that are no blanks. -/
def inked (T : List UInt8) : List UInt8 := T.filter fun c => !blankB c
theorem plain_inked (x : List UInt8) : ∀ (T : List UInt8), (∀ c ∈ T, blankB c = true ∨ okPix c = true) → ∃ k, plainL (T ++ x) (inked T).length = (inked T, k, true)
  | [], _ => ⟨0, by cases x <;> simp [inked, plainL]⟩
  | c :: T, h => by
    obtain ⟨k, hk⟩ := plain_inked x T fun d hd => h d (List.mem_cons_of_mem _ hd)
    rcases h c (List.mem_cons_self ..) with hb | hp
    · have e : inked (c :: T) = inked T := by simp [inked, hb]
      rw [e]
      cases hn : (inked T).length with
      | zero =>
        rw [List.eq_nil_of_length_eq_zero hn]
        exact ⟨0, by simp [plainL]⟩
      | succ m =>
        rw [hn] at hk
        refine ⟨k + 1, ?_⟩
        rw [List.cons_append, plainL, if_pos hb, hk]
    · have hb := okPix_blank hp
      have e : inked (c :: T) = c :: inked T := by simp [inked, hb]
      rw [e, List.length_cons, List.cons_append, plainL, if_neg (by simp [hb]), if_pos hp, hk]
      exact ⟨k + 1, rfl⟩
theorem p1To_ink (l : List UInt8) (w : Nat) (hp : l.all okPix = true) : ∀ i, i ≤ l.length → inked (p1To l w i) = l.take i ∧ ∀ c ∈ p1To l w i, blankB c = true ∨ okPix c = true
  | 0, _ => by simp [p1To, inked]
  | i + 1, hi => by
    obtain ⟨e, hc⟩ := p1To_ink l w hp i (by omega)
    have g : l.getD i 0 = l[i] := by rw [List.getD_eq_getElem?_getD, List.getElem?_eq_getElem (by omega)]; rfl
    have ok : okPix l[i] = true := List.all_eq_true.1 hp _ (List.getElem_mem (by omega))
    have nb := okPix_blank ok
    rw [p1To, g]
    refine ⟨?_, ?_⟩
    · have e2 : inked (p1To l w i ++ ([l[i]] ++ if i % w = w - 1 then [10] else [])) = inked (p1To l w i) ++ [l[i]] := by
        simp only [inked, List.filter_append]
        congr 1
        split
        · simp [nb, show blankB 10 = true from rfl]
        · simp [nb]
      rw [e2, e, List.take_succ_eq_append_getElem (by omega)]
    · intro c hcm
      rw [List.mem_append, List.mem_append] at hcm
      rcases hcm with h | h | h
      · exact hc c h
      · simp at h; rw [h]; exact .inr ok
      · split at h
        · simp at h; rw [h]; exact .inl rfl
        · simp at h
/-- THE P1 FILE OF A BITMAP IS READ AS THE BITMAP, whatever stands behind it. -/
theorem read_plain (l x : List UInt8) (w h : Nat) (w1 : 1 ≤ w) (w2 : w ≤ 32) (h1 : 1 ≤ h) (h2 : h ≤ 32) (hl : l.length = w * h) (hp : l.all okPix = true) : readOut (head1 w h ++ p1To l w l.length ++ x) w h l 0 0 := by
  have hh := head_read 49 32 10 w h (p1To l w l.length ++ x) (.inl rfl) w1 w2 h1 h2 rfl rfl rfl rfl
  have e : [80, 49, 32] ++ itoaL w ++ [10] ++ itoaL h ++ [10] ++ (p1To l w l.length ++ x) = head1 w h ++ p1To l w l.length ++ x := by simp [head1]
  rw [e] at hh
  obtain ⟨p, hpp⟩ : ∃ p, p = 4 + (itoaL w).length + (itoaL h).length := ⟨_, rfl⟩
  have hL : ∃ pre, head1 w h ++ p1To l w l.length ++ x = pre ++ ((10 :: p1To l w l.length) ++ x) ∧ pre.length = p := ⟨[80, 49, 32] ++ itoaL w ++ [10] ++ itoaL h, by rw [← e]; simp, by rw [hpp]; simp; omega⟩
  obtain ⟨pre, eL, lp⟩ := hL
  rw [← hpp] at hh
  rw [eL] at hh ⊢
  obtain ⟨ei, hc⟩ := p1To_ink l w hp l.length (Nat.le_refl _)
  obtain ⟨k, hk⟩ := plain_inked x (10 :: p1To l w l.length) (by
    intro c hc2
    rcases List.mem_cons.1 hc2 with rfl | h
    · exact .inl rfl
    · exact hc c h)
  have ei2 : inked (10 :: p1To l w l.length) = l := by
    have : inked (10 :: p1To l w l.length) = inked (p1To l w l.length) := by simp [inked, show blankB 10 = true from rfl]
    rw [this, ei, List.take_length]
  rw [ei2] at hk
  have hd : (pre ++ ((10 :: p1To l w l.length) ++ x)).drop p = (10 :: p1To l w l.length) ++ x := by rw [← lp]; simp
  refine ⟨49, w, h, p, 0, hh, .inr ⟨rfl, l, p + k, 0, .inl ⟨rfl, .inl ?_⟩, .inr ⟨rfl, rfl, rfl, rfl, rfl, rfl⟩⟩⟩
  rw [hd, ← hl, hk]
  exact ⟨rfl, rfl, rfl, rfl⟩

theorem skipG_ext (x : List UInt8) : ∀ (l : List UInt8) (c : Bool), skipG l c < l.length → skipG (l ++ x) c = skipG l c
  | [], _, h => by simp at h
  | a :: l, c, h => by
    rw [List.cons_append, skipG, skipG]
    rw [skipG] at h
    split
    · rename_i hc
      rw [if_pos hc] at h
      simp only [List.length_cons] at h
      rw [skipG_ext x l _ (by omega)]
    · rfl
theorem numC_ext (x : List UInt8) : ∀ (l : List UInt8), numC l < l.length → numC (l ++ x) = numC l
  | [], h => by simp at h
  | a :: l, h => by
    rw [List.cons_append, numC, numC]
    rw [numC] at h
    split
    · rename_i hc
      rw [if_pos hc] at h
      simp only [List.length_cons] at h
      rw [numC_ext x l (by omega)]
    · rfl
theorem numV_ext (x : List UInt8) : ∀ (l : List UInt8) (n : Nat), numC l < l.length → numV n (l ++ x) = numV n l
  | [], n, h => by simp at h
  | a :: l, n, h => by
    rw [List.cons_append, numV, numV]
    rw [numC] at h
    split
    · rename_i hc
      rw [if_pos hc] at h
      simp only [List.length_cons] at h
      rw [numV_ext x l _ (by omega)]
    · rfl
/-- A side that is read within a text is read so too if the text goes on. -/
theorem sideOut_ext {t : List UInt8} {a n p : Nat} (x : List UInt8) (ha : a ≤ t.length) (h : sideOut t a n p 0) (hp : p < t.length) : sideOut (t ++ x) a n p 0 := by
  have gl := gapEnd_le t a ha
  rcases h with ⟨_, _, _, he⟩ | ⟨hg, h⟩
  · exact absurd he.symm (lackE_nz _ _)
  · have hgl : gapEnd t a < t.length := by
      rcases h with ⟨_, _, _, he⟩ | ⟨_, _, _, _, he⟩ | ⟨_, _, _, _, hp', _⟩
      · exact absurd he.symm (lackE_nz _ _)
      · omega
      · omega
    have ge : gapEnd (t ++ x) a = gapEnd t a := by
      have e : (t ++ x).drop a = t.drop a ++ x := List.drop_append_of_le_length ha
      have : skipG (t.drop a) false < (t.drop a).length := by rw [List.length_drop]; rw [gapEnd] at hgl; omega
      rw [gapEnd, gapEnd, e, skipG_ext x _ _ this]
    refine .inr ⟨by rw [ge]; exact hg, ?_⟩
    rw [ge]
    rcases h with ⟨_, _, _, he⟩ | ⟨_, _, _, _, he⟩ | ⟨c1, c2, c3, c4, c5, _⟩
    · exact absurd he.symm (lackE_nz _ _)
    · omega
    · have e : (t ++ x).drop (gapEnd t a) = t.drop (gapEnd t a) ++ x := List.drop_append_of_le_length gl
      have q : numC (t.drop (gapEnd t a)) < (t.drop (gapEnd t a)).length := by rw [List.length_drop]; omega
      refine .inr (.inr ?_)
      rw [e, numC_ext x _ q, numV_ext x _ _ q]
      exact ⟨c1, c2, c3, c4, c5, rfl⟩
/-- A place that is told lies within the text. -/
theorem readOut_place {l : List UInt8} {n m : Nat} {b : List UInt8} {e : Int} {q : Nat} (h : readOut l n m b e q) : q ≤ l.length := by
  obtain ⟨c0, n0, m0, p0, e0, hh, h⟩ := h
  have hplace : p0 ≤ l.length := by
    obtain ⟨c, p, f, hk, hh⟩ := hh
    rcases hh with ⟨z, _, _, _, rfl, _⟩ | ⟨z, n1, p1, e1, hs, hh⟩
    · rcases hk with ⟨_, _, rfl, _⟩ | ⟨⟨y, hy, _⟩, _, _, rfl, _⟩ | ⟨_, hy, _, _, rfl⟩
      · omega
      · have := (List.getElem?_eq_some_iff.1 hy).1; omega
      · exact absurd rfl z
    · obtain ⟨rfl, k2, _⟩ := kindOut_ok hk z
      have s1 := sideOut_ok k2 hs
      rcases hh with ⟨_, _, _, _, rfl, _⟩ | ⟨y, n2, p2, e2, ht, hh⟩
      · exact s1.1
      · have s2 := sideOut_ok s1.1 ht
        rcases hh with ⟨_, _, _, _, rfl, _⟩ | ⟨_, _, _, _, rfl, _⟩ <;> exact s2.1
  rcases h with ⟨_, _, _, _, _, rfl⟩ | ⟨_, b1, p1, e1, hp, h⟩
  · exact hplace
  · rcases h with ⟨z, _, _, _, _, rfl⟩ | ⟨_, _, _, _, _, rfl⟩
    · rcases hp with ⟨_, hp⟩ | ⟨_, hp⟩
      · have key : ∀ (T : List UInt8) (k : Nat), (plainL T k).2.1 ≤ T.length := by
          intro T
          induction T with
          | nil => intro k; cases k <;> simp [plainL]
          | cons a T ih =>
            intro k
            cases k with
            | zero => simp [plainL]
            | succ k =>
              rw [plainL]
              split
              · have := ih (k + 1); simp only [List.length_cons]; omega
              · split
                · have := ih k; simp only [List.length_cons]; omega
                · simp
        have := key (l.drop p0) (n0 * m0)
        rw [List.length_drop] at this
        rcases hp with ⟨_, _, rfl, _⟩ | ⟨_, _, rfl, _⟩ <;> omega
      · rcases hp with ⟨_, _, rfl, _⟩ | ⟨_, _, _, rfl, _⟩ | ⟨_, _, _, _, rfl⟩
        · exact hplace
        · exact Nat.le_refl _
        · exact absurd rfl z
    · exact Nat.zero_le _
/-- A PART OF A FILE THAT IS WRITTEN IS NO FILE. -/
theorem read_part (l : List UInt8) (w h k : Nat) (w1 : 1 ≤ w) (w2 : w ≤ 32) (h1 : 1 ≤ h) (h2 : h ≤ 32) (hl : l.length = w * h) (hk : k < (writeTo w h l h).length) {n m : Nat} {b : List UInt8} {e : Int} {q : Nat} (hr : readOut ((writeTo w h l h).take k) n m b e q) : e ≠ 0 := by
  intro h0
  subst h0
  obtain ⟨F, hF⟩ : ∃ F, F = writeTo w h l h := ⟨_, rfl⟩
  have hh := head_read 52 10 32 w h (rowsL l w h) (.inr rfl) w1 w2 h1 h2 rfl rfl rfl rfl
  have eF : [80, 52, 10] ++ itoaL w ++ [32] ++ itoaL h ++ [10] ++ rowsL l w h = F := by rw [hF, writeTo_eq]; simp [headL]
  rw [eF] at hh
  have lF : F.length = 5 + (itoaL w).length + (itoaL h).length + (w + 7) / 8 * h := by
    rw [← eF]; simp only [List.length_append, rowsL_length l w h hl, List.length_cons, List.length_nil]; omega
  rw [← hF] at hk hr
  obtain ⟨t, ht⟩ : ∃ t, t = F.take k := ⟨_, rfl⟩
  have lt : t.length = k := by rw [ht, List.length_take]; omega
  have eT : t ++ F.drop k = F := by rw [ht, List.take_append_drop]
  rw [← ht] at hr
  obtain ⟨c0, n0, m0, p0, e0, hht, hr⟩ := hr
  rcases hr with ⟨z, _, _, _, he, _⟩ | ⟨z0, b1, p1, e1, hp, hr⟩
  · exact z he.symm
  · rcases hr with ⟨z, _, _, _, he, _⟩ | ⟨z1, _, _, _, _, _⟩
    · exact z he.symm
    · subst z0 z1
      -- the head of the part, taken apart
      obtain ⟨c, p, f, hkd, hht⟩ := hht
      rcases hht with ⟨z, _, _, _, _, he⟩ | ⟨z, n1, q1, f1, hs1, hht⟩
      · exact z he.symm
      · obtain ⟨rfl, k2, k3⟩ := kindOut_ok hkd z
        subst z
        rcases hht with ⟨z, _, _, _, _, he⟩ | ⟨z, n2, q2, f2, hs2, hht⟩
        · exact z he.symm
        · subst z
          rcases hht with ⟨z, _, _, _, _, he⟩ | ⟨z, rfl, rfl, rfl, rfl, _⟩
          · exact z he.symm
          · subst z
            have o1 := sideOut_ok k2 hs1
            -- the second letter is the whole file's
            have c52 : (c0.toNat : Int) = 52 := by
              rcases hkd with ⟨_, _, _, he⟩ | ⟨_, _, _, _, he⟩ | ⟨_, hc, _, _, _⟩
              · exact absurd he.symm (lackE_nz _ _)
              · exact absurd he.symm (lackE_nz _ _)
              · have e1 : F[1]? = some c0 := by rw [← eT, List.getElem?_append_left (by omega)]; exact hc
                rw [← eF] at e1
                simp at e1
                rw [← e1]; rfl
            rcases hp with ⟨c49, _⟩ | ⟨_, hp⟩
            · omega
            · rcases hp with ⟨_, _, _, he⟩ | ⟨_, _, _, _, he⟩ | ⟨⟨y, hy, _⟩, hlen, _, _, _⟩
              · exact absurd he.symm (lackE_nz _ _)
              · omega
              · have pl := (List.getElem?_eq_some_iff.1 hy).1
                have g2 : q1 < t.length := by
                  rcases hs2 with ⟨_, _, _, he⟩ | ⟨hg, _⟩
                  · exact absurd he.symm (lackE_nz _ _)
                  · have := gapEnd_le t q1 o1.1; omega
                have x1 := sideOut_ext (F.drop k) k2 hs1 g2
                have x2 := sideOut_ext (F.drop k) o1.1 hs2 pl
                rw [eT] at x1 x2
                -- the whole file's head
                obtain ⟨d, pp, ff, hkd', hht'⟩ := hh
                rcases hht' with ⟨z', _, _, _, _, he⟩ | ⟨z', n1', q1', f1', hs1', hht'⟩
                · exact z' he.symm
                · obtain ⟨rfl, _, _⟩ := kindOut_ok hkd' z'
                  obtain ⟨rfl, rfl, rfl⟩ := sideOut_one x1 hs1'
                  rcases hht' with ⟨z', _, _, _, _, he⟩ | ⟨_, n2', q2', f2', hs2', hht'⟩
                  · exact z' he.symm
                  · obtain ⟨rfl, rfl, rfl⟩ := sideOut_one x2 hs2'
                    rcases hht' with ⟨z', _, _, _, _, he⟩ | ⟨_, _, e1, e2, e3, _⟩
                    · exact z' he.symm
                    · subst e1 e2
                      omega
end Go.Proofs.YtljfiefobnncaaaDoor.Pm
