/- Which of the sides that begin where another ends is the next: by their bends. Nothing of the program stands here. -/
import Derived.Test.YtljfiefobnncaaaDa
namespace Go.Proofs.Ytljfiefobnncaaa
theorem best_bend : ∀ (j nw ne se sw : Bool) (d e : Fin 4), Qm.inQ nw ne se sw d = true → Qm.outQ nw ne se sw e = true → e.val ≠ Qm.nextD j nw ne se sw d →
    (j = true → bendD d e < bendD d (Qm.nextD j nw ne se sw d)) ∧ (j = false → bendD d (Qm.nextD j nw ne se sw d) < bendD d e) := by decide

/-- Does the later one win? -/
def winB (j : Bool) (old now : Int) : Bool := (j && decide (old < now)) || (!j && decide (now < old))

theorem win_next {bl jn : Int → Int → Bool} {s t : Qm.Sd} (hs : Qm.isS bl s = true) (ht : Qm.isS bl t = true) (hp : Qm.fromP t = Qm.en s) (hne : t ≠ Qm.nx bl jn s) :
    winB (jn (Qm.en s).1 (Qm.en s).2) (bendD s.2.2 t.2.2) (bendD s.2.2 (Qm.nx bl jn s).2.2) = true ∧ winB (jn (Qm.en s).1 (Qm.en s).2) (bendD s.2.2 (Qm.nx bl jn s).2.2) (bendD s.2.2 t.2.2) = false := by
  have h1 := Qm.isS_lt hs
  have h2 := Qm.isS_lt ht
  have hi := hs
  rw [Qm.isS_in] at hi
  have e1 : t.1 = (Qm.en s).1 := congrArg Prod.fst hp
  have e2 : t.2.1 = (Qm.en s).2 := congrArg Prod.snd hp
  have ho := ht
  unfold Qm.isS at ho
  rw [e1, e2] at ho
  have hd : t.2.2 ≠ (Qm.nx bl jn s).2.2 := fun e => hne (Prod.ext e1 (Prod.ext e2 e))
  have b := best_bend (jn (Qm.en s).1 (Qm.en s).2) _ _ _ _ ⟨s.2.2, h1⟩ ⟨t.2.2, h2⟩ hi ho hd
  have bb : (jn (Qm.en s).1 (Qm.en s).2 = true → bendD s.2.2 t.2.2 < bendD s.2.2 (Qm.nx bl jn s).2.2) ∧ (jn (Qm.en s).1 (Qm.en s).2 = false → bendD s.2.2 (Qm.nx bl jn s).2.2 < bendD s.2.2 t.2.2) := b
  generalize bendD s.2.2 t.2.2 = u at *
  generalize bendD s.2.2 (Qm.nx bl jn s).2.2 = v at *
  unfold winB
  cases hj : jn (Qm.en s).1 (Qm.en s).2
  · have := bb.2 hj
    simp; omega
  · have := bb.1 hj
    simp; omega

/-- What is known of the best of the first k: none yet, or one that begins where s ends; the next side itself once it has been seen. -/
def Best (SL : List Qm.Sd) (p : Int × Int) (kf k : Nat) (bi : Int) : Prop :=
  (bi = -1 ∧ k ≤ kf) ∨ ∃ b : Nat, bi = b ∧ b < k ∧ Qm.fromP (SL.getD b (0, 0, 0)) = p ∧ (kf < k → b = kf)

theorem Best.skip {SL : List Qm.Sd} {p : Int × Int} {kf k : Nat} {bi : Int} (h : Best SL p kf k bi) (hkf : Qm.fromP (SL.getD kf (0, 0, 0)) = p) (hn : Qm.fromP (SL.getD k (0, 0, 0)) ≠ p) : Best SL p kf (k + 1) bi := by
  have hne : k ≠ kf := fun e => hn (by rw [e]; exact hkf)
  rcases h with ⟨h1, h2⟩ | ⟨b, h1, h2, h3, h4⟩
  · exact .inl ⟨h1, by omega⟩
  · exact .inr ⟨b, h1, by omega, h3, fun _ => h4 (by omega)⟩
theorem Best.first {SL : List Qm.Sd} {p : Int × Int} {kf k : Nat} {bi : Int} (h : Best SL p kf k bi) (hb : bi < 0) (hk : Qm.fromP (SL.getD k (0, 0, 0)) = p) : Best SL p kf (k + 1) k := by
  rcases h with ⟨_, h2⟩ | ⟨b, h1, _⟩
  · exact .inr ⟨k, rfl, by omega, hk, fun _ => by omega⟩
  · omega
theorem Best.more {bl jn : Int → Int → Bool} {SL : List Qm.Sd} {s : Qm.Sd} {kf k b : Nat} (hall : ∀ j, j < SL.length → Qm.isS bl (SL.getD j (0, 0, 0)) = true) (hnd : ∀ i j, i < SL.length → j < SL.length → SL.getD i (0, 0, 0) = SL.getD j (0, 0, 0) → i = j)
    (hs : Qm.isS bl s = true) (hkf : kf < SL.length) (ef : SL.getD kf (0, 0, 0) = Qm.nx bl jn s) (hk : k < SL.length) (h : Best SL (Qm.en s) kf k b) (hp : Qm.fromP (SL.getD k (0, 0, 0)) = Qm.en s) :
    b < k ∧ ∀ r, winB (jn (Qm.en s).1 (Qm.en s).2) (bendD s.2.2 (SL.getD b (0, 0, 0)).2.2) (bendD s.2.2 (SL.getD k (0, 0, 0)).2.2) = r → Best SL (Qm.en s) kf (k + 1) (if r then k else b) := by
  rcases h with ⟨h1, h2⟩ | ⟨b', h1, h2, h3, h4⟩
  · omega
  · have hb' : b' = b := by omega
    subst hb'
    refine ⟨h2, fun r hr => ?_⟩
    rcases Nat.lt_trichotomy k kf with hlt | heq | hgt
    · cases r
      · exact .inr ⟨b', rfl, by omega, h3, fun _ => by omega⟩
      · exact .inr ⟨k, rfl, by omega, hp, fun _ => by omega⟩
    · subst heq
      have hne : SL.getD b' (0, 0, 0) ≠ Qm.nx bl jn s := fun e => by
        have := hnd b' k (by omega) hk (by rw [e, ef]); omega
      have := (win_next (jn := jn) hs (hall b' (by omega)) h3 hne).1
      rw [ef, this] at hr
      subst hr
      exact .inr ⟨k, rfl, by omega, hp, fun _ => rfl⟩
    · have hbk := h4 hgt
      subst hbk
      have hne : SL.getD k (0, 0, 0) ≠ Qm.nx bl jn s := fun e => by
        have := hnd k b' hk hkf (by rw [e, ef]); omega
      have := (win_next (jn := jn) hs (hall k hk) hp hne).2
      rw [ef, this] at hr
      subst hr
      exact .inr ⟨b', rfl, by omega, h3, fun _ => rfl⟩
theorem Best.done {SL : List Qm.Sd} {p : Int × Int} {kf : Nat} {bi : Int} (h : Best SL p kf SL.length bi) (hkf : kf < SL.length) : bi = kf := by
  rcases h with ⟨_, h2⟩ | ⟨b, h1, _, _, h4⟩
  · omega
  · rw [h1, h4 hkf]
end Go.Proofs.Ytljfiefobnncaaa
