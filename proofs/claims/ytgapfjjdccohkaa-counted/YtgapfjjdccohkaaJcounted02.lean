import Derived.Test.YtgapfjjdccohkaaJcounted01
import Derived.SizedLaws
import Derived.WalkKit

/- built: a bitmap out of raw numbers. -/
namespace Go.Proofs.Ytgapfjjdccohkaa
open Go.RowKit

theorem and_one_i64 (x : Int) : ∃ b : Nat, b ≤ 1 ∧ bits BinOp.and IntKind.i64 x 1 = (b : Int) := by
  refine ⟨(BitVec.ofInt 64 x &&& BitVec.ofInt 64 1).toNat, ?_, ?_⟩
  · rw [BitVec.toNat_and, show (BitVec.ofInt 64 1).toNat = 1 from rfl, Nat.and_one_is_mod]; omega
  · show IntKind.i64.wrap ((BitVec.ofInt 64 x &&& BitVec.ofInt 64 1).toNat : Int) = _
    rw [BitVec.toNat_and, show (BitVec.ofInt 64 1).toNat = 1 from rfl, Nat.and_one_is_mod, IntKind.wrap_i64]; omega

/-- What a slice of raw numbers gives: nothing, or a number at each place below its length. -/
def RawIs (ao : Option Addr) (len : Nat) (w : World) : Prop :=
  len = 0 ∨ ∃ b off, ao = some ⟨b, off, none⟩ ∧ b < w.heap.size ∧ ∀ j, j < len → ∃ z, w.cell? ⟨b, off + j, none⟩ = some (.int .i64 z)

set_option maxRecDepth 4000 in
set_option maxHeartbeats 2000000 in
theorem built_core (ao : Option Addr) (len cap : Nat) (a h : Int) (w : World) (hraw : RawIs ao len w) (hlen : len ≤ 140737488355328) (a1 : -9223372036854775808 ≤ a) (a2 : a ≤ 9223372036854775807) (h1 : -9223372036854775808 ≤ h) (h2 : h ≤ 9223372036854775807) :
    Calls Try.prog 13 #[.slice ao len cap, .int .i64 a, .int .i64 h, .int .i64 32] w fun e w' => (∃ (W H : Nat) (l : List UInt8), e = .returned (.agg #[.int .i64 W, .int .i64 H, .string ⟨l.toArray⟩]) ∧ 1 ≤ W ∧ W ≤ 32 ∧ 1 ≤ H ∧ H ≤ 32 ∧ l.length = W * H ∧ l.all Pm.okPix = true) ∧ Below w.heap.size w w' := by
  obtain ⟨i0, hi, hz0, hz1, hz2⟩ := info_parts infoByte
  go_enter Try.func13, Try.ntmps13
  go_wp2_with fail
  refine (pick_any a 32 a1 a2 (by omega) (by omega) _).mono ?_
  rintro e w1 ⟨⟨r1, rfl, hr1⟩, rfl⟩
  go_wp2_with fail
  refine (pick_any h 32 h1 h2 (by omega) (by omega) _).mono ?_
  rintro e w1 ⟨⟨r2, rfl, hr2⟩, rfl⟩
  go_wp2
  have hraw2 := hid hraw
  clear hraw
  obtain ⟨W, hW⟩ : ∃ W, W = 1 + r1 := ⟨_, rfl⟩
  obtain ⟨H, hH⟩ : ∃ H, H = 1 + r2 := ⟨_, rfl⟩
  have eW : (1 : Int) + (r1 : Int) = (W : Nat) := by omega
  have eH : (1 : Int) + (r2 : Int) = (H : Nat) := by omega
  have W1 : 1 ≤ W := by omega
  have W2 : W ≤ 32 := by omega
  have H1 : 1 ≤ H := by omega
  have H2 : H ≤ 32 := by omega
  simp only [eW, eH]
  clear eW eH hW hH hr1 hr2
  obtain ⟨t, ht⟩ : ∃ t, t = W * H := ⟨_, rfl⟩
  have et : (W : Int) * (H : Int) = (t : Nat) := by rw [ht]; simp
  have t1 : 1 ≤ t := by rw [ht]; exact Nat.mul_le_mul W1 H1
  have t2 : t ≤ 1024 := by rw [ht]; exact Nat.mul_le_mul W2 H2
  have T := hid ht
  clear ht
  obtain ⟨X, hX⟩ : ∃ X, X = (w.alloc (.cells #[.int .i64 0, .int .i64 0, .string ⟨#[]⟩] 23)).alloc (.cells #[.int .i64 W, .int .i64 H, .string ⟨#[]⟩] 23) := ⟨_, rfl⟩
  have Xs : X.heap.size = w.heap.size + 2 := by rw [hX]; simp
  have Xb : Below w.heap.size w X := by rw [hX]; exact ((Below.refl _ _).alloc (Nat.le_refl _) _).alloc (by simp) _
  have Y := Box3.new w (.int .i64 0) (.int .i64 0) (.string ⟨#[]⟩) 23 |>.alloc (.cells #[.int .i64 W, .int .i64 H, .string ⟨#[]⟩] 23)
  have Z := Box3.new (w.alloc (.cells #[.int .i64 0, .int .i64 0, .string ⟨#[]⟩] 23)) (.int .i64 W) (.int .i64 H) (.string ⟨#[]⟩) 23
  rw [← hX] at Y Z
  rw [← hX]
  have XS := hid Xs
  have XB := hid Xb
  have YH := hid Y
  have ZH := hid Z
  clear hX Xs Xb Y Z
  go_loopw [10, 11] (fun v i wr => ∃ (l : List UInt8), i = .int .i64 l.length ∧ l.length ≤ t ∧ Hid (l.all Pm.okPix = true) ∧ wr.ownsRow (w.heap.size + 2) 5 1 v l.length (cellsOf l) ∧ Below (w.heap.size + 2) X wr) (fun _ i _ => t - (intOf i).toNat)
  case atStart => exact ⟨[], rfl, by simp, rfl, World.ownsRow_nil _ _ _ _, Below.refl _ _⟩
  case round =>
    obtain ⟨l, rfl, hlt0, hall, hown, hnx⟩ := hrel
    have hsz : w.heap.size + 2 ≤ wr.heap.size := by have := hnx.size; have := XS.out; omega
    have hnx2 : Below X.heap.size X wr := hnx.mono (by rw [XS.out]; omega)
    obtain ⟨⟨y0, y1, y2⟩, ⟨g0, g1, g2⟩, yB, yz⟩ := YH.out.on hnx2
    obtain ⟨⟨z0, z1, z2⟩, ⟨j0, j1, j2⟩, zB, zz⟩ := ZH.out.on hnx2
    simp at z0 z1 z2 j0 j1 j2 zz
    have HB := hid yB
    have HN := hid hnx2
    clear yB zB hnx2
    by_cases hlt : l.length < t
    · by_cases hq : l.length / 16 < len
      · rcases hraw2.out with hl0 | ⟨b, off, rfl, hb0, hcell⟩
        · omega
        · obtain ⟨z, hz⟩ := hcell (l.length / 16) hq
          have hzr : wr.cell? ⟨b, off + l.length / 16, none⟩ = some (.int .i64 z) := ((HN.out.mono (by rw [XS.out]; omega)).cell (p := ⟨b, off + l.length / 16, none⟩) (show b < w.heap.size from hb0)).trans ((XB.out.cell (p := ⟨b, off + l.length / 16, none⟩) hb0).trans hz)
          clear hz hcell
          obtain ⟨bit, hbit, hbe⟩ := and_one_i64 (z / 2 ^ (l.length % 16))
          have BV : (UInt8.ofNat (48 + bit)).toNat = 48 + bit := by simp only [UInt8.toNat_ofNat']; omega
          have BO : Hid (Pm.okPix (UInt8.ofNat (48 + bit)) = true) := Pm.okPix_of _ (by rw [BV]; omega)
          have BVH := hid BV
          clear BV
          go_wp2_with (first
            | (at_builtin; refine wpList_append_own _ rfl _ _ 72 rfl (w.heap.size + 2) 5 i0 (.int .u8 0) 1 1 Try.underlying72 hi hz0 hz1 hz2 rfl (by decide) _ _ _ rfl (hown.alloc _) ⟨_, 0, none⟩ 1 1 [.int .u8 (48 + (bit : Int))] rfl rfl ?c1 ?c2 ?c3 ?c4 ?c5 ?_))
          case c1 =>
            intro j' u hj'
            match j', hj' with
            | 0, hj' => simp at hj'; subst hj'; simp [Addr.add]
          case c2 => intro u hu; simp at hu; subst hu; rfl
          case c3 => unfold maxLen; omega
          case c4 => omega
          case c5 => simp; omega
          · intro v' w3 hown' hgrow _
            have hb : Below (w.heap.size + 2) X w3 := (hnx.alloc (by omega) _).grown hgrow (by simp; omega) (fun k hk => (hown.lt k hk).1)
            have ho : w3.ownsRow (w.heap.size + 2) 5 1 v' (l ++ [UInt8.ofNat (48 + bit)]).length (cellsOf (l ++ [UInt8.ofNat (48 + bit)])) := by rw [cellsOf_snoc, List.length_append, BVH.out]; exact hown'
            clear hown' hgrow hown
            go_wp2
            go_roundw
            case rel => exact ⟨l ++ [UInt8.ofNat (48 + bit)], by simp, by simp; omega, by show _ = _; rw [List.all_append, hall.out]; simp only [List.all_cons, List.all_nil, Bool.and_true, Bool.true_and]; exact BO.out, ho, hb⟩
            case measure => simp [intOf]; omega
      · go_wp2_with (first
          | (at_builtin; refine wpList_append_own _ rfl _ _ 72 rfl (w.heap.size + 2) 5 i0 (.int .u8 0) 1 1 Try.underlying72 hi hz0 hz1 hz2 rfl (by decide) _ _ _ rfl (hown.alloc _) ⟨_, 0, none⟩ 1 1 [.int .u8 48] rfl rfl ?c1 ?c2 ?c3 ?c4 ?c5 ?_))
        case c1 =>
          intro j' u hj'
          match j', hj' with
          | 0, hj' => simp at hj'; subst hj'; simp [Addr.add]
        case c2 => intro u hu; simp at hu; subst hu; rfl
        case c3 => unfold maxLen; omega
        case c4 => omega
        case c5 => simp; omega
        · intro v' w3 hown' hgrow _
          have hb : Below (w.heap.size + 2) X w3 := (hnx.alloc (by omega) _).grown hgrow (by simp; omega) (fun k hk => (hown.lt k hk).1)
          have ho : w3.ownsRow (w.heap.size + 2) 5 1 v' (l ++ [48]).length (cellsOf (l ++ [48])) := by rw [cellsOf_snoc, List.length_append, show (48 : UInt8).toNat = 48 from rfl]; exact hown'
          clear hown' hgrow hown
          go_wp2
          go_roundw
          case rel => exact ⟨l ++ [48], by simp, by simp; omega, by show _ = _; rw [List.all_append, hall.out]; simp only [List.all_cons, List.all_nil, Bool.and_true, Bool.true_and]; exact rfl, ho, hb⟩
          case measure => simp [intOf]; omega
    · have hB1 : 0 < l.length := by omega
      have LT := hid (show l.length = W * H by rw [← T.out]; omega)
      rcases hown.2 with ⟨-, h0⟩ | ⟨g, cap, cur, rfl, -, -, -, -, -, -⟩
      · omega
      · have hcv := run_convert_bytes_back (P := Try.prog) wr 72 9 5 ⟨g, 0, none⟩ cap l Try.underlying72 Try.underlying5 Try.underlying9 (fun j hj => hown.cells (g := g) rfl j _ (by simp [cellsOf, hj]))
        go_wp2
        refine bodyPost_ret (v := .agg #[.int .i64 W, .int .i64 H, .string ⟨l.toArray⟩]) (by simp [results, Try.results13, go_sem, y0, y1, y2]) rfl ?_
        exact ⟨⟨W, H, l, rfl, W1, W2, H1, H2, LT.out, hall.out⟩, (((HB.out.setCell (by simp) _).setCell (by simp) _).setCell (by simp) _).setCell (by simp) _⟩
end Go.Proofs.Ytgapfjjdccohkaa

/- How raw numbers come in on a plain seat. -/
namespace Go.Proofs.Ytgapfjjdccohkaa
open Go.ChangeShapes Go.WideShapes Go.ChangeAt Go.RowKit Go.Joins

theorem cellsInt : Try.prog.cellsOf 3 = 1 := by kernel_rfl
theorem bytesInt : Try.prog.bytesOf 3 = 8 := by kernel_rfl

set_option maxRecDepth 100000 in
theorem open_raw {H : Type} {enc : TypeId × Value → H} {W : World} {base : Nat} {v : Value} {d : DataW H} {p : List MemPlace} {ts : List TypeId} {ds : List (DataW H)} (hsz : (DataW.weightsEach Try.prog ts ds).all (· ≤ reachBytes) = true) (ht : ts[0]? = some 33) (hd : ds[0]? = some d)
    (hv : Value.okWide Try.prog W .any base 33 v) (h : DataW.Trod enc Try.prog W 0 (fun _ => true) true 33 v d p) :
    ∃ ao len cap, v = .slice ao len cap ∧ RawIs ao len W ∧ len ≤ 140737488355328 := by
  obtain ⟨ao, len, cap, rfl⟩ := okWide_slice Try.underlying33 hv
  refine ⟨ao, len, cap, rfl, ?_⟩
  obtain ⟨fuel, hf⟩ := h
  rcases open_ints Try.underlying33 Try.underlying3 cellsInt hf with ⟨hcs, -⟩ | ⟨ad, len', cap', zs, hcs, -, hl, hm, hz, hxx, hcell, -⟩
  · simp [Value.cells] at hcs
    obtain ⟨-, rfl, -⟩ := hcs
    exact ⟨.inl rfl, by omega⟩
  · simp [Value.cells] at hcs
    obtain ⟨rfl, rfl, rfl⟩ := hcs
    simp only [if_true] at hz
    obtain ⟨rfl, rfl⟩ := Prod.mk.inj hxx
    have hw := sized_slice hsz (j := 0) (t := 33) (e := 3) ht hd Try.underlying33
    rw [bytesInt] at hw
    have : reachBytes = 140737488351232 := by decide
    simp only [lits, List.length_map, List.length_take, List.length_drop, this] at hw
    refine ⟨?_, by omega⟩
    by_cases hp : len = 0
    · exact .inl hp
    · obtain ⟨bk, off, rfl, hc⟩ := ints_at hcell (by omega)
      refine .inr ⟨bk, off, rfl, ?_, fun j hj => ⟨_, hc j (by omega)⟩⟩
      exact World.block_lt_of_cell? W _ (hc 0 (by omega))
end Go.Proofs.Ytgapfjjdccohkaa

/- Going round and round: a step that loses nothing, and what comes of walking on. Nothing of the program stands here. -/
namespace Go.Proofs.Ytgapfjjdccohkaa.Qm

/-- n steps from s. -/
def it {α : Type} (f : α → α) : Nat → α → α
  | 0, s => s
  | n + 1, s => f (it f n s)

theorem it_add {α : Type} (f : α → α) (m n : Nat) (s : α) : it f (m + n) s = it f m (it f n s) := by
  induction m with
  | zero => simp [it]
  | succ m ih => rw [Nat.add_right_comm]; simp only [it, ih]

/-- What is asked of a step: it stays among the sides, no two sides lead to one; k numbers where a side begins. -/
structure Step {α : Type} (f : α → α) (P : α → Prop) (k : α → Int) : Prop where
  on : ∀ s, P s → P (f s)
  inj : ∀ s t, P s → P t → f s = f t → s = t
  one : ∀ s t, P s → P t → k s = k t → k s < k (f s) → k t < k (f t) → s = t
  ne : ∀ s, P s → k (f s) ≠ k s
  low : ∀ s, P s → 0 ≤ k s

section
variable {α : Type} {f : α → α} {P : α → Prop} {k : α → Int}

theorem Step.its (H : Step f P k) {s : α} (h : P s) (n : Nat) : P (it f n s) := by
  induction n with
  | zero => exact h
  | succ n ih => exact H.on _ ih

theorem Step.its_inj (H : Step f P k) {s t : α} (hs : P s) (ht : P t) (n : Nat) (h : it f n s = it f n t) : s = t := by
  induction n with
  | zero => exact h
  | succ n ih => exact ih (H.inj _ _ (H.its hs n) (H.its ht n) h)

/-- n steps from s lead back to s, and not sooner. -/
def Cyc (f : α → α) (P : α → Prop) (s : α) (n : Nat) : Prop :=
  P s ∧ 0 < n ∧ it f n s = s ∧ ∀ i j, i < j → j < n → it f i s ≠ it f j s

/-- .. and s begins ahead of all the others. -/
def Canon (f : α → α) (P : α → Prop) (k : α → Int) (c : α × Nat) : Prop :=
  Cyc f P c.1 c.2 ∧ ∀ i, 0 < i → i < c.2 → k c.1 < k (it f i c.1)

/-- t is on one of the cycles. -/
def Tk (f : α → α) (R : List (α × Nat)) (t : α) : Prop := ∃ c ∈ R, ∃ i, i < c.2 ∧ t = it f i c.1

theorem Cyc.mod {s : α} {n : Nat} (h : Cyc f P s n) (m : Nat) : it f m s = it f (m % n) s := by
  have key : ∀ q r, it f (q * n + r) s = it f r s := by
    intro q r
    induction q with
    | zero => simp
    | succ q ih =>
      rw [show (q + 1) * n + r = (q * n + r) + n from by rw [Nat.add_mul]; omega, it_add, h.2.2.1, ih]
  have := key (m / n) (m % n)
  rwa [show m / n * n + m % n = m from by rw [Nat.mul_comm]; exact Nat.div_add_mod m n] at this

/-- The period is one number. -/
theorem Cyc.per {s : α} {n m : Nat} (h : Cyc f P s n) (h' : Cyc f P s m) : n = m := by
  have a : ¬ n < m := fun hlt => h'.2.2.2 0 n h.2.1 hlt (by show s = _; exact h.2.2.1.symm)
  have b : ¬ m < n := fun hlt => h.2.2.2 0 m h'.2.1 hlt (by show s = _; exact h'.2.2.1.symm)
  omega

theorem Canon.least {c : α × Nat} (h : Canon f P k c) (m : Nat) : k c.1 ≤ k (it f m c.1) := by
  rw [h.1.mod m]
  rcases Nat.eq_zero_or_pos (m % c.2) with h0 | h0
  · rw [h0]; exact Int.le_refl _
  · exact Int.le_of_lt (h.2 _ h0 (Nat.mod_lt _ h.1.2.1))

/-- Two cycles that begin with their first points and share a side are one. -/
theorem Canon.same {c c' : α × Nat} (h : Canon f P k c) (h' : Canon f P k c') {i : Nat} (hi : i < c'.2) (e : c.1 = it f i c'.1) : c = c' := by
  rcases Nat.eq_zero_or_pos i with h0 | h0
  · subst h0
    have e1 : c.1 = c'.1 := e
    have := h.1
    rw [e1] at this
    exact Prod.ext e1 (this.per h'.1)
  · have lt := h'.2 i h0 hi
    rw [← e] at lt
    have back : it f (c'.2 - i) c.1 = c'.1 := by rw [e, ← it_add, show c'.2 - i + i = c'.2 from by omega]; exact h'.1.2.2.1
    have := h.least (c'.2 - i)
    rw [back] at this
    omega

/-- .. wherever they share it. -/
theorem Canon.share {c c' : α × Nat} (h : Canon f P k c) (h' : Canon f P k c') {i j : Nat} (hi : i < c.2) (e : it f i c.1 = it f j c'.1) : c = c' := by
  have e2 : c.1 = it f ((c.2 - i + j) % c'.2) c'.1 := by
    rw [← h'.1.mod, it_add, ← e, ← it_add, show c.2 - i + i = c.2 from by omega]; exact h.1.2.2.1.symm
  exact h.same h' (Nat.mod_lt _ h'.1.2.1) e2

/-- The whole answer: all cycles, each from its first point, by their first points. -/
def Res (f : α → α) (P : α → Prop) (k : α → Int) (R : List (α × Nat)) : Prop :=
  (∀ c ∈ R, Canon f P k c) ∧ R.Pairwise (fun a b => k a.1 < k b.1) ∧ ∀ t, P t → Tk f R t

theorem sorted_eq {β : Type} (g : β → Int) : ∀ (a b : List β), a.Pairwise (fun x y => g x < g y) → b.Pairwise (fun x y => g x < g y) → (∀ x, x ∈ a ↔ x ∈ b) → a = b
  | [], [], _, _, _ => rfl
  | [], y :: b, _, _, h => by have := (h y).2 (by simp); simp at this
  | x :: a, [], _, _, h => by have := (h x).1 (by simp); simp at this
  | x :: a, y :: b, ha, hb, h => by
    have ha' := List.pairwise_cons.1 ha
    have hb' := List.pairwise_cons.1 hb
    have hx : x ∈ y :: b := (h x).1 (by simp)
    have hy : y ∈ x :: a := (h y).2 (by simp)
    have e : x = y := by
      rcases List.mem_cons.1 hx with e | hx
      · exact e
      · rcases List.mem_cons.1 hy with e | hy
        · exact e.symm
        · have := ha'.1 _ hy; have := hb'.1 _ hx; omega
    subst e
    rw [sorted_eq g a b ha'.2 hb'.2 fun z => ?_]
    constructor
    · intro hz
      rcases List.mem_cons.1 ((h z).1 (List.mem_cons_of_mem _ hz)) with e | hz'
      · subst e; have := ha'.1 _ hz; omega
      · exact hz'
    · intro hz
      rcases List.mem_cons.1 ((h z).2 (List.mem_cons_of_mem _ hz)) with e | hz'
      · subst e; have := hb'.1 _ hz; omega
      · exact hz'

theorem Res.sub {R R' : List (α × Nat)} (h : Res f P k R) (h' : Res f P k R') {c : α × Nat} (hc : c ∈ R) : c ∈ R' := by
  obtain ⟨c', hc', i, hi, e⟩ := h'.2.2 c.1 (h.1 c hc).1.1
  rw [(h.1 c hc).same (h'.1 c' hc') hi e]
  exact hc'

/-- There is one answer. -/
theorem Res.unique {R R' : List (α × Nat)} (h : Res f P k R) (h' : Res f P k R') : R = R' :=
  sorted_eq (fun c => k c.1) R R' h.2.1 h'.2.1 fun _ => ⟨fun hc => h.sub h' hc, fun hc => h'.sub h hc⟩

/-! What was walked so far. -/

theorem Tk.fore {R : List (α × Nat)} {t : α} (hR : ∀ c ∈ R, Cyc f P c.1 c.2) (h : Tk f R t) : Tk f R (f t) := by
  obtain ⟨c, hc, i, hi, rfl⟩ := h
  refine ⟨c, hc, (i + 1) % c.2, Nat.mod_lt _ (hR c hc).2.1, ?_⟩
  rw [← (hR c hc).mod]; rfl

theorem Tk.back (H : Step f P k) {R : List (α × Nat)} {t : α} (hR : ∀ c ∈ R, Cyc f P c.1 c.2) (ht : P t) (h : Tk f R (f t)) : Tk f R t := by
  obtain ⟨c, hc, i, hi, e⟩ := h
  have hp := (hR c hc).1
  cases i with
  | zero =>
    obtain ⟨m, hm⟩ : ∃ m, c.2 = m + 1 := ⟨c.2 - 1, by omega⟩
    have e2 : c.1 = f (it f m c.1) := by have := (hR c hc).2.2.1; rw [hm] at this; exact this.symm
    exact ⟨c, hc, m, by omega, H.inj _ _ ht (H.its hp m) (e.trans e2)⟩
  | succ i => exact ⟨c, hc, i, by omega, H.inj _ _ ht (H.its hp i) e⟩

theorem Tk.backs (H : Step f P k) {R : List (α × Nat)} {t : α} (hR : ∀ c ∈ R, Cyc f P c.1 c.2) (ht : P t) (n : Nat) (h : Tk f R (it f n t)) : Tk f R t := by
  induction n with
  | zero => exact h
  | succ n ih => exact ih (h.back H hR (H.its ht n))

/-- A walk from s that has gone m steps over what was not taken: m sides, no two the same. -/
def Run (f : α → α) (s : α) (m : Nat) : Prop := ∀ i j, i < j → j < m → it f i s ≠ it f j s

theorem Run.zero (s : α) : Run f s 0 := fun _ _ _ h => absurd h (Nat.not_lt_zero _)
theorem Run.succ {s : α} {m : Nat} (h : Run f s m) (hn : ∀ i, i < m → it f i s ≠ it f m s) : Run f s (m + 1) := by
  intro i j hij hj
  rcases Nat.lt_or_ge j m with h1 | h1
  · exact h i j hij h1
  · obtain rfl : j = m := by omega
    exact hn i hij

/-- Where a walk comes upon what is taken, it is back on its first side. -/
theorem Run.done (H : Step f P k) {R : List (α × Nat)} {s : α} {m : Nat} (hR : ∀ c ∈ R, Cyc f P c.1 c.2) (hs : P s) (hn : ¬ Tk f R s) (hm : 0 < m) (h : Run f s m) (he : Tk f R (it f m s) ∨ ∃ i, i < m ∧ it f m s = it f i s) : Cyc f P s m := by
  rcases he with he | ⟨i, hi, e⟩
  · exact absurd (he.backs H hR hs m) hn
  · cases i with
    | zero => exact ⟨hs, hm, e, h⟩
    | succ i =>
      obtain ⟨q, rfl⟩ : ∃ q, m = q + 1 := ⟨m - 1, by omega⟩
      have := H.inj _ _ (H.its hs q) (H.its hs i) e
      exact absurd this.symm (h i q (by omega) (by omega))

theorem least_of (g : Nat → Int) : ∀ n, 0 < n → ∃ i, i < n ∧ ∀ j, j < n → g i ≤ g j
  | 0, h => absurd h (Nat.lt_irrefl _)
  | 1, _ => ⟨0, by omega, fun j hj => by obtain rfl : j = 0 := by omega
                                         exact Int.le_refl _⟩
  | n + 2, _ => by
    obtain ⟨i, hi, hl⟩ := least_of g (n + 1) (by omega)
    by_cases h : g i ≤ g (n + 1)
    · refine ⟨i, by omega, fun j hj => ?_⟩
      rcases Nat.lt_or_ge j (n + 1) with h1 | h1
      · exact hl j h1
      · obtain rfl : j = n + 1 := by omega
        exact h
    · refine ⟨n + 1, by omega, fun j hj => ?_⟩
      rcases Nat.lt_or_ge j (n + 1) with h1 | h1
      · have := hl j h1; omega
      · obtain rfl : j = n + 1 := by omega
        exact Int.le_refl _

/-- On a cycle there is one side that begins ahead of all the others. -/
theorem Cyc.first (H : Step f P k) {s : α} {n : Nat} (h : Cyc f P s n) {i : Nat} (_hi : i < n) (hl : ∀ j, j < n → k (it f i s) ≤ k (it f j s)) : k (it f i s) < k (f (it f i s)) ∧ ∀ j, j < n → j ≠ i → k (it f i s) < k (it f j s) := by
  have hl' : ∀ m, k (it f i s) ≤ k (it f m s) := fun m => by rw [h.mod m]; exact hl _ (Nat.mod_lt _ h.2.1)
  have up : ∀ m, k (it f i s) = k (it f m s) → k (it f m s) < k (f (it f m s)) := fun m e => by
    have a := hl' (m + 1)
    have b := H.ne _ (H.its h.1 m)
    simp only [it] at a
    omega
  refine ⟨up i rfl, fun j hj hne => ?_⟩
  have a := hl j hj
  by_cases e : k (it f i s) = k (it f j s)
  · have := H.one _ _ (H.its h.1 i) (H.its h.1 j) e (up i rfl) (up j e)
    rcases Nat.lt_or_ge i j with h1 | h1
    · exact absurd this (h.2.2.2 i j h1 hj)
    · exact absurd this.symm (h.2.2.2 j i (by omega) _hi)
  · omega

/-- A walk from a side that leads onward, when all such sides ahead of it are taken: from the cycle's first point. -/
theorem Cyc.canon (H : Step f P k) {R : List (α × Nat)} {s : α} {n : Nat} (hR : ∀ c ∈ R, Cyc f P c.1 c.2) (h : Cyc f P s n) (hn : ¬ Tk f R s) (hb : ∀ t, P t → k t < k s → k t < k (f t) → Tk f R t) : Canon f P k (s, n) := by
  obtain ⟨i, hi, hl⟩ := least_of (fun i => k (it f i s)) n h.2.1
  have hf := h.first H hi hl
  have i0 : i = 0 := by
    rcases Nat.eq_zero_or_pos i with e | e
    · exact e
    · have lt := hf.2 0 h.2.1 (by omega)
      exact absurd ((hb _ (H.its h.1 i) lt hf.1).backs H hR h.1 i) hn
  subst i0
  exact ⟨h, fun j h0 hj => hf.2 j hj (by omega)⟩

/-- When all sides that lead onward are taken, all are. -/
theorem all_taken (H : Step f P k) {R : List (α × Nat)} (hR : ∀ c ∈ R, Cyc f P c.1 c.2) (hb : ∀ t, P t → k t < k (f t) → Tk f R t) (t : α) (ht : P t) : Tk f R t := by
  have key : ∀ (m : Nat) (t : α), P t → k t < m → Tk f R t := by
    intro m
    induction m with
    | zero => intro t ht hlt; have := H.low t ht; omega
    | succ m ih =>
      intro t ht hlt
      by_cases h : k t < k (f t)
      · exact hb t ht h
      · have := H.ne t ht
        exact (ih (f t) (H.on t ht) (by omega)).back H hR ht
  exact key (k t).toNat.succ t ht (by have := H.low t ht; omega)

/-- A cycle, begun with another of its sides. -/
theorem Cyc.turn (H : Step f P k) {s : α} {n : Nat} (h : Cyc f P s n) (i : Nat) : Cyc f P (it f i s) n := by
  refine ⟨H.its h.1 i, h.2.1, ?_, fun a b hab hb e => ?_⟩
  · rw [← it_add, Nat.add_comm, it_add, h.2.2.1]
  · rw [← it_add, ← it_add, Nat.add_comm a, Nat.add_comm b, it_add, it_add] at e
    exact h.2.2.2 a b hab hb (H.its_inj (H.its h.1 a) (H.its h.1 b) i e)

theorem Cyc.canon_turn (H : Step f P k) {s : α} {n : Nat} (h : Cyc f P s n) {i : Nat} (hi : i < n) (hl : ∀ j, j < n → k (it f i s) ≤ k (it f j s)) : Canon f P k (it f i s, n) := by
  refine ⟨h.turn H i, fun j h0 hj => ?_⟩
  show k (it f i s) < k (it f j (it f i s))
  rw [← it_add, h.mod (j + i)]
  refine (h.first H hi hl).2 _ (Nat.mod_lt _ h.2.1) fun e => ?_
  have e2 : it f (j + i) s = it f i s := by rw [h.mod (j + i), e]
  rw [it_add] at e2
  exact (h.turn H i).2.2.2 0 j h0 hj e2.symm

end
end Go.Proofs.Ytgapfjjdccohkaa.Qm

/- Sides of black and white, and the one that comes behind each. Nothing of the program stands here. -/
namespace Go.Proofs.Ytgapfjjdccohkaa.Qm

/-- A side: where it begins, and which way it goes (0 down, 1 to the right, 2 up, 3 to the left). -/
abbrev Sd : Type := Int × Int × Nat

/-- With the four pixels around a point: does a side begin there, that way? -/
def outQ (nw ne se sw : Bool) : Nat → Bool
  | 0 => se && !sw
  | 1 => ne && !se
  | 2 => nw && !ne
  | 3 => sw && !nw
  | _ => false
/-- Does one end there? -/
def inQ (nw ne se sw : Bool) : Nat → Bool
  | 0 => ne && !nw
  | 1 => nw && !sw
  | 2 => sw && !se
  | 3 => se && !ne
  | _ => false
/-- Which way one goes on. -/
def nextD (j nw ne se sw : Bool) (d : Nat) : Nat :=
  if outQ nw ne se sw (if j then (d + 3) % 4 else (d + 1) % 4) then (if j then (d + 3) % 4 else (d + 1) % 4)
  else if outQ nw ne se sw d then d else (if j then (d + 1) % 4 else (d + 3) % 4)

theorem next_out : ∀ (j nw ne se sw : Bool) (d : Fin 4), inQ nw ne se sw d = true → outQ nw ne se sw (nextD j nw ne se sw d) = true := by decide
theorem next_inj : ∀ (j nw ne se sw : Bool) (d e : Fin 4), inQ nw ne se sw d = true → inQ nw ne se sw e = true → nextD j nw ne se sw d = nextD j nw ne se sw e → d = e := by decide
theorem next_lt : ∀ (j nw ne se sw : Bool) (d : Fin 4), nextD j nw ne se sw d < 4 := by decide
theorem next_no_back : ∀ (j nw ne se sw : Bool) (d : Fin 4), inQ nw ne se sw d = true → nextD j nw ne se sw d ≠ (d.val + 2) % 4 := by decide
theorem outQ_lt {nw ne se sw : Bool} {d : Nat} (h : outQ nw ne se sw d = true) : d < 4 := by
  match d, h with
  | 0, _ => omega
  | 1, _ => omega
  | 2, _ => omega
  | 3, _ => omega
  | d + 4, h => simp [outQ] at h

/-- Is it a side? -/
def isS (bl : Int → Int → Bool) (s : Sd) : Bool := outQ (bl (s.1 - 1) (s.2.1 - 1)) (bl s.1 (s.2.1 - 1)) (bl s.1 s.2.1) (bl (s.1 - 1) s.2.1) s.2.2
/-- Where it ends. -/
def en (s : Sd) : Int × Int :=
  match s.2.2 with
  | 0 => (s.1, s.2.1 + 1)
  | 1 => (s.1 + 1, s.2.1)
  | 2 => (s.1, s.2.1 - 1)
  | 3 => (s.1 - 1, s.2.1)
  | _ => (s.1, s.2.1)
def nxD (bl jn : Int → Int → Bool) (p : Int × Int) (d : Nat) : Nat := nextD (jn p.1 p.2) (bl (p.1 - 1) (p.2 - 1)) (bl p.1 (p.2 - 1)) (bl p.1 p.2) (bl (p.1 - 1) p.2) d
/-- The side behind it. -/
def nx (bl jn : Int → Int → Bool) (s : Sd) : Sd := ((en s).1, (en s).2, nxD bl jn (en s) s.2.2)
/-- Where it begins, as a number. -/
def key (s : Sd) : Int := 33 * s.2.1 + s.1

theorem isS_lt {bl : Int → Int → Bool} {s : Sd} (h : isS bl s = true) : s.2.2 < 4 := outQ_lt h
theorem isS_in (bl : Int → Int → Bool) (s : Sd) : isS bl s = inQ (bl ((en s).1 - 1) ((en s).2 - 1)) (bl (en s).1 ((en s).2 - 1)) (bl (en s).1 (en s).2) (bl ((en s).1 - 1) (en s).2) s.2.2 := by
  obtain ⟨x, y, d⟩ := s
  match d with
  | 0 => simp [isS, en, outQ, inQ]
  | 1 => simp [isS, en, outQ, inQ]
  | 2 => simp [isS, en, outQ, inQ]
  | 3 => simp [isS, en, outQ, inQ]
  | d + 4 => simp [isS, outQ, inQ]

theorem nx_isS {bl jn : Int → Int → Bool} {s : Sd} (h : isS bl s = true) : isS bl (nx bl jn s) = true := by
  have hd := isS_lt h
  rw [isS_in] at h
  exact next_out _ _ _ _ _ ⟨s.2.2, hd⟩ h

theorem nx_inj {bl jn : Int → Int → Bool} {s t : Sd} (hs : isS bl s = true) (ht : isS bl t = true) (e : nx bl jn s = nx bl jn t) : s = t := by
  have h1 := isS_lt hs
  have h2 := isS_lt ht
  have e1 : en s = en t := Prod.ext (congrArg (fun s : Sd => s.1) e) (congrArg (fun s : Sd => s.2.1) e)
  have e2 : nxD bl jn (en s) s.2.2 = nxD bl jn (en t) t.2.2 := congrArg (fun s : Sd => s.2.2) e
  rw [isS_in] at hs ht
  rw [← e1] at ht e2
  have e3 : s.2.2 = t.2.2 := by
    have := next_inj _ _ _ _ _ ⟨s.2.2, h1⟩ ⟨t.2.2, h2⟩ hs ht e2
    exact congrArg Fin.val this
  obtain ⟨x, y, d⟩ := s
  obtain ⟨x', y', d'⟩ := t
  simp only at e3
  subst e3
  have a := congrArg Prod.fst e1
  have b := congrArg Prod.snd e1
  match d, h1 with
  | 0, _ => simp [en] at a b; simp; omega
  | 1, _ => simp [en] at a b; simp; omega
  | 2, _ => simp [en] at a b; simp; omega
  | 3, _ => simp [en] at a b; simp; omega

/-- A picture: black within its bounds alone. -/
structure Pic (bl : Int → Int → Bool) (W H : Int) : Prop where
  box : ∀ x y, bl x y = true → 0 ≤ x ∧ x < W ∧ 0 ≤ y ∧ y < H
  w : W ≤ 32
  h : H ≤ 32

theorem side_in {bl : Int → Int → Bool} {W H : Int} (hp : Pic bl W H) {s : Sd} (h : isS bl s = true) : 0 ≤ s.1 ∧ s.1 ≤ W ∧ 0 ≤ s.2.1 ∧ s.2.1 ≤ H := by
  have hd := isS_lt h
  obtain ⟨x, y, d⟩ := s
  match d, hd with
  | 0, _ => simp [isS, outQ] at h; have := hp.box _ _ h.1; simp only; omega
  | 1, _ => simp [isS, outQ] at h; have := hp.box _ _ h.1; simp only; omega
  | 2, _ => simp [isS, outQ] at h; have := hp.box _ _ h.1; simp only; omega
  | 3, _ => simp [isS, outQ] at h; have := hp.box _ _ h.1; simp only; omega

theorem key_nx (bl jn : Int → Int → Bool) (s : Sd) (h : s.2.2 < 4) : key (nx bl jn s) = key s + (if s.2.2 = 0 then 33 else if s.2.2 = 1 then 1 else if s.2.2 = 2 then -33 else -1) := by
  obtain ⟨x, y, d⟩ := s
  match d, h with
  | 0, _ => simp [key, nx, en]; omega
  | 1, _ => simp [key, nx, en]; omega
  | 2, _ => simp [key, nx, en]; omega
  | 3, _ => simp [key, nx, en]; omega

theorem step {bl : Int → Int → Bool} {W H : Int} (hp : Pic bl W H) (jn : Int → Int → Bool) : Step (nx bl jn) (fun s => isS bl s = true) key where
  on _ h := nx_isS h
  inj _ _ hs ht e := nx_inj hs ht e
  ne s h := by have := isS_lt h; rw [key_nx _ _ _ this]; split <;> (try split) <;> (try split) <;> omega
  low s h := by have := side_in hp h; unfold key; omega
  one s t hs ht e us ut := by
    have a := side_in hp hs
    have b := side_in hp ht
    have w := hp.w
    have hs' := isS_lt hs
    have ht' := isS_lt ht
    rw [key_nx _ _ _ hs'] at us
    rw [key_nx _ _ _ ht'] at ut
    obtain ⟨x, y, d⟩ := s
    obtain ⟨x', y', d'⟩ := t
    simp only [key] at e a b us ut hs' ht'
    have e1 : x = x' := by omega
    have e2 : y = y' := by omega
    subst e1 e2
    have d1 : d = 0 ∨ d = 1 := by
      match d, hs' with
      | 0, _ => simp
      | 1, _ => simp
      | 2, _ => simp at us; omega
      | 3, _ => simp at us; omega
    have d2 : d' = 0 ∨ d' = 1 := by
      match d', ht' with
      | 0, _ => simp
      | 1, _ => simp
      | 2, _ => simp at ut; omega
      | 3, _ => simp at ut; omega
    rcases d1 with rfl | rfl <;> rcases d2 with rfl | rfl <;> simp [isS, outQ] at hs ht ⊢
    · rw [hs.1] at ht; exact absurd ht.2 (by simp)
    · rw [ht.1] at hs; exact absurd hs.2 (by simp)

/-- A number for a side, another for each. -/
def codeS (s : Sd) : Int := key s * 4 + s.2.2
theorem code_inj {bl : Int → Int → Bool} {W H : Int} (hp : Pic bl W H) {s t : Sd} (hs : isS bl s = true) (ht : isS bl t = true) (e : codeS s = codeS t) : s = t := by
  have a := side_in hp hs
  have b := side_in hp ht
  have w := hp.w
  have h1 := isS_lt hs
  have h2 := isS_lt ht
  obtain ⟨x, y, d⟩ := s
  obtain ⟨x', y', d'⟩ := t
  simp only [codeS, key] at e a b h1 h2
  have e1 : d = d' := by omega
  have e2 : x = x' := by omega
  have e3 : y = y' := by omega
  subst e1 e2 e3
  rfl
theorem code_in {bl : Int → Int → Bool} {W H : Int} (hp : Pic bl W H) {s : Sd} (hs : isS bl s = true) : 0 ≤ codeS s ∧ codeS s < 4356 := by
  have a := side_in hp hs
  have w := hp.w
  have h := hp.h
  have h1 := isS_lt hs
  simp only [codeS, key]; omega

/-- Where a side begins. -/
def fromP (s : Sd) : Int × Int := (s.1, s.2.1)
/-- The points of a cycle. -/
def ptsOf (f : Sd → Sd) (c : Sd × Nat) : List (Int × Int) := (List.range c.2).map fun i => fromP (it f i c.1)
def cross (p q : Int × Int) : Int := p.2 * q.1 - p.1 * q.2
/-- Twice the area, line by line. -/
def twiceOf (l : List (Int × Int)) : Int := ((List.range l.length).map fun i => cross (l.getD i (0, 0)) (l.getD ((i + 1) % l.length) (0, 0))).sum
/-- The shapes of the answer. -/
def shapesOf (f : Sd → Sd) (R : List (Sd × Nat)) : List (List (Int × Int) × Int) := R.map fun c => (ptsOf f c, twiceOf (ptsOf f c))

/-- The pixel on the left of a side, and the one on its right. -/
def lpx (x : Int) (d : Nat) : Int := if d = 3 ∨ (d + 1) % 4 = 3 then x - 1 else x
def lpy (y : Int) (d : Nat) : Int := if d = 2 ∨ (d + 1) % 4 = 2 then y - 1 else y
def rpx (x : Int) (d : Nat) : Int := if d = 3 ∨ (d + 3) % 4 = 3 then x - 1 else x
def rpy (y : Int) (d : Nat) : Int := if d = 2 ∨ (d + 3) % 4 = 2 then y - 1 else y
theorem isS_lr (bl : Int → Int → Bool) (x y : Int) (d : Nat) (hd : d < 4) : isS bl (x, y, d) = (bl (lpx x d) (lpy y d) && !bl (rpx x d) (rpy y d)) := by
  match d, hd with
  | 0, _ => rfl
  | 1, _ => rfl
  | 2, _ => rfl
  | 3, _ => rfl

end Go.Proofs.Ytgapfjjdccohkaa.Qm

/- The policies. Nothing of the program stands here. -/
namespace Go.Proofs.Ytgapfjjdccohkaa.Qm
open Pm

/-- Of the first m of the 16 pixels around a point: how many are black? -/
def cntTo (bl : Int → Int → Bool) (X Y : Int) : Nat → Nat
  | 0 => 0
  | m + 1 => cntTo bl X Y m + if bl (X - 2 + (m % 4 : Nat)) (Y - 2 + (m / 4 : Nat)) then 1 else 0
theorem cntTo_le (bl : Int → Int → Bool) (X Y : Int) (m : Nat) : cntTo bl X Y m ≤ m := by
  induction m with
  | zero => exact Nat.le_refl _
  | succ m ih => unfold cntTo; split <;> omega
theorem cntTo_yes (bl : Int → Int → Bool) (X Y : Int) (i j : Nat) (hj : j < 4) (h : bl (X - 2 + (j : Nat)) (Y - 2 + (i : Nat)) = true) : cntTo bl X Y (4 * i + (j + 1)) = cntTo bl X Y (4 * i + j) + 1 := by
  rw [← Nat.add_assoc]; show cntTo bl X Y (4 * i + j) + _ = _
  rw [show (4 * i + j) % 4 = j from by omega, show (4 * i + j) / 4 = i from by omega, h]; simp
theorem cntTo_no (bl : Int → Int → Bool) (X Y : Int) (i j : Nat) (hj : j < 4) (h : bl (X - 2 + (j : Nat)) (Y - 2 + (i : Nat)) = false) : cntTo bl X Y (4 * i + (j + 1)) = cntTo bl X Y (4 * i + j) := by
  rw [← Nat.add_assoc]; show cntTo bl X Y (4 * i + j) + _ = _
  rw [show (4 * i + j) % 4 = j from by omega, show (4 * i + j) / 4 = i from by omega, h]; simp

/-- Does one who comes to a crossing join? -/
def jnB (W H : Nat) (l : List UInt8) (pol : Int) (draws : List UInt8) (x y : Int) : Bool :=
  if pol = 0 then true
  else if pol = 2 then decide (cntTo (blackB W H l) x y 16 < 8)
  else if pol = 3 then bitAt draws (y * (W + 1) + x).toNat
  else false
theorem jnB_0 (W H : Nat) (l : List UInt8) (draws : List UInt8) (x y : Int) : jnB W H l 0 draws x y = true := rfl
theorem jnB_1 (W H : Nat) (l : List UInt8) (draws : List UInt8) (x y : Int) : jnB W H l 1 draws x y = false := rfl
theorem jnB_2 (W H : Nat) (l : List UInt8) (draws : List UInt8) (x y : Int) : jnB W H l 2 draws x y = decide (cntTo (blackB W H l) x y 16 < 8) := rfl
theorem jnB_3 (W H : Nat) (l : List UInt8) (draws : List UInt8) (x y : Int) : jnB W H l 3 draws x y = bitAt draws (y * (W + 1) + x).toNat := rfl

theorem pic_of (W H : Nat) (l : List UInt8) (hw : W ≤ 32) (hh : H ≤ 32) : Pic (blackB W H l) W H where
  box x y h := by
    by_cases hb : 0 ≤ x ∧ 0 ≤ y ∧ x < W ∧ y < H
    · omega
    · rw [blackB_out W H l x y hb] at h; exact absurd h (by simp)
  w := by omega
  h := by omega

end Go.Proofs.Ytgapfjjdccohkaa.Qm

/- What is taken: a row of marks, and the cycles that it stands for. Nothing of the program stands here. -/
namespace Go.Proofs.Ytgapfjjdccohkaa.Qm

/-- How many of the first n marks are not set. -/
def cntF (T : Nat → Bool) : Nat → Nat
  | 0 => 0
  | n + 1 => cntF T n + if T n then 0 else 1
theorem cntF_le (T : Nat → Bool) (n : Nat) : cntF T n ≤ n := by
  induction n with
  | zero => exact Nat.le_refl _
  | succ n ih => unfold cntF; split <;> omega
def mark (T : Nat → Bool) (c : Nat) (n : Nat) : Bool := T n || n == c
theorem cntF_mark_past (T : Nat → Bool) (c : Nat) : ∀ n, n ≤ c → cntF (mark T c) n = cntF T n
  | 0, _ => rfl
  | n + 1, h => by
    unfold cntF
    rw [cntF_mark_past T c n (by omega)]
    have : mark T c n = T n := by unfold mark; rw [show (n == c) = false from by simp; omega]; simp
    rw [this]
theorem cntF_mark (T : Nat → Bool) (c : Nat) (hc : T c = false) : ∀ n, c < n → cntF (mark T c) n + 1 = cntF T n
  | 0, h => absurd h (Nat.not_lt_zero _)
  | n + 1, h => by
    unfold cntF
    rcases Nat.lt_or_ge c n with h1 | h1
    · have : mark T c n = T n := by unfold mark; rw [show (n == c) = false from by simp; omega]; simp
      rw [this]
      have := cntF_mark T c hc n h1
      omega
    · obtain rfl : n = c := by omega
      rw [cntF_mark_past T n n (Nat.le_refl _), hc]
      simp [mark]

/-- The marks stand for what lies on the cycles. -/
def Rep (bl : Int → Int → Bool) (f : Sd → Sd) (T : Nat → Bool) (R : List (Sd × Nat)) : Prop := ∀ t, isS bl t = true → (T (codeS t).toNat = true ↔ Tk f R t)
/-- .. and for what lies on the first m sides from s. -/
def RepM (bl : Int → Int → Bool) (f : Sd → Sd) (T : Nat → Bool) (R : List (Sd × Nat)) (s : Sd) (m : Nat) : Prop := ∀ t, isS bl t = true → (T (codeS t).toNat = true ↔ Tk f R t ∨ ∃ i, i < m ∧ t = it f i s)

theorem Rep.zero {bl : Int → Int → Bool} {f : Sd → Sd} {T : Nat → Bool} {R : List (Sd × Nat)} (h : Rep bl f T R) (s : Sd) : RepM bl f T R s 0 := fun t ht => by
  rw [h t ht]; constructor
  · exact .inl
  · rintro (h | ⟨i, hi, _⟩)
    · exact h
    · omega

section
variable {bl : Int → Int → Bool} {W H : Int} {f : Sd → Sd} {T : Nat → Bool} {R : List (Sd × Nat)} {s : Sd} {m : Nat}

theorem RepM.succ (hp : Pic bl W H) (h : RepM bl f T R s m) (hs : isS bl (it f m s) = true) : RepM bl f (mark T (codeS (it f m s)).toNat) R s (m + 1) := fun t ht => by
  unfold mark
  rw [Bool.or_eq_true, h t ht, beq_iff_eq]
  constructor
  · rintro ((h | ⟨i, hi, e⟩) | e)
    · exact .inl h
    · exact .inr ⟨i, by omega, e⟩
    · refine .inr ⟨m, by omega, code_inj hp ht hs ?_⟩
      have := code_in hp ht; have := code_in hp hs; omega
  · rintro (h | ⟨i, hi, e⟩)
    · exact .inl (.inl h)
    · rcases Nat.lt_or_ge i m with h1 | h1
      · exact .inl (.inr ⟨i, h1, e⟩)
      · obtain rfl : i = m := by omega
        exact .inr (by rw [e])

theorem RepM.free (h : RepM bl f T R s m) (hs : isS bl (it f m s) = true) (hT : T (codeS (it f m s)).toNat = false) : ¬ Tk f R (it f m s) ∧ ∀ i, i < m → it f i s ≠ it f m s := by
  have : ¬ (Tk f R (it f m s) ∨ ∃ i, i < m ∧ it f m s = it f i s) := fun hh => absurd ((h _ hs).2 hh) (by rw [hT]; simp)
  exact ⟨fun hh => this (.inl hh), fun i hi e => this (.inr ⟨i, hi, e.symm⟩)⟩

/-- A whole cycle more. -/
theorem RepM.whole (h : RepM bl f T R s m) : Rep bl f T (R ++ [(s, m)]) := fun t ht => by
  rw [h t ht]
  constructor
  · rintro (⟨c, hc, i, hi, e⟩ | ⟨i, hi, e⟩)
    · exact ⟨c, List.mem_append_left _ hc, i, hi, e⟩
    · exact ⟨(s, m), by simp, i, hi, e⟩
  · rintro ⟨c, hc, i, hi, e⟩
    rcases List.mem_append.1 hc with hc | hc
    · exact .inl ⟨c, hc, i, hi, e⟩
    · rw [List.mem_singleton] at hc; subst hc; exact .inr ⟨i, hi, e⟩
end

/-- The cells of a row of points. -/
def ptV (p : Int × Int) : List Value := [.int .i64 p.1, .int .i64 p.2]
def ptsV (l : List (Int × Int)) : List Value := l.flatMap ptV
theorem ptsV_snoc (l : List (Int × Int)) (p : Int × Int) : ptsV (l ++ [p]) = ptsV l ++ ptV p := by simp [ptsV]
theorem ptsV_len (l : List (Int × Int)) : (ptsV l).length = l.length * 2 := by
  induction l with
  | nil => rfl
  | cons p l ih => simp only [ptsV, List.flatMap_cons, List.length_append] at *; rw [ih]; simp [ptV]; omega
theorem ptsOf_succ (f : Sd → Sd) (s : Sd) (m : Nat) : ptsOf f (s, m + 1) = ptsOf f (s, m) ++ [fromP (it f m s)] := by simp [ptsOf, List.range_succ]
theorem ptsOf_len (f : Sd → Sd) (c : Sd × Nat) : (ptsOf f c).length = c.2 := by simp [ptsOf]
end Go.Proofs.Ytgapfjjdccohkaa.Qm
