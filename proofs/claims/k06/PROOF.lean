import PyProof.Rows.All
import Wide.All
import OpenK.AllK
import Wide.FinOn
import HandS.ForMost
import HandS.Wide
import HandS.WideBits
import HandS.Deep
import HandS.SortRule
import HandS.TupSets
import HandS.IsInst
import HandS.Style
import HandS.EndBits
import HandS.Evl
import HandS.Walk
import HandS.Text
import HandS.ForExc
import HandS.ExcIs
import HandS.ExcBuiltin
import PySem.Challenge.RW_cornerfloor_k06_refused
set_option linter.all false
namespace Cf
abbrev Pl := Nat × Nat
/-- a piece: the lower column and row of its four places, and which of the four it leaves out -/
abbrev Tr := Nat × Nat × Nat
def pc (t : Tr) : List Pl :=
  if t.2.2 = 0 then [(t.1, t.2.1 + 1), (t.1 + 1, t.2.1), (t.1 + 1, t.2.1 + 1)]
  else if t.2.2 = 1 then [(t.1, t.2.1), (t.1, t.2.1 + 1), (t.1 + 1, t.2.1 + 1)]
  else if t.2.2 = 2 then [(t.1, t.2.1), (t.1 + 1, t.2.1), (t.1 + 1, t.2.1 + 1)]
  else [(t.1, t.2.1), (t.1, t.2.1 + 1), (t.1 + 1, t.2.1)]
/-- p is one of its places -/
def inT (t : Tr) (p : Pl) : Bool := decide (p ∈ pc t)
def shT (b : Pl) (t : Tr) : Tr := (b.1 + t.1, b.2 + t.2.1, t.2.2)
def shP (b p : Pl) : Pl := (b.1 + p.1, b.2 + p.2)
theorem pc_sh (b : Pl) (t : Tr) : pc (shT b t) = (pc t).map (shP b) := by
  obtain ⟨b1, b2⟩ := b
  obtain ⟨u, v, w⟩ := t
  unfold pc shT shP
  dsimp only
  repeat' split
  all_goals simp [Nat.add_assoc]
theorem mem_pc (t : Tr) (h : t.2.2 < 4) (p : Pl) : p ∈ pc t ↔ ((p.1 = t.1 ∨ p.1 = t.1 + 1) ∧ (p.2 = t.2.1 ∨ p.2 = t.2.1 + 1)) ∧ ¬ ((p.1 - t.1) + 2 * (p.2 - t.2.1) = t.2.2) := by
  obtain ⟨u, v, w⟩ := t
  obtain ⟨x, y⟩ := p
  dsimp only at h ⊢
  unfold pc
  dsimp only
  repeat' split
  all_goals simp only [List.mem_cons, List.not_mem_nil, Prod.mk.injEq, or_false]
  all_goals omega
/-- the quarter of a place, of the part of size n + 1 that it is in -/
def qn (n : Nat) (p : Pl) : Nat := p.1 / 2 ^ n % 2 + 2 * (p.2 / 2 ^ n % 2)
theorem qn_lt (n : Nat) (p : Pl) : qn n p < 4 := by unfold qn; omega
/-- where a quarter begins; its place at the middle, counted within it -/
def low (n q : Nat) : Pl := (q % 2 * 2 ^ n, q / 2 * 2 ^ n)
def cor (n q : Nat) : Pl := ((1 - q % 2) * (2 ^ n - 1), (1 - q / 2) * (2 ^ n - 1))
def md (n : Nat) (p : Pl) : Pl := (p.1 % 2 ^ n, p.2 % 2 ^ n)
/-- the place that a quarter has left out, counted within it -/
def hole (n : Nat) (out : Pl) (q : Nat) : Pl := if qn n out = q then md n out else cor n q
def mid (n : Nat) (out : Pl) : Tr := (2 ^ n - 1, 2 ^ n - 1, qn n out)
/-- the piece of a place -/
def S : Nat → Pl → Pl → Tr
  | 0, _, _ => (0, 0, 0)
  | n + 1, out, p => if p ∈ pc (mid n out) then mid n out else shT (low n (qn n p)) (S n (hole n out (qn n p)) (md n p))
def In (n : Nat) (p : Pl) : Prop := p.1 < 2 ^ n ∧ p.2 < 2 ^ n
instance instDecIn (n : Nat) (p : Pl) : Decidable (In n p) := inferInstanceAs (Decidable (_ ∧ _))
/-- all pieces, in their turn -/
def cover : Nat → Pl → List Tr
  | 0, _ => []
  | n + 1, out => mid n out :: ((List.range 4).map fun q => (cover n (hole n out q)).map (shT (low n q))).flatten
/-! ### places and quarters -/
theorem pw (n : Nat) : 0 < 2 ^ n := Nat.two_pow_pos n
theorem pw1 (n : Nat) : 2 ^ (n + 1) = 2 * 2 ^ n := by rw [Nat.pow_succ]; omega
theorem div_lt2 {h x : Nat} (hh : 0 < h) (hx : x < 2 * h) : x / h < 2 := (Nat.div_lt_iff_lt_mul hh).mpr hx
theorem split1 {h x : Nat} (hh : 0 < h) (hx : x < 2 * h) : x = x / h % 2 * h + x % h := by
  have h1 := div_lt2 hh hx
  have h2 := Nat.div_add_mod x h
  rw [Nat.mod_eq_of_lt h1, Nat.mul_comm]
  omega
theorem In.split {n : Nat} {p : Pl} (h : In (n + 1) p) : p = shP (low n (qn n p)) (md n p) := by
  obtain ⟨x, y⟩ := p
  obtain ⟨h1, h2⟩ := h
  rw [pw1] at h1 h2
  have e1 := split1 (pw n) h1
  have e2 := split1 (pw n) h2
  unfold shP low md qn
  dsimp only at *
  have a : (x / 2 ^ n % 2 + 2 * (y / 2 ^ n % 2)) % 2 = x / 2 ^ n % 2 := by omega
  have b : (x / 2 ^ n % 2 + 2 * (y / 2 ^ n % 2)) / 2 = y / 2 ^ n % 2 := by omega
  rw [a, b, ← e1, ← e2]
theorem md_in (n : Nat) (p : Pl) : In n (md n p) := ⟨Nat.mod_lt _ (pw n), Nat.mod_lt _ (pw n)⟩
theorem cor_in (n q : Nat) : In n (cor n q) := by
  have h := pw n
  have a : ∀ k, (1 - k) * (2 ^ n - 1) < 2 ^ n := fun k => by
    have : 1 - k = 0 ∨ 1 - k = 1 := by omega
    rcases this with e | e <;> rw [e] <;> omega
  exact ⟨a _, a _⟩
theorem hole_in (n : Nat) (out : Pl) (q : Nat) : In n (hole n out q) := by
  unfold hole
  split
  · exact md_in n out
  · exact cor_in n q
theorem bit_add {h k x : Nat} (hh : 0 < h) (hx : x < h) (hk : k < 2) : (k * h + x) / h % 2 = k ∧ (k * h + x) % h = x := by
  have e1 : (k * h + x) / h = k := by rw [Nat.mul_comm, Nat.mul_add_div hh, Nat.div_eq_of_lt hx, Nat.add_zero]
  rw [e1]
  refine ⟨Nat.mod_eq_of_lt hk, ?_⟩
  rw [Nat.mul_comm, Nat.mul_add_mod, Nat.mod_eq_of_lt hx]
theorem qn_sh {n q : Nat} {p : Pl} (hq : q < 4) (hp : In n p) : qn n (shP (low n q) p) = q := by
  obtain ⟨x, y⟩ := p
  obtain ⟨h1, h2⟩ := hp
  unfold qn shP low
  dsimp only at *
  rw [(bit_add (pw n) h1 (show q % 2 < 2 by omega)).1, (bit_add (pw n) h2 (show q / 2 < 2 by omega)).1]
  omega
theorem md_sh {n q : Nat} {p : Pl} (hq : q < 4) (hp : In n p) : md n (shP (low n q) p) = p := by
  obtain ⟨x, y⟩ := p
  obtain ⟨h1, h2⟩ := hp
  unfold md shP low
  dsimp only at *
  rw [(bit_add (pw n) h1 (show q % 2 < 2 by omega)).2, (bit_add (pw n) h2 (show q / 2 < 2 by omega)).2]
theorem In.sh {n q : Nat} {p : Pl} (hq : q < 4) (hp : In n p) : In (n + 1) (shP (low n q) p) := by
  obtain ⟨x, y⟩ := p
  obtain ⟨h1, h2⟩ := hp
  unfold In shP low
  rw [pw1]
  dsimp only at *
  have a : ∀ k, k < 2 → k * 2 ^ n ≤ 2 ^ n := fun k hk => by
    have : k = 0 ∨ k = 1 := by omega
    rcases this with e | e <;> subst e <;> omega
  have := a (q % 2) (by omega)
  have := a (q / 2) (by omega)
  omega
/-- the middle piece's places by their quarters -/
theorem mem_mid {n q : Nat} {out p : Pl} (hq : q < 4) (hp : In n p) : shP (low n q) p ∈ pc (mid n out) ↔ p = cor n q ∧ q ≠ qn n out := by
  rw [mem_pc _ (qn_lt n out)]
  obtain ⟨x, y⟩ := p
  obtain ⟨h1, h2⟩ := hp
  have h := pw n
  unfold mid shP low cor
  dsimp only at *
  have hq' : q = 0 ∨ q = 1 ∨ q = 2 ∨ q = 3 := by omega
  generalize qn n out = o
  generalize 2 ^ n = k at *
  rcases hq' with e | e | e | e <;> subst e <;> simp only [Prod.mk.injEq, Nat.reduceMod, Nat.reduceDiv, Nat.reduceSub, Nat.one_mul, Nat.zero_mul, Nat.zero_add, Nat.zero_mod, Nat.zero_div, Nat.sub_zero, Nat.sub_self] <;> omega
theorem S_mid {n : Nat} {out p : Pl} (h : p ∈ pc (mid n out)) : S (n + 1) out p = mid n out := by
  show (if _ then _ else _) = _
  rw [if_pos h]
theorem S_not {n : Nat} {out p : Pl} (h : ¬ p ∈ pc (mid n out)) : S (n + 1) out p = shT (low n (qn n p)) (S n (hole n out (qn n p)) (md n p)) := by
  show (if _ then _ else _) = _
  rw [if_neg h]
theorem hole_ne {n q : Nat} {out : Pl} (h : qn n out ≠ q) : hole n out q = cor n q := if_neg h
theorem hole_eq {n q : Nat} {out : Pl} (h : qn n out = q) : hole n out q = md n out := if_pos h
theorem hole_md {n : Nat} {out p : Pl} (hp : In (n + 1) p) (ho : In (n + 1) out) (hne : p ≠ out) (hm : ¬ p ∈ pc (mid n out)) : md n p ≠ hole n out (qn n p) := by
  intro e
  by_cases h : qn n out = qn n p
  · rw [hole_eq h] at e
    apply hne
    rw [hp.split, ho.split, e, h]
  · rw [hole_ne h] at e
    apply hm
    rw [hp.split, mem_mid (qn_lt n p) (md_in n p)]
    exact ⟨e, fun z => h z.symm⟩
/-- what S tells: the place is in it, the one left out is not, all within the floor -/
theorem S_ok : ∀ (n : Nat) (out p : Pl), In n out → In n p → p ≠ out → (S n out p).2.2 < 4 ∧ p ∈ pc (S n out p) ∧ (∀ x ∈ pc (S n out p), In n x ∧ x ≠ out)
  | 0, out, p, ho, hp, hne => by
    exfalso
    apply hne
    obtain ⟨x, y⟩ := p
    obtain ⟨x', y'⟩ := out
    obtain ⟨a, b⟩ := ho
    obtain ⟨c, d⟩ := hp
    dsimp only at a b c d
    have e1 : x = 0 := by omega
    have e2 : y = 0 := by omega
    have e3 : x' = 0 := by omega
    have e4 : y' = 0 := by omega
    rw [e1, e2, e3, e4]
  | n + 1, out, p, ho, hp, hne => by
    by_cases hm : p ∈ pc (mid n out)
    · rw [S_mid hm]
      refine ⟨qn_lt n out, hm, fun x hx => ?_⟩
      have hx' := (mem_pc _ (qn_lt n out) x).mp hx
      have h := pw n
      have hin : In (n + 1) x := by
        unfold In
        rw [pw1]
        unfold mid at hx'
        dsimp only at hx'
        omega
      refine ⟨hin, fun e => ?_⟩
      rw [hin.split, mem_mid (qn_lt n x) (md_in n x), e] at hx
      exact hx.2 rfl
    · rw [S_not hm]
      obtain ⟨i1, i2, i3⟩ := S_ok n (hole n out (qn n p)) (md n p) (hole_in n out _) (md_in n p) (hole_md hp ho hne hm)
      refine ⟨i1, ?_, fun x hx => ?_⟩
      · rw [pc_sh, hp.split]
        refine List.mem_map.mpr ⟨md n p, ?_, by rw [qn_sh (qn_lt n p) (md_in n p)]⟩
        rw [qn_sh (qn_lt n p) (md_in n p), md_sh (qn_lt n p) (md_in n p)]
        exact i2
      · rw [pc_sh] at hx
        obtain ⟨y, hy, rfl⟩ := List.mem_map.mp hx
        obtain ⟨j1, j2⟩ := i3 y hy
        refine ⟨j1.sh (qn_lt n p), fun e => ?_⟩
        have eq : qn n out = qn n p := by rw [← e, qn_sh (qn_lt n p) j1]
        rw [hole_eq eq] at j2
        apply j2
        rw [← e, md_sh (qn_lt n p) j1]
/-- each of its places tells the same -/
theorem S_same : ∀ (n : Nat) (out p : Pl), In n out → In n p → p ≠ out → ∀ x ∈ pc (S n out p), S n out x = S n out p
  | 0, out, p, ho, hp, hne, x, hx => rfl
  | n + 1, out, p, ho, hp, hne, x, hx => by
    by_cases hm : p ∈ pc (mid n out)
    · rw [S_mid hm] at hx ⊢
      exact S_mid hx
    · have hh := hole_md hp ho hne hm
      have hi := hole_in n out (qn n p)
      obtain ⟨i1, i2, i3⟩ := S_ok n (hole n out (qn n p)) (md n p) hi (md_in n p) hh
      rw [S_not hm] at hx ⊢
      rw [pc_sh] at hx
      obtain ⟨y, hy, rfl⟩ := List.mem_map.mp hx
      obtain ⟨j1, j2⟩ := i3 y hy
      have nm : ¬ shP (low n (qn n p)) y ∈ pc (mid n out) := by
        rw [mem_mid (qn_lt n p) j1]
        intro ⟨e, ne⟩
        rw [hole_ne (fun z => ne z.symm)] at j2
        exact j2 e
      rw [S_not nm, qn_sh (qn_lt n p) j1, md_sh (qn_lt n p) j1, S_same n _ _ hi (md_in n p) hh y hy]
/-- a place of a quarter, by the quarter's own -/
theorem S_quarter {n q : Nat} {out p : Pl} (hq : q < 4) (ho : In (n + 1) out) (hp : In n p) (hne : p ≠ hole n out q) : S (n + 1) out (shP (low n q) p) = shT (low n q) (S n (hole n out q) p) := by
  have nm : ¬ shP (low n q) p ∈ pc (mid n out) := by
    rw [mem_mid hq hp]
    intro ⟨e, ne⟩
    rw [hole_ne (fun z => ne z.symm)] at hne
    exact hne e
  rw [S_not nm, qn_sh hq hp, md_sh hq hp]
theorem cover_ok : ∀ (n : Nat) (out : Pl), In n out → ∀ t ∈ cover n out, t.2.2 < 4 ∧ ∀ x ∈ pc t, In n x ∧ x ≠ out ∧ S n out x = t
  | 0, _, _, t, ht => nomatch ht
  | n + 1, out, ho, t, ht => by
    rcases List.mem_cons.mp ht with rfl | ht
    · refine ⟨qn_lt n out, fun x hx => ?_⟩
      have hx' := (mem_pc _ (qn_lt n out) x).mp hx
      have h := pw n
      have hin : In (n + 1) x := by
        unfold In
        rw [pw1]
        unfold mid at hx'
        dsimp only at hx'
        omega
      refine ⟨hin, fun e => ?_, S_mid hx⟩
      rw [hin.split, mem_mid (qn_lt n x) (md_in n x), e] at hx
      exact hx.2 rfl
    · obtain ⟨l, hl, ht⟩ := List.mem_flatten.mp ht
      obtain ⟨q, hq, rfl⟩ := List.mem_map.mp hl
      have hq4 : q < 4 := List.mem_range.mp hq
      obtain ⟨t', ht', rfl⟩ := List.mem_map.mp ht
      obtain ⟨i1, i2⟩ := cover_ok n (hole n out q) (hole_in n out q) t' ht'
      refine ⟨i1, fun x hx => ?_⟩
      rw [pc_sh] at hx
      obtain ⟨y, hy, rfl⟩ := List.mem_map.mp hx
      obtain ⟨j1, j2, j3⟩ := i2 y hy
      refine ⟨j1.sh hq4, fun e => ?_, ?_⟩
      · have eq : qn n out = q := by rw [← e, qn_sh hq4 j1]
        rw [hole_eq eq] at j2
        apply j2
        rw [← e, md_sh hq4 j1]
      · rw [S_quarter hq4 ho j1 j2, j3]
/-! ### the same by places of the whole floor: a part of size n begins at multiples of 2 ^ n -/
def upc (n x : Nat) : Nat := x / 2 ^ (n + 1) * 2 ^ (n + 1) + 2 ^ n
def midA (n : Nat) (out : Pl) : Tr := (upc n out.1 - 1, upc n out.2 - 1, qn n out)
def md4 (n : Nat) (p : Pl) (q : Nat) : Pl := (upc n p.1 - 1 + q % 2, upc n p.2 - 1 + q / 2)
def loA (n : Nat) (out p : Pl) : Pl := if qn n p = qn n out then out else md4 n p (qn n p)
structure At (n : Nat) (o p : Pl) (R : Tr) : Prop where
  ex : ∃ (X Y : Nat) (lo lp : Pl), o = shP (X * 2 ^ n, Y * 2 ^ n) lo ∧ p = shP (X * 2 ^ n, Y * 2 ^ n) lp ∧ In n lo ∧ In n lp ∧ lp ≠ lo ∧ R = shT (X * 2 ^ n, Y * 2 ^ n) (S n lo lp)
theorem upc_sh {n X x : Nat} (hx : x < 2 ^ (n + 1)) : upc n (X * 2 ^ (n + 1) + x) = X * 2 ^ (n + 1) + 2 ^ n := by
  unfold upc
  rw [Nat.mul_comm X, Nat.mul_add_div (pw (n + 1)), Nat.div_eq_of_lt hx, Nat.add_zero, Nat.mul_comm X]
theorem bit_sh {n X x : Nat} : (X * 2 ^ (n + 1) + x) / 2 ^ n % 2 = x / 2 ^ n % 2 := by
  rw [pw1, show X * (2 * 2 ^ n) = 2 ^ n * (2 * X) by rw [Nat.mul_comm X, Nat.mul_assoc, Nat.mul_comm 2, Nat.mul_assoc, Nat.mul_comm X], Nat.mul_add_div (pw n)]
  omega
theorem qn_shA {n X Y : Nat} {p : Pl} : qn n (shP (X * 2 ^ (n + 1), Y * 2 ^ (n + 1)) p) = qn n p := by
  unfold qn shP
  dsimp only
  rw [bit_sh, bit_sh]
theorem midA_sh {n X Y : Nat} {p : Pl} (h : In (n + 1) p) : midA n (shP (X * 2 ^ (n + 1), Y * 2 ^ (n + 1)) p) = shT (X * 2 ^ (n + 1), Y * 2 ^ (n + 1)) (mid n p) := by
  have hp := pw n
  show (upc n (X * 2 ^ (n + 1) + p.1) - 1, upc n (Y * 2 ^ (n + 1) + p.2) - 1, qn n _) = (X * 2 ^ (n + 1) + (2 ^ n - 1), Y * 2 ^ (n + 1) + (2 ^ n - 1), qn n p)
  rw [upc_sh h.1, upc_sh h.2, qn_shA, Nat.add_sub_assoc hp, Nat.add_sub_assoc hp]
theorem shP_inj {b p q : Pl} (h : shP b p = shP b q) : p = q := by
  obtain ⟨b1, b2⟩ := b
  obtain ⟨x, y⟩ := p
  obtain ⟨x', y'⟩ := q
  unfold shP at h
  simp only [Prod.mk.injEq] at h ⊢
  omega
theorem mem_shA {b p : Pl} {t : Tr} : shP b p ∈ pc (shT b t) ↔ p ∈ pc t := by
  rw [pc_sh]
  constructor
  · intro h
    obtain ⟨q, hq, e⟩ := List.mem_map.mp h
    rw [← shP_inj e]
    exact hq
  · exact fun h => List.mem_map.mpr ⟨p, h, rfl⟩
theorem shT_shT {b c : Pl} {t : Tr} : shT b (shT c t) = shT (shP b c) t := by
  unfold shT shP
  simp only [Nat.add_assoc]
theorem shP_shP {b c p : Pl} : shP b (shP c p) = shP (shP b c) p := by
  unfold shP
  simp only [Nat.add_assoc]
theorem base_sh {n X Y q : Nat} : shP (X * 2 ^ (n + 1), Y * 2 ^ (n + 1)) (low n q) = ((2 * X + q % 2) * 2 ^ n, (2 * Y + q / 2) * 2 ^ n) := by
  unfold shP low
  rw [pw1, Nat.add_mul, Nat.add_mul, Nat.mul_assoc, Nat.mul_assoc, Nat.mul_left_comm 2 X, Nat.mul_left_comm 2 Y]
theorem md4_sh {n X Y q : Nat} {p : Pl} (hq : q < 4) (h : In (n + 1) p) : md4 n (shP (X * 2 ^ (n + 1), Y * 2 ^ (n + 1)) p) q = shP (shP (X * 2 ^ (n + 1), Y * 2 ^ (n + 1)) (low n q)) (cor n q) := by
  have hp := pw n
  show (upc n (X * 2 ^ (n + 1) + p.1) - 1 + q % 2, upc n (Y * 2 ^ (n + 1) + p.2) - 1 + q / 2) = (X * 2 ^ (n + 1) + q % 2 * 2 ^ n + (1 - q % 2) * (2 ^ n - 1), Y * 2 ^ (n + 1) + q / 2 * 2 ^ n + (1 - q / 2) * (2 ^ n - 1))
  rw [upc_sh h.1, upc_sh h.2]
  generalize X * 2 ^ (n + 1) = a
  generalize Y * 2 ^ (n + 1) = b
  generalize 2 ^ n = k at *
  have hq' : q = 0 ∨ q = 1 ∨ q = 2 ∨ q = 3 := by omega
  rcases hq' with e | e | e | e <;> subst e <;> simp only [Prod.mk.injEq, Nat.reduceMod, Nat.reduceDiv, Nat.reduceSub, Nat.one_mul, Nat.zero_mul, Nat.zero_add, Nat.zero_mod, Nat.zero_div, Nat.sub_zero, Nat.sub_self, Nat.add_zero] <;> omega
theorem At.start {n : Nat} {o p : Pl} (ho : In n o) (hp : In n p) (h : p ≠ o) : At n o p (S n o p) := by
  refine ⟨0, 0, o, p, ?_, ?_, ho, hp, h, ?_⟩
  · simp [shP]
  · simp [shP]
  · simp [shT]
theorem At.pos {o p : Pl} {R : Tr} (h : At 0 o p R) : False := by
  obtain ⟨X, Y, lo, lp, _, _, h1, h2, h3, _⟩ := h.ex
  have := S_ok 0 lo lp h1 h2 h3
  apply h3
  obtain ⟨x, y⟩ := lp
  obtain ⟨x', y'⟩ := lo
  obtain ⟨a, b⟩ := h1
  obtain ⟨c, d⟩ := h2
  dsimp only at a b c d
  have e1 : x = 0 := by omega
  have e2 : y = 0 := by omega
  have e3 : x' = 0 := by omega
  have e4 : y' = 0 := by omega
  rw [e1, e2, e3, e4]
theorem At.done {n : Nat} {o p : Pl} {R : Tr} (h : At (n + 1) o p R) (hm : p ∈ pc (midA n o)) : R = midA n o := by
  obtain ⟨X, Y, lo, lp, rfl, rfl, h1, h2, h3, rfl⟩ := h.ex
  rw [midA_sh h1, mem_shA] at hm
  rw [midA_sh h1, S_mid hm]
theorem At.turn {n : Nat} {o p : Pl} {R : Tr} (h : At (n + 1) o p R) (hm : ¬ p ∈ pc (midA n o)) : At n (loA n o p) p R := by
  obtain ⟨X, Y, lo, lp, rfl, rfl, h1, h2, h3, rfl⟩ := h.ex
  rw [midA_sh h1, mem_shA] at hm
  have hq := qn_lt n lp
  refine ⟨2 * X + qn n lp % 2, 2 * Y + qn n lp / 2, hole n lo (qn n lp), md n lp, ?_, ?_, hole_in _ _ _, md_in _ _, hole_md h2 h1 h3 hm, ?_⟩
  · rw [← base_sh]
    unfold loA
    rw [qn_shA, qn_shA]
    by_cases e : qn n lp = qn n lo
    · rw [if_pos e, hole_eq e.symm, ← shP_shP, e, ← h1.split]
    · rw [if_neg e, hole_ne (fun z => e z.symm), md4_sh hq h2]
  · rw [← base_sh, ← shP_shP, ← h2.split]
  · rw [← base_sh, ← shT_shT, S_not hm]
/-- a part's place left out is near its other places -/
theorem At.near {n : Nat} {o p : Pl} {R : Tr} (h : At n o p R) : o.1 < p.1 + 2 ^ n ∧ o.2 < p.2 + 2 ^ n := by
  obtain ⟨X, Y, lo, lp, rfl, rfl, h1, h2, h3, rfl⟩ := h.ex
  obtain ⟨a, b⟩ := h1
  unfold shP
  dsimp only
  omega
theorem cover_len : ∀ (n : Nat) (out : Pl), 3 * (cover n out).length + 1 = 4 ^ n
  | 0, _ => rfl
  | n + 1, out => by
    have h := fun q => cover_len n (hole n out q)
    have h0 := h 0
    have h1 := h 1
    have h2 := h 2
    have h3 := h 3
    have e : (cover (n + 1) out).length = 1 + ((cover n (hole n out 0)).length + (cover n (hole n out 1)).length + (cover n (hole n out 2)).length + (cover n (hole n out 3)).length) := by
      show (mid n out :: ((List.range 4).map fun q => (cover n (hole n out q)).map (shT (low n q))).flatten).length = _
      rw [List.length_cons, show List.range 4 = [0, 1, 2, 3] from rfl]
      simp only [List.map_cons, List.map_nil, List.flatten_cons, List.flatten_nil, List.length_append, List.length_map, List.append_nil]
      omega
    rw [e, Nat.pow_succ]
    omega
theorem low_lt {n q : Nat} (hq : q < 4) : (low n q).1 < 2 ^ (n + 1) ∧ (low n q).2 < 2 ^ (n + 1) := by
  have h := In.sh hq (show In n (0, 0) from ⟨pw n, pw n⟩)
  exact h
/-- how many pieces -/
def cnt : Nat → Nat
  | 0 => 0
  | n + 1 => 1 + 4 * cnt n
theorem cnt_pow : ∀ n, 3 * cnt n + 1 = 4 ^ n
  | 0 => rfl
  | n + 1 => by
    have h := cnt_pow n
    rw [Nat.pow_succ]
    show 3 * (1 + 4 * cnt n) + 1 = _
    omega
theorem cover_cnt (n : Nat) (out : Pl) : (cover n out).length = cnt n := by
  have h1 := cover_len n out
  have h2 := cnt_pow n
  omega
theorem flat_len (m : Nat) (o : Pl) : ∀ i, (((List.range i).map fun q => (cover m (hole m o q)).map (shT (low m q))).flatten).length = i * cnt m
  | 0 => by simp
  | i + 1 => by
    rw [List.range_succ, List.map_append, List.flatten_append, List.length_append, flat_len m o i]
    simp only [List.map_cons, List.map_nil, List.flatten_cons, List.flatten_nil, List.append_nil, List.length_map, cover_cnt]
    rw [Nat.add_mul, Nat.one_mul]
/-! ### a part of a floor, by its own places -/
structure Part (N : Nat) (out : Pl) (m : Nat) (lw hl : Pl) : Prop where
  hin : In m hl
  eq : ∀ x, In m x → x ≠ hl → S N out (shP lw x) = shT lw (S m hl x) ∧ In N (shP lw x) ∧ shP lw x ≠ out
theorem Part.start {N : Nat} {out : Pl} (h : In N out) : Part N out N (0, 0) out := by
  refine ⟨h, fun x hx hne => ?_⟩
  have e : shP (0, 0) x = x := by simp [shP]
  rw [e]
  exact ⟨by simp [shT], hx, hne⟩
theorem Part.turn {N m q : Nat} {out lw hl : Pl} (s : Part N out (m + 1) lw hl) (hq : q < 4) : Part N out m (shP lw (low m q)) (hole m hl q) := by
  refine ⟨hole_in _ _ _, fun x hx hne => ?_⟩
  have hy := hx.sh hq
  have hy2 : shP (low m q) x ≠ hl := fun e => by
    have e1 : qn m hl = q := by rw [← e, qn_sh hq hx]
    apply hne
    rw [hole_eq e1, ← e, md_sh hq hx]
  obtain ⟨h1, h2, h3⟩ := s.eq _ hy hy2
  rw [← shP_shP]
  refine ⟨?_, h2, h3⟩
  rw [h1, S_quarter hq s.hin hx hne, shT_shT]
theorem mid_ok {m : Nat} {hl : Pl} (h : In (m + 1) hl) : ∀ x ∈ pc (mid m hl), In (m + 1) x ∧ x ≠ hl ∧ S (m + 1) hl x = mid m hl :=
  (cover_ok (m + 1) hl h (mid m hl) List.mem_cons_self).2
theorem Part.mid {N m : Nat} {out lw hl : Pl} (s : Part N out (m + 1) lw hl) : ∀ y ∈ pc (shT lw (mid m hl)), In N y ∧ y ≠ out ∧ S N out y = shT lw (mid m hl) := fun y hy => by
  rw [pc_sh] at hy
  obtain ⟨x, hx, rfl⟩ := List.mem_map.mp hy
  obtain ⟨h1, h2, h3⟩ := mid_ok s.hin x hx
  obtain ⟨k1, k2, k3⟩ := s.eq x h1 h2
  exact ⟨k2, k3, by rw [k1, h3]⟩
theorem qn_div {m : Nat} {p : Pl} (h : In (m + 1) p) : p.1 / 2 ^ m + 2 * (p.2 / 2 ^ m) = qn m p := by
  obtain ⟨h1, h2⟩ := h
  rw [pw1] at h1 h2
  have a := div_lt2 (pw m) h1
  have b := div_lt2 (pw m) h2
  unfold qn
  rw [Nat.mod_eq_of_lt a, Nat.mod_eq_of_lt b]
end Cf

namespace Cf
/-! ### numbers -/
/-- the number of the piece of a place -/
def N : Nat → Pl → Pl → Nat
  | 0, _, _ => 0
  | n + 1, out, p => if p ∈ pc (mid n out) then 0 else 1 + qn n p * cnt n + N n (hole n out (qn n p)) (md n p)
/-- the piece of a number -/
def PO : Nat → Pl → Nat → Tr
  | 0, _, _ => (0, 0, 0)
  | n + 1, out, k => if k = 0 then mid n out else shT (low n ((k - 1) / cnt n)) (PO n (hole n out ((k - 1) / cnt n)) ((k - 1) % cnt n))
theorem N_mid {n : Nat} {out p : Pl} (h : p ∈ pc (mid n out)) : N (n + 1) out p = 0 := by
  show (if _ then _ else _) = _
  rw [if_pos h]
theorem N_not {n : Nat} {out p : Pl} (h : ¬ p ∈ pc (mid n out)) : N (n + 1) out p = 1 + qn n p * cnt n + N n (hole n out (qn n p)) (md n p) := by
  show (if _ then _ else _) = _
  rw [if_neg h]
theorem PO_zero {n : Nat} {out : Pl} : PO (n + 1) out 0 = mid n out := rfl
theorem PO_at {n q j : Nat} {out : Pl} (hj : j < cnt n) : PO (n + 1) out (1 + q * cnt n + j) = shT (low n q) (PO n (hole n out q) j) := by
  show (if _ then _ else _) = _
  rw [if_neg (by omega)]
  have e : 1 + q * cnt n + j - 1 = j + q * cnt n := by omega
  have hp : 0 < cnt n := by omega
  rw [e, Nat.add_mul_div_right _ _ hp, Nat.add_mul_mod_self_right, Nat.div_eq_of_lt hj, Nat.mod_eq_of_lt hj, Nat.zero_add]
/-- a number behind the middle one lies in one quarter -/
theorem num_split {n k : Nat} (h : k + 1 < cnt (n + 1)) : ∃ q j, q < 4 ∧ j < cnt n ∧ k + 1 = 1 + q * cnt n + j := by
  have h4 : k < 4 * cnt n := by
    have e : cnt (n + 1) = 1 + 4 * cnt n := rfl
    omega
  have hp : 0 < cnt n := by omega
  refine ⟨k / cnt n, k % cnt n, (Nat.div_lt_iff_lt_mul hp).mpr h4, Nat.mod_lt _ hp, ?_⟩
  have := Nat.div_add_mod k (cnt n)
  rw [Nat.mul_comm] at this
  omega
theorem N_lt : ∀ (n : Nat) (out p : Pl), In n out → In n p → p ≠ out → N n out p < cnt n
  | 0, out, p, ho, hp, hne => by
    exfalso
    exact At.pos (At.start ho hp hne)
  | n + 1, out, p, ho, hp, hne => by
    have e : cnt (n + 1) = 1 + 4 * cnt n := rfl
    by_cases hm : p ∈ pc (mid n out)
    · rw [N_mid hm]
      omega
    · rw [N_not hm]
      have ih := N_lt n (hole n out (qn n p)) (md n p) (hole_in _ _ _) (md_in _ _) (hole_md hp ho hne hm)
      have h3 : qn n p * cnt n ≤ 3 * cnt n := Nat.mul_le_mul_right _ (by have := qn_lt n p; omega)
      omega
theorem PO_N : ∀ (n : Nat) (out p : Pl), In n out → In n p → p ≠ out → PO n out (N n out p) = S n out p
  | 0, _, _, _, _, _ => rfl
  | n + 1, out, p, ho, hp, hne => by
    by_cases hm : p ∈ pc (mid n out)
    · rw [N_mid hm, S_mid hm, PO_zero]
    · have h := hole_md hp ho hne hm
      rw [N_not hm, S_not hm, PO_at (N_lt n _ _ (hole_in _ _ _) (md_in _ _) h), PO_N n _ _ (hole_in _ _ _) (md_in _ _) h]
/-- the piece of a number: its places' number is that number -/
theorem PO_ok : ∀ (n : Nat) (out : Pl) (k : Nat), In n out → k < cnt n → (PO n out k).2.2 < 4 ∧ ∀ x ∈ pc (PO n out k), In n x ∧ x ≠ out ∧ N n out x = k ∧ S n out x = PO n out k
  | 0, _, k, _, hk => absurd hk (Nat.not_lt_zero k)
  | n + 1, out, 0, ho, hk => by
    rw [PO_zero]
    refine ⟨qn_lt n out, fun x hx => ?_⟩
    obtain ⟨h1, h2, h3⟩ := mid_ok ho x hx
    exact ⟨h1, h2, N_mid hx, h3⟩
  | n + 1, out, k + 1, ho, hk => by
    obtain ⟨q, j, hq, hj, e⟩ := num_split hk
    rw [e, PO_at hj]
    obtain ⟨i1, i2⟩ := PO_ok n (hole n out q) j (hole_in _ _ _) hj
    refine ⟨i1, fun x hx => ?_⟩
    rw [pc_sh] at hx
    obtain ⟨y, hy, rfl⟩ := List.mem_map.mp hx
    obtain ⟨j1, j2, j3, j4⟩ := i2 y hy
    have nm : ¬ shP (low n q) y ∈ pc (mid n out) := by
      rw [mem_mid hq j1]
      intro ⟨e, ne⟩
      rw [hole_ne (fun z => ne z.symm)] at j2
      exact j2 e
    refine ⟨j1.sh hq, fun z => ?_, ?_, ?_⟩
    · have e1 : qn n out = q := by rw [← z, qn_sh hq j1]
      apply j2
      rw [hole_eq e1, ← z, md_sh hq j1]
    · rw [N_not nm, qn_sh hq j1, md_sh hq j1, j3]
    · rw [S_quarter hq ho j1 j2, j4]
theorem flat_get {β : Type} (f : Nat → List β) (c : Nat) (hf : ∀ q, (f q).length = c) : ∀ (m q j : Nat), q < m → j < c → (((List.range m).map f).flatten)[q * c + j]? = (f q)[j]?
  | 0, q, j, hq, _ => absurd hq (Nat.not_lt_zero q)
  | m + 1, q, j, hq, hj => by
    have len : ((List.range m).map f).flatten.length = m * c := by
      rw [List.length_flatten, List.map_map]
      have e : ((List.length ∘ f) : Nat → Nat) = fun _ => c := funext hf
      rw [e]
      clear hq
      induction m with
      | zero => simp
      | succ m ih => rw [List.range_succ, List.map_append, List.sum_append, ih, Nat.add_mul, Nat.one_mul]; simp
    rw [List.range_succ, List.map_append, List.flatten_append]
    by_cases h : q < m
    · have h1 : q * c + j < m * c := by
        have : (q + 1) * c ≤ m * c := Nat.mul_le_mul_right _ h
        rw [Nat.add_mul, Nat.one_mul] at this
        omega
      rw [List.getElem?_append_left (by rw [len]; exact h1)]
      exact flat_get f c hf m q j h hj
    · have e : q = m := by omega
      subst e
      rw [List.getElem?_append_right (by rw [len]; omega), len, show q * c + j - q * c = j by omega]
      simp
/-- all pieces in their turn -/
theorem cover_PO : ∀ (n : Nat) (out : Pl) (k : Nat), k < cnt n → (cover n out)[k]? = some (PO n out k)
  | 0, _, k, hk => absurd hk (Nat.not_lt_zero k)
  | n + 1, out, 0, _ => rfl
  | n + 1, out, k + 1, hk => by
    obtain ⟨q, j, hq, hj, e⟩ := num_split hk
    rw [e, PO_at hj]
    show (mid n out :: ((List.range 4).map fun q => (cover n (hole n out q)).map (shT (low n q))).flatten)[1 + q * cnt n + j]? = _
    rw [show 1 + q * cnt n + j = (q * cnt n + j) + 1 by omega, List.getElem?_cons_succ]
    rw [flat_get _ (cnt n) (fun q => by rw [List.length_map, cover_cnt]) 4 q j hq hj, List.getElem?_map, cover_PO n (hole n out q) j hj]
    rfl
theorem PO_cover {n : Nat} {out : Pl} {k : Nat} {t : Tr} (h : (cover n out)[k]? = some t) : k < cnt n ∧ PO n out k = t := by
  have hk : k < cnt n := by
    rw [← cover_cnt n out]
    exact (List.getElem?_eq_some_iff.mp h).1
  rw [cover_PO n out k hk] at h
  exact ⟨hk, Option.some.inj h⟩
theorem N_cover {n : Nat} {out : Pl} {k : Nat} {t : Tr} (ho : In n out) (h : (cover n out)[k]? = some t) : ∀ x ∈ pc t, N n out x = k := fun x hx => by
  obtain ⟨hk, rfl⟩ := PO_cover h
  exact ((PO_ok n out k ho hk).2 x hx).2.2.1
end Cf

namespace Cf
/-! ### ways -/
/-- how many pieces of a way -/
def W : Nat → Pl → Nat → Nat
  | 0, _, _ => 0
  | n + 1, out, w => (if w = qn n out then 1 else 0) + (W n (hole n out 0) w + W n (hole n out 1) w + W n (hole n out 2) w + W n (hole n out 3) w)
theorem W_cover : ∀ (n : Nat) (out : Pl) (w : Nat), ((cover n out).filter fun t => decide (t.2.2 = w)).length = W n out w
  | 0, _, _ => rfl
  | n + 1, out, w => by
    have ih := fun q => W_cover n (hole n out q) w
    have hs : ∀ q, (((cover n (hole n out q)).map (shT (low n q))).filter fun t => decide (t.2.2 = w)).length = W n (hole n out q) w := fun q => by
      rw [List.filter_map, List.length_map, ← ih q]
      rfl
    show (((mid n out) :: ((List.range 4).map fun q => (cover n (hole n out q)).map (shT (low n q))).flatten).filter fun t => decide (t.2.2 = w)).length = _
    rw [show List.range 4 = [0, 1, 2, 3] from rfl]
    simp only [List.map_cons, List.map_nil, List.flatten_cons, List.flatten_nil, List.append_nil]
    rw [List.filter_cons]
    have hm : (mid n out).2.2 = qn n out := rfl
    rw [hm]
    show _ = (if w = qn n out then 1 else 0) + _
    by_cases h : qn n out = w
    · rw [if_pos (decide_eq_true h), if_pos h.symm, List.length_cons, List.filter_append, List.filter_append, List.filter_append, List.length_append, List.length_append, List.length_append, hs, hs, hs, hs]
      omega
    · rw [if_neg (by simp [h]), if_neg (fun z => h z.symm), List.filter_append, List.filter_append, List.filter_append, List.length_append, List.length_append, List.length_append, hs, hs, hs, hs]
      omega
theorem W_sum : ∀ (n : Nat) (out : Pl), W n out 0 + W n out 1 + W n out 2 + W n out 3 = cnt n
  | 0, _ => rfl
  | n + 1, out => by
    have h0 := W_sum n (hole n out 0)
    have h1 := W_sum n (hole n out 1)
    have h2 := W_sum n (hole n out 2)
    have h3 := W_sum n (hole n out 3)
    have hq := qn_lt n out
    show ((if 0 = qn n out then 1 else 0) + _) + ((if 1 = qn n out then 1 else 0) + _) + ((if 2 = qn n out then 1 else 0) + _) + ((if 3 = qn n out then 1 else 0) + _) = 1 + 4 * cnt n
    generalize qn n out = q at *
    have hq' : q = 0 ∨ q = 1 ∨ q = 2 ∨ q = 3 := by omega
    rcases hq' with rfl | rfl | rfl | rfl <;> simp <;> omega
/-! ### a corner left out -/
/-- the corner of a floor: of the quarter c the place farthest from the middle -/
def crn (n c : Nat) : Pl := (c % 2 * (2 ^ n - 1), c / 2 * (2 ^ n - 1))
theorem cor_crn (n q : Nat) (hq : q < 4) : cor n q = crn n (3 - q) := by
  unfold cor crn
  have hq' : q = 0 ∨ q = 1 ∨ q = 2 ∨ q = 3 := by omega
  rcases hq' with rfl | rfl | rfl | rfl <;> rfl
theorem crn_in (n c : Nat) (hc : c < 4) : In n (crn n c) := by
  have h := pw n
  unfold crn In
  have hc' : c = 0 ∨ c = 1 ∨ c = 2 ∨ c = 3 := by omega
  rcases hc' with rfl | rfl | rfl | rfl <;> simp <;> omega
theorem crn_sh (n c : Nat) (hc : c < 4) : crn (n + 1) c = shP (low n c) (crn n c) := by
  have h := pw n
  unfold crn shP low
  rw [pw1]
  generalize 2 ^ n = k at *
  have hc' : c = 0 ∨ c = 1 ∨ c = 2 ∨ c = 3 := by omega
  rcases hc' with rfl | rfl | rfl | rfl <;> simp only [Prod.mk.injEq, Nat.reduceMod, Nat.reduceDiv, Nat.one_mul, Nat.zero_mul, Nat.zero_mod, Nat.zero_div, Nat.add_zero, Nat.zero_add, true_and, and_true] <;> first | trivial | omega | (constructor <;> omega)
theorem qn_crn (n c : Nat) (hc : c < 4) : qn n (crn (n + 1) c) = c := by
  rw [crn_sh n c hc, qn_sh hc (crn_in n c hc)]
theorem hole_crn (n c q : Nat) (hc : c < 4) (hq : q < 4) : hole n (crn (n + 1) c) q = if c = q then crn n c else crn n (3 - q) := by
  by_cases h : c = q
  · subst h
    rw [if_pos rfl, hole_eq (qn_crn n c hc), crn_sh n c hc, md_sh hc (crn_in n c hc)]
  · rw [if_neg h, hole_ne (by rw [qn_crn n c hc]; exact h), cor_crn n q hq]
/-- of that corner, beside it, across -/
def same : Nat → Nat × Nat × Nat
  | 0 => (0, 0, 0)
  | n + 1 => (1 + 2 * (same n).1 + 2 * (same n).2.1, (same n).1 + 2 * (same n).2.1 + (same n).2.2, 2 * (same n).2.1 + 2 * (same n).2.2)
/-- which of the three a way is, beside a corner -/
def wk (c w : Nat) : Nat := if c = w then 0 else if c + w = 3 then 2 else 1
def wsel (t : Nat × Nat × Nat) (k : Nat) : Nat := if k = 0 then t.1 else if k = 1 then t.2.1 else t.2.2
theorem W_crn : ∀ (n c w : Nat), c < 4 → w < 4 → W n (crn n c) w = wsel (same n) (wk c w)
  | 0, c, w, _, _ => by
    show 0 = wsel (0, 0, 0) _
    unfold wsel
    repeat' split
    all_goals rfl
  | n + 1, c, w, hc, hw => by
    show (if w = qn n (crn (n + 1) c) then 1 else 0) + _ = _
    rw [qn_crn n c hc, hole_crn n c 0 hc (by omega), hole_crn n c 1 hc (by omega), hole_crn n c 2 hc (by omega), hole_crn n c 3 hc (by omega)]
    have ih := fun c' h => W_crn n c' w h hw
    have hc' : c = 0 ∨ c = 1 ∨ c = 2 ∨ c = 3 := by omega
    have hw' : w = 0 ∨ w = 1 ∨ w = 2 ∨ w = 3 := by omega
    have i0 := ih 0 (by omega)
    have i1 := ih 1 (by omega)
    have i2 := ih 2 (by omega)
    have i3 := ih 3 (by omega)
    rcases hc' with rfl | rfl | rfl | rfl <;> rcases hw' with rfl | rfl | rfl | rfl <;> simp [wk, wsel, same] at * <;> omega
end Cf

namespace Cf
/-! ### unlike pieces -/
def U : Nat → Pl → Pl → Nat
  | 0, _, _ => 0
  | n + 1, a, b => (if qn n a = qn n b then 0 else 1) + (U n (hole n a 0) (hole n b 0) + U n (hole n a 1) (hole n b 1) + U n (hole n a 2) (hole n b 2) + U n (hole n a 3) (hole n b 3))
theorem U_self : ∀ (n : Nat) (a : Pl), U n a a = 0
  | 0, _ => rfl
  | n + 1, a => by
    show (if qn n a = qn n a then 0 else 1) + _ = 0
    rw [if_pos rfl, U_self, U_self, U_self, U_self]
theorem U_comm : ∀ (n : Nat) (a b : Pl), U n a b = U n b a
  | 0, _, _ => rfl
  | n + 1, a, b => by
    show (if qn n a = qn n b then 0 else 1) + _ = (if qn n b = qn n a then 0 else 1) + _
    rw [U_comm n (hole n a 0), U_comm n (hole n a 1), U_comm n (hole n a 2), U_comm n (hole n a 3)]
    by_cases h : qn n a = qn n b
    · rw [if_pos h, if_pos h.symm]
    · rw [if_neg h, if_neg (fun z => h z.symm)]
theorem U_tri : ∀ (n : Nat) (a b c : Pl), U n a c ≤ U n a b + U n b c
  | 0, _, _, _ => Nat.zero_le _
  | n + 1, a, b, c => by
    have h0 := U_tri n (hole n a 0) (hole n b 0) (hole n c 0)
    have h1 := U_tri n (hole n a 1) (hole n b 1) (hole n c 1)
    have h2 := U_tri n (hole n a 2) (hole n b 2) (hole n c 2)
    have h3 := U_tri n (hole n a 3) (hole n b 3) (hole n c 3)
    show (if qn n a = qn n c then 0 else 1) + _ ≤ ((if qn n a = qn n b then 0 else 1) + _) + ((if qn n b = qn n c then 0 else 1) + _)
    have h : (if qn n a = qn n c then 0 else 1) ≤ (if qn n a = qn n b then 0 else 1) + (if qn n b = qn n c then 0 else 1) := by
      repeat' split
      all_goals omega
    omega
theorem U_zero : ∀ (n : Nat) (a b : Pl), In n a → In n b → U n a b = 0 → a = b
  | 0, a, b, ha, hb, _ => by
    obtain ⟨x, y⟩ := a
    obtain ⟨x', y'⟩ := b
    obtain ⟨h1, h2⟩ := ha
    obtain ⟨h3, h4⟩ := hb
    dsimp only at *
    rw [Prod.mk.injEq]
    omega
  | n + 1, a, b, ha, hb, h => by
    have h' : (if qn n a = qn n b then 0 else 1) + (U n (hole n a 0) (hole n b 0) + U n (hole n a 1) (hole n b 1) + U n (hole n a 2) (hole n b 2) + U n (hole n a 3) (hole n b 3)) = 0 := h
    have hq : qn n a = qn n b := by
      by_cases e : qn n a = qn n b
      · exact e
      · rw [if_neg e] at h'
        omega
    have hz : U n (hole n a (qn n a)) (hole n b (qn n a)) = 0 := by
      have h4 := qn_lt n a
      generalize qn n a = q at *
      have hq' : q = 0 ∨ q = 1 ∨ q = 2 ∨ q = 3 := by omega
      rcases hq' with rfl | rfl | rfl | rfl <;> omega
    have e := U_zero n _ _ (hole_in _ _ _) (hole_in _ _ _) hz
    rw [hole_eq rfl, hole_eq hq.symm] at e
    rw [ha.split, hb.split, e, hq]
/-! ### as pieces -/
theorem pc_two (t : Tr) : ∃ x y, x ∈ pc t ∧ y ∈ pc t ∧ x ≠ y := by
  obtain ⟨u, v, w⟩ := t
  unfold pc
  dsimp only
  repeat' split
  · exact ⟨(u, v + 1), (u + 1, v), by simp, by simp, by simp⟩
  · exact ⟨(u, v), (u, v + 1), by simp, by simp, by simp⟩
  · exact ⟨(u, v), (u + 1, v), by simp, by simp, by simp⟩
  · exact ⟨(u, v), (u, v + 1), by simp, by simp, by simp⟩
theorem pc_inj {t s : Tr} (ht : t.2.2 < 4) (hs : s.2.2 < 4) (h : pc t = pc s) : t = s := by
  obtain ⟨u, v, w⟩ := t
  obtain ⟨u', v', w'⟩ := s
  dsimp only at ht hs
  have hw : w = 0 ∨ w = 1 ∨ w = 2 ∨ w = 3 := by omega
  have hw' : w' = 0 ∨ w' = 1 ∨ w' = 2 ∨ w' = 3 := by omega
  rcases hw with rfl | rfl | rfl | rfl <;> rcases hw' with rfl | rfl | rfl | rfl <;> simp [pc] at h ⊢ <;> omega
theorem shT_inj {b : Pl} {t s : Tr} (h : shT b t = shT b s) : t = s := by
  obtain ⟨u, v, w⟩ := t
  obtain ⟨u', v', w'⟩ := s
  unfold shT at h
  simp only [Prod.mk.injEq] at h ⊢
  omega
theorem mem_cover {n : Nat} {out : Pl} {t : Tr} : t ∈ cover (n + 1) out ↔ t = mid n out ∨ ∃ q s, q < 4 ∧ s ∈ cover n (hole n out q) ∧ t = shT (low n q) s := by
  show t ∈ (mid n out :: ((List.range 4).map fun q => (cover n (hole n out q)).map (shT (low n q))).flatten) ↔ _
  rw [List.mem_cons, List.mem_flatten]
  constructor
  · rintro (h | ⟨l, hl, ht⟩)
    · exact .inl h
    · obtain ⟨q, hq, rfl⟩ := List.mem_map.mp hl
      obtain ⟨s, hs, rfl⟩ := List.mem_map.mp ht
      exact .inr ⟨q, s, List.mem_range.mp hq, hs, rfl⟩
  · rintro (h | ⟨q, s, hq, hs, rfl⟩)
    · exact .inl h
    · exact .inr ⟨_, List.mem_map.mpr ⟨q, List.mem_range.mpr hq, rfl⟩, List.mem_map.mpr ⟨s, hs, rfl⟩⟩
/-- the places of a piece of a quarter lie in that quarter -/
theorem quarter_of_piece {n q : Nat} {h : Pl} {s : Tr} (hq : q < 4) (hh : In n h) (hs : s ∈ cover n h) : ∀ x ∈ pc (shT (low n q) s), qn n x = q := fun x hx => by
  rw [pc_sh] at hx
  obtain ⟨y, hy, rfl⟩ := List.mem_map.mp hx
  exact qn_sh hq ((cover_ok n h hh s hs).2 y hy).1
theorem mid_in_cover {n : Nat} {a b : Pl} : mid n a ∈ cover (n + 1) b ↔ qn n a = qn n b := by
  rw [mem_cover]
  constructor
  · rintro (h | ⟨q, s, hq, hs, h⟩)
    · exact congrArg (·.2.2) h
    · exfalso
      have hz := quarter_of_piece hq (hole_in _ _ _) hs
      rw [← h] at hz
      have k : ∀ i, i < 4 → i ≠ qn n a → i = q := fun i hi hne => by
        have hm := (mem_mid hi (cor_in n i) (out := a)).mpr ⟨rfl, hne⟩
        have := hz _ hm
        rwa [qn_sh hi (cor_in n i)] at this
      have h4 := qn_lt n a
      have k0 := k 0 (by omega)
      have k1 := k 1 (by omega)
      have k2 := k 2 (by omega)
      omega
  · intro h
    left
    unfold mid
    rw [h]
theorem sh_in_cover {n q : Nat} {a b : Pl} {t : Tr} (hq : q < 4) (ht : t ∈ cover n (hole n a q)) : shT (low n q) t ∈ cover (n + 1) b ↔ t ∈ cover n (hole n b q) := by
  rw [mem_cover]
  have hz := quarter_of_piece hq (hole_in _ _ _) ht
  have okt := (cover_ok n _ (hole_in _ _ _) t ht).2
  constructor
  · rintro (h | ⟨q', s, hq', hs, h⟩)
    · exfalso
      obtain ⟨x, y, hx, hy, hne⟩ := pc_two t
      have k : ∀ z, z ∈ pc t → z = cor n q := fun z hz => by
        have hm : shP (low n q) z ∈ pc (mid n b) := by
          rw [← h, pc_sh]
          exact List.mem_map.mpr ⟨z, hz, rfl⟩
        exact ((mem_mid hq (okt z hz).1).mp hm).1
      exact hne ((k x hx).trans (k y hy).symm)
    · have hz' := quarter_of_piece hq' (hole_in _ _ _) hs
      obtain ⟨x, y, hx, hy, hne⟩ := pc_two (shT (low n q) t)
      have e : q = q' := by
        rw [← hz x hx]
        rw [h] at hx
        exact hz' x hx
      subst e
      rw [shT_inj h]
      exact hs
  · intro h
    exact .inr ⟨q, t, hq, h, rfl⟩
theorem U_cover : ∀ (n : Nat) (a b : Pl), ((cover n a).filter fun t => !decide (t ∈ cover n b)).length = U n a b
  | 0, _, _ => rfl
  | n + 1, a, b => by
    have ih := fun q => U_cover n (hole n a q) (hole n b q)
    have hs : ∀ q, q < 4 → (((cover n (hole n a q)).map (shT (low n q))).filter fun t => !decide (t ∈ cover (n + 1) b)).length = U n (hole n a q) (hole n b q) := fun q hq => by
      rw [List.filter_map, List.length_map, ← ih q]
      congr 1
      refine List.filter_congr fun t ht => ?_
      show (!decide (shT (low n q) t ∈ cover (n + 1) b)) = !decide (t ∈ cover n (hole n b q))
      rw [decide_eq_decide.mpr (sh_in_cover hq ht)]
    show (((mid n a) :: ((List.range 4).map fun q => (cover n (hole n a q)).map (shT (low n q))).flatten).filter fun t => !decide (t ∈ cover (n + 1) b)).length = (if qn n a = qn n b then 0 else 1) + _
    rw [show List.range 4 = [0, 1, 2, 3] from rfl]
    simp only [List.map_cons, List.map_nil, List.flatten_cons, List.flatten_nil, List.append_nil]
    have hd : decide (mid n a ∈ cover (n + 1) b) = decide (qn n a = qn n b) := decide_eq_decide.mpr mid_in_cover
    rw [List.filter_cons, hd]
    have h0 := hs 0 (by omega)
    have h1 := hs 1 (by omega)
    have h2 := hs 2 (by omega)
    have h3 := hs 3 (by omega)
    by_cases h : qn n a = qn n b
    · rw [if_neg (by simp [h]), if_pos h, List.filter_append, List.filter_append, List.filter_append, List.length_append, List.length_append, List.length_append, h0, h1, h2, h3]
      omega
    · rw [if_pos (by simp [h]), if_neg h, List.length_cons, List.filter_append, List.filter_append, List.filter_append, List.length_append, List.length_append, List.length_append, h0, h1, h2, h3]
      omega
/-! ### the first -/
def FN : Nat → Pl → Pl → Nat
  | 0, _, _ => 0
  | n + 1, a, b => if qn n a = qn n b then 1 + qn n a * cnt n + FN n (md n a) (md n b) else 0
theorem FN_ok : ∀ (n : Nat) (a b : Pl), In n a → In n b → a ≠ b → FN n a b < cnt n ∧ (∀ j, j < FN n a b → PO n a j = PO n b j) ∧ ¬ PO n a (FN n a b) ∈ cover n b
  | 0, a, b, ha, hb, hne => (At.pos (At.start ha hb (fun e => hne e.symm))).elim
  | n + 1, a, b, ha, hb, hne => by
    have hc : cnt (n + 1) = 1 + 4 * cnt n := rfl
    by_cases hq : qn n a = qn n b
    · have e : FN (n + 1) a b = 1 + qn n a * cnt n + FN n (md n a) (md n b) := if_pos hq
      have hmd : md n a ≠ md n b := fun z => hne (by rw [ha.split, hb.split, z, hq])
      obtain ⟨i1, i2, i3⟩ := FN_ok n _ _ (md_in n a) (md_in n b) hmd
      have h4 := qn_lt n a
      have h3 : qn n a * cnt n ≤ 3 * cnt n := Nat.mul_le_mul_right _ (by omega)
      have ea : hole n a (qn n a) = md n a := hole_eq rfl
      have eb : hole n b (qn n a) = md n b := hole_eq hq.symm
      rw [e]
      refine ⟨by omega, fun j hj => ?_, ?_⟩
      · cases j with
        | zero =>
          rw [PO_zero, PO_zero]
          unfold mid
          rw [hq]
        | succ j =>
          obtain ⟨q, i, hq4, hi, ej⟩ := num_split (n := n) (k := j) (by omega)
          rw [ej, PO_at hi, PO_at hi]
          by_cases hqq : q = qn n a
          · rw [hqq, ea, eb]
            rw [hqq] at ej
            rw [i2 i (by omega)]
          · rw [hole_ne (fun z => hqq z.symm), hole_ne (fun z => hqq (by rw [← z, hq]))]
      · rw [PO_at i1, ea]
        have hin : PO n (md n a) (FN n (md n a) (md n b)) ∈ cover n (hole n a (qn n a)) := by
          rw [ea]
          exact List.mem_of_getElem? (cover_PO n _ _ i1)
        rw [sh_in_cover h4 hin, eb]
        exact i3
    · have e : FN (n + 1) a b = 0 := if_neg hq
      rw [e]
      refine ⟨by omega, fun j hj => absurd hj (Nat.not_lt_zero j), ?_⟩
      rw [PO_zero, mid_in_cover]
      exact hq
theorem FN_ne {n : Nat} {a b : Pl} (ha : In n a) (hb : In n b) (h : a ≠ b) : PO n a (FN n a b) ≠ PO n b (FN n a b) := fun e => by
  obtain ⟨h1, h2, h3⟩ := FN_ok n a b ha hb h
  apply h3
  rw [e]
  exact List.mem_of_getElem? (cover_PO n b _ h1)
/-- between two corners -/
theorem U_crn : ∀ (n c d : Nat), c < 4 → d < 4 → c ≠ d → U n (crn n c) (crn n d) = 2 ^ n - 1
  | 0, _, _, _, _, _ => rfl
  | n + 1, c, d, hc, hd, h => by
    have hp := pw n
    show (if qn n (crn (n + 1) c) = qn n (crn (n + 1) d) then 0 else 1) + _ = _
    rw [qn_crn n c hc, qn_crn n d hd, if_neg h, pw1]
    rw [hole_crn n c 0 hc (by omega), hole_crn n c 1 hc (by omega), hole_crn n c 2 hc (by omega), hole_crn n c 3 hc (by omega)]
    rw [hole_crn n d 0 hd (by omega), hole_crn n d 1 hd (by omega), hole_crn n d 2 hd (by omega), hole_crn n d 3 hd (by omega)]
    have ih := fun x y h1 h2 h3 => U_crn n x y h1 h2 h3
    have u03 := ih 0 3 (by omega) (by omega) (by omega)
    have u30 := ih 3 0 (by omega) (by omega) (by omega)
    have u12 := ih 1 2 (by omega) (by omega) (by omega)
    have u21 := ih 2 1 (by omega) (by omega) (by omega)
    have s := fun x => U_self n (crn n x)
    have hc' : c = 0 ∨ c = 1 ∨ c = 2 ∨ c = 3 := by omega
    have hd' : d = 0 ∨ d = 1 ∨ d = 2 ∨ d = 3 := by omega
    rcases hc' with rfl | rfl | rfl | rfl <;> rcases hd' with rfl | rfl | rfl | rfl <;> first | exact absurd rfl h | (simp only [s, u03, u30, u12, u21, Nat.reduceSub, Nat.reduceEqDiff, if_true, if_false, reduceIte, Nat.sub_zero, Nat.sub_self]; omega)
end Cf

namespace Cf
/-! ### the part whose middle piece covers a place -/
/-- its size -/
def Lv : Nat → Pl → Pl → Nat
  | 0, _, _ => 0
  | n + 1, out, p => if p ∈ pc (mid n out) then n + 1 else Lv n (hole n out (qn n p)) (md n p)
theorem Lv_mid {n : Nat} {out p : Pl} (h : p ∈ pc (mid n out)) : Lv (n + 1) out p = n + 1 := by
  show (if _ then _ else _) = _
  rw [if_pos h]
theorem Lv_not {n : Nat} {out p : Pl} (h : ¬ p ∈ pc (mid n out)) : Lv (n + 1) out p = Lv n (hole n out (qn n p)) (md n p) := by
  show (if _ then _ else _) = _
  rw [if_neg h]
theorem Lv_le : ∀ (n : Nat) (out p : Pl), Lv n out p ≤ n
  | 0, _, _ => Nat.le_refl _
  | n + 1, out, p => by
    by_cases h : p ∈ pc (mid n out)
    · rw [Lv_mid h]
      exact Nat.le_refl _
    · rw [Lv_not h]
      have := Lv_le n (hole n out (qn n p)) (md n p)
      omega
/-- the place left out of a quarter, by places of the whole floor -/
def loQ (n : Nat) (out : Pl) (q : Nat) : Pl := if q = qn n out then out else md4 n out q
structure AtL (n : Nat) (o p : Pl) (R : Tr) (l : Nat) : Prop where
  ex : ∃ (X Y : Nat) (lo lp : Pl), o = shP (X * 2 ^ n, Y * 2 ^ n) lo ∧ p = shP (X * 2 ^ n, Y * 2 ^ n) lp ∧ In n lo ∧ In n lp ∧ lp ≠ lo ∧ R = shT (X * 2 ^ n, Y * 2 ^ n) (S n lo lp) ∧ l = Lv n lo lp
theorem AtL.at {n : Nat} {o p : Pl} {R : Tr} {l : Nat} (h : AtL n o p R l) : At n o p R := by
  obtain ⟨X, Y, lo, lp, a, b, c, d, e, f, _⟩ := h.ex
  exact ⟨X, Y, lo, lp, a, b, c, d, e, f⟩
theorem AtL.start {n : Nat} {o p : Pl} (ho : In n o) (hp : In n p) (h : p ≠ o) : AtL n o p (S n o p) (Lv n o p) := by
  refine ⟨0, 0, o, p, ?_, ?_, ho, hp, h, ?_, rfl⟩
  · simp [shP]
  · simp [shP]
  · simp [shT]
theorem AtL.done {n : Nat} {o p : Pl} {R : Tr} {l : Nat} (h : AtL (n + 1) o p R l) (hm : p ∈ pc (midA n o)) : R = midA n o ∧ l = n + 1 := by
  obtain ⟨X, Y, lo, lp, rfl, rfl, h1, h2, h3, rfl, rfl⟩ := h.ex
  rw [midA_sh h1, mem_shA] at hm
  rw [midA_sh h1, S_mid hm, Lv_mid hm]
  exact ⟨rfl, rfl⟩
theorem AtL.turn {n : Nat} {o p : Pl} {R : Tr} {l : Nat} (h : AtL (n + 1) o p R l) (hm : ¬ p ∈ pc (midA n o)) : AtL n (loQ n o (qn n p)) p R l := by
  obtain ⟨X, Y, lo, lp, rfl, rfl, h1, h2, h3, rfl, rfl⟩ := h.ex
  rw [midA_sh h1, mem_shA] at hm
  have hq := qn_lt n lp
  refine ⟨2 * X + qn n lp % 2, 2 * Y + qn n lp / 2, hole n lo (qn n lp), md n lp, ?_, ?_, hole_in _ _ _, md_in _ _, hole_md h2 h1 h3 hm, ?_, ?_⟩
  · rw [← base_sh]
    unfold loQ
    rw [qn_shA, qn_shA]
    by_cases e : qn n lp = qn n lo
    · rw [if_pos e, hole_eq e.symm, ← shP_shP, e, ← h1.split]
    · rw [if_neg e, hole_ne (fun z => e z.symm), md4_sh hq h1]
  · rw [← base_sh, ← shP_shP, ← h2.split]
  · rw [← base_sh, ← shT_shT, S_not hm]
  · rw [Lv_not hm]
/-! ### the same by a number -/
structure AtK (n : Nat) (o : Pl) (k : Nat) (R : Tr) : Prop where
  ex : ∃ (X Y : Nat) (lo : Pl), o = shP (X * 2 ^ n, Y * 2 ^ n) lo ∧ In n lo ∧ k < cnt n ∧ X * 2 ^ n < 2 ^ 401 ∧ Y * 2 ^ n < 2 ^ 401 ∧ R = shT (X * 2 ^ n, Y * 2 ^ n) (PO n lo k)
theorem AtK.start {n : Nat} {o : Pl} {k : Nat} (ho : In n o) (hk : k < cnt n) : AtK n o k (PO n o k) := by
  refine ⟨0, 0, o, ?_, ho, hk, ?_, ?_, ?_⟩
  · simp [shP]
  · rw [Nat.zero_mul]; exact pw _
  · rw [Nat.zero_mul]; exact pw _
  · simp [shT]
theorem AtK.pos {o : Pl} {k : Nat} {R : Tr} (h : AtK 0 o k R) : False := by
  obtain ⟨X, Y, lo, _, _, hk, _⟩ := h.ex
  exact absurd hk (Nat.not_lt_zero k)
theorem AtK.done {n : Nat} {o : Pl} {R : Tr} (h : AtK (n + 1) o 0 R) : R = midA n o := by
  obtain ⟨X, Y, lo, rfl, h1, hk, _, _, rfl⟩ := h.ex
  rw [midA_sh h1, PO_zero]
theorem AtK.pos2 {n k : Nat} {o : Pl} {R : Tr} (h : AtK (n + 1) o (k + 1) R) : 0 < cnt n ∧ k / cnt n < 4 := by
  obtain ⟨X, Y, lo, rfl, h1, hk, _⟩ := h.ex
  have e : cnt (n + 1) = 1 + 4 * cnt n := rfl
  have h0 : 0 < cnt n := by omega
  exact ⟨h0, (Nat.div_lt_iff_lt_mul h0).mpr (by omega)⟩
theorem AtK.turn {n k : Nat} {o : Pl} {R : Tr} (h : AtK (n + 1) o (k + 1) R) (hn : n ≤ 400) : AtK n (loQ n o (k / cnt n)) (k % cnt n) R := by
  have hp := h.pos2
  obtain ⟨X, Y, lo, rfl, h1, hk, b1, b2, rfl⟩ := h.ex
  generalize hq : k / cnt n = q at *
  have e0 : k + 1 = 1 + q * cnt n + k % cnt n := by
    have := Nat.div_add_mod k (cnt n)
    rw [Nat.mul_comm, hq] at this
    omega
  have hj : k % cnt n < cnt n := Nat.mod_lt _ hp.1
  have lw : (X * 2 ^ (n + 1) + q % 2 * 2 ^ n) < 2 ^ 401 ∧ (Y * 2 ^ (n + 1) + q / 2 * 2 ^ n) < 2 ^ 401 := by
    have m1 : X * 2 ^ (n + 1) + 2 ^ (n + 1) ≤ 2 ^ 401 := by
      have e : 2 ^ 401 = 2 ^ (401 - (n + 1)) * 2 ^ (n + 1) := by rw [← Nat.pow_add]; congr 1; omega
      rw [e] at b1 ⊢
      have := Nat.lt_of_mul_lt_mul_right b1
      calc X * 2 ^ (n + 1) + 2 ^ (n + 1) = (X + 1) * 2 ^ (n + 1) := by rw [Nat.add_mul, Nat.one_mul]
        _ ≤ _ := Nat.mul_le_mul_right _ this
    have m2 : Y * 2 ^ (n + 1) + 2 ^ (n + 1) ≤ 2 ^ 401 := by
      have e : 2 ^ 401 = 2 ^ (401 - (n + 1)) * 2 ^ (n + 1) := by rw [← Nat.pow_add]; congr 1; omega
      rw [e] at b2 ⊢
      have := Nat.lt_of_mul_lt_mul_right b2
      calc Y * 2 ^ (n + 1) + 2 ^ (n + 1) = (Y + 1) * 2 ^ (n + 1) := by rw [Nat.add_mul, Nat.one_mul]
        _ ≤ _ := Nat.mul_le_mul_right _ this
    have l := low_lt (n := n) hp.2
    unfold low at l
    dsimp only at l
    omega
  have bs : ((2 * X + q % 2) * 2 ^ n, (2 * Y + q / 2) * 2 ^ n) = shP (X * 2 ^ (n + 1), Y * 2 ^ (n + 1)) (low n q) := base_sh.symm
  have bs1 := congrArg Prod.fst bs
  have bs2 := congrArg Prod.snd bs
  unfold shP low at bs1 bs2
  dsimp only at bs1 bs2
  refine ⟨2 * X + q % 2, 2 * Y + q / 2, hole n lo q, ?_, hole_in _ _ _, hj, by rw [bs1]; exact lw.1, by rw [bs2]; exact lw.2, ?_⟩
  · rw [← base_sh]
    unfold loQ
    rw [qn_shA]
    by_cases e : q = qn n lo
    · rw [if_pos e, hole_eq e.symm, ← shP_shP, e, ← h1.split]
    · rw [if_neg e, hole_ne (fun z => e z.symm), md4_sh hp.2 h1]
  · rw [← base_sh, ← shT_shT, e0, PO_at hj]
theorem AtK.near {n k : Nat} {o : Pl} {R : Tr} (h : AtK n o k R) (hn : n ≤ 400) : o.1 < 2 ^ 402 ∧ o.2 < 2 ^ 402 := by
  obtain ⟨X, Y, lo, rfl, h1, hk, b1, b2, rfl⟩ := h.ex
  have h2 : 2 ^ n ≤ 2 ^ 401 := Nat.pow_le_pow_right (by decide) (by omega)
  have h3 : (2 : Nat) ^ 402 = 2 * 2 ^ 401 := by rw [Nat.pow_succ]; omega
  obtain ⟨i1, i2⟩ := h1
  unfold shP
  dsimp only
  omega
/-! ### numbers by the parts around -/
def nsum (p : Pl) : Nat → Nat → Nat
  | 0, _ => 0
  | n + 1, m => if n + 1 ≤ m then 0 else 1 + qn n p * cnt n + nsum p n m
theorem nsum_le {p : Pl} {n m : Nat} (h : n ≤ m) : nsum p n m = 0 := by
  cases n with
  | zero => rfl
  | succ n => exact if_pos h
theorem nsum_gt {p : Pl} {n m : Nat} (h : m ≤ n) : nsum p (n + 1) m = 1 + qn n p * cnt n + nsum p n m := if_neg (by omega)
theorem qn_md {j n : Nat} (h : j < n) (p : Pl) : qn j (md n p) = qn j p := by
  unfold qn md
  dsimp only
  have e : ∀ x : Nat, x % 2 ^ n / 2 ^ j % 2 = x / 2 ^ j % 2 := fun x => by
    have e1 : 2 ^ n = 2 ^ j * (2 * 2 ^ (n - j - 1)) := by
      rw [← Nat.pow_succ', ← Nat.pow_add]
      congr 1
      omega
    rw [e1, Nat.mod_mul_right_div_self, Nat.mod_mul_right_mod]
  rw [e, e]
theorem nsum_congr {p p' : Pl} {m : Nat} : ∀ n, (∀ j, j < n → qn j p = qn j p') → nsum p n m = nsum p' n m
  | 0, _ => rfl
  | n + 1, h => by
    show (if _ then _ else _) = (if _ then _ else _)
    rw [h n (by omega), nsum_congr n fun j hj => h j (by omega)]
theorem N_nsum : ∀ (n : Nat) (out p : Pl), N n out p = nsum p n (Lv n out p)
  | 0, _, _ => rfl
  | n + 1, out, p => by
    by_cases h : p ∈ pc (mid n out)
    · rw [N_mid h, Lv_mid h, nsum_le (Nat.le_refl _)]
    · rw [N_not h, Lv_not h, nsum_gt (Lv_le _ _ _), N_nsum n]
      rw [nsum_congr (p := md n p) (p' := p) n fun j hj => qn_md hj p]
/-! ### two places left out -/
/-- the size of the least part that both are in -/
def Sh : Nat → Pl → Pl → Nat
  | 0, _, _ => 0
  | n + 1, a, b => if qn n a = qn n b then Sh n (md n a) (md n b) else n + 1
theorem Sh_le : ∀ (n : Nat) (a b : Pl), Sh n a b ≤ n
  | 0, _, _ => Nat.le_refl _
  | n + 1, a, b => by
    show (if _ then _ else _) ≤ _
    split
    · have := Sh_le n (md n a) (md n b)
      omega
    · exact Nat.le_refl _
theorem FN_nsum : ∀ (n : Nat) (a b : Pl), FN n a b = nsum a n (Sh n a b)
  | 0, _, _ => rfl
  | n + 1, a, b => by
    by_cases h : qn n a = qn n b
    · have e1 : FN (n + 1) a b = 1 + qn n a * cnt n + FN n (md n a) (md n b) := if_pos h
      have e2 : Sh (n + 1) a b = Sh n (md n a) (md n b) := if_pos h
      rw [e1, e2, nsum_gt (Sh_le _ _ _), FN_nsum n]
      rw [nsum_congr (p := md n a) (p' := a) n fun j hj => qn_md hj a]
    · have e1 : FN (n + 1) a b = 0 := if_neg h
      have e2 : Sh (n + 1) a b = n + 1 := if_neg h
      rw [e1, e2, nsum_le (Nat.le_refl _)]
/-- between a place and a corner, from part to part -/
def UC (p : Pl) : Nat → Nat → Nat
  | 0, _ => 0
  | n + 1, c => if qn n p = c then UC p n c else 2 ^ n + UC p n (3 - qn n p)
theorem UC_congr {p p' : Pl} : ∀ (n c : Nat), (∀ j, j < n → qn j p = qn j p') → UC p n c = UC p' n c
  | 0, _, _ => rfl
  | n + 1, c, h => by
    show (if _ then _ else _) = (if _ then _ else _)
    rw [h n (by omega), UC_congr n c fun j hj => h j (by omega), UC_congr n (3 - qn n p') fun j hj => h j (by omega)]
theorem four {n q : Nat} (f : Nat → Nat) (hq : q < 4) (h : ∀ i, i < 4 → i ≠ q → f i = 0) : f 0 + f 1 + f 2 + f 3 = f q := by
  have hq' : q = 0 ∨ q = 1 ∨ q = 2 ∨ q = 3 := by omega
  rcases hq' with rfl | rfl | rfl | rfl
  · rw [h 1 (by omega) (by omega), h 2 (by omega) (by omega), h 3 (by omega) (by omega)]; omega
  · rw [h 0 (by omega) (by omega), h 2 (by omega) (by omega), h 3 (by omega) (by omega)]; omega
  · rw [h 0 (by omega) (by omega), h 1 (by omega) (by omega), h 3 (by omega) (by omega)]; omega
  · rw [h 0 (by omega) (by omega), h 1 (by omega) (by omega), h 2 (by omega) (by omega)]; omega
theorem four2 {q r : Nat} (f : Nat → Nat) (hq : q < 4) (hr : r < 4) (hne : q ≠ r) (h : ∀ i, i < 4 → i ≠ q → i ≠ r → f i = 0) : f 0 + f 1 + f 2 + f 3 = f q + f r := by
  have hq' : q = 0 ∨ q = 1 ∨ q = 2 ∨ q = 3 := by omega
  have hr' : r = 0 ∨ r = 1 ∨ r = 2 ∨ r = 3 := by omega
  have g := fun i h1 h2 h3 => h i h1 h2 h3
  rcases hq' with rfl | rfl | rfl | rfl <;> rcases hr' with rfl | rfl | rfl | rfl <;>
    first
    | exact absurd rfl hne
    | (have g0 := g 0 (by omega); have g1 := g 1 (by omega); have g2 := g 2 (by omega); have g3 := g 3 (by omega)
       simp at g0 g1 g2 g3
       omega)
theorem U_same {n : Nat} {a b : Pl} (h : qn n a = qn n b) : U (n + 1) a b = U n (md n a) (md n b) := by
  show (if _ then _ else _) + _ = _
  rw [if_pos h, Nat.zero_add]
  have hq := qn_lt n a
  rw [four (n := n) (q := qn n a) (fun i => U n (hole n a i) (hole n b i)) hq fun i hi hne => ?_]
  · show U n (hole n a (qn n a)) (hole n b (qn n a)) = _
    rw [hole_eq rfl, hole_eq h.symm]
  · show U n (hole n a i) (hole n b i) = 0
    rw [hole_ne (fun z => hne z.symm), hole_ne (fun z => hne (by rw [← z, h])), U_self]
theorem U_diff {n : Nat} {a b : Pl} (h : qn n a ≠ qn n b) : U (n + 1) a b = 1 + (U n (md n a) (crn n (3 - qn n a)) + U n (crn n (3 - qn n b)) (md n b)) := by
  show (if _ then _ else _) + _ = _
  rw [if_neg h]
  have hq := qn_lt n a
  have hr := qn_lt n b
  rw [four2 (q := qn n a) (r := qn n b) (fun i => U n (hole n a i) (hole n b i)) hq hr h fun i hi h1 h2 => ?_]
  · show 1 + (U n (hole n a (qn n a)) (hole n b (qn n a)) + U n (hole n a (qn n b)) (hole n b (qn n b))) = _
    rw [hole_eq rfl, hole_ne (fun z => h z.symm), hole_eq rfl, hole_ne h, cor_crn n _ hq, cor_crn n _ hr]
  · show U n (hole n a i) (hole n b i) = 0
    rw [hole_ne (fun z => h1 z.symm), hole_ne (fun z => h2 z.symm), U_self]
theorem md_md {m n : Nat} (h : m ≤ n) (p : Pl) : md m (md n p) = md m p := by
  unfold md
  dsimp only
  have e : ∀ x : Nat, x % 2 ^ n % 2 ^ m = x % 2 ^ m := fun x => Nat.mod_mod_of_dvd _ (Nat.pow_dvd_pow 2 h)
  rw [e, e]
theorem md_id {n : Nat} {p : Pl} (h : In n p) : md n p = p := by
  unfold md
  rw [Nat.mod_eq_of_lt h.1, Nat.mod_eq_of_lt h.2]
theorem UC_U : ∀ (n : Nat) (p : Pl) (c : Nat), c < 4 → UC p n c = U n (md n p) (crn n c)
  | 0, _, _, _ => rfl
  | n + 1, p, c, hc => by
    have hq : qn n (md (n + 1) p) = qn n p := qn_md (by omega) p
    have hm : md n (md (n + 1) p) = md n p := md_md (by omega) p
    have hmc : md n (crn (n + 1) c) = crn n c := by rw [crn_sh n c hc, md_sh hc (crn_in n c hc)]
    have h4 := qn_lt n p
    by_cases e : qn n p = c
    · have e1 : UC p (n + 1) c = UC p n c := if_pos e
      rw [e1, U_same (by rw [hq, qn_crn n c hc]; exact e), hm, hmc, UC_U n p c hc]
    · have e1 : UC p (n + 1) c = 2 ^ n + UC p n (3 - qn n p) := if_neg e
      rw [e1, U_diff (by rw [hq, qn_crn n c hc]; exact e), hm, hmc, hq, qn_crn n c hc, UC_U n p _ (by omega), U_crn n (3 - c) c (by omega) hc (by omega)]
      have := pw n
      omega
theorem U_Sh : ∀ (n : Nat) (a b : Pl), U n a b = if Sh n a b = 0 then 0 else 1 + (UC a (Sh n a b - 1) (3 - qn (Sh n a b - 1) a) + UC b (Sh n a b - 1) (3 - qn (Sh n a b - 1) b))
  | 0, _, _ => rfl
  | n + 1, a, b => by
    by_cases h : qn n a = qn n b
    · have e2 : Sh (n + 1) a b = Sh n (md n a) (md n b) := if_pos h
      rw [e2, U_same h, U_Sh n]
      have hs := Sh_le n (md n a) (md n b)
      generalize Sh n (md n a) (md n b) = s at *
      by_cases hz : s = 0
      · rw [if_pos hz, if_pos hz]
      · rw [if_neg hz, if_neg hz, qn_md (by omega), qn_md (by omega), UC_congr _ _ fun j hj => qn_md (show j < n by omega) a, UC_congr _ _ fun j hj => qn_md (show j < n by omega) b]
    · have e2 : Sh (n + 1) a b = n + 1 := if_neg h
      rw [e2, if_neg (by omega), U_diff h, Nat.add_sub_cancel, UC_U n a _ (by omega), UC_U n b _ (by omega), U_comm n (crn n (3 - qn n b))]
theorem Sh_zero : ∀ (n : Nat) (a b : Pl), In n a → In n b → (Sh n a b = 0 ↔ a = b)
  | 0, a, b, ha, hb => by
    refine ⟨fun _ => U_zero 0 a b ha hb rfl, fun _ => rfl⟩
  | n + 1, a, b, ha, hb => by
    by_cases h : qn n a = qn n b
    · have e2 : Sh (n + 1) a b = Sh n (md n a) (md n b) := if_pos h
      rw [e2, Sh_zero n _ _ (md_in n a) (md_in n b)]
      refine ⟨fun e => by rw [ha.split, hb.split, e, h], fun e => by rw [e]⟩
    · have e2 : Sh (n + 1) a b = n + 1 := if_neg h
      rw [e2]
      refine ⟨fun e => by omega, fun e => absurd (by rw [e]) h⟩
/-- by their upper parts -/
theorem Sh_div : ∀ (n : Nat) (a b : Pl), In n a → In n b → ∀ m, (a.1 / 2 ^ m = b.1 / 2 ^ m ∧ a.2 / 2 ^ m = b.2 / 2 ^ m) ↔ Sh n a b ≤ m
  | 0, a, b, ha, hb, m => by
    have e := (Sh_zero 0 a b ha hb).mp rfl
    subst e
    exact ⟨fun _ => Nat.zero_le _, fun _ => ⟨rfl, rfl⟩⟩
  | n + 1, a, b, ha, hb, m => by
    have hp := pw n
    by_cases h : qn n a = qn n b
    · have e2 : Sh (n + 1) a b = Sh n (md n a) (md n b) := if_pos h
      rw [e2, ← Sh_div n _ _ (md_in n a) (md_in n b) m]
      have sp : ∀ x y : Nat, x < 2 ^ (n + 1) → y < 2 ^ (n + 1) → x / 2 ^ n % 2 = y / 2 ^ n % 2 → (x / 2 ^ m = y / 2 ^ m ↔ x % 2 ^ n / 2 ^ m = y % 2 ^ n / 2 ^ m) := fun x y hx hy hq => by
        rw [pw1] at hx hy
        have sx := split1 hp hx
        have sy := split1 hp hy
        rw [hq] at sx
        generalize y / 2 ^ n % 2 = z at *
        by_cases hm : m ≤ n
        · have e : 2 ^ n = 2 ^ m * 2 ^ (n - m) := by rw [← Nat.pow_add]; congr 1; omega
          have d : ∀ w, (z * 2 ^ n + w) / 2 ^ m = z * 2 ^ (n - m) + w / 2 ^ m := fun w => by
            rw [e, Nat.mul_left_comm, Nat.mul_add_div (pw m)]
          rw [sx, sy, d, d]
          have r : ∀ w, (z * 2 ^ n + w % 2 ^ n) % 2 ^ n = w % 2 ^ n := fun w => by
            rw [Nat.add_comm, Nat.add_mul_mod_self_right, Nat.mod_mod]
          rw [r, r]
          omega
        · have hm2 : 2 ^ n < 2 ^ m := Nat.pow_lt_pow_right (by decide) (by omega)
          have hm3 : 2 ^ (n + 1) ≤ 2 ^ m := Nat.pow_le_pow_right (by decide) (by omega)
          rw [pw1] at hm3
          rw [Nat.div_eq_of_lt (show x < 2 ^ m by omega), Nat.div_eq_of_lt (show y < 2 ^ m by omega), Nat.div_eq_of_lt (Nat.lt_trans (Nat.mod_lt x hp) hm2), Nat.div_eq_of_lt (Nat.lt_trans (Nat.mod_lt y hp) hm2)]
      unfold qn at h
      have s1 := sp a.1 b.1 ha.1 hb.1 (by omega)
      have s2 := sp a.2 b.2 ha.2 hb.2 (by omega)
      unfold md
      dsimp only
      rw [s1, s2]
    · have e2 : Sh (n + 1) a b = n + 1 := if_neg h
      rw [e2]
      constructor
      · intro ⟨h1, h2⟩
        by_cases hm : m ≤ n
        · exfalso
          apply h
          have e : 2 ^ n = 2 ^ m * 2 ^ (n - m) := by rw [← Nat.pow_add]; congr 1; omega
          unfold qn
          rw [e, ← Nat.div_div_eq_div_mul, ← Nat.div_div_eq_div_mul, ← Nat.div_div_eq_div_mul, ← Nat.div_div_eq_div_mul, h1, h2]
        · omega
      · intro hm
        have hm3 : 2 ^ (n + 1) ≤ 2 ^ m := Nat.pow_le_pow_right (by decide) hm
        have z : ∀ x, x < 2 ^ (n + 1) → x / 2 ^ m = 0 := fun x hx => Nat.div_eq_of_lt (by omega)
        rw [z _ ha.1, z _ hb.1, z _ ha.2, z _ hb.2]
        exact ⟨rfl, rfl⟩
/-! ### ways from part to part -/
theorem W_step {n : Nat} {out : Pl} {w : Nat} : W (n + 1) out w = (if w = qn n out then 1 else 0) + (W n (md n out) w + ((if 0 = qn n out then 0 else W n (crn n 3) w) + (if 1 = qn n out then 0 else W n (crn n 2) w) + (if 2 = qn n out then 0 else W n (crn n 1) w) + (if 3 = qn n out then 0 else W n (crn n 0) w))) := by
  have h : ∀ q, q < 4 → W n (hole n out q) w = if q = qn n out then W n (md n out) w else W n (crn n (3 - q)) w := fun q hq => by
    by_cases e : q = qn n out
    · rw [if_pos e, hole_eq e.symm]
    · rw [if_neg e, hole_ne (fun z => e z.symm), cor_crn n q hq]
  show (if w = qn n out then 1 else 0) + (W n (hole n out 0) w + W n (hole n out 1) w + W n (hole n out 2) w + W n (hole n out 3) w) = _
  rw [h 0 (by omega), h 1 (by omega), h 2 (by omega), h 3 (by omega)]
  have hq := qn_lt n out
  generalize qn n out = q at *
  have hq' : q = 0 ∨ q = 1 ∨ q = 2 ∨ q = 3 := by omega
  rcases hq' with rfl | rfl | rfl | rfl <;> simp <;> omega
theorem cnt_mono {m n : Nat} (h : m ≤ n) : cnt m ≤ cnt n := by
  have h1 := cnt_pow m
  have h2 := cnt_pow n
  have h3 : 4 ^ m ≤ 4 ^ n := Nat.pow_le_pow_right (by decide) h
  omega
end Cf

set_option Elab.async false
set_option maxRecDepth 100000
set_option maxHeartbeats 4000000
namespace Cf
open PySem PySem.Spec PyProof.Rows L2
/-! ### a def of the text, a def that keeps its promise -/
structure Def (K : PySem.W.Frag) (mg : Str → Option Value) (x : Str) (st : Stmt) (ps : List Str) : Prop where
  ex : ∃ f fd, Fun K x x st f fd ∧ mg x = some (.ref f) ∧ Binds K fd ps []
structure Cal (P : Program) (w : World) (K : PySem.W.Frag) (mg : Str → Option Value) (base : Heap) (x : Str) (ps : List Str) (sp : Sp) (k : Nat) : Prop where
  ex : ∃ f fd, FnOk P w K mg base CX0 k f fd ps sp ∧ mg x = some (.ref f) ∧ PySem.W.keepIn K (.ref f) = true ∧ Binds K fd ps [] ∧ ∃ oc od osl, K.lookup f = some ⟨oc, od, .func fd, osl⟩
section
variable {P : Program} {w : World} {K : PySem.W.Frag} {mg : Str → Option Value} {base : Heap} {x : Str} {st : Stmt} {ps N : List Str} {sp : Sp} {j k : Nat}
theorem Cal.mono (C : Cal P w K mg base x ps sp j) (h : j ≤ k) : Cal P w K mg base x ps sp k := by
  obtain ⟨f, fd, G, m, kp, b⟩ := C.ex
  exact ⟨f, fd, G.mono h, m, kp, b⟩
theorem Cal.fn (C : Cal P w K mg base x ps sp k) {fa : Addr} {fd : FuncData} {oc : Value} {od : Option Addr} {osl : Array (Option Value)} (hfa : mg x = some (.ref fa)) (lk : K.lookup fa = some ⟨oc, od, .func fd, osl⟩) : FnOk P w K mg base CX0 k fa fd ps sp := by
  obtain ⟨f, fd', G, m, _, _, oc', od', osl', lk'⟩ := C.ex
  have e : f = fa := Value.ref.inj (Option.some.inj (m.symm.trans hfa))
  subst e
  rw [lk'] at lk
  cases lk
  exact G
theorem Def.cal (D : Def K mg x st ps) (S : FnScope N ps (defScope st)) (len : ∀ vs H Q E, sp vs H Q E → vs.length = ps.length)
    (hbody : ∀ (f : Addr) (cdv : Value) (A : Around) (outer : List Env) (s : Shared) (H : Hp) (vs : List V) (Q : VK) (E : XK), Room k (A.deeper (envOfC x (defScope st) s.heap.objs.size f cdv)) → sp vs H Q E →
      ∃ t, PSs (cxOf CX0 P w K mg base N x (defScope st) f cdv A outer s H E).nox (defBody st) t ∧ t { nx := fun _ H' => Q .non H', rt := Q } (start N vs) H) : Cal P w K mg base x ps sp (k + 1) := by
  obtain ⟨f, fd, F, m, b⟩ := D.ex
  exact ⟨f, fd, F.ok S len fun cdv A outer s H vs Q E hr h => hbody f cdv A outer s H vs Q E hr h, m, F.kp, b, by obtain ⟨oc, od, _, _, _, _, _, _, osl, _, lk, _⟩ := F.ex; exact ⟨oc, od, osl, lk⟩⟩
end
/-- a word of a loop or a cut: kept shut -/
theorem word {α : Sort u} (x : α) : ∃ y, y = x := ⟨x, rfl⟩
theorem hu65 {A : Around} {k : Nat} (hr : Room k A) : A.units + 65 < cLine := by have := hr.un; omega
/-! ### isinstance -/
theorem isi_yes {K : PySem.W.Frag} {H : Hp} {x : V} {n m : String} {Q : VK} (ty : TyX K H x (.type m)) (h : kitB m n = some true) (q : Q (.bl true) H) : rIsi K [x, .ty n] H Q := ⟨x, _, _, _, _, rfl, .ty n, ty, kit_ty h, q⟩
theorem isi_no {K : PySem.W.Frag} {H : Hp} {x : V} {n m : String} {Q : VK} (ty : TyX K H x (.type m)) (h : kitB m n = some false) (q : Q (.bl false) H) : rIsi K [x, .ty n] H Q := ⟨x, _, _, _, _, rfl, .ty n, ty, kit_ty h, q⟩
/-! ### places in the heap -/
def PlT (H : Hp) (v : V) (p : Pl) : Prop := ∃ t, v = .ref t ∧ H t = some (.tup [.int (p.1 : Int), .int (p.2 : Int)])
theorem PlT.same {H H' : Hp} {v : V} {p : Pl} (e : Same H H') (h : PlT H v p) : PlT H' v p := by
  obtain ⟨t, r, h⟩ := h
  exact ⟨t, r, e _ _ h⟩
theorem same_new {H : Hp} {p : Addr} {o : HO} (h : H p = none) : Same H (upd H p o) := fun b x e => by
  rw [upd_ne (ne_of_none e h)]
  exact e

theorem Same.upd {H H' : Hp} {p : Addr} {o : HO} (e : Same H H') (h : H' p = none) : Same H (upd H' p o) := e.trans (same_new h)
/-- a thing that H does not know may change -/
theorem Same.mut {H H' : Hp} {p : Addr} {o : HO} (e : Same H H') (h : H p = none) : Same H (L2.upd H' p o) := fun b x q => by
  rw [upd_ne (ne_of_none q h)]
  exact e _ _ q
theorem upd_old {H : Hp} {p a : Addr} {o o' : HO} (h : H p = none) (e : H a = some o) : L2.upd H p o' a = some o := by
  rw [upd_ne (ne_of_none e h)]
  exact e
theorem PlT.sq {K : PySem.W.Frag} {H : Hp} {v : V} {p : Pl} (h : PlT H v p) : ∃ t, v = .ref t ∧ SqT K H t [.int (p.1 : Int), .int (p.2 : Int)] := by
  obtain ⟨t, r, h⟩ := h
  exact ⟨t, r, .of h⟩
abbrev PlsT (H : Hp) (xs : List V) (ps : List Pl) : Prop := Paired (PlT H) xs ps
theorem PlsT.same {H H' : Hp} (e : Same H H') : ∀ {xs : List V} {ps : List Pl}, PlsT H xs ps → PlsT H' xs ps
  | _, _, .nil => .nil
  | _, _, .cons a r => .cons (a.same e) (PlsT.same e r)
theorem PlsT.get {H : Hp} : ∀ {xs : List V} {ps : List Pl} {i : Nat} {p : Pl}, PlsT H xs ps → ps[i]? = some p → ∃ x, xs[i]? = some x ∧ PlT H x p
  | _, _, _, _, .nil, e => by simp at e
  | _, _, 0, _, .cons r _, e => by simp at e; subst e; exact ⟨_, rfl, r⟩
  | _, _, i + 1, p, .cons _ t, e => by
    obtain ⟨x, h1, h2⟩ := PlsT.get (i := i) (p := p) t (by simpa using e)
    exact ⟨x, by simpa using h1, h2⟩
theorem PlsT.get' {H : Hp} : ∀ {xs : List V} {ps : List Pl} {i : Nat} {x : V}, PlsT H xs ps → xs[i]? = some x → ∃ p, ps[i]? = some p ∧ PlT H x p
  | _, _, _, _, .nil, e => by simp at e
  | _, _, 0, _, .cons r _, e => by simp at e; subst e; exact ⟨_, rfl, r⟩
  | _, _, i + 1, p, .cons _ t, e => by
    obtain ⟨x, h1, h2⟩ := PlsT.get' (i := i) (x := p) t (by simpa using e)
    exact ⟨x, by simpa using h1, h2⟩
theorem PlsT.len {H : Hp} {xs : List V} {ps : List Pl} (h : PlsT H xs ps) : xs.length = ps.length := Paired.length h
/-! ### as data: ==, in -/
def plD (p : Pl) : PyData := .tuple [.int (p.1 : Int), .int (p.2 : Int)]
def plsD (ps : List Pl) : PyData := .list (ps.map plD)
theorem PlT.dp {K : PySem.W.Frag} {H : Hp} {v : V} {p : Pl} (h : PlT H v p) : Dp K H v (plD p) := by
  obtain ⟨t, rfl, h⟩ := h
  exact .tup (.of h) (.cons (.int _) (.cons (.int _) .nil))
theorem PlsT.dp {K : PySem.W.Frag} {H : Hp} : ∀ {xs : List V} {ps : List Pl}, PlsT H xs ps → DpAll K H xs (ps.map plD)
  | _, _, .nil => .nil
  | _, _, .cons a r => .cons a.dp (PlsT.dp r)
theorem PlsT.dpl {K : PySem.W.Frag} {H : Hp} {a : Addr} {xs : List V} {ps : List Pl} (h : PlsT H xs ps) (ha : SqL K H a xs) : Dp K H (.ref a) (plsD ps) := .lst ha h.dp
theorem plD_eqv (p q : Pl) : PyData.eqv (plD p) (plD q) = decide (p = q) := by
  obtain ⟨a, b⟩ := p
  obtain ⟨a', b'⟩ := q
  have e : PyData.eqv (plD (a, b)) (plD (a', b')) = (((a : Int) == (a' : Int)) && ((((b : Int) == (b' : Int)) && true))) := by simp only [plD, PyData.eqv, PyData.eqvAll]
  rw [e, Bool.and_true, Bool.eq_iff_iff, Bool.and_eq_true, beq_iff_eq, beq_iff_eq, decide_eq_true_eq, Prod.mk.injEq]
  omega
theorem plsD_eqvAll : ∀ (ps qs : List Pl), PyData.eqvAll (ps.map plD) (qs.map plD) = decide (ps = qs)
  | [], [] => by simp [PyData.eqvAll]
  | [], _ :: _ => by simp [PyData.eqvAll]
  | _ :: _, [] => by simp [PyData.eqvAll]
  | p :: ps, q :: qs => by
    rw [List.map_cons, List.map_cons]
    unfold PyData.eqvAll
    rw [plD_eqv, plsD_eqvAll ps qs, Bool.eq_iff_iff, Bool.and_eq_true, decide_eq_true_eq, decide_eq_true_eq, decide_eq_true_eq, List.cons.injEq]
theorem plsD_eqv (ps qs : List Pl) : PyData.eqv (plsD ps) (plsD qs) = decide (ps = qs) := by
  unfold plsD PyData.eqv
  exact plsD_eqvAll ps qs
theorem plD_lay (p : Pl) : (plD p).canLay0 = true := by simp [plD, PyData.canLay0, PyData.canLayAll0]
theorem plD_depth (p : Pl) : (plD p).depth = 1 := by simp [plD, PyData.depth, PyData.depthAll]
theorem plsD_lay : ∀ ps : List Pl, PyData.canLayAll0 (ps.map plD) = true
  | [] => by simp [PyData.canLayAll0]
  | p :: ps => by simp [PyData.canLayAll0, plD_lay p, plsD_lay ps]
theorem plsD_depth : ∀ ps : List Pl, PyData.depthAll (ps.map plD) ≤ 1
  | [] => by simp [PyData.depthAll]
  | p :: ps => by
    have h1 := plsD_depth ps
    have h2 := plD_depth p
    simp only [List.map_cons, PyData.depthAll]
    omega
theorem plD_shaped (p : Pl) : SeqAt.shaped (plD p) = true := by
  have h := plD_depth p
  show ((plD p).canLay0 && decide ((plD p).depth ≤ 64)) = true
  rw [Bool.and_eq_true]
  exact ⟨plD_lay p, decide_eq_true (by omega)⟩
theorem plsD_shaped (ps : List Pl) : SeqAt.shaped (plsD ps) = true := by
  have h1 := plsD_depth ps
  have h2 : PyData.depth (plsD ps) ≤ 64 := by
    unfold plsD
    simp only [PyData.depth]
    omega
  show (PyData.canLay0 (plsD ps) && decide (PyData.depth (plsD ps) ≤ 64)) = true
  rw [Bool.and_eq_true]
  refine ⟨?_, decide_eq_true h2⟩
  unfold plsD
  simp only [PyData.canLay0]
  exact plsD_lay ps
theorem plsD_any (ps : List Pl) (p : Pl) : ((ps.map plD).any fun z => PyData.eqv z (plD p)) = decide (p ∈ ps) := by
  induction ps with
  | nil => simp
  | cons q r ih =>
    rw [List.map_cons, List.any_cons, ih, plD_eqv, Bool.eq_iff_iff, Bool.or_eq_true, decide_eq_true_eq, decide_eq_true_eq, decide_eq_true_eq, List.mem_cons]
    constructor
    · rintro (e | e)
      · exact .inl e.symm
      · exact .inr e
    · rintro (e | e)
      · exact .inl e.symm
      · exact .inr e
/-- the readings of ==, !=, in, not in -/
theorem eq_pl {K : PySem.W.Frag} {H : Hp} {x y : V} {p q : Pl} {Q : VK} (hx : PlT H x p) (hy : PlT H y q) (h : Q (.bl (decide (p = q))) H) : rEqD K x y H Q := ⟨_, _, hx.dp, hy.dp, plD_shaped p, plD_shaped q, by rw [plD_eqv]; exact h⟩
theorem ne_pl {K : PySem.W.Frag} {H : Hp} {x y : V} {p q : Pl} {Q : VK} (hx : PlT H x p) (hy : PlT H y q) (h : Q (.bl (!decide (p = q))) H) : rNeD K x y H Q := ⟨_, _, hx.dp, hy.dp, plD_shaped p, plD_shaped q, by rw [plD_eqv]; exact h⟩
theorem eq_pls {K : PySem.W.Frag} {H : Hp} {a b : Addr} {xs ys : List V} {ps qs : List Pl} {Q : VK} (ha : SqL K H a xs) (hx : PlsT H xs ps) (hb : SqL K H b ys) (hy : PlsT H ys qs) (h : Q (.bl (decide (ps = qs))) H) : rEqD K (.ref a) (.ref b) H Q := ⟨_, _, hx.dpl ha, hy.dpl hb, plsD_shaped ps, plsD_shaped qs, by rw [plsD_eqv]; exact h⟩
theorem ne_pls {K : PySem.W.Frag} {H : Hp} {a b : Addr} {xs ys : List V} {ps qs : List Pl} {Q : VK} (ha : SqL K H a xs) (hx : PlsT H xs ps) (hb : SqL K H b ys) (hy : PlsT H ys qs) (h : Q (.bl (!decide (ps = qs))) H) : rNeD K (.ref a) (.ref b) H Q := ⟨_, _, hx.dpl ha, hy.dpl hb, plsD_shaped ps, plsD_shaped qs, by rw [plsD_eqv]; exact h⟩
theorem in_pls {K : PySem.W.Frag} {H : Hp} {a : Addr} {x : V} {xs : List V} {p : Pl} {ps : List Pl} {Q : VK} (hx : PlT H x p) (ha : SqL K H a xs) (h : PlsT H xs ps) (q : Q (.bl (decide (p ∈ ps))) H) : rInD K x (.ref a) H Q := ⟨_, ps.map plD, hx.dp, h.dpl ha, plD_shaped p, plsD_shaped ps, by rw [plsD_any]; exact q⟩
theorem notIn_pls {K : PySem.W.Frag} {H : Hp} {a : Addr} {x : V} {xs : List V} {p : Pl} {ps : List Pl} {Q : VK} (hx : PlT H x p) (ha : SqL K H a xs) (h : PlsT H xs ps) (q : Q (.bl (!decide (p ∈ ps))) H) : rNotInD K x (.ref a) H Q := ⟨_, ps.map plD, hx.dp, h.dpl ha, plD_shaped p, plsD_shaped ps, by rw [plsD_any]; exact q⟩
/-! ### sorted -/
def lel (p q : Pl) : Prop := p.1 < q.1 ∨ (p.1 = q.1 ∧ p.2 ≤ q.2)
theorem lel_anti {p q : Pl} (h : lel p q) (h' : lel q p) : p = q := by
  obtain ⟨a, b⟩ := p
  obtain ⟨a', b'⟩ := q
  unfold lel at h h'
  dsimp only at h h'
  rw [Prod.mk.injEq]
  omega
theorem perm_sorted_eq {α : Type} {r : α → α → Prop} (anti : ∀ a b, r a b → r b a → a = b) : ∀ {l m : List α}, l.Pairwise r → m.Pairwise r → l.Perm m → l = m
  | [], m, _, _, h => (List.Perm.eq_nil h.symm).symm
  | x :: l, [], _, _, h => absurd h.length_eq (by simp)
  | x :: l, y :: m, hl, hm, h => by
    obtain ⟨hx, hl'⟩ := List.pairwise_cons.mp hl
    obtain ⟨hy, hm'⟩ := List.pairwise_cons.mp hm
    have e : x = y := by
      rcases List.mem_cons.mp (h.mem_iff.mp (List.mem_cons_self (a := x) (l := l))) with e | mx
      · exact e
      · rcases List.mem_cons.mp (h.mem_iff.mpr (List.mem_cons_self (a := y) (l := m))) with e | my
        · exact e.symm
        · exact anti x y (hx y my) (hy x mx)
    subst e
    rw [perm_sorted_eq anti hl' hm' ((List.perm_cons x).mp h)]
def kOf (H : Hp) : V → Int × Int
  | .ref t => match H t with
    | some (.tup [.int a, .int b]) => (a, b)
    | _ => (0, 0)
  | _ => (0, 0)
theorem PlT.k {H : Hp} {v : V} {p : Pl} (h : PlT H v p) : kOf H v = ((p.1 : Int), (p.2 : Int)) := by
  obtain ⟨t, rfl, h⟩ := h
  unfold kOf
  dsimp only
  rw [h]
def plOf (H : Hp) (v : V) : Pl := ((kOf H v).1.toNat, (kOf H v).2.toNat)
theorem PlT.pl {H : Hp} {v : V} {p : Pl} (h : PlT H v p) : plOf H v = p := by
  unfold plOf
  rw [h.k]
  rfl
theorem PlsT.map {H : Hp} : ∀ {xs : List V} {ps : List Pl}, PlsT H xs ps → xs.map (plOf H) = ps
  | _, _, .nil => rfl
  | _, _, .cons a r => by rw [List.map_cons, a.pl, PlsT.map r]
theorem PlsT.mem {H : Hp} : ∀ {xs : List V} {ps : List Pl} {x : V}, PlsT H xs ps → x ∈ xs → PlT H x (plOf H x)
  | _, _, _, .nil, h => by cases h
  | _, _, x, .cons a r, h => by
    rcases List.mem_cons.mp h with rfl | h
    · rw [a.pl]
      exact a
    · exact PlsT.mem r h
theorem PlsT.of_all {H : Hp} : ∀ {xs : List V}, (∀ x ∈ xs, PlT H x (plOf H x)) → PlsT H xs (xs.map (plOf H))
  | [], _ => .nil
  | x :: xs, h => .cons (h x List.mem_cons_self) (PlsT.of_all fun y hy => h y (List.mem_cons_of_mem _ hy))
theorem sorted_pl {K : PySem.W.Frag} {H : Hp} {a : Addr} {xs : List V} {ps qs : List Pl} {Q : VK} (ha : SqL K H a xs) (hp : PlsT H xs ps) (perm : qs.Perm ps) (srt : qs.Pairwise lel)
    (q : ∀ l ys, H l = none → PlsT H ys qs → Q (.ref l) (L2.upd H l (.lst ys))) : rSortedPO K [.ref a] H Q := by
  refine ⟨a, xs, kOf H, rfl, ha, fun x hx => ?_, fun ys p h1 h2 hn => q p ys hn ?_⟩
  · obtain ⟨t, e, ht⟩ := hp.mem hx
    have hk := (hp.mem hx).k
    refine ⟨t, e, ?_⟩
    rw [ht, hk]
  · have al : ∀ x ∈ ys, PlT H x (plOf H x) := fun x hx => hp.mem (h2.perm.mem_iff.mp hx)
    have r := PlsT.of_all al
    have e : ys.map (plOf H) = qs := by
      refine perm_sorted_eq (r := lel) (fun _ _ => lel_anti) ?_ srt ?_
      · refine List.pairwise_map.mpr (List.Pairwise.imp_of_mem (fun {x y} hx hy hlt => ?_) h1)
        have kx := (al x hx).k
        have ky := (al y hy).k
        have hlt' := SrtO.lexB_no.mp hlt
        rw [kx, ky] at hlt'
        unfold lel
        dsimp only at hlt'
        omega
      · have h3 := h2.perm.map (plOf H)
        rw [hp.map] at h3
        exact h3.trans perm.symm
    rw [e] at r
    exact r
theorem sz1 : 1 ≤ sizeLine := by decide
theorem sz2 : 2 ≤ sizeLine := by decide
theorem sz3 : 3 ≤ sizeLine := by decide
theorem sz4 : 4 ≤ sizeLine := by decide
theorem sz0 : 0 ≤ sizeLine := by decide
section
variable {CX : CXT} {P : Program} {w : World} {K : PySem.W.Frag} {mg : Str → Option Value} {base : Heap} {N : List Str} {q : Str} {sc : Scope} {f : Addr} {cd : Value} {A : Around} {outer : List Env} {s : Shared} {H : Hp} {E : XK}
theorem cx_K : (cxOf CX P w K mg base N q sc f cd A outer s H E).K = K := rfl
theorem cx_P : (cxOf CX P w K mg base N q sc f cd A outer s H E).prog = P := rfl
theorem cx_w : (cxOf CX P w K mg base N q sc f cd A outer s H E).w = w := rfl
end

theorem shl1 {n : Nat} (h : n ≤ 100000) : CShl 1 (n : Int) := shl_ok (n := 1) (by decide) (by omega)
theorem nat_lt_pw {a n : Nat} : ((a : Int) < 2 ^ n) ↔ a < 2 ^ n := by
  rw [← PySem.W.kbt_cast n]
  exact Int.ofNat_lt
theorem sub1 (n : Nat) : ((n + 1 : Nat) : Int) - 1 = (n : Int) := by omega
theorem sub1' (n : Nat) : ((n : Int) + 1) - 1 = (n : Int) := by omega

theorem c0 : ((0 : Nat) : Int) = 0 := rfl
theorem c1 : ((1 : Nat) : Int) = 1 := rfl
theorem c2 : ((2 : Nat) : Int) = 2 := rfl
theorem c3 : ((3 : Nat) : Int) = 3 := rfl
theorem c4 : ((4 : Nat) : Int) = 4 := rfl
theorem cmul2 {x : Int} : CMul 2 x = True := eq_true (.inl ⟨by decide, by decide⟩)
theorem cdiv2 {x : Int} : CDiv x 2 = True := eq_true ⟨by decide, by decide⟩
theorem cdiv3 {x : Int} : CDiv x 3 = True := eq_true ⟨by decide, by decide⟩
theorem cdiv5 {x : Int} : CDiv x 5 = True := eq_true ⟨by decide, by decide⟩
theorem dec_In {n : Nat} {p : Pl} : decide (In n p) = (decide (p.1 < 2 ^ n) && decide (p.2 < 2 ^ n)) := by
  rw [Bool.eq_iff_iff, Bool.and_eq_true, decide_eq_true_eq, decide_eq_true_eq, decide_eq_true_eq]
  exact Iff.rfl

theorem qn_int (n : Nat) (p : Pl) : ((qn n p : Nat) : Int) = (p.1 : Int) / 2 ^ n % 2 + 2 * ((p.2 : Int) / 2 ^ n % 2) := by
  unfold qn
  simp only [Int.natCast_add, Int.natCast_mul, Int.natCast_emod, Int.natCast_ediv, PySem.W.kbt_cast, c2]
theorem upc_int (n x : Nat) : ((upc n x : Nat) : Int) = (x : Int) / 2 ^ (n + 1) * 2 ^ (n + 1) + 2 ^ n := by
  unfold upc
  simp only [Int.natCast_add, Int.natCast_mul, Int.natCast_ediv, PySem.W.kbt_cast]
theorem upc_pos (n x : Nat) : 1 ≤ upc n x := by
  have := pw n
  unfold upc
  omega
theorem upc_int1 (n x : Nat) : ((upc n x - 1 : Nat) : Int) = (x : Int) / 2 ^ (n + 1) * 2 ^ (n + 1) + 2 ^ n - 1 := by
  have h := upc_pos n x
  rw [← upc_int]
  omega
theorem shl_nat {a n k : Nat} (h : a < 2 ^ k) (h2 : k + n ≤ 100000) : CShl (a : Int) (n : Int) := shl_ok (n := k) (by simpa using h) (by omega)
theorem shr_int {x n : Nat} : (x : Int) / 2 ^ n = ((x / 2 ^ n : Nat) : Int) := by
  rw [Int.natCast_ediv, PySem.W.kbt_cast]

theorem md4_all (n : Nat) (p : Pl) : [md4 n p 0, md4 n p 1, md4 n p 2, md4 n p 3] = [(upc n p.1 - 1, upc n p.2 - 1), (upc n p.1, upc n p.2 - 1), (upc n p.1 - 1, upc n p.2), (upc n p.1, upc n p.2)] := by
  have h1 := upc_pos n p.1
  have h2 := upc_pos n p.2
  unfold md4
  simp only [Nat.reduceMod, Nat.reduceDiv, Nat.add_zero, Nat.zero_mod, Nat.zero_div, Nat.sub_add_cancel h1, Nat.sub_add_cancel h2]

/-! ### comprehensions: which turns give, and what -/
inductive El where
  | val (v : V)
  | pl (p : Pl)
def El.at (H : Hp) (y : V) : El → Prop
  | .val v => y = v
  | .pl p => PlT H y p
theorem El.same {H H' : Hp} {y : V} {e : El} (s : Same H H') (h : e.at H y) : e.at H' y := by
  cases e with
  | val v => exact h
  | pl p => exact PlT.same s h
theorem El.mut {H : Hp} {y : V} {e : El} {D : Addr} {ys zs : List V} (hD : H D = some (.lst ys)) (h : e.at H y) : e.at (L2.upd H D (.lst zs)) y := by
  cases e with
  | val v => exact h
  | pl p =>
    obtain ⟨t, r, ht⟩ := h
    refine ⟨t, r, ?_⟩
    rw [upd_ne (ne_of ht hD (by intro z; cases z))]
    exact ht
abbrev Els (H : Hp) (e : Nat → El) (ys : List V) (is : List Nat) : Prop := Paired (fun y i => (e i).at H y) ys is
theorem Els.imp {H H' : Hp} {e : Nat → El} (m : ∀ y i, (e i).at H y → (e i).at H' y) : ∀ {ys : List V} {is : List Nat}, Els H e ys is → Els H' e ys is
  | _, _, .nil => .nil
  | _, _, .cons a r => .cons (m _ _ a) (Els.imp m r)
theorem Els.pls {H : Hp} {p : Nat → Pl} : ∀ {ys : List V} {is : List Nat}, Els H (fun i => .pl (p i)) ys is → PlsT H ys (is.map p)
  | _, _, .nil => .nil
  | _, _, .cons a r => .cons a (Els.pls r)
theorem Els.vals {H : Hp} {v : Nat → V} : ∀ {ys : List V} {is : List Nat}, Els H (fun i => .val (v i)) ys is → ys = is.map v
  | _, _, .nil => rfl
  | _, _, .cons a r => by
    rw [List.map_cons, ← Els.vals r]
    rw [show _ = _ from a]
theorem filter_range {f : Nat → Bool} (i : Nat) : (List.range (i + 1)).filter f = (List.range i).filter f ++ (if f i = true then [i] else []) := by
  rw [List.range_succ, List.filter_append]
  cases h : f i <;> simp [h]
theorem filter_len (f : Nat → Bool) (i : Nat) : ((List.range i).filter f).length ≤ i := by
  have h := List.length_filter_le f (List.range i)
  rw [List.length_range] at h
  exact h
def LcInv (H : Hp) (e : Nat → El) (f : Nat → Bool) (D : Addr) (i : Nat) (H' : Hp) : Prop := H D = none ∧ Same H H' ∧ ∃ ys, H' D = some (.lst ys) ∧ Els H' e ys ((List.range i).filter f)
theorem lc_turn {H H' : Hp} {e : Nat → El} {f : Nat → Bool} {D : Addr} {i : Nat} (I : LcInv H e f D i H') (hi : i < 100000) {Turn : (V → Hp → Prop) → (Hp → Prop) → Prop}
    (hs : ∀ (Kt : V → Hp → Prop) (Kf : Hp → Prop), (∀ y H4, Same H' H4 → f i = true → (e i).at H4 y → Kt y H4) → (∀ H3, Same H' H3 → f i = false → Kf H3) → Turn Kt Kf) :
    Turn (fun y H4 => ∃ acc, H4 D = some (.lst acc) ∧ acc.length < sizeLine ∧ LcInv H e f D (i + 1) (L2.upd H4 D (.lst (acc ++ [y])))) (LcInv H e f D (i + 1)) := by
  obtain ⟨hD, sm, ys, eD, g⟩ := I
  refine hs _ _ (fun y H4 s4 hf hp => ?_) fun H3 s3 hf => ?_
  · have e4 := s4 _ _ eD
    refine ⟨ys, e4, ?_, hD, Same.mut (sm.trans s4) hD, ys ++ [y], upd_same, ?_⟩
    · have l := Paired.length g
      have l2 := filter_len f i
      exact Nat.lt_of_lt_of_le (show ys.length < 100000 by omega) (by decide)
    · rw [filter_range, if_pos hf]
      exact Paired.snoc (Els.imp (fun y i h => El.mut e4 (El.same s4 h)) g) (El.mut e4 hp)
  · refine ⟨hD, sm.trans s3, ys, s3 _ _ eD, ?_⟩
    rw [filter_range, if_neg (by rw [hf]; decide), List.append_nil]
    exact Els.imp (fun y i h => El.same s3 h) g
/-- over range(n) -/
theorem lcr {te : TE} {tt : TT} {g : TG} {vs : List Nat} {σ : L2.St} {H : Hp} {ta : TA} {Q : VK} (n : Nat) (f : Nat → Bool) (e : Nat → El) (hn : n ≤ 100000) (ha : ∀ R : List V → Hp → Prop, R [.int (n : Int)] H → ta σ H R)
    (hs : ∀ i H', i < n → Same H H' → ∀ (Kt : V → Hp → Prop) (Kf : Hp → Prop), (∀ y H4, Same H' H4 → f i = true → (e i).at H4 y → Kt y H4) → (∀ H3, Same H' H3 → f i = false → Kf H3) → g (.int (i : Int)) (wipe σ vs) H' fun σ2 H2 => wipe σ2 vs = wipe σ vs ∧ tt σ2 H2 fun b H3 => if b = true then te σ2 H3 Kt else Kf H3)
    (q : ∀ D H' ys, H D = none → Same H H' → H' D = some (.lst ys) → Els H' e ys ((List.range n).filter f) → Q (.ref D) H') : tLc (iRng1 ta) g tt te vs σ H Q := by
  refine ha _ ⟨n, rfl, by omega, by omega, fun D hD => ?_⟩
  refine lc_range (lo := 0) (n := (n : Int).toNat) (LcInv H e f D) ⟨hD, same_new hD, [], upd_same, .nil⟩ (fun i H' hi I => ?_) fun H' I => ?_
  · have e0 : (0 : Int) + (i : Int) = (i : Int) := Int.zero_add _
    rw [e0]
    rw [Int.toNat_natCast] at hi
    exact lc_turn (Turn := fun Kt Kf => g (.int (i : Int)) (wipe σ vs) H' fun σ2 H2 => wipe σ2 vs = wipe σ vs ∧ tt σ2 H2 fun b H3 => if b = true then te σ2 H3 Kt else Kf H3) I (by omega) (hs i H' hi I.2.1)
  · rw [Int.toNat_natCast] at I
    obtain ⟨_, sm, ys, eD, g⟩ := I
    exact q D H' ys hD sm eD g
/-- over a list -/
theorem lcl {K : PySem.W.Frag} {tl te : TE} {tt : TT} {g : TG} {vs : List Nat} {σ : L2.St} {H : Hp} {Q : VK} {a : Addr} {xs : List V} (hl : SqL K H a xs) (f : Nat → Bool) (e : Nat → El) (hn : xs.length ≤ 100000) (ha : ∀ R : VK, R (.ref a) H → tl σ H R)
    (hs : ∀ i x H', xs[i]? = some x → Same H H' → ∀ (Kt : V → Hp → Prop) (Kf : Hp → Prop), (∀ y H4, Same H' H4 → f i = true → (e i).at H4 y → Kt y H4) → (∀ H3, Same H' H3 → f i = false → Kf H3) → g x (wipe σ vs) H' fun σ2 H2 => wipe σ2 vs = wipe σ vs ∧ tt σ2 H2 fun b H3 => if b = true then te σ2 H3 Kt else Kf H3)
    (q : ∀ D H' ys, H D = none → Same H H' → H' D = some (.lst ys) → Els H' e ys ((List.range xs.length).filter f) → Q (.ref D) H') : tLc (iList K tl) g tt te vs σ H Q := by
  refine ha _ ⟨a, rfl, ⟨xs, hl⟩, fun D hD => ?_⟩
  refine lc_list (xs := xs) (LcInv H e f D) ⟨hD, same_new hD, [], upd_same, .nil⟩ (fun i H' _ I => I.2.1.seq hl) (fun i x H' hi I => ?_) fun H' I => ?_
  · have hlt := (List.getElem?_eq_some_iff.mp hi).1
    exact lc_turn (Turn := fun Kt Kf => g x (wipe σ vs) H' fun σ2 H2 => wipe σ2 vs = wipe σ vs ∧ tt σ2 H2 fun b H3 => if b = true then te σ2 H3 Kt else Kf H3) I (by omega) (hs i x H' hi I.2.1)
  · obtain ⟨_, sm, ys, eD, g⟩ := I
    exact q D H' ys hD sm eD g

theorem pc_perm (t : Tr) (h : t.2.2 < 4) : (pc t).Perm (((List.range 4).filter fun i => !decide (i = t.2.2)).map fun i => (t.1 + i % 2, t.2.1 + i / 2)) := by
  obtain ⟨u, v, w⟩ := t
  dsimp only at h ⊢
  have hw : w = 0 ∨ w = 1 ∨ w = 2 ∨ w = 3 := by omega
  rcases hw with e | e | e | e <;> subst e
  · exact List.Perm.swap _ _ _
  · exact List.Perm.refl _
  · exact List.Perm.refl _
  · exact List.Perm.cons _ (List.Perm.swap _ _ _)
theorem pc_sorted (t : Tr) : (pc t).Pairwise lel := by
  obtain ⟨u, v, w⟩ := t
  unfold pc
  dsimp only
  repeat' split
  all_goals
    simp [lel]
theorem nat_dec (a b : Nat) : decide ((a : Int) = (b : Int)) = decide (a = b) := by
  rw [Bool.eq_iff_iff, decide_eq_true_eq, decide_eq_true_eq]
  omega
theorem pc_len (t : Tr) : (pc t).length = 3 := by
  unfold pc
  repeat' split
  all_goals rfl
theorem scal_ii {i j : Int} : scal (.int i) (.int j) = true := rfl
theorem scal_bb {i j : Bool} : scal (.bl i) (.bl j) = true := rfl

/-! ### len(s), s a set of tuples of ints -/
def rLenSetT (K : PySem.W.Frag) (P : Program) (w : World) : List V → Hp → VK → Prop := fun xs H Q => ∃ (a : Addr) (L : List (Addr × List Int)), xs = [.ref a] ∧ H a = some (SetTO P w a L) ∧ (∀ p ∈ L, SqT K H p.1 (p.2.map V.int)) ∧
  ((L.map (·.2)).Nodup → Q (.int ((L.length : Nat) : Int)) H)
theorem call_len_setT {X : Cx} : CallR X (.builtin "len") (rLenSetT X.K X.prog X.w) := by
  intro pins s σ H xs us Q I r h
  obtain ⟨a, L, rfl, ha, hk, q⟩ := h
  have R0 : SetT0 X.prog X.w s.heap a L := (I.hok a _ ha).1
  obtain ⟨es, ep, t, R⟩ := R0.full fun p hp => I.isT (hk p hp)
  rw [Vals.ref1 r]
  obtain ⟨o, ho, hex, hd⟩ := R.ob
  have hs := R.size
  have hf := R.few
  refine call_len_set ho hex hd R.fits (by rw [hs]; omega) ⟨.int ((L.length : Nat) : Int), H, I.tok _, ⟨_, by rw [hs]⟩, q R.nd⟩
/-- set(xs), then its length -/
theorem set_pls {P : Program} {w : World} {K : PySem.W.Frag} {H : Hp} {a : Addr} {xs : List V} {ps : List Pl} {Q : VK} (ha : SqL K H a xs) (hp : PlsT H xs ps) (hn : ps.Nodup) (hl : ps.length < 64)
    (q : ∀ H', Same H H' → Q (.int ((ps.length : Nat) : Int)) H') : rSetOfT K P w [.ref a] H fun x H1 => rLenSetT K P w [x] H1 Q := by
  have hx : ∃ ks : List (Addr × List Int), xs = ks.map (fun p => V.ref p.1) ∧ ks.map (·.2) = ps.map (fun p => [(p.1 : Int), (p.2 : Int)]) ∧ ∀ p ∈ ks, H p.1 = some (.tup (p.2.map V.int)) := by
    clear q ha hn hl
    induction hp with
    | nil => exact ⟨[], rfl, rfl, fun p h => by cases h⟩
    | @cons x p xs ps h r ih =>
      obtain ⟨ks, e1, e2, e3⟩ := ih
      obtain ⟨t, rfl, ht⟩ := h
      refine ⟨(t, [(p.1 : Int), (p.2 : Int)]) :: ks, by rw [e1]; rfl, by rw [List.map_cons, e2]; rfl, fun z hz => ?_⟩
      rcases List.mem_cons.mp hz with rfl | hz
      · exact ht
      · exact e3 z hz
  obtain ⟨ks, rfl, e2, e3⟩ := hx
  have len : ks.length = ps.length := by
    have h := congrArg List.length e2
    rwa [List.length_map, List.length_map] at h
  refine ⟨a, ks, rfl, ha, fun p h => .of (e3 p h), by omega, fun b L hb h1 h2 => ⟨b, L, rfl, upd_same, fun p h => .of (upd_old hb (e3 p (h1 p h))), fun nd => ?_⟩⟩
  have nd2 : (ks.map (·.2)).Nodup := by
    rw [e2]
    refine List.Pairwise.map _ (fun p q hne e => hne ?_) hn
    obtain ⟨x, y⟩ := p
    obtain ⟨x', y'⟩ := q
    simp only [List.cons.injEq, and_true] at e
    rw [Prod.mk.injEq]
    omega
  have pm : (L.map (·.2)).Perm (ks.map (·.2)) := by
    refine (List.perm_ext_iff_of_nodup nd nd2).mpr fun z => ⟨fun h => ?_, fun h => ?_⟩
    · obtain ⟨p, hp, rfl⟩ := List.mem_map.mp h
      exact List.mem_map.mpr ⟨p, h1 p hp, rfl⟩
    · obtain ⟨p, hp, rfl⟩ := List.mem_map.mp h
      exact h2 p hp
  have e := pm.length_eq
  rw [List.length_map, List.length_map, len] at e
  rw [e]
  exact q _ (same_new hb)
/-! ### lists of ints as data -/
theorem ints_dp {K : PySem.W.Frag} {H : Hp} : ∀ ns : List Int, DpAll K H (ns.map V.int) (ns.map PyData.int)
  | [] => .nil
  | n :: ns => .cons (.int n) (ints_dp ns)
theorem ints_lay : ∀ ns : List Int, PyData.canLayAll0 (ns.map PyData.int) = true
  | [] => by simp [PyData.canLayAll0]
  | n :: ns => by simp [PyData.canLayAll0, PyData.canLay0, ints_lay ns]
theorem ints_depth : ∀ ns : List Int, PyData.depthAll (ns.map PyData.int) = 0
  | [] => by simp [PyData.depthAll]
  | n :: ns => by simp [PyData.depthAll, PyData.depth, ints_depth ns]
theorem ints_shaped (ns : List Int) : SeqAt.shaped (.list (ns.map PyData.int)) = true := by
  have h2 : PyData.depth (.list (ns.map PyData.int)) ≤ 64 := by
    simp only [PyData.depth, ints_depth]
    omega
  show (PyData.canLay0 (.list (ns.map PyData.int)) && decide (PyData.depth (.list (ns.map PyData.int)) ≤ 64)) = true
  rw [Bool.and_eq_true]
  refine ⟨?_, decide_eq_true h2⟩
  simp only [PyData.canLay0]
  exact ints_lay ns
theorem ints_eqvAll : ∀ (ns ms : List Int), PyData.eqvAll (ns.map PyData.int) (ms.map PyData.int) = decide (ns = ms)
  | [], [] => by simp [PyData.eqvAll]
  | [], _ :: _ => by simp [PyData.eqvAll]
  | _ :: _, [] => by simp [PyData.eqvAll]
  | n :: ns, m :: ms => by
    rw [List.map_cons, List.map_cons]
    unfold PyData.eqvAll
    rw [ints_eqvAll ns ms, Bool.eq_iff_iff, Bool.and_eq_true, decide_eq_true_eq, decide_eq_true_eq, List.cons.injEq]
    simp [PyData.eqv]
theorem ints_eqv (ns ms : List Int) : PyData.eqv (.list (ns.map PyData.int)) (.list (ms.map PyData.int)) = decide (ns = ms) := by
  unfold PyData.eqv
  exact ints_eqvAll ns ms
theorem ne_ints {K : PySem.W.Frag} {H : Hp} {a b : Addr} {ns ms : List Int} {Q : VK} (ha : SqL K H a (ns.map V.int)) (hb : SqL K H b (ms.map V.int)) (h : Q (.bl (!decide (ns = ms))) H) : rNeD K (.ref a) (.ref b) H Q :=
  ⟨_, _, .lst ha (ints_dp ns), .lst hb (ints_dp ms), ints_shaped ns, ints_shaped ms, by rw [ints_eqv]; exact h⟩
theorem eq_ints {K : PySem.W.Frag} {H : Hp} {a b : Addr} {ns ms : List Int} {Q : VK} (ha : SqL K H a (ns.map V.int)) (hb : SqL K H b (ms.map V.int)) (h : Q (.bl (decide (ns = ms))) H) : rEqD K (.ref a) (.ref b) H Q :=
  ⟨_, _, .lst ha (ints_dp ns), .lst hb (ints_dp ms), ints_shaped ns, ints_shaped ms, by rw [ints_eqv]; exact h⟩
theorem cdiv4 {x : Int} : CDiv x 4 = True := eq_true ⟨by decide, by decide⟩
theorem cdiv7 {x : Int} : CDiv x 7 = True := eq_true ⟨by decide, by decide⟩
/-- a small factor on the left, on the right -/
theorem mulL {i j : Int} (h : -1000000 ≤ i ∧ i ≤ 1000000) : CMul i j := .inl ⟨by omega, by omega⟩
theorem mulR {i j : Int} (h : -1000000 ≤ j ∧ j ≤ 1000000) : CMul i j := .inr ⟨by omega, by omega⟩

/-- for .. in range(n) -/
theorem fr1 {ta : TA} {g : TG} {tb : TS} {D : Ends} {σ : L2.St} {H : Hp} (n : Nat) (hn : n ≤ 100000) (ha : ∀ R : List V → Hp → Prop, R [.int (n : Int)] H → ta σ H R) (Pv : Nat → L2.St → Hp → Prop) (h0 : Pv 0 σ H)
    (hs : ∀ (i : Nat) σ' H', i < n → Pv i σ' H' → g (.int (i : Int)) σ' H' fun σ2 H2 => tb { D with nx := Pv (i + 1), ct := Pv (i + 1), bk := D.nx } σ2 H2) (hd : ∀ σ' H', Pv n σ' H' → D.nx σ' H') : tFor (iRng1 ta) g tb D σ H := by
  refine ha _ ⟨(n : Int), rfl, by omega, by omega, ?_⟩
  rw [Int.toNat_natCast]
  refine for_range (lo := 0) (n := n) Pv h0 (fun i σ' H' hi p => ?_) hd
  have e0 : (0 : Int) + (i : Int) = (i : Int) := Int.zero_add _
  rw [e0]
  exact hs i σ' H' hi p
/-- for .. in a list -/
theorem fl {K : PySem.W.Frag} {tl : TE} {g : TG} {tb : TS} {D : Ends} {σ : L2.St} {H : Hp} {a : Addr} {xs : List V} (hx : SqL K H a xs) (ha : ∀ R : VK, R (.ref a) H → tl σ H R) (Pv : Nat → L2.St → Hp → Prop) (h0 : Pv 0 σ H)
    (hl : ∀ i σ' H', Pv i σ' H' → SqL K H' a xs)
    (hs : ∀ (i : Nat) x σ' H', xs[i]? = some x → Pv i σ' H' → g x σ' H' fun σ2 H2 => tb { D with nx := Pv (i + 1), ct := Pv (i + 1), bk := D.nx } σ2 H2) (hd : ∀ σ' H', Pv xs.length σ' H' → D.nx σ' H') : tFor (iList K tl) g tb D σ H :=
  ha _ ⟨a, rfl, ⟨xs, hx⟩, for_list Pv h0 (fun i σ' H' _ p => hl i σ' H' p) hs hd⟩

theorem close_nat {n j a b : Nat} (hj : j ≤ n) (ha : a < 2 ^ n) : a - a % 2 ^ j + b % 2 ^ j < 2 ^ n := by
  have hp := pw j
  have e : 2 ^ n = 2 ^ j * 2 ^ (n - j) := by rw [← Nat.pow_add]; congr 1; omega
  have h1 := Nat.div_add_mod a (2 ^ j)
  have h2 : a / 2 ^ j < 2 ^ (n - j) := Nat.div_lt_of_lt_mul (by rw [← e]; exact ha)
  have h3 : 2 ^ j * (a / 2 ^ j + 1) ≤ 2 ^ n := by rw [e]; exact Nat.mul_le_mul_left _ h2
  have h4 := Nat.mod_lt b hp
  rw [Nat.mul_add, Nat.mul_one] at h3
  omega
theorem close_int {a b k : Nat} : (a : Int) - (a : Int) % (k : Int) + (b : Int) % (k : Int) = ((a - a % k + b % k : Nat) : Int) := by
  have h := Nat.mod_le a k
  rw [← Int.natCast_emod, ← Int.natCast_emod]
  omega
def clo (j : Nat) (o p : Pl) : Pl := (o.1 - o.1 % 2 ^ j + p.1 % 2 ^ j, o.2 - o.2 % 2 ^ j + p.2 % 2 ^ j)
theorem clo_in {n j : Nat} {o p : Pl} (hj : j ≤ n) (ho : In n o) : In n (clo j o p) := ⟨close_nat hj ho.1, close_nat hj ho.2⟩

/-! ### lists of pieces -/
def PieceX (Av : List Addr) (H H' : Hp) (x : V) (t : Tr) : Prop := ∃ a ys, x = .ref a ∧ H a = none ∧ a ∉ Av ∧ H' a = some (.lst ys) ∧ PlsT H' ys (pc t)
def But (R : Addr) (H H' : Hp) : Prop := ∀ b o, b ≠ R → H b = some o → H' b = some o
theorem But.refl (R : Addr) (H : Hp) : But R H H := fun _ _ _ h => h
theorem But.trans {R : Addr} {H H1 H2 : Hp} (a : But R H H1) (b : But R H1 H2) : But R H H2 := fun c o n h => b c o n (a c o n h)
theorem But.of {R : Addr} {H H' : Hp} (s : Same H H') : But R H H' := fun b o _ h => s b o h
theorem But.mut {R : Addr} {H : Hp} {o : HO} : But R H (L2.upd H R o) := fun b x n h => by
  rw [upd_ne n]
  exact h
theorem PlT.but {R : Addr} {H H' : Hp} {v : V} {p : Pl} {zs : List V} (b : But R H H') (hR : H R = some (.lst zs)) (h : PlT H v p) : PlT H' v p := by
  obtain ⟨t, r, ht⟩ := h
  exact ⟨t, r, b _ _ (ne_of ht hR (by intro z; cases z)) ht⟩
theorem PlsT.but {R : Addr} {H H' : Hp} {zs : List V} (b : But R H H') (hR : H R = some (.lst zs)) : ∀ {xs : List V} {ps : List Pl}, PlsT H xs ps → PlsT H' xs ps
  | _, _, .nil => .nil
  | _, _, .cons a r => .cons (PlT.but b hR a) (PlsT.but b hR r)
theorem PieceX.same {Av : List Addr} {H H1 H2 : Hp} {x : V} {t : Tr} (s : Same H1 H2) (h : PieceX Av H H1 x t) : PieceX Av H H2 x t := by
  obtain ⟨a, ys, e, n, av, h1, h2⟩ := h
  exact ⟨a, ys, e, n, av, s _ _ h1, h2.same s⟩
theorem PieceX.but {Av : List Addr} {R : Addr} {H H1 H2 : Hp} {x : V} {t : Tr} {zs : List V} (b : But R H1 H2) (hR : H1 R = some (.lst zs)) (hm : R ∈ Av) (h : PieceX Av H H1 x t) : PieceX Av H H2 x t := by
  obtain ⟨a, ys, e, n, av, h1, h2⟩ := h
  exact ⟨a, ys, e, n, av, b _ _ (fun z => av (by rw [z]; exact hm)) h1, h2.but b hR⟩
/-- from an older heap, and new to what it knows -/
theorem PieceX.old {Av : List Addr} {H0 H H' : Hp} {x : V} {t : Tr} (s : Same H0 H) (hav : ∀ a ∈ Av, ∃ o, H a = some o) (h : PieceX [] H H' x t) : PieceX Av H0 H' x t := by
  obtain ⟨a, ys, e, n, _, h1, h2⟩ := h
  refine ⟨a, ys, e, s.free n, fun m => ?_, h1, h2⟩
  obtain ⟨o, ho⟩ := hav a m
  rw [n] at ho
  cases ho
abbrev PiecesX (Av : List Addr) (H H' : Hp) (xs : List V) (ts : List Tr) : Prop := Paired (PieceX Av H H') xs ts
theorem PiecesX.imp {Av Av' : List Addr} {H1 H2 H1' H2' : Hp} (f : ∀ x t, PieceX Av H1 H2 x t → PieceX Av' H1' H2' x t) : ∀ {xs : List V} {ts : List Tr}, PiecesX Av H1 H2 xs ts → PiecesX Av' H1' H2' xs ts
  | _, _, .nil => .nil
  | _, _, .cons a r => .cons (f _ _ a) (PiecesX.imp f r)
theorem PiecesX.get' {Av : List Addr} {H H' : Hp} : ∀ {xs : List V} {ts : List Tr} {i : Nat} {x : V}, PiecesX Av H H' xs ts → xs[i]? = some x → ∃ t, ts[i]? = some t ∧ PieceX Av H H' x t
  | _, _, _, _, .nil, e => by simp at e
  | _, _, 0, _, .cons r _, e => by simp at e; subst e; exact ⟨_, rfl, r⟩
  | _, _, i + 1, x, .cons _ t, e => by
    obtain ⟨p, h1, h2⟩ := PiecesX.get' (i := i) (x := x) t (by simpa using e)
    exact ⟨p, by simpa using h1, h2⟩
/-- the quarters' places, by the law's own steps -/
theorem quarter_int {m i : Nat} {out : Pl} (hi : i < 4) (ho : In (m + 1) out) :
    ((0 ≤ (out.1 : Int) - ((i % 2 * 2 ^ m : Nat) : Int) ∧ (out.1 : Int) - ((i % 2 * 2 ^ m : Nat) : Int) < ((2 ^ m : Nat) : Int)) ∧ (0 ≤ (out.2 : Int) - ((i / 2 * 2 ^ m : Nat) : Int) ∧ (out.2 : Int) - ((i / 2 * 2 ^ m : Nat) : Int) < ((2 ^ m : Nat) : Int))) ↔ qn m out = i := by
  obtain ⟨x, y⟩ := out
  obtain ⟨h1, h2⟩ := ho
  rw [pw1] at h1 h2
  have hp := pw m
  unfold qn
  dsimp only at *
  have e1 := split1 hp h1
  have e2 := split1 hp h2
  have r1 := Nat.mod_lt x hp
  have r2 := Nat.mod_lt y hp
  have c1 : x / 2 ^ m % 2 = 0 ∨ x / 2 ^ m % 2 = 1 := by omega
  have c2 : y / 2 ^ m % 2 = 0 ∨ y / 2 ^ m % 2 = 1 := by omega
  have d1 : i % 2 = 0 ∨ i % 2 = 1 := by omega
  have d2 : i / 2 = 0 ∨ i / 2 = 1 := by omega
  have hi' : i = i % 2 + 2 * (i / 2) := by omega
  generalize x / 2 ^ m % 2 = cx at *
  generalize y / 2 ^ m % 2 = cy at *
  generalize i % 2 = u at *
  generalize i / 2 = v at *
  generalize x % 2 ^ m = a at *
  generalize y % 2 ^ m = b at *
  generalize 2 ^ m = h at *
  rcases c1 with rfl | rfl <;> rcases c2 with rfl | rfl <;> rcases d1 with rfl | rfl <;> rcases d2 with rfl | rfl <;> simp only [Nat.one_mul, Nat.zero_mul] at e1 e2 ⊢ <;> constructor <;> intro hh <;> first | omega | (refine ⟨⟨?_, ?_⟩, ?_, ?_⟩ <;> omega)
theorem md_int {m i : Nat} {out : Pl} (ho : In (m + 1) out) (hq : qn m out = i) : (out.1 : Int) - ((i % 2 * 2 ^ m : Nat) : Int) = ((md m out).1 : Int) ∧ (out.2 : Int) - ((i / 2 * 2 ^ m : Nat) : Int) = ((md m out).2 : Int) := by
  have h := ho.split
  rw [hq] at h
  have h1 : out.1 = i % 2 * 2 ^ m + (md m out).1 := congrArg Prod.fst h
  have h2 : out.2 = i / 2 * 2 ^ m + (md m out).2 := congrArg Prod.snd h
  omega

/-! ### tests that may lay things -/
def Te (t : TT) (σ : L2.St) (H : Hp) (c : Bool) : Prop := ∀ R : Bool → Hp → Prop, (∀ H1, Same H H1 → R c H1) → t σ H R
theorem Te.of {t : TT} {σ : L2.St} {H : Hp} {c : Bool} (h : ∀ R : Bool → Hp → Prop, R c H → t σ H R) : Te t σ H c := fun R q => h R (q H (Same.refl H))
theorem or_g {t u : TT} {σ : L2.St} {H : Hp} {R : Bool → Hp → Prop} (c1 c2 : Bool) (h1 : Te t σ H c1) (h2 : c1 = false → ∀ H1, Same H H1 → Te u σ H1 c2) (q : ∀ H1, Same H H1 → R (c1 || c2) H1) : tOr t u σ H R := by
  refine h1 _ fun H1 s1 => ?_
  cases c1 with
  | true =>
    rw [if_pos rfl]
    exact q H1 s1
  | false =>
    rw [if_neg Bool.false_ne_true]
    exact h2 rfl H1 s1 _ fun H2 s2 => q H2 (s1.trans s2)
theorem and_g {t u : TT} {σ : L2.St} {H : Hp} {R : Bool → Hp → Prop} (c1 c2 : Bool) (h1 : Te t σ H c1) (h2 : c1 = true → ∀ H1, Same H H1 → Te u σ H1 c2) (q : ∀ H1, Same H H1 → R (c1 && c2) H1) : tAnd t u σ H R := by
  refine h1 _ fun H1 s1 => ?_
  cases c1 with
  | true =>
    rw [if_pos rfl]
    exact h2 rfl H1 s1 _ fun H2 s2 => q H2 (s1.trans s2)
  | false =>
    rw [if_neg Bool.false_ne_true]
    exact q H1 s1
theorem Te.or {t u : TT} {σ : L2.St} {H : Hp} (c1 c2 : Bool) (h1 : Te t σ H c1) (h2 : c1 = false → ∀ H1, Same H H1 → Te u σ H1 c2) : Te (tOr t u) σ H (c1 || c2) := fun R q => or_g c1 c2 h1 h2 q
theorem Te.and {t u : TT} {σ : L2.St} {H : Hp} (c1 c2 : Bool) (h1 : Te t σ H c1) (h2 : c1 = true → ∀ H1, Same H H1 → Te u σ H1 c2) : Te (tAnd t u) σ H (c1 && c2) := fun R q => and_g c1 c2 h1 h2 q
theorem ty_list {K : PySem.W.Frag} {H : Hp} {a : Addr} {xs : List V} (h : H a = some (.lst xs)) : tyV K "list" (.ref a) H := Or.inl ⟨rfl, _, .of h⟩

theorem ch {a b : Int} {R : Bool → Prop} (h : R (decide (0 ≤ a ∧ a < b))) : if decide (0 ≤ a) = true then R (decide (a < b)) else R false := by
  by_cases h0 : 0 ≤ a
  · rw [if_pos (decide_eq_true h0)]
    have e : decide (0 ≤ a ∧ a < b) = decide (a < b) := by simp [h0]
    rw [← e]
    exact h
  · rw [if_neg (by simp [h0])]
    have e : decide (0 ≤ a ∧ a < b) = false := by simp [h0]
    rw [← e]
    exact h
theorem cor_int {m i : Nat} (hi : i < 4) : (1 - (i : Int) % 2) * (((2 ^ m : Nat) : Int) - 1) = ((cor m i).1 : Int) ∧ (1 - (i : Int) / 2) * (((2 ^ m : Nat) : Int) - 1) = ((cor m i).2 : Int) := by
  have h := pw m
  unfold cor
  dsimp only
  generalize 2 ^ m = k at *
  have e1 : ((k : Nat) : Int) - 1 = ((k - 1 : Nat) : Int) := by omega
  rw [e1]
  have hi' : i = 0 ∨ i = 1 ∨ i = 2 ∨ i = 3 := by omega
  rcases hi' with e | e | e | e <;> subst e <;> simp
theorem mid_int {m i : Nat} (hi : i < 4) : ((cor m i).1 : Int) + ((low m i).1 : Int) = (((2 ^ m - 1) + i % 2 : Nat) : Int) ∧ ((cor m i).2 : Int) + ((low m i).2 : Int) = (((2 ^ m - 1) + i / 2 : Nat) : Int) := by
  have h := pw m
  unfold cor low
  dsimp only
  generalize 2 ^ m = k at *
  have hi' : i = 0 ∨ i = 1 ∨ i = 2 ∨ i = 3 := by omega
  rcases hi' with e | e | e | e <;> subst e <;> simp <;> omega

theorem quarter_low {m i : Nat} {out : Pl} (hi : i < 4) (ho : In (m + 1) out) :
    ((0 ≤ (out.1 : Int) - ((low m i).1 : Int) ∧ (out.1 : Int) - ((low m i).1 : Int) < ((2 ^ m : Nat) : Int)) ∧ (0 ≤ (out.2 : Int) - ((low m i).2 : Int) ∧ (out.2 : Int) - ((low m i).2 : Int) < ((2 ^ m : Nat) : Int))) ↔ qn m out = i := quarter_int hi ho
theorem md_low {m i : Nat} {out : Pl} (ho : In (m + 1) out) (hq : qn m out = i) : (out.1 : Int) - ((low m i).1 : Int) = ((md m out).1 : Int) ∧ (out.2 : Int) - ((low m i).2 : Int) = ((md m out).2 : Int) := md_int ho hq
theorem mids_lt {f : Nat → Bool} {g : Nat → Pl} {i : Nat} {H : Hp} {xs : List V} (h : PlsT H xs (((List.range i).filter f).map g)) : xs.length ≤ i := by
  have l := PlsT.len h
  rw [List.length_map] at l
  have l2 := filter_len f i
  omega
theorem small4 {n : Nat} (h : n ≤ 1000000) : n < sizeLine := Nat.lt_of_le_of_lt h (by decide)

/-- what an expression gives -/
def Ee (te : TE) (σ : L2.St) (H : Hp) (P : V → Hp → Prop) : Prop := ∀ R : VK, (∀ x H1, P x H1 → R x H1) → te σ H R
/-- for .. in an expression that gives a list -/
theorem forL {K : PySem.W.Frag} {tl : TE} {g : TG} {tb : TS} {D : Ends} {σ : L2.St} {H : Hp} {P : V → Hp → Prop} (h : Ee tl σ H P)
    (k : ∀ x H1, P x H1 → ∃ (a : Addr) (xs : List V) (Pv : Nat → L2.St → Hp → Prop), x = .ref a ∧ SqL K H1 a xs ∧ Pv 0 σ H1 ∧ (∀ i σ' H', Pv i σ' H' → SqL K H' a xs) ∧
      (∀ (i : Nat) x σ' H', xs[i]? = some x → Pv i σ' H' → g x σ' H' fun σ2 H2 => tb { D with nx := Pv (i + 1), ct := Pv (i + 1), bk := D.nx } σ2 H2) ∧ ∀ σ' H', Pv xs.length σ' H' → D.nx σ' H') : tFor (iList K tl) g tb D σ H := by
  refine h _ fun x H1 p => ?_
  obtain ⟨a, xs, Pv, rfl, hs, h0, hl, ht, hd⟩ := k x H1 p
  exact ⟨a, rfl, ⟨xs, hs⟩, for_list Pv h0 (fun i σ' H' _ p => hl i σ' H' p) ht hd⟩

theorem range_getD {β : Type} (l : List Pl) (f : Pl → β) : ((List.range l.length).filter fun _ => true).map (fun i => f (l.getD i (0, 0))) = l.map f := by
  have e : (List.range l.length).filter (fun _ => true) = List.range l.length := by simp
  rw [e]
  apply List.ext_getElem?
  intro i
  rw [List.getElem?_map, List.getElem?_map]
  by_cases h : i < l.length
  · rw [List.getElem?_range h, List.getElem?_eq_getElem h]
    simp [List.getD_eq_getElem?_getD, List.getElem?_eq_getElem h]
  · rw [List.getElem?_eq_none (by simpa using Nat.le_of_not_lt h), List.getElem?_eq_none (Nat.le_of_not_lt h)] <;> rfl
theorem getD_of {l : List Pl} {i : Nat} {p : Pl} (h : l[i]? = some p) : l.getD i (0, 0) = p := by
  rw [List.getD_eq_getElem?_getD, h]
  rfl

theorem pc_nodup (t : Tr) : (pc t).Nodup := by
  obtain ⟨u, v, w⟩ := t
  unfold pc
  dsimp only
  repeat' split
  all_goals
    simp
theorem pc_cols (t : Tr) : t.1 ∈ (pc t).map (·.1) ∧ t.1 + 1 ∈ (pc t).map (·.1) ∧ ∀ c ∈ (pc t).map (·.1), c = t.1 ∨ c = t.1 + 1 := by
  obtain ⟨u, v, w⟩ := t
  unfold pc
  dsimp only
  repeat' split
  all_goals simp
theorem pc_rows (t : Tr) : t.2.1 ∈ (pc t).map (·.2) ∧ t.2.1 + 1 ∈ (pc t).map (·.2) ∧ ∀ c ∈ (pc t).map (·.2), c = t.2.1 ∨ c = t.2.1 + 1 := by
  obtain ⟨u, v, w⟩ := t
  unfold pc
  dsimp only
  repeat' split
  all_goals simp
theorem filter_all (n : Nat) : (List.range n).filter (fun _ => true) = List.range n := by simp
theorem all_true {K : PySem.W.Frag} {H : Hp} {D : Addr} {ys : List V} {is : List Nat} {Q : VK} (eD : H D = some (.lst ys)) (g : Els H (fun _ => .val (.bl true)) ys is) (q : Q (.bl true) H) : rAll K [.ref D] H Q := by
  have e := Els.vals g
  refine ⟨D, is.map fun _ => true, rfl, .of ?_, ?_⟩
  · rw [eD, e, List.map_map]
    rfl
  · have h : (is.map fun _ => true).all id = true := by simp
    rw [h]
    exact q
theorem any_false {K : PySem.W.Frag} {H : Hp} {D : Addr} {ys : List V} {is : List Nat} {Q : VK} (eD : H D = some (.lst ys)) (g : Els H (fun _ => .val (.bl false)) ys is) (q : Q (.bl false) H) : rAny K [.ref D] H Q := by
  have e := Els.vals g
  refine ⟨D, is.map fun _ => false, rfl, .of ?_, ?_⟩
  · rw [eD, e, List.map_map]
    rfl
  · have h : (is.map fun _ => false).any id = false := by simp
    rw [h]
    exact q
/-- least and greatest of a piece's columns (or rows) -/
theorem min_two {K : PySem.W.Frag} {H : Hp} {a : Addr} {cs : List Nat} {u : Nat} {Q : VK} (ha : SqL K H a ((cs.map fun (c : Nat) => (c : Int)).map V.int)) (h : u ∈ cs ∧ u + 1 ∈ cs ∧ ∀ c ∈ cs, c = u ∨ c = u + 1) (q : Q (.int (u : Int)) H) : rMin K [.ref a] H Q := by
  refine ⟨a, _, rfl, ha, ?_, fun m hm hle => ?_⟩
  · rw [List.length_map]
    exact List.length_pos_of_mem h.1
  · obtain ⟨c, hc, rfl⟩ := List.mem_map.mp hm
    have h1 := hle (u : Int) (List.mem_map.mpr ⟨u, h.1, rfl⟩)
    have h2 := h.2.2 c hc
    have e : c = u := by omega
    rw [e]
    exact q
theorem max_two {K : PySem.W.Frag} {H : Hp} {a : Addr} {cs : List Nat} {u : Nat} {Q : VK} (ha : SqL K H a ((cs.map fun (c : Nat) => (c : Int)).map V.int)) (h : u ∈ cs ∧ u + 1 ∈ cs ∧ ∀ c ∈ cs, c = u ∨ c = u + 1) (q : Q (.int ((u + 1 : Nat) : Int)) H) : rMax K [.ref a] H Q := by
  refine ⟨a, _, rfl, ha, ?_, fun m hm hle => ?_⟩
  · rw [List.length_map]
    exact List.length_pos_of_mem h.1
  · obtain ⟨c, hc, rfl⟩ := List.mem_map.mp hm
    have h1 := hle ((u + 1 : Nat) : Int) (List.mem_map.mpr ⟨u + 1, h.2.1, rfl⟩)
    have h2 := h.2.2 c hc
    have e : c = u + 1 := by omega
    rw [e]
    exact q

theorem ee {te : TE} {σ : L2.St} {H : Hp} {P : V → Hp → Prop} {R : VK} (h : Ee te σ H P) (q : ∀ x H1, P x H1 → R x H1) : te σ H R := h R q
/-- the place beside, in its column -/
def beside (p : Pl) : Pl := (p.1, p.2 + 1 - 2 * (p.2 % 2))
theorem beside_in {n : Nat} {p : Pl} (hn : 0 < n) (h : In n p) : In n (beside p) := by
  obtain ⟨h1, h2⟩ := h
  refine ⟨h1, ?_⟩
  unfold beside
  dsimp only
  obtain ⟨m, rfl⟩ : ∃ m, n = m + 1 := ⟨n - 1, by omega⟩
  rw [pw1] at *
  omega
theorem beside_int (y : Nat) : (y : Int) + 1 - 2 * ((y : Int) % 2) = ((y + 1 - 2 * (y % 2) : Nat) : Int) := by omega
theorem md_in_le {n m : Nat} (p : Pl) : In m (md m p) := md_in m p

theorem min_int (n j : Nat) : (if (j : Int) < (n : Int) then (j : Int) else (n : Int)) = ((min n j : Nat) : Int) := by
  by_cases h : j < n
  · rw [if_pos (by omega), Nat.min_eq_right (by omega)]
  · rw [if_neg (by omega), Nat.min_eq_left (by omega)]
theorem md_intA (m x : Nat) : (x : Int) % 2 ^ m = ((x % 2 ^ m : Nat) : Int) := by
  rw [Int.natCast_emod, PySem.W.kbt_cast]
theorem half_int (n : Nat) : (n : Int) / 2 = ((n / 2 : Nat) : Int) := by omega

/-- for .. in range(n, n - j, -1) -/
theorem fr3 {ta : TA} {g : TG} {tb : TS} {D : Ends} {σ : L2.St} {H : Hp} (n j : Nat) (hn : n ≤ 100000) (hj : j ≤ n) (ha : ∀ R : List V → Hp → Prop, R [.int (n : Int), .int ((n : Int) - (j : Int)), .int (-1)] H → ta σ H R) (Pv : Nat → L2.St → Hp → Prop) (h0 : Pv 0 σ H)
    (hs : ∀ (i : Nat) σ' H', i < j → Pv i σ' H' → g (.int ((n - i : Nat) : Int)) σ' H' fun σ2 H2 => tb { D with nx := Pv (i + 1), ct := Pv (i + 1), bk := D.nx } σ2 H2) (hd : ∀ σ' H', Pv j σ' H' → D.nx σ' H') : tFor (iRng3 ta) g tb D σ H := by
  have e : ((n : Int) - ((n : Int) - (j : Int))).toNat = j := by omega
  refine ha _ ⟨(n : Int), (n : Int) - (j : Int), -1, ((n : Int) - ((n : Int) - (j : Int))).toNat, rfl, RgC.neg (by omega) (by omega) (by omega) (by omega), ?_⟩
  rw [e]
  refine for_rangeC (lo := (n : Int)) (c := -1) (n := j) Pv h0 (fun i σ' H' hi p => ?_) hd
  have e0 : (n : Int) + (i : Int) * (-1) = ((n - i : Nat) : Int) := by omega
  rw [e0]
  exact hs i σ' H' hi p
theorem qn_divI {m : Nat} {p : Pl} (h : In (m + 1) p) : (p.1 : Int) / ((2 ^ m : Nat) : Int) + 2 * ((p.2 : Int) / ((2 ^ m : Nat) : Int)) = ((qn m p : Nat) : Int) := by
  rw [← qn_div h, Int.natCast_add, Int.natCast_mul, Int.natCast_ediv, Int.natCast_ediv]
  rfl
theorem divw {i : Int} {m : Nat} (h : m ≤ 8000) : CDivW i ((2 ^ m : Nat) : Int) := by
  refine wide_div (b := m + 1) (Int.ofNat_lt.mpr (pw m)) ?_ (by omega) (by omega)
  rw [Int.natAbs_natCast, pw1]
  have := pw m
  omega

/-- a place of the middle, as the laws reckon it -/
theorem due_int (l k i : Nat) (hk : 1 ≤ k) : (l : Int) + (k : Int) - 1 + (i : Int) = ((l + (k - 1) + i : Nat) : Int) := by omega
theorem mod2_int (i : Nat) : (i : Int) % 2 = ((i % 2 : Nat) : Int) := by omega
theorem div2_int (i : Nat) : (i : Int) / 2 = ((i / 2 : Nat) : Int) := by omega
theorem low_int (m i : Nat) : ((i % 2 : Nat) : Int) * ((2 ^ m : Nat) : Int) = ((low m i).1 : Int) ∧ ((i / 2 : Nat) : Int) * ((2 ^ m : Nat) : Int) = ((low m i).2 : Int) := by
  unfold low
  dsimp only
  rw [Int.natCast_mul, Int.natCast_mul]
  exact ⟨rfl, rfl⟩

/-- a comprehension over what an expression gives -/
theorem lclE {K : PySem.W.Frag} {tl te : TE} {tt : TT} {g : TG} {vs : List Nat} {σ : L2.St} {H : Hp} {Q : VK} {P : V → Hp → Prop} (h : Ee tl σ H P)
    (k : ∀ x H1, P x H1 → ∃ (a : Addr) (xs : List V) (f : Nat → Bool) (e : Nat → El), x = .ref a ∧ SqL K H1 a xs ∧ xs.length ≤ 100000 ∧
      (∀ i x H', xs[i]? = some x → Same H1 H' → ∀ (Kt : V → Hp → Prop) (Kf : Hp → Prop), (∀ y H4, Same H' H4 → f i = true → (e i).at H4 y → Kt y H4) → (∀ H3, Same H' H3 → f i = false → Kf H3) → g x (wipe σ vs) H' fun σ2 H2 => wipe σ2 vs = wipe σ vs ∧ tt σ2 H2 fun b H3 => if b = true then te σ2 H3 Kt else Kf H3) ∧
      (∀ D H' ys, H1 D = none → Same H1 H' → H' D = some (.lst ys) → Els H' e ys ((List.range xs.length).filter f) → Q (.ref D) H')) : tLc (iList K tl) g tt te vs σ H Q := by
  refine h _ fun x H1 p => ?_
  obtain ⟨a, xs, f, e, rfl, hl, hn, hs, q⟩ := k x H1 p
  refine ⟨a, rfl, ⟨xs, hl⟩, fun D hD => ?_⟩
  refine lc_list (xs := xs) (LcInv H1 e f D) ⟨hD, same_new hD, [], upd_same, .nil⟩ (fun i H' _ I => I.2.1.seq hl) (fun i x H' hi I => ?_) fun H' I => ?_
  · have hlt := (List.getElem?_eq_some_iff.mp hi).1
    exact lc_turn (Turn := fun Kt Kf => g x (wipe σ vs) H' fun σ2 H2 => wipe σ2 vs = wipe σ vs ∧ tt σ2 H2 fun b H3 => if b = true then te σ2 H3 Kt else Kf H3) I (by omega) (hs i x H' hi I.2.1)
  · obtain ⟨_, sm, ys, eD, g⟩ := I
    exact q D H' ys hD sm eD g
theorem mulP {i : Int} {m : Nat} (h : m ≤ 60) : CMul i ((2 ^ m : Nat) : Int) := by
  refine .inr ⟨?_, ?_⟩
  · have := Int.natCast_nonneg (2 ^ m)
    omega
  · have h1 : 2 ^ m < 2 ^ 64 := Nat.pow_lt_pow_right (by decide) (by omega)
    have h2 : ((2 ^ 64 : Nat) : Int) = 2 ^ 64 := by decide
    rw [← h2]
    exact Int.ofNat_lt.mpr h1
theorem near_lt {m e a b : Nat} (he : e ≤ m) (ha : a < 2 ^ m) : a / 2 ^ e * 2 ^ e + b % 2 ^ e < 2 ^ m := by
  have h := close_nat (a := a) (b := b) he ha
  have h1 := Nat.div_add_mod a (2 ^ e)
  have h2 : a / 2 ^ e * 2 ^ e = 2 ^ e * (a / 2 ^ e) := Nat.mul_comm _ _
  omega
end Cf

namespace Cf
open PySem PySem.Spec PyProof.Rows L2
/-! ### xs[i] += e : the read -/
def rGetL (K : PySem.W.Frag) : V → V → Hp → VK → Prop := fun x y H Q => ∃ (p : Addr) (xs : List V) (i : Nat) (v : V), x = .ref p ∧ y = .int (i : Int) ∧ SqL K H p xs ∧ xs[i]? = some v ∧ Q v H
theorem get_listP {X : Cx} : PGet X (rGetL X.K) := by
  intro pins s σ H o i ov iv Q I ro ri h
  obtain ⟨p, xs, i, v, rfl, rfl, hs, he, q⟩ := h
  cases ro
  obtain ⟨t, rfl⟩ := ri
  obtain ⟨its, r, pl, hz⟩ := Inv.list I hs
  obtain ⟨w, ew, rw'⟩ := Vals.get r he
  have hl := Vals.length r
  have hi := (List.getElem?_eq_some_iff.mp he).1
  have hn := L2.line63
  refine getItem_listL pl.isList (by omega) (by omega) (by rw [Int.toNat_natCast]; exact ew) ⟨v, H, I, rw', q⟩
/-! ### walks over pairs -/
/-- what a list of expressions gives -/
def Ea (ta : TA) (σ : L2.St) (H : Hp) (P : List V → Hp → Prop) : Prop := ∀ R : List V → Hp → Prop, (∀ x H1, P x H1 → R x H1) → ta σ H R
theorem lc_it {J : It} {n : Nat} {G : Hp → Prop} {Y : Nat → Hp → V → Hp → Prop} (w : Walk J n G Y) {g : TG} {tt : TT} {te : TE} {vs : List Nat} {σ : L2.St} {H0 : Hp} {D : Addr} {Qd : Hp → Prop} (Pv : Nat → Hp → Prop)
    (h0 : Pv 0 H0) (hG : ∀ i H, i ≤ n → Pv i H → G H)
    (hs : ∀ i x H H', i < n → Pv i H → Y i H x H' → g x (wipe σ vs) H' fun σ2 H2 => wipe σ2 vs = wipe σ vs ∧ tt σ2 H2 fun b H3 => if b = true then te σ2 H3 fun y H4 => ∃ acc, H4 D = some (.lst acc) ∧ acc.length < sizeLine ∧ Pv (i + 1) (L2.upd H4 D (.lst (acc ++ [y]))) else Pv (i + 1) H3)
    (hd : ∀ H, Pv n H → Qd H) :
    ∃ W : Nat → Nat → Hp → Prop, (∃ m, W 0 m H0) ∧ ∀ i m H, W i m H → (J.stop i H ∧ Qd H) ∨ (J.go i H ∧ ∃ Nx : Hp → Prop, (∀ H', Nx H' → ∃ m', m' < m ∧ W (i + 1) m' H') ∧ ∀ x H', J.yld i H x H' → g x (wipe σ vs) H' fun σ2 H2 => wipe σ2 vs = wipe σ vs ∧ tt σ2 H2 fun b H3 => if b = true then te σ2 H3 fun y H4 => ∃ acc, H4 D = some (.lst acc) ∧ acc.length < sizeLine ∧ Nx (L2.upd H4 D (.lst (acc ++ [y]))) else Nx H3) := by
  refine ⟨fun i m H => i + m = n ∧ Pv i H, ⟨n, Nat.zero_add n, h0⟩, fun i m H hW => ?_⟩
  obtain ⟨e, p⟩ := hW
  by_cases hi : i < n
  · refine .inr ⟨w.goes i H hi (hG i H (by omega) p), Pv (i + 1), fun H' h => ⟨m - 1, by omega, by omega, h⟩, fun x H' y => hs i x H H' hi p (w.yields i H x H' hi (hG i H (by omega) p) y)⟩
  · have e2 : i = n := by omega
    subst e2
    exact .inl ⟨w.stops H (hG _ H (by omega) p), hd H p⟩
/-- a comprehension over pairs -/
theorem lcp {J : It} {n : Nat} {G : Hp → Prop} {xs ys : Nat → Option V} (w : Walk J n G (YPair xs ys)) (hn : n ≤ 100000) {te : TE} {tt : TT} {g : TG} {vs : List Nat} {σ : L2.St} {H : Hp} {Q : VK} (f : Nat → Bool) (e : Nat → El)
    (hG : ∀ H', Same H H' → G H')
    (hs : ∀ i x y T H', i < n → xs i = some x → ys i = some y → Same H H' → H' T = none → ∀ (Kt : V → Hp → Prop) (Kf : Hp → Prop), (∀ z H4, Same (L2.upd H' T (.tup [x, y])) H4 → f i = true → (e i).at H4 z → Kt z H4) → (∀ H3, Same (L2.upd H' T (.tup [x, y])) H3 → f i = false → Kf H3) →
      g (.ref T) (wipe σ vs) (L2.upd H' T (.tup [x, y])) fun σ2 H2 => wipe σ2 vs = wipe σ vs ∧ tt σ2 H2 fun b H3 => if b = true then te σ2 H3 Kt else Kf H3)
    (q : ∀ D H' zs, H D = none → Same H H' → H' D = some (.lst zs) → Els H' e zs ((List.range n).filter f) → Q (.ref D) H') (D : Addr) (hD : H D = none) :
    ∃ W : Nat → Nat → Hp → Prop, (∃ m, W 0 m (L2.upd H D (.lst []))) ∧ ∀ i m H, W i m H → (J.stop i H ∧ Q (.ref D) H) ∨ (J.go i H ∧ ∃ Nx : Hp → Prop, (∀ H', Nx H' → ∃ m', m' < m ∧ W (i + 1) m' H') ∧ ∀ x H', J.yld i H x H' → g x (wipe σ vs) H' fun σ2 H2 => wipe σ2 vs = wipe σ vs ∧ tt σ2 H2 fun b H3 => if b = true then te σ2 H3 fun y H4 => ∃ acc, H4 D = some (.lst acc) ∧ acc.length < sizeLine ∧ Nx (L2.upd H4 D (.lst (acc ++ [y]))) else Nx H3) := by
  refine lc_it w (Qd := fun H' => Q (.ref D) H') (LcInv H e f D) ⟨hD, same_new hD, [], upd_same, .nil⟩ (fun i H' _ I => hG H' I.2.1) (fun i x H' H'' hi I hy => ?_) fun H' I => ?_
  · obtain ⟨T, x, y, rfl, nT, rfl, e1, e2⟩ := hy
    have I2 : LcInv H e f D i (L2.upd H' T (.tup [x, y])) := by
      obtain ⟨a, b, ys, c, d⟩ := I
      exact ⟨a, Same.upd b nT, ys, upd_old nT c, Els.imp (fun y i h => El.same (same_new nT) h) d⟩
    exact lc_turn (Turn := fun Kt Kf => g (.ref T) (wipe σ vs) (L2.upd H' T (.tup [x, y])) fun σ2 H2 => wipe σ2 vs = wipe σ vs ∧ tt σ2 H2 fun b H3 => if b = true then te σ2 H3 Kt else Kf H3) I2 (by omega) (hs i x y T H' hi e1 e2 I.2.1 nT)
  · obtain ⟨_, sm, ys, eD, g⟩ := I
    exact q D H' ys hD sm eD g
/-- .. over zip(a, b) -/
theorem lcz {K : PySem.W.Frag} {ta : TA} {te : TE} {tt : TT} {g : TG} {vs : List Nat} {σ : L2.St} {H : Hp} {Q : VK} {P : List V → Hp → Prop} (h : Ea ta σ H P)
    (k : ∀ us H1, P us H1 → ∃ (a b : Addr) (xs ys : List V) (f : Nat → Bool) (e : Nat → El), us = [.ref a, .ref b] ∧ SqL K H1 a xs ∧ SqL K H1 b ys ∧ xs.length = ys.length ∧ xs.length ≤ 100000 ∧
      (∀ i x y T H', i < xs.length → xs[i]? = some x → ys[i]? = some y → Same H1 H' → H' T = none → ∀ (Kt : V → Hp → Prop) (Kf : Hp → Prop), (∀ z H4, Same (L2.upd H' T (.tup [x, y])) H4 → f i = true → (e i).at H4 z → Kt z H4) → (∀ H3, Same (L2.upd H' T (.tup [x, y])) H3 → f i = false → Kf H3) →
        g (.ref T) (wipe σ vs) (L2.upd H' T (.tup [x, y])) fun σ2 H2 => wipe σ2 vs = wipe σ vs ∧ tt σ2 H2 fun b H3 => if b = true then te σ2 H3 Kt else Kf H3) ∧
      (∀ D H' zs, H1 D = none → Same H1 H' → H' D = some (.lst zs) → Els H' e zs ((List.range xs.length).filter f) → Q (.ref D) H')) : tLc (iZip K ta) g tt te vs σ H Q := by
  refine h _ fun us H1 p => ?_
  obtain ⟨a, b, xs, ys, f, e, rfl, hx, hy, hl, hn, hs, q⟩ := k us H1 p
  refine ⟨a, b, xs, ys, rfl, hx, hy, fun D hD => ?_⟩
  exact lcp (walk_zip (n := xs.length) (by omega)) hn f e (fun H' s => ⟨Same.seq s hx, Same.seq s hy⟩) hs q D hD
/-- .. over enumerate(a) -/
theorem lcen {K : PySem.W.Frag} {ta : TA} {te : TE} {tt : TT} {g : TG} {vs : List Nat} {σ : L2.St} {H : Hp} {Q : VK} {P : List V → Hp → Prop} (h : Ea ta σ H P)
    (k : ∀ us H1, P us H1 → ∃ (a : Addr) (xs : List V) (f : Nat → Bool) (e : Nat → El), us = [.ref a] ∧ SqL K H1 a xs ∧ xs.length ≤ 100000 ∧
      (∀ i x T H', i < xs.length → xs[i]? = some x → Same H1 H' → H' T = none → ∀ (Kt : V → Hp → Prop) (Kf : Hp → Prop), (∀ z H4, Same (L2.upd H' T (.tup [.int (i : Nat), x])) H4 → f i = true → (e i).at H4 z → Kt z H4) → (∀ H3, Same (L2.upd H' T (.tup [.int (i : Nat), x])) H3 → f i = false → Kf H3) →
        g (.ref T) (wipe σ vs) (L2.upd H' T (.tup [.int (i : Nat), x])) fun σ2 H2 => wipe σ2 vs = wipe σ vs ∧ tt σ2 H2 fun b H3 => if b = true then te σ2 H3 Kt else Kf H3) ∧
      (∀ D H' zs, H1 D = none → Same H1 H' → H' D = some (.lst zs) → Els H' e zs ((List.range xs.length).filter f) → Q (.ref D) H')) : tLc (iEnum K ta) g tt te vs σ H Q := by
  refine h _ fun us H1 p => ?_
  obtain ⟨a, xs, f, e, rfl, hx, hn, hs, q⟩ := k us H1 p
  refine ⟨a, xs, rfl, hx, fun D hD => ?_⟩
  refine lcp (walk_enum (K := K) (a := a) (xs := xs)) hn f e (fun H' s => Same.seq s hx) (fun i x y T H' hi e1 e2 s n Kt Kf hT hF => ?_) q D hD
  cases Option.some.inj e1
  exact hs i y T H' hi e2 s n Kt Kf hT hF
/-- for i, x in enumerate(a) -/
theorem fen {K : PySem.W.Frag} {ta : TA} {g : TG} {tb : TS} {D : Ends} {σ : L2.St} {H : Hp} {P : List V → Hp → Prop} (h : Ea ta σ H P)
    (k : ∀ us H1, P us H1 → ∃ (a : Addr) (xs : List V) (Pv : Nat → L2.St → Hp → Prop), us = [.ref a] ∧ SqL K H1 a xs ∧ Pv 0 σ H1 ∧ (∀ i σ' H', Pv i σ' H' → SqL K H' a xs) ∧
      (∀ (i : Nat) x T σ' H', xs[i]? = some x → Pv i σ' H' → H' T = none → g (.ref T) σ' (L2.upd H' T (.tup [.int (i : Nat), x])) fun σ2 H2 => tb { D with nx := Pv (i + 1), ct := Pv (i + 1), bk := D.nx } σ2 H2) ∧ ∀ σ' H', Pv xs.length σ' H' → D.nx σ' H') : tFor (iEnum K ta) g tb D σ H := by
  refine h _ fun us H1 p => ?_
  obtain ⟨a, xs, Pv, rfl, hx, h0, hl, hs, hd⟩ := k us H1 p
  refine ⟨a, xs, rfl, hx, ?_⟩
  refine for_it (walk_enum (K := K) (a := a) (xs := xs)) Pv h0 (fun i σ H _ p => hl i σ H p) (fun i x σ H H' hi p hy => ?_) hd
  obtain ⟨T, x, y, rfl, nT, rfl, e1, e2⟩ := hy
  cases Option.some.inj e1
  exact hs i y T σ H e2 p nT
/-- for .. in range(n, m, -1) -/
theorem fr4 {ta : TA} {g : TG} {tb : TS} {D : Ends} {σ : L2.St} {H : Hp} (n m : Nat) (hn : n ≤ 100000) (hm : m ≤ n) (ha : ∀ R : List V → Hp → Prop, R [.int (n : Int), .int (m : Int), .int (-1)] H → ta σ H R) (Pv : Nat → L2.St → Hp → Prop) (h0 : Pv 0 σ H)
    (hs : ∀ (i : Nat) σ' H', i < n - m → Pv i σ' H' → g (.int ((n - i : Nat) : Int)) σ' H' fun σ2 H2 => tb { D with nx := Pv (i + 1), ct := Pv (i + 1), bk := D.nx } σ2 H2) (hd : ∀ σ' H', Pv (n - m) σ' H' → D.nx σ' H') : tFor (iRng3 ta) g tb D σ H := by
  refine fr3 n (n - m) hn (by omega) (fun R h => ha R ?_) Pv h0 hs hd
  have e : ((n : Int) - ((n - m : Nat) : Int)) = (m : Int) := by omega
  rw [e] at h
  exact h
theorem divP {i : Int} {m : Nat} (h0 : 0 < m) (h : m < 2 ^ 8000) : CDivP i (m : Int) := by
  refine ⟨Int.ofNat_lt.mpr h0, ?_⟩
  unfold Builtin.divisionGoesByPylong
  have e : ((m : Int) == 0) = false := by
    rw [beq_eq_false_iff_ne]
    omega
  have l : (m : Int).natAbs.log2 < 8000 := by
    rw [Int.natAbs_natCast]
    exact (Nat.log2_lt (by omega)).mpr h
  simp only [e, Bool.false_eq_true, if_false]
  have d : decide ((m : Int).natAbs.log2 / 30 + 1 > 300) = false := decide_eq_false (by omega)
  rw [d]
  rfl
theorem cnt_lt (n : Nat) (h : n ≤ 401) : cnt n < 2 ^ 8000 := by
  have h1 := cnt_pow n
  have h2 : 4 ^ n = 2 ^ (2 * n) := by rw [Nat.pow_mul]
  have h3 : 2 ^ (2 * n) ≤ 2 ^ 8000 := Nat.pow_le_pow_right (by decide) (by omega)
  generalize 2 ^ 8000 = z at *
  omega
theorem cnt_int (n : Nat) : (1 * (2 : Int) ^ (2 * n) - 1) / 3 = (cnt n : Int) := by
  have h1 := cnt_pow n
  have h2 : 4 ^ n = 2 ^ (2 * n) := by rw [Nat.pow_mul]
  rw [Int.one_mul, ← PySem.W.kbt_cast, ← h2, ← h1]
  omega
theorem toNat2 (n : Nat) : (2 * (n : Int)).toNat = 2 * n := by omega
/-! ### bits -/
theorem xor_div (x y m : Nat) : (x ^^^ y) / 2 ^ m = x / 2 ^ m ^^^ y / 2 ^ m := by
  rw [← Nat.shiftRight_eq_div_pow, ← Nat.shiftRight_eq_div_pow, ← Nat.shiftRight_eq_div_pow, Nat.shiftRight_xor_distrib]
theorem or_div (x y m : Nat) : (x ||| y) / 2 ^ m = x / 2 ^ m ||| y / 2 ^ m := by
  rw [← Nat.shiftRight_eq_div_pow, ← Nat.shiftRight_eq_div_pow, ← Nat.shiftRight_eq_div_pow, Nat.shiftRight_or_distrib]
theorem or_zero2 {x y : Nat} : (x ||| y) = 0 ↔ x = 0 ∧ y = 0 := Nat.or_eq_zero_iff
theorem xor_zero2 {x y : Nat} : (x ^^^ y) = 0 ↔ x = y := by
  constructor
  · intro h
    have e : x ^^^ y ^^^ y = y := by rw [h, Nat.zero_xor]
    rw [Nat.xor_assoc, Nat.xor_self, Nat.xor_zero] at e
    exact e
  · intro h
    rw [h, Nat.xor_self]
theorem bits_le (z m : Nat) : Builtin.Int.intBits (z : Int) ≤ m ↔ z / 2 ^ m = 0 := by
  have hp := Nat.two_pow_pos m
  unfold Builtin.Int.intBits
  rw [Nat.div_eq_zero_iff]
  by_cases h : z = 0
  · subst h
    simp
    exact hp
  · have e : (((z : Nat) : Int) == 0) = false := by
      rw [beq_eq_false_iff_ne]
      omega
    rw [e, if_neg Bool.false_ne_true, Int.natAbs_natCast]
    have := Nat.log2_lt (n := z) (k := m) h
    omega
theorem bits_Sh {n : Nat} {a b : Pl} (ha : In n a) (hb : In n b) : Builtin.Int.intBits (Builtin.bitOr (Builtin.bitXor (a.1 : Int) (b.1 : Int)) (Builtin.bitXor (a.2 : Int) (b.2 : Int))) = Sh n a b := by
  rw [Bits.bitXor_pp (Int.natCast_nonneg _) (Int.natCast_nonneg _), Bits.bitXor_pp (Int.natCast_nonneg _) (Int.natCast_nonneg _), Bits.bitOr_pp (Int.natCast_nonneg _) (Int.natCast_nonneg _)]
  simp only [Int.toNat_natCast]
  have h : ∀ m, Builtin.Int.intBits ((((a.1 ^^^ b.1) ||| (a.2 ^^^ b.2)) : Nat) : Int) ≤ m ↔ Sh n a b ≤ m := fun m => by
    rw [bits_le, or_div, xor_div, xor_div, or_zero2, xor_zero2, xor_zero2, Sh_div n a b ha hb m]
  exact Nat.le_antisymm ((h _).mpr (Nat.le_refl _)) ((h _).mp (Nat.le_refl _))
end Cf
namespace Cf
open PySem PySem.Spec PyProof.Rows L2
theorem bits_abs {z : Int} {m : Nat} : Builtin.Int.intBits z ≤ m ↔ z.natAbs < 2 ^ m := by
  have hp := Nat.two_pow_pos m
  unfold Builtin.Int.intBits
  by_cases h : z = 0
  · subst h
    simp
    exact hp
  · have e : (z == 0) = false := by
      rw [beq_eq_false_iff_ne]
      exact h
    rw [e, if_neg Bool.false_ne_true]
    have h2 : z.natAbs ≠ 0 := by omega
    have := Nat.log2_lt (n := z.natAbs) (k := m) h2
    omega
theorem sum_abs {m : Nat} : ∀ ns : List Int, (∀ z ∈ ns, z.natAbs < 2 ^ m) → ns.sum.natAbs ≤ ns.length * 2 ^ m
  | [], _ => by simp
  | n :: ns, h => by
    have h1 := h n List.mem_cons_self
    have h2 := sum_abs ns fun z hz => h z (List.mem_cons_of_mem _ hz)
    rw [List.sum_cons, List.length_cons, Nat.add_mul, Nat.one_mul]
    have := Int.natAbs_add_le n ns.sum
    omega
theorem sum_bits {ns : List Int} (hl : ns.length ≤ 63) (h : ∀ z ∈ ns, Builtin.Int.intBits z ≤ 1048576) : Builtin.Int.intBits ns.sum ≤ 1048582 := by
  rw [bits_abs]
  have h1 := sum_abs (m := 1048576) ns fun z hz => bits_abs.mp (h z hz)
  have h2 : ns.length * 2 ^ 1048576 ≤ 63 * 2 ^ 1048576 := Nat.mul_le_mul_right _ hl
  have h3 : 2 ^ 1048582 = 64 * 2 ^ 1048576 := by rw [show 1048582 = 1048576 + 6 from rfl, Nat.pow_add, Nat.mul_comm]
  have h4 := Nat.two_pow_pos 1048576
  rw [h3]
  generalize 2 ^ 1048576 = y at *
  omega
theorem mulX {i j : Int} {m n : Nat} (hi : Builtin.Int.intBits i ≤ m) (hj : Builtin.Int.intBits j ≤ n) (h : m + n ≤ 134217728) : CMulX i j := by
  show (Builtin.Int.intBits i : Int) + (Builtin.Int.intBits j : Int) ≤ 134217728
  omega
theorem bits_pw (n : Nat) : Builtin.Int.intBits ((2 : Int) ^ n) ≤ n + 1 := by
  rw [bits_abs, ← PySem.W.kbt_cast, Int.natAbs_natCast]
  exact Nat.pow_lt_pow_right (by decide) (by omega)
theorem slice_ {K : PySem.W.Frag} {H : Hp} {a : Addr} {xs : List V} {lo hi : Option Int} {Q : VK} (h : SqL K H a xs) (q : ∀ p, H p = none → Q (.ref p) (L2.upd H p (.lst (cutV xs lo hi)))) : rSlL K (.ref a) lo hi H Q := ⟨a, xs, rfl, h, q⟩
theorem cut3 {xs : List V} {y : V} (h : xs.length = 3) : cutV (xs ++ [y]) none (some 3) = xs := by
  match xs, h with
  | [a, b, c], _ => rfl
theorem cnt4 (n : Nat) : 3 * (cnt n : Int) + 1 = 2 ^ n * 2 ^ n := by
  have h1 := cnt_pow n
  have h2 : 4 ^ n = 2 ^ n * 2 ^ n := by rw [← Nat.mul_pow]
  rw [h2] at h1
  rw [← PySem.W.kbt_cast, ← Int.natCast_mul, ← h1]
  simp
end Cf
namespace Cf
open PySem PySem.Spec PyProof.Rows L2
/-! ### rows of four -/
def I4 (f : Nat → Nat) : List V := [.int (f 0 : Int), .int (f 1 : Int), .int (f 2 : Int), .int (f 3 : Int)]
theorem I4_get (f : Nat → Nat) {i : Nat} (h : i < 4) : (I4 f)[i]? = some (.int (f i : Int)) := by
  have hi' : i = 0 ∨ i = 1 ∨ i = 2 ∨ i = 3 := by omega
  rcases hi' with e | e | e | e <;> subst e <;> rfl
theorem I4_len (f : Nat → Nat) : (I4 f).length = 4 := rfl
theorem I4_congr {f g : Nat → Nat} (h : ∀ i, i < 4 → f i = g i) : I4 f = I4 g := by
  unfold I4
  rw [h 0 (by omega), h 1 (by omega), h 2 (by omega), h 3 (by omega)]
theorem I4_set (f : Nat → Nat) {q : Nat} (hq : q < 4) : (I4 f).set q (.int ((f q : Int) + 1)) = I4 (fun j => f j + if j = q then 1 else 0) := by
  have hi' : q = 0 ∨ q = 1 ∨ q = 2 ∨ q = 3 := by omega
  rcases hi' with e | e | e | e <;> subst e <;> rfl
theorem I4_ints (f : Nat → Nat) : I4 f = ([(f 0 : Int), (f 1 : Int), (f 2 : Int), (f 3 : Int)]).map V.int := rfl
theorem I4_range (f : Nat → Nat) : (List.range 4).map (fun j => V.int (f j : Int)) = I4 f := rfl
def RowsT (H : Hp) (rs : List V) (g : Nat → Nat → Nat) : Prop := ∀ i, i < 4 → ∃ a, rs[i]? = some (.ref a) ∧ H a = some (.lst (I4 (g i)))
theorem RowsT.same {H H' : Hp} {rs : List V} {g : Nat → Nat → Nat} (s : Same H H') (h : RowsT H rs g) : RowsT H' rs g := fun i hi => by
  obtain ⟨a, h1, h2⟩ := h i hi
  exact ⟨a, h1, s _ _ h2⟩
/-- the ways of a part, quarter by quarter -/
def wpi (q : Nat) (f : Nat → Nat) (g : Nat → Nat → Nat) : Nat → Nat → Nat
  | 0, j => f j + if j = q then 1 else 0
  | i + 1, j => wpi q f g i j + if i = q then 0 else g (3 - i) j
theorem wpi_W {m : Nat} {out : Pl} {w : Nat} : wpi (qn m out) (W m (md m out)) (fun c => W m (crn m c)) 4 w = W (m + 1) out w := by
  rw [W_step]
  show W m (md m out) w + (if w = qn m out then 1 else 0) + _ + _ + _ + _ = _
  simp only [Nat.reduceSub]
  omega
theorem crn_md (n c : Nat) (hc : c < 4) : md n (crn (n + 1) c) = crn n c := by rw [crn_sh n c hc, md_sh hc (crn_in n c hc)]
theorem wpi_crn {m c w : Nat} (hc : c < 4) : wpi c (W m (crn m c)) (fun c => W m (crn m c)) 4 w = W (m + 1) (crn (m + 1) c) w := by
  have h := wpi_W (m := m) (out := crn (m + 1) c) (w := w)
  rw [qn_crn m c hc, crn_md m c hc] at h
  exact h
theorem wpi_out {m w : Nat} {o : Pl} : wpi (qn m o) (W m (md m o)) (fun c => W m (crn m c)) 4 w = W (m + 1) (md (m + 1) o) w := by
  have h := wpi_W (m := m) (out := md (m + 1) o) (w := w)
  rw [qn_md (by omega), md_md (by omega)] at h
  exact h
/-- for .. in range(1, n + 1) -/
theorem fr2 {ta : TA} {g : TG} {tb : TS} {D : Ends} {σ : L2.St} {H : Hp} (n : Nat) (hn : n ≤ 100000) (ha : ∀ R : List V → Hp → Prop, R [.int 1, .int ((n : Int) + 1)] H → ta σ H R) (Pv : Nat → L2.St → Hp → Prop) (h0 : Pv 0 σ H)
    (hs : ∀ (i : Nat) σ' H', i < n → Pv i σ' H' → g (.int ((i + 1 : Nat) : Int)) σ' H' fun σ2 H2 => tb { D with nx := Pv (i + 1), ct := Pv (i + 1), bk := D.nx } σ2 H2) (hd : ∀ σ' H', Pv n σ' H' → D.nx σ' H') : tFor (iRng2 ta) g tb D σ H := by
  refine ha _ ⟨1, (n : Int) + 1, rfl, ⟨by omega, by omega, by omega, by omega⟩, ?_⟩
  have e : ((n : Int) + 1 - 1).toNat = n := by omega
  rw [e]
  refine for_range (lo := 1) (n := n) Pv h0 (fun i σ' H' hi p => ?_) hd
  have e0 : (1 : Int) + (i : Int) = ((i + 1 : Nat) : Int) := by omega
  rw [e0]
  exact hs i σ' H' hi p
end Cf
namespace Cf
open PySem PySem.Spec PyProof.Rows L2
/-- for .. in a tuple that an expression gives -/
theorem forT {K : PySem.W.Frag} {tl : TE} {g : TG} {tb : TS} {D : Ends} {σ : L2.St} {H : Hp} {P : V → Hp → Prop} (h : Ee tl σ H P)
    (k : ∀ x H1, P x H1 → ∃ (a : Addr) (xs : List V) (Pv : Nat → L2.St → Hp → Prop), x = .ref a ∧ SqT K H1 a xs ∧ Pv 0 σ H1 ∧ (∀ i σ' H', Pv i σ' H' → SqT K H' a xs) ∧
      (∀ (i : Nat) x σ' H', xs[i]? = some x → Pv i σ' H' → g x σ' H' fun σ2 H2 => tb { D with nx := Pv (i + 1), ct := Pv (i + 1), bk := D.nx } σ2 H2) ∧ ∀ σ' H', Pv xs.length σ' H' → D.nx σ' H') : tFor (iTup K tl) g tb D σ H := by
  refine h _ fun x H1 p => ?_
  obtain ⟨a, xs, Pv, rfl, hs, h0, hl, ht, hd⟩ := k x H1 p
  exact ⟨a, rfl, ⟨xs, hs⟩, for_tup Pv h0 (fun i σ' H' _ p => hl i σ' H' p) ht hd⟩
end Cf
namespace Cf
open PySem PySem.Spec PyProof.Rows L2
/-! ### over a list or a tuple -/
def iSeq (K : PySem.W.Frag) (i : Nat) : TI := fun σ H R => ∃ a, σ[i]? = some (some (.ref a)) ∧ (((∃ xs, SqL K H a xs) ∧ R (Itl K a) H) ∨ ((∃ xs, SqT K H a xs) ∧ R (Itt K a) H))
theorem pi_seqV {X : Cx} {tg l : Expr} {i : Nat} (pv : PE X l (tVar i)) : PI X tg l (iSeq X.K i) := ⟨fun pins s σ H R I h => by
  obtain ⟨a, ha, h | h⟩ := h
  · exact (pi_list pv).run pins s σ H R I ⟨.ref a, ha, a, rfl, h⟩
  · exact (pi_tup pv).run pins s σ H R I ⟨.ref a, ha, a, rfl, h⟩⟩
/-- a comprehension over a tuple -/
theorem lct {K : PySem.W.Frag} {te : TE} {tt : TT} {g : TG} {vs : List Nat} {σ : L2.St} {H : Hp} {Q : VK} {a : Addr} {xs : List V} (hl : H a = some (.tup xs)) (f : Nat → Bool) (e : Nat → El) (hn : xs.length ≤ 100000)
    (hs : ∀ i x H', xs[i]? = some x → Same H H' → ∀ (Kt : V → Hp → Prop) (Kf : Hp → Prop), (∀ y H4, Same H' H4 → f i = true → (e i).at H4 y → Kt y H4) → (∀ H3, Same H' H3 → f i = false → Kf H3) → g x (wipe σ vs) H' fun σ2 H2 => wipe σ2 vs = wipe σ vs ∧ tt σ2 H2 fun b H3 => if b = true then te σ2 H3 Kt else Kf H3)
    (q : ∀ D H' ys, H D = none → Same H H' → H' D = some (.lst ys) → Els H' e ys ((List.range xs.length).filter f) → Q (.ref D) H') (D : Addr) (hD : H D = none) :
    ∃ W : Nat → Nat → Hp → Prop, (∃ m, W 0 m (L2.upd H D (.lst []))) ∧ ∀ i m H, W i m H → ((Itt K a).stop i H ∧ Q (.ref D) H) ∨ ((Itt K a).go i H ∧ ∃ Nx : Hp → Prop, (∀ H', Nx H' → ∃ m', m' < m ∧ W (i + 1) m' H') ∧ ∀ x H', (Itt K a).yld i H x H' → g x (wipe σ vs) H' fun σ2 H2 => wipe σ2 vs = wipe σ vs ∧ tt σ2 H2 fun b H3 => if b = true then te σ2 H3 fun y H4 => ∃ acc, H4 D = some (.lst acc) ∧ acc.length < sizeLine ∧ Nx (L2.upd H4 D (.lst (acc ++ [y]))) else Nx H3) := by
  refine lc_tup (xs := xs) (LcInv H e f D) ⟨hD, same_new hD, [], upd_same, .nil⟩ (fun i H' _ I => .of (I.2.1 _ _ hl)) (fun i x H' hi I => ?_) fun H' I => ?_
  · have hlt := (List.getElem?_eq_some_iff.mp hi).1
    exact lc_turn (Turn := fun Kt Kf => g x (wipe σ vs) H' fun σ2 H2 => wipe σ2 vs = wipe σ vs ∧ tt σ2 H2 fun b H3 => if b = true then te σ2 H3 Kt else Kf H3) I (by omega) (hs i x H' hi I.2.1)
  · obtain ⟨_, sm, ys, eD, g⟩ := I
    exact q D H' ys hD sm eD g
end Cf
namespace Cf
open PySem PySem.Spec PyProof.Rows L2
/-- a comprehension over a list: what is asked behind the list -/
theorem lcl_ {K : PySem.W.Frag} {te : TE} {tt : TT} {g : TG} {vs : List Nat} {σ : L2.St} {H : Hp} {Q : VK} {a : Addr} {xs : List V} (hl : SqL K H a xs) (f : Nat → Bool) (e : Nat → El) (hn : xs.length ≤ 100000)
    (hs : ∀ i x H', xs[i]? = some x → Same H H' → ∀ (Kt : V → Hp → Prop) (Kf : Hp → Prop), (∀ y H4, Same H' H4 → f i = true → (e i).at H4 y → Kt y H4) → (∀ H3, Same H' H3 → f i = false → Kf H3) → g x (wipe σ vs) H' fun σ2 H2 => wipe σ2 vs = wipe σ vs ∧ tt σ2 H2 fun b H3 => if b = true then te σ2 H3 Kt else Kf H3)
    (q : ∀ D H' ys, H D = none → Same H H' → H' D = some (.lst ys) → Els H' e ys ((List.range xs.length).filter f) → Q (.ref D) H') (D : Addr) (hD : H D = none) :
    ∃ W : Nat → Nat → Hp → Prop, (∃ m, W 0 m (L2.upd H D (.lst []))) ∧ ∀ i m H, W i m H → ((Itl K a).stop i H ∧ Q (.ref D) H) ∨ ((Itl K a).go i H ∧ ∃ Nx : Hp → Prop, (∀ H', Nx H' → ∃ m', m' < m ∧ W (i + 1) m' H') ∧ ∀ x H', (Itl K a).yld i H x H' → g x (wipe σ vs) H' fun σ2 H2 => wipe σ2 vs = wipe σ vs ∧ tt σ2 H2 fun b H3 => if b = true then te σ2 H3 fun y H4 => ∃ acc, H4 D = some (.lst acc) ∧ acc.length < sizeLine ∧ Nx (L2.upd H4 D (.lst (acc ++ [y]))) else Nx H3) := by
  refine lc_list (xs := xs) (LcInv H e f D) ⟨hD, same_new hD, [], upd_same, .nil⟩ (fun i H' _ I => I.2.1.seq hl) (fun i x H' hi I => ?_) fun H' I => ?_
  · have hlt := (List.getElem?_eq_some_iff.mp hi).1
    exact lc_turn (Turn := fun Kt Kf => g x (wipe σ vs) H' fun σ2 H2 => wipe σ2 vs = wipe σ vs ∧ tt σ2 H2 fun b H3 => if b = true then te σ2 H3 Kt else Kf H3) I (by omega) (hs i x H' hi I.2.1)
  · obtain ⟨_, sm, ys, eD, g⟩ := I
    exact q D H' ys hD sm eD g
theorem Paired_app {α β : Type} {R : α → β → Prop} : ∀ {xs : List α} {ps : List β} {ys : List α} {qs : List β}, Paired R xs ps → Paired R ys qs → Paired R (xs ++ ys) (ps ++ qs)
  | _, _, _, _, .nil, h => h
  | _, _, _, _, .cons a r, h => .cons a (Paired_app r h)
end Cf
namespace Cf
open PySem PySem.Spec PyProof.Rows L2
/-! ### lists of pieces as data -/
def PieceD (H : Hp) (x : V) (t : Tr) : Prop := ∃ a ys, x = .ref a ∧ H a = some (.lst ys) ∧ PlsT H ys (pc t)
theorem PieceD.of {Av : List Addr} {H H' : Hp} {x : V} {t : Tr} (h : PieceX Av H H' x t) : PieceD H' x t := by
  obtain ⟨a, ys, e, _, _, h1, h2⟩ := h
  exact ⟨a, ys, e, h1, h2⟩
theorem PieceD.same {H H' : Hp} {x : V} {t : Tr} (s : Same H H') (h : PieceD H x t) : PieceD H' x t := by
  obtain ⟨a, ys, e, h1, h2⟩ := h
  exact ⟨a, ys, e, s _ _ h1, h2.same s⟩
abbrev PiecesD (H : Hp) (xs : List V) (ts : List Tr) : Prop := Paired (PieceD H) xs ts
theorem PiecesD.imp {H H' : Hp} (f : ∀ x t, PieceD H x t → PieceD H' x t) : ∀ {xs : List V} {ts : List Tr}, PiecesD H xs ts → PiecesD H' xs ts
  | _, _, .nil => .nil
  | _, _, .cons a r => .cons (f _ _ a) (PiecesD.imp f r)
theorem PiecesD.of {Av : List Addr} {H H' : Hp} : ∀ {xs : List V} {ts : List Tr}, PiecesX Av H H' xs ts → PiecesD H' xs ts
  | _, _, .nil => .nil
  | _, _, .cons a r => .cons (PieceD.of a) (PiecesD.of r)
theorem PiecesD.get' {H : Hp} : ∀ {xs : List V} {ts : List Tr} {i : Nat} {x : V}, PiecesD H xs ts → xs[i]? = some x → ∃ t, ts[i]? = some t ∧ PieceD H x t
  | _, _, _, _, .nil, e => by simp at e
  | _, _, 0, _, .cons r _, e => by simp at e; subst e; exact ⟨_, rfl, r⟩
  | _, _, i + 1, x, .cons _ t, e => by
    obtain ⟨p, h1, h2⟩ := PiecesD.get' (i := i) (x := x) t (by simpa using e)
    exact ⟨p, by simpa using h1, h2⟩
def pcD (t : Tr) : PyData := plsD (pc t)
theorem PieceD.dp {K : PySem.W.Frag} {H : Hp} {x : V} {t : Tr} (h : PieceD H x t) : Dp K H x (pcD t) := by
  obtain ⟨a, ys, rfl, h1, h2⟩ := h
  exact h2.dpl (.of h1)
theorem PiecesD.dp {K : PySem.W.Frag} {H : Hp} : ∀ {xs : List V} {ts : List Tr}, PiecesD H xs ts → DpAll K H xs (ts.map pcD)
  | _, _, .nil => .nil
  | _, _, .cons a r => .cons a.dp (PiecesD.dp r)
theorem pcD_lay : ∀ ts : List Tr, PyData.canLayAll0 (ts.map pcD) = true
  | [] => by simp [PyData.canLayAll0]
  | t :: ts => by
    have h : PyData.canLay0 (pcD t) = true := by
      unfold pcD plsD
      simp only [PyData.canLay0]
      exact plsD_lay (pc t)
    simp [PyData.canLayAll0, h, pcD_lay ts]
theorem pcD_depth : ∀ ts : List Tr, PyData.depthAll (ts.map pcD) ≤ 2
  | [] => by simp [PyData.depthAll]
  | t :: ts => by
    have h1 := pcD_depth ts
    have h2 : PyData.depth (pcD t) ≤ 2 := by
      have h3 := plsD_depth (pc t)
      unfold pcD plsD
      simp only [PyData.depth]
      omega
    simp only [List.map_cons, PyData.depthAll]
    omega
theorem pcD_shaped (ts : List Tr) : SeqAt.shaped (.list (ts.map pcD)) = true := by
  have h1 := pcD_depth ts
  have h2 : PyData.depth (.list (ts.map pcD)) ≤ 64 := by
    simp only [PyData.depth]
    omega
  show (PyData.canLay0 (.list (ts.map pcD)) && decide (PyData.depth (.list (ts.map pcD)) ≤ 64)) = true
  rw [Bool.and_eq_true]
  refine ⟨?_, decide_eq_true h2⟩
  simp only [PyData.canLay0]
  exact pcD_lay ts
theorem pcD_any (ts : List Tr) (t : Tr) (h4 : t.2.2 < 4) (hs : ∀ s ∈ ts, s.2.2 < 4) : ((ts.map pcD).any fun z => PyData.eqv z (pcD t)) = decide (t ∈ ts) := by
  induction ts with
  | nil => simp
  | cons q r ih =>
    have hq := hs q List.mem_cons_self
    have e : PyData.eqv (pcD q) (pcD t) = decide (q = t) := by
      unfold pcD
      rw [plsD_eqv, decide_eq_decide]
      exact ⟨fun h => pc_inj hq h4 h, fun h => by rw [h]⟩
    rw [List.map_cons, List.any_cons, ih (fun s h => hs s (List.mem_cons_of_mem _ h)), e, Bool.eq_iff_iff, Bool.or_eq_true, decide_eq_true_eq, decide_eq_true_eq, decide_eq_true_eq, List.mem_cons]
    constructor
    · rintro (e | e)
      · exact .inl e.symm
      · exact .inr e
    · rintro (e | e)
      · exact .inl e.symm
      · exact .inr e
theorem notIn_pcs {K : PySem.W.Frag} {H : Hp} {a : Addr} {x : V} {xs : List V} {t : Tr} {ts : List Tr} {Q : VK} (hx : PieceD H x t) (ha : SqL K H a xs) (h : PiecesD H xs ts) (h4 : t.2.2 < 4) (hs : ∀ s ∈ ts, s.2.2 < 4) (q : Q (.bl (!decide (t ∈ ts))) H) : rNotInD K x (.ref a) H Q :=
  ⟨_, ts.map pcD, hx.dp, .lst ha h.dp, plsD_shaped (pc t), pcD_shaped ts, by rw [pcD_any ts t h4 hs]; exact q⟩
theorem PiecesD.same {H H' : Hp} (s : Same H H') {xs : List V} {ts : List Tr} (h : PiecesD H xs ts) : PiecesD H' xs ts := PiecesD.imp (fun _ _ h => PieceD.same s h) h
theorem I4_neL {K : PySem.W.Frag} {H : Hp} {a b : Addr} {f : Nat → Nat} {ms : List Int} {Q : VK} (ha : H a = some (.lst (I4 f))) (hb : H b = some (.lst (ms.map V.int))) (e : [(f 0 : Int), (f 1 : Int), (f 2 : Int), (f 3 : Int)] = ms) (q : Q (.bl false) H) : rNeD K (.ref a) (.ref b) H Q := by
  refine ne_ints (ns := [(f 0 : Int), (f 1 : Int), (f 2 : Int), (f 3 : Int)]) (ms := ms) (.of ha) (.of hb) ?_
  rw [decide_eq_true e]
  exact q
/-- a case told on paper -/
def CaseT (H : Hp) (x : V) (c : Nat × Pl × Pl × Nat × Int) : Prop := ∃ t v v2, x = .ref t ∧ H t = some (.tup [.int (c.1 : Int), v, v2, .int (c.2.2.2.1 : Int), .int c.2.2.2.2]) ∧ PlT H v c.2.1 ∧ PlT H v2 c.2.2.1
theorem CaseT.same {H H' : Hp} {x : V} {c : Nat × Pl × Pl × Nat × Int} (s : Same H H') (h : CaseT H x c) : CaseT H' x c := by
  obtain ⟨t, v, v2, e, h1, h2, h3⟩ := h
  exact ⟨t, v, v2, e, s _ _ h1, h2.same s, h3.same s⟩
theorem CaseT.all {H H' : Hp} (s : Same H H') : ∀ {xs : List V} {cs : List (Nat × Pl × Pl × Nat × Int)}, Paired (CaseT H) xs cs → Paired (CaseT H') xs cs
  | _, _, .nil => .nil
  | _, _, .cons a r => .cons (a.same s) (CaseT.all s r)
theorem CaseT.get' {H : Hp} : ∀ {xs : List V} {cs : List (Nat × Pl × Pl × Nat × Int)} {i : Nat} {x : V}, Paired (CaseT H) xs cs → xs[i]? = some x → ∃ c, cs[i]? = some c ∧ CaseT H x c
  | _, _, _, _, .nil, e => by simp at e
  | _, _, 0, _, .cons r _, e => by simp at e; subst e; exact ⟨_, rfl, r⟩
  | _, _, i + 1, x, .cons _ t, e => by
    obtain ⟨p, h1, h2⟩ := CaseT.get' (i := i) (x := x) t (by simpa using e)
    exact ⟨p, by simpa using h1, h2⟩
end Cf
namespace Cf
open PySem PySem.Spec PyProof.Rows L2
theorem sz5 : 5 ≤ sizeLine := by decide
theorem sz6 : 6 ≤ sizeLine := by decide
theorem sz8 : 8 ≤ sizeLine := by decide
theorem sz11 : 11 ≤ sizeLine := by decide
end Cf

namespace Cf
open PySem PySem.Spec PyProof.Rows L2
/-! ### a def that is refused: what it raises -/
structure CalX (P : Program) (w : World) (K : PySem.W.Frag) (mg : Str → Option Value) (base : Heap) (x : Str) (ps : List Str) (sp : Sp) (k : Nat) : Prop where
  ex : ∃ f fd, FnOk P w K mg base (L2.CX P w) k f fd ps sp ∧ mg x = some (.ref f) ∧ PySem.W.keepIn K (.ref f) = true ∧ Binds K fd ps []
section
variable {P : Program} {w : World} {K : PySem.W.Frag} {mg : Str → Option Value} {base : Heap} {x : Str} {st : Stmt} {ps N : List Str} {sp : Sp} {j k : Nat}
theorem CalX.mono (C : CalX P w K mg base x ps sp j) (h : j ≤ k) : CalX P w K mg base x ps sp k := by
  obtain ⟨f, fd, G, m, kp, b⟩ := C.ex
  exact ⟨f, fd, G.mono h, m, kp, b⟩
theorem Def.calX (D : Def K mg x st ps) (S : FnScope N ps (defScope st)) (len : ∀ vs H Q E, sp vs H Q E → vs.length = ps.length)
    (hbody : ∀ (f : Addr) (cdv : Value) (A : Around) (outer : List Env) (s : Shared) (H : Hp) (vs : List V) (Q : VK) (E : XK), Room k (A.deeper (envOfC x (defScope st) s.heap.objs.size f cdv)) → sp vs H Q E →
      ∃ t, PSs (cxOf (L2.CX P w) P w K mg base N x (defScope st) f cdv A outer s H E) (defBody st) t ∧ t { nx := fun _ H' => Q .non H', rt := Q } (start N vs) H) : CalX P w K mg base x ps sp (k + 1) := by
  obtain ⟨f, fd, F, m, b⟩ := D.ex
  exact ⟨f, fd, F.okX S len fun cdv A outer s H vs Q E hr h => hbody f cdv A outer s H vs Q E hr h, m, F.kp, b⟩
end
structure ExF (K : PySem.W.Frag) (mg : Str → Option Value) (x : Str) (C : Addr) : Prop where
  g : mg x = some (.ref C)
  xI : PySem.W.excIn K C [.type "ValueError", .type "Exception", .type "BaseException", .type "object"] "ValueError.__new__" = true
  kC : PySem.W.keepIn K (.ref C) = true
  bC : PySem.W.subIn K (.ref C) (.type "BaseException") = some true
  tC : PySem.W.typeIn K (.ref C) = some (.type "type")
structure Ex6 (K : PySem.W.Frag) (mg : Str → Option Value) (CB CP CN : Addr) : Prop where
  b : ExF K mg "BadFloor" CB
  p : ExF K mg "BadPlace" CP
  n : ExF K mg "BadNumber" CN
/-! ### what is no number, no place -/
inductive NoNum (H : Hp) (j : Int) : V → Prop
  | non : NoNum H j .non
  | bl (b : Bool) : NoNum H j (.bl b)
  | int (i : Int) : ¬ (0 ≤ i ∧ i < j) → NoNum H j (.int i)
  | str (x : Str) : NoNum H j (.str x)
  | lst (a : Addr) (xs : List V) : H a = some (.lst xs) → NoNum H j (.ref a)
  | tup (a : Addr) (xs : List V) : H a = some (.tup xs) → NoNum H j (.ref a)
  | dct (a : Addr) : H a = some (.dK []) → NoNum H j (.ref a)
theorem NoNum.same {H H' : Hp} {j : Int} {v : V} (s : Same H H') : NoNum H j v → NoNum H' j v
  | .non => .non
  | .bl b => .bl b
  | .int i h => .int i h
  | .str x => .str x
  | .lst a xs h => .lst a xs (s _ _ h)
  | .tup a xs h => .tup a xs (s _ _ h)
  | .dct a h => .dct a (s _ _ h)
/-- the test that it is a number tells that it is not -/
theorem NoNum.isi {K : PySem.W.Frag} {H : Hp} {j : Int} {v : V} (h : NoNum H j v) {Q : VK} (q1 : (∃ b, v = .bl b) → Q (.bl true) H) (q2 : (∃ i : Int, v = .int i ∧ ¬ (0 ≤ i ∧ i < j)) → Q (.bl true) H) (q3 : Q (.bl false) H) : rIsi K [v, .ty "int"] H Q := by
  cases h with
  | non => exact isi_no (.base .non) (by decide +kernel) q3
  | bl b => exact isi_yes (.base (.bl b)) (by decide +kernel) (q1 ⟨b, rfl⟩)
  | int i h => exact isi_yes (.base (.int i)) (by decide +kernel) (q2 ⟨i, rfl, h⟩)
  | str x => exact isi_no (.base (.str x)) (by decide +kernel) q3
  | lst a xs h => exact isi_no (.base (.lst h)) (by decide +kernel) q3
  | tup a xs h => exact isi_no (.base (.tup h)) (by decide +kernel) q3
  | dct a h => exact isi_no (.base (.dK h)) (by decide +kernel) q3
inductive BadPl (H : Hp) (n : Nat) : V → Prop
  | non : BadPl H n .non
  | int (i : Int) : BadPl H n (.int i)
  | str (x : Str) : BadPl H n (.str x)
  | lst (a : Addr) (xs : List V) : H a = some (.lst xs) → BadPl H n (.ref a)
  | len (a : Addr) (xs : List V) : H a = some (.tup xs) → xs.length ≠ 2 → BadPl H n (.ref a)
  | one (a : Addr) (x y : V) : H a = some (.tup [x, y]) → NoNum H (2 ^ n) x → BadPl H n (.ref a)
  | two (a : Addr) (i : Int) (y : V) : H a = some (.tup [.int i, y]) → 0 ≤ i → i < 2 ^ n → NoNum H (2 ^ n) y → BadPl H n (.ref a)
theorem BadPl.same {H H' : Hp} {n : Nat} {v : V} (s : Same H H') : BadPl H n v → BadPl H' n v
  | .non => .non
  | .int i => .int i
  | .str x => .str x
  | .lst a xs h => .lst a xs (s _ _ h)
  | .len a xs h l => .len a xs (s _ _ h) l
  | .one a x y h b => .one a x y (s _ _ h) (b.same s)
  | .two a i y h h0 h1 b => .two a i y (s _ _ h) h0 h1 (b.same s)
/-- what a call is refused for, of a size and a place left out -/
inductive BadSO (H : Hp) (CB CP : Addr) : V → V → Addr → Prop
  | size (s o : V) : NoNum H 401 s → BadSO H CB CP s o CB
  | out (n : Nat) (o : V) : n ≤ 400 → BadPl H n o → BadSO H CB CP (.int (n : Int)) o CP
/-- .. and another place -/
inductive BadSOP (H : Hp) (CB CP : Addr) : V → V → V → Addr → Prop
  | so (s o p : V) (c : Addr) : BadSO H CB CP s o c → BadSOP H CB CP s o p c
  | pl (n : Nat) (o p : V) (oo : Pl) : n ≤ 400 → PlT H o oo → In n oo → BadPl H n p → BadSOP H CB CP (.int (n : Int)) o p CP
inductive BadCov (H : Hp) (CB CP : Addr) : V → V → V → Addr → Prop
  | sop (s o p : V) (c : Addr) : BadSOP H CB CP s o p c → BadCov H CB CP s o p c
  | eq (n : Nat) (o p : V) (oo : Pl) : n ≤ 400 → PlT H o oo → PlT H p oo → In n oo → BadCov H CB CP (.int (n : Int)) o p CP
inductive BadNo (H : Hp) (CB CP CN : Addr) : V → V → V → Addr → Prop
  | so (s o j : V) (c : Addr) : BadSO H CB CP s o c → BadNo H CB CP CN s o j c
  | no (n : Nat) (o j : V) (oo : Pl) : n ≤ 400 → PlT H o oo → In n oo → NoNum H (cnt n : Int) j → BadNo H CB CP CN (.int (n : Int)) o j CN
def spx_check_size (K : PySem.W.Frag) (CB CP CN : Addr) : Sp := fun vs H _ E => ∃ s, vs = [s] ∧ NoNum H 401 s ∧ E (.ref CB) none H
def spx_check_place (K : PySem.W.Frag) (CB CP CN : Addr) : Sp := fun vs H _ E => ∃ (n : Nat) (o : V), vs = [.int (n : Int), o] ∧ n ≤ 400 ∧ BadPl H n o ∧ E (.ref CP) none H
def spx_cov (K : PySem.W.Frag) (CB CP CN : Addr) : Sp := fun vs H _ E => ∃ (s o p : V) (c : Addr), vs = [s, o, p] ∧ BadCov H CB CP s o p c ∧ E (.ref c) none H
def spx_sop (K : PySem.W.Frag) (CB CP CN : Addr) : Sp := fun vs H _ E => ∃ (s o p : V) (c : Addr), vs = [s, o, p] ∧ BadSOP H CB CP s o p c ∧ E (.ref c) none H
def spx_no (K : PySem.W.Frag) (CB CP CN : Addr) : Sp := fun vs H _ E => ∃ (s o j : V) (c : Addr), vs = [s, o, j] ∧ BadNo H CB CP CN s o j c ∧ E (.ref c) none H
def spx_so (K : PySem.W.Frag) (CB CP CN : Addr) : Sp := fun vs H _ E => ∃ (s o : V) (c : Addr), vs = [s, o] ∧ BadSO H CB CP s o c ∧ E (.ref c) none H
end Cf
namespace Cf
open PySem PySem.Spec PyProof.Rows L2
def rIsE2 (K : PySem.W.Frag) (cls : Value) (d : Option Addr) (a : Addr) : List V → Hp → VK → Prop := fun xs H Q => ∃ D, cls = .ref D ∧ d = none ∧ ExcC K D ∧ rIsE K D a xs H Q
theorem call_isE2 {X : Cx} {a : Addr} {oe : Obj} {cls : Value} {d : Option Addr} {pn : List (Addr × Obj)} (hz : Zc cls d oe) (hf : ∃ vs, oe.data = .fields vs) : CallR (X.suite a ((a, oe) :: pn)) (.builtin "isinstance") (rIsE2 X.K cls d a) := by
  intro pins s σ H xs us Q I r h
  obtain ⟨D, rfl, rfl, C, h⟩ := h
  exact call_isE C hz hf pins s σ H xs us Q I r h
/-- what the caller of the doors is refused for -/
inductive BadAsk (H : Hp) (CB CP CN : Addr) : Nat → V → V → V → Addr → Prop
  | cov (d : Nat) (s o t : V) (c : Addr) : d < 2 → BadCov H CB CP s o t c → BadAsk H CB CP CN d s o t c
  | no (s o t : V) (c : Addr) : BadNo H CB CP CN s o t c → BadAsk H CB CP CN 2 s o t c
  | so (s o t : V) (c : Addr) : BadSO H CB CP s o c → BadAsk H CB CP CN 3 s o t c
  | sop (d : Nat) (s o t : V) (c : Addr) : 4 ≤ d → d < 6 → BadSOP H CB CP s o t c → BadAsk H CB CP CN d s o t c
def spx__law_ask (K : PySem.W.Frag) (CB CP CN : Addr) : Sp := fun vs H _ E => ∃ (d : Nat) (s o t : V) (c : Addr), vs = [.int (d : Int), s, o, t] ∧ BadAsk H CB CP CN d s o t c ∧ E (.ref c) none H
/-! ### things that are no place (2, 5) -/
inductive Odd (H : Hp) : V → Prop
  | non : Odd H .non
  | int (i : Int) : Odd H (.int i)
  | str (x : Str) : PyData.strOk x = true → Odd H (.str x)
  | lst (a : Addr) (ns : List Int) : H a = some (.lst (ns.map V.int)) → Odd H (.ref a)
  | tup (a : Addr) (ns : List Int) : H a = some (.tup (ns.map V.int)) → ns ≠ [2, 5] → Odd H (.ref a)
  | tb (a : Addr) (b : Bool) (i : Int) : H a = some (.tup [.bl b, .int i]) → i ≠ 5 → Odd H (.ref a)
  | tc (a : Addr) (b : Bool) (i : Int) : H a = some (.tup [.int i, .bl b]) → i ≠ 2 → Odd H (.ref a)
theorem Odd.same {H H' : Hp} {v : V} (s : Same H H') : Odd H v → Odd H' v
  | .non => .non
  | .int i => .int i
  | .str x h => .str x h
  | .lst a ns h => .lst a ns (s _ _ h)
  | .tup a ns h n => .tup a ns (s _ _ h) n
  | .tb a b i h n => .tb a b i (s _ _ h) n
  | .tc a b i h n => .tc a b i (s _ _ h) n
theorem tup_shaped (ns : List Int) : SeqAt.shaped (.tuple (ns.map PyData.int)) = true := by
  have h2 : PyData.depth (.tuple (ns.map PyData.int)) ≤ 64 := by
    simp only [PyData.depth, ints_depth]
    omega
  show (PyData.canLay0 (.tuple (ns.map PyData.int)) && decide (PyData.depth (.tuple (ns.map PyData.int)) ≤ 64)) = true
  rw [Bool.and_eq_true]
  refine ⟨?_, decide_eq_true h2⟩
  simp only [PyData.canLay0]
  exact ints_lay ns
theorem Odd.ne {K : PySem.W.Frag} {H : Hp} {x y : V} {Q : VK} (hx : Odd H x) (hy : PlT H y (2, 5)) (q : Q (.bl true) H) : rNeD K x y H Q := by
  have hd : Dp K H y (plD (2, 5)) := hy.dp
  cases hx with
  | non => exact ⟨_, _, .non, hd, by decide, plD_shaped _, q⟩
  | int i => exact ⟨_, _, .int i, hd, by simp [SeqAt.shaped, PyData.canLay0, PyData.depth], plD_shaped _, q⟩
  | str x hx => exact ⟨_, _, .str x, hd, by simp [SeqAt.shaped, PyData.canLay0, PyData.depth, hx], plD_shaped _, q⟩
  | lst a ns h => exact ⟨_, _, .lst (.of h) (ints_dp ns), hd, ints_shaped ns, plD_shaped _, by
      have e : PyData.eqv (.list (ns.map PyData.int)) (plD (2, 5)) = false := by simp [plD, PyData.eqv]
      rw [e]
      exact q⟩
  | tup a ns h hn => exact ⟨_, _, .tup (.of h) (ints_dp ns), hd, tup_shaped ns, plD_shaped _, by
      have e : PyData.eqv (.tuple (ns.map PyData.int)) (plD (2, 5)) = false := by
        show PyData.eqvAll (ns.map PyData.int) (([2, 5] : List Int).map PyData.int) = false
        rw [ints_eqvAll]
        exact decide_eq_false hn
      rw [e]
      exact q⟩
  | tb a b i h hn => exact ⟨_, _, .tup (.of h) (.cons (.bl b) (.cons (.int i) .nil)), hd, by simp [SeqAt.shaped, PyData.canLay0, PyData.canLayAll0, PyData.depth, PyData.depthAll], plD_shaped _, by
      have e : PyData.eqv (.tuple [.bool b, .int i]) (plD (2, 5)) = false := by
        cases b <;> simp [plD, PyData.eqv, PyData.eqvAll, hn]
      rw [e]
      exact q⟩
  | tc a b i h hn => exact ⟨_, _, .tup (.of h) (.cons (.int i) (.cons (.bl b) .nil)), hd, by simp [SeqAt.shaped, PyData.canLay0, PyData.canLayAll0, PyData.depth, PyData.depthAll], plD_shaped _, by
      have e : PyData.eqv (.tuple [.int i, .bool b]) (plD (2, 5)) = false := by
        cases b <;> simp [plD, PyData.eqv, PyData.eqvAll, hn]
      rw [e]
      exact q⟩
/-! ### lists of truths -/
theorem bls_dp {K : PySem.W.Frag} {H : Hp} : ∀ bs : List Bool, DpAll K H (bs.map V.bl) (bs.map PyData.bool)
  | [] => .nil
  | b :: bs => .cons (.bl b) (bls_dp bs)
theorem bls_lay : ∀ bs : List Bool, PyData.canLayAll0 (bs.map PyData.bool) = true
  | [] => by simp [PyData.canLayAll0]
  | b :: bs => by simp [PyData.canLayAll0, PyData.canLay0, bls_lay bs]
theorem bls_depth : ∀ bs : List Bool, PyData.depthAll (bs.map PyData.bool) = 0
  | [] => by simp [PyData.depthAll]
  | b :: bs => by simp [PyData.depthAll, PyData.depth, bls_depth bs]
theorem bls_shaped (bs : List Bool) : SeqAt.shaped (.list (bs.map PyData.bool)) = true := by
  have h2 : PyData.depth (.list (bs.map PyData.bool)) ≤ 64 := by
    simp only [PyData.depth, bls_depth]
    omega
  show (PyData.canLay0 (.list (bs.map PyData.bool)) && decide (PyData.depth (.list (bs.map PyData.bool)) ≤ 64)) = true
  rw [Bool.and_eq_true]
  refine ⟨?_, decide_eq_true h2⟩
  simp only [PyData.canLay0]
  exact bls_lay bs
theorem bls_eqvAll : ∀ bs : List Bool, PyData.eqvAll (bs.map PyData.bool) (bs.map PyData.bool) = true
  | [] => by simp [PyData.eqvAll]
  | b :: bs => by
    rw [List.map_cons]
    unfold PyData.eqvAll
    rw [bls_eqvAll bs]
    cases b <;> simp [PyData.eqv]
theorem ne_bls {K : PySem.W.Frag} {H : Hp} {a b : Addr} {bs : List Bool} {Q : VK} (ha : H a = some (.lst (bs.map V.bl))) (hb : H b = some (.lst (bs.map V.bl))) (q : Q (.bl false) H) : rNeD K (.ref a) (.ref b) H Q :=
  ⟨_, _, .lst (.of ha) (bls_dp bs), .lst (.of hb) (bls_dp bs), bls_shaped bs, bls_shaped bs, by
    have e : PyData.eqv (.list (bs.map PyData.bool)) (.list (bs.map PyData.bool)) = true := by
      unfold PyData.eqv
      exact bls_eqvAll bs
    rw [e]
    exact q⟩
end Cf
namespace Cf
open PySem PySem.Spec PyProof.Rows L2
structure ExR (K : PySem.W.Frag) (CB CP CN CF C : Addr) (b0 b1 b3 : Bool) : Prop where
  c : ExcC K C
  e : PySem.W.exmOne K (.ref C) (.ref CF) = some true
  k0 : PySem.W.kitOne K (.ref C) (.ref CB) = some b0
  k1 : PySem.W.kitOne K (.ref C) (.ref CP) = some b1
  k3 : PySem.W.kitOne K (.ref C) (.ref CN) = some b3
  kv : PySem.W.kitOne K (.ref C) (.type "ValueError") = some true
structure Ex7 (K : PySem.W.Frag) (mg : Str → Option Value) (CB CP CN CF : Addr) : Prop where
  gF : mg "FloorError" = some (.ref CF)
  vE : mg "ValueError" = none
  b : ExR K CB CP CN CF CB true false false
  p : ExR K CB CP CN CF CP false true false
  n : ExR K CB CP CN CF CN false false true
theorem isE_own {K : PySem.W.Frag} {D C a : Addr} {b : Bool} {H : Hp} {Q : VK} {x : V} (c : ExcC K D) (hx : x = .ref C) (k : PySem.W.kitOne K (.ref D) (.ref C) = some b) (q : Q (.bl b) H) : rIsE2 K (.ref D) none a [.ref a, x] H Q := by
  subst hx
  exact ⟨D, rfl, rfl, c, .ref C, .ref C, b, rfl, fun u r => r, k, q⟩
theorem isE_ty {K : PySem.W.Frag} {D a : Addr} {b : Bool} {n : String} {H : Hp} {Q : VK} (c : ExcC K D) (k : PySem.W.kitOne K (.ref D) (.type n) = some b) (q : Q (.bl b) H) : rIsE2 K (.ref D) none a [.ref a, .ty n] H Q :=
  ⟨D, rfl, rfl, c, .ty n, .type n, b, rfl, fun u r => r, k, q⟩
end Cf
namespace Cf
open PySem PySem.Spec PyProof.Rows L2
theorem BadAsk_size {H : Hp} {CB CP CN : Addr} {d : Nat} {s o t : V} (hd : d < 6) (h : NoNum H 401 s) : BadAsk H CB CP CN d s o t CB := by
  have hd' : d < 2 ∨ d = 2 ∨ d = 3 ∨ 4 ≤ d := by omega
  rcases hd' with h1 | rfl | rfl | h1
  · exact .cov d s o t _ h1 (.sop _ _ _ _ (.so _ _ _ _ (.size _ _ h)))
  · exact .no s o t _ (.so _ _ _ _ (.size _ _ h))
  · exact .so s o t _ (.size _ _ h)
  · exact .sop d s o t _ h1 hd (.so _ _ _ _ (.size _ _ h))
theorem BadAsk_out {H : Hp} {CB CP CN : Addr} {d n : Nat} {o t : V} (hd : d < 6) (hn : n ≤ 400) (h : BadPl H n o) : BadAsk H CB CP CN d (.int (n : Int)) o t CP := by
  have hd' : d < 2 ∨ d = 2 ∨ d = 3 ∨ 4 ≤ d := by omega
  rcases hd' with h1 | rfl | rfl | h1
  · exact .cov d _ o t _ h1 (.sop _ _ _ _ (.so _ _ _ _ (.out n _ hn h)))
  · exact .no _ o t _ (.so _ _ _ _ (.out n _ hn h))
  · exact .so _ o t _ (.out n _ hn h)
  · exact .sop d _ o t _ h1 hd (.so _ _ _ _ (.out n _ hn h))
theorem cdiv8 {x : Int} : CDiv x 8 = True := eq_true ⟨by decide, by decide⟩
theorem cdiv12 {x : Int} : CDiv x 12 = True := eq_true ⟨by decide, by decide⟩
theorem cdiv13 {x : Int} : CDiv x 13 = True := eq_true ⟨by decide, by decide⟩
theorem cdiv40 {x : Int} : CDiv x 400000 = True := eq_true ⟨by decide, by decide⟩
theorem idx {xs : List V} {n : Nat} {j : Int} (hj : j = (n : Int)) (hn : n < xs.length) : ∃ x, atI xs j = some x ∧ x ∈ xs := by
  subst hj
  exact ⟨xs[n], atI_nat (List.getElem?_eq_getElem hn), List.getElem_mem hn⟩
end Cf
namespace Cf
open PySem PySem.Spec PyProof.Rows L2
theorem kit_own {K : PySem.W.Frag} {S C : Addr} {b : Bool} (h1 : PySem.W.isClsIn K C = true) (h2 : PySem.W.typeIn K (.ref C) = some (.type "type")) (h3 : PySem.W.subIn K (.ref S) (.ref C) = some b) (h4 : PySem.W.subIn K (.ref S) (.ref S) = some true) : PySem.W.kitOne K (.ref S) (.ref C) = some b := by
  have e2 : ((PySem.W.clsIn K C).isSome && PySem.W.typeIn K (.ref C) == some (.type "type")) = true := by
    have h1' : (PySem.W.clsIn K C).isSome = true := h1
    rw [h1', h2] <;> rfl
  by_cases hh : ((Value.ref S == Value.ref C) = true)
  · have e : S = C := by
      have := eq_of_beq hh
      exact Value.ref.inj this
    subst e
    rw [h4] at h3
    cases h3
    show (if _ then _ else _) = _
    rw [if_pos hh]
  · show (if (Value.ref S == Value.ref C) = true then some true else (if ((PySem.W.clsIn K C).isSome && PySem.W.typeIn K (.ref C) == some (.type "type")) = true then PySem.W.subIn K (.ref S) (.ref C) else none)) = some b
    rw [if_neg hh, if_pos e2]
    exact h3
theorem kit_bi {K : PySem.W.Frag} {S : Addr} {b : Bool} (h3 : PySem.W.subIn K (.ref S) (.type "ValueError") = some b) : PySem.W.kitOne K (.ref S) (.type "ValueError") = some b := by
  have hm : PySem.W.kitMeta "ValueError" = true := by decide +kernel
  show (if PySem.W.kitMeta "ValueError" = true then PySem.W.subIn K (.ref S) (.type "ValueError") else none) = some b
  rw [if_pos hm]
  exact h3
theorem exm_sub {K : PySem.W.Frag} {S C : Addr} (h0 : PySem.W.subIn K (.ref C) (.type "BaseException") = some true) (h1 : PySem.W.isClsIn K C = true) (h2 : PySem.W.typeIn K (.ref C) = some (.type "type")) (h3 : PySem.W.subIn K (.ref S) (.ref C) = some true) : PySem.W.exmOne K (.ref S) (.ref C) = some true := by
  have e0 : (PySem.W.subIn K (.ref C) (.type "BaseException") == some true) = true := by rw [h0] <;> rfl
  have e2 : ((PySem.W.clsIn K C).isSome && PySem.W.typeIn K (.ref C) == some (.type "type")) = true := by
    have h1' : (PySem.W.clsIn K C).isSome = true := h1
    rw [h1', h2] <;> rfl
  show (if (PySem.W.subIn K (.ref C) (.type "BaseException") == some true) = true then (if ((PySem.W.clsIn K C).isSome && PySem.W.typeIn K (.ref C) == some (.type "type")) = true then PySem.W.subIn K (.ref S) (.ref C) else none) else none) = some true
  rw [if_pos e0, if_pos e2]
  exact h3
end Cf

namespace Cf
open PySem PySem.Spec PyProof.Rows L2
local macro_rules | `(tactic| walk_at "rd") => `(tactic| simp only [cx_K, cx_P, cx_w, tVar, tC, tCons, tNil, tOp, tUn, rI, rI0, rU, tSeq, Evl.tCut, tAsg, gName, tRet, tRetN, tIfS, tB, tTest, tNot, tAndV, tOrV, tNotV, tChain, tDrop, tRevL, tBM, rAppend, tAug, ipI, tTup, tLst, tCB, tCall, gTup, gCons, gNil, gSub, tNext, rEq, rNe, rIxL, rIxT, wipe, tYes, rSetL, tSl, tNoPart, tPart, tAugS, rGetL, tBits, rI0, Evl.rLenS, Evl.rListS, scal_ii, scal_bb, L2.start, List.map_cons, List.map_nil, List.length_cons, List.length_nil, List.replicate, List.cons_append, List.nil_append, List.append_nil, Nat.reduceAdd, Nat.reduceSub, List.set_cons_zero, List.set_cons_succ, List.getElem?_cons_zero, List.getElem?_cons_succ, Option.some.injEq, V.int.injEq, V.bl.injEq, V.ref.injEq, List.cons.injEq, and_assoc, and_true, true_and, exists_eq_left, exists_eq_left', exists_and_left, exists_and_right, exists_eq_right, exists_eq_right', decide_true, decide_false, Bool.false_eq_true, if_true, if_false, reduceIte, ↓reduceIte, Bool.not_true, Bool.not_false, Bool.or_false, Bool.or_true, Bool.true_or, Bool.false_or, Bool.and_true, Bool.true_and, Bool.and_false, Bool.false_and, exists_const, and_self, Int.one_mul, Int.toNat_natCast, bitAnd_m1, c0, c1, c2, c3, c4, cmul2, cdiv2, cdiv3, cdiv4, cdiv5, cdiv7, Int.natCast_nonneg, Int.reduceLT, eq_self, sz0, sz1, sz2, sz3, sz4, sz5, sz6, sz8, sz11])
local macro_rules | `(tactic| walk_at "rdo") => `(tactic| (simp only [tAnd, tOr, tIf]; (try walk_at "rd")))
local macro_rules | `(tactic| walk_at "same") => `(tactic| ((try unfold L2.Same); repeat (first | exact Same.refl _ | assumption | refine Same.upd ?_ (by assumption))))
local macro_rules | `(tactic| walk_at "look") => `(tactic| (repeat (first | exact upd_same | assumption | refine upd_old (by assumption) ?_)))

def topS (i : Nat) : Stmt := PySem.Challenge.pw_cornerfloor_k06_refused.main.body.getD i (.Pass ⟨0, 0, 0, 0⟩)
structure Blt (mg : Str → Option Value) : Prop where
  isinstance : mg "isinstance" = none
  int : mg "int" = none
  bool : mg "bool" = none
  tuple : mg "tuple" = none
  list : mg "list" = none
  set : mg "set" = none
  len : mg "len" = none
  sum : mg "sum" = none
  range : mg "range" = none
  sorted : mg "sorted" = none
  min : mg "min" = none
  max : mg "max" = none
  all : mg "all" = none
  any : mg "any" = none
  enumerate : mg "enumerate" = none
  zip : mg "zip" = none
  abs : mg "abs" = none
  str : mg "str" = none
  divmod : mg "divmod" = none
section
variable {P : Program} {w : World} {K : PySem.W.Frag} {mg : Str → Option Value} {base : Heap} {k : Nat}
def sp_is_count : Sp := fun vs H Q _ => ∃ i j : Int, vs = [.int i, .int j] ∧ Q (.bl (decide (0 ≤ i ∧ i < j))) H
abbrev s_is_count : Stmt := topS 7
theorem sc_is_count : FnScope ["value", "limit"] ["value", "limit"] (defScope s_is_count) := ⟨rfl, rfl, rfl, by decide +kernel, rfl, by decide +kernel, by decide +kernel⟩
theorem ok_is_count (D : Def K mg "is_count" s_is_count ["value", "limit"]) (B : Blt mg)   : Cal P w K mg base "is_count" ["value", "limit"] sp_is_count (k + 1) := by
  have sc := sc_is_count
  refine D.cal sc_is_count (fun vs H Q E h => by obtain ⟨_, _, rfl, _⟩ := h; rfl) (fun f cdv A outer s H vs Q E hr h => ?_)
  obtain ⟨i, j, rfl, q⟩ := h
  refine ⟨_, (pss_one (ps_ret (pe_and (pe_callB (r := rIsi K) (by exact call_isi) (by rfl) B.isinstance boot_isinstance (pa_cons (pv 0) (pa_cons (pe_bltn (v := .ty "int") (by rfl) B.int boot_int rfl) pa_nil))) (pe_and (pe_not (pe_callB (r := rIsi K) (by exact call_isi) (by rfl) B.isinstance boot_isinstance (pa_cons (pv 0) (pa_cons (pe_bltn (v := .ty "bool") (by rfl) B.bool boot_bool rfl) pa_nil)))) (pe_one (pe_chain op_le op_lt pe_int (pv 0) (pv 1))))))), ?_⟩
  walk_at "rd"
  refine isi_yes (.base (.int i)) (by decide +kernel) ?_
  walk_at "rd"
  refine isi_no (.base (.int i)) (by decide +kernel) ?_
  walk_at "rd"
  by_cases h0 : 0 ≤ i
  · rw [if_pos (decide_eq_true h0)]
    have e : (decide (0 ≤ i ∧ i < j)) = decide (i < j) := by simp [h0]
    rw [e] at q
    exact q
  · rw [if_neg (by simp [h0])]
    have e : (decide (0 ≤ i ∧ i < j)) = false := by simp [h0]
    rw [e] at q
    exact q
def sp_is_place : Sp := fun vs H Q _ => ∃ (n : Nat) (v : V) (p : Pl), vs = [.int (n : Int), v] ∧ PlT H v p ∧ n ≤ 400 ∧ Q (.bl (decide (In n p))) H
abbrev s_is_place : Stmt := topS 8
theorem sc_is_place : FnScope ["size", "value", "column", "row", "side"] ["size", "value"] (defScope s_is_place) := ⟨rfl, rfl, rfl, by decide +kernel, rfl, by decide +kernel, by decide +kernel⟩
theorem ok_is_place (D : Def K mg "is_place" s_is_place ["size", "value"]) (B : Blt mg)  (c_is_count : Cal P w K mg base "is_count" ["value", "limit"] sp_is_count k) : Cal P w K mg base "is_place" ["size", "value"] sp_is_place (k + 1) := by
  have sc := sc_is_place
  obtain ⟨f_is_count, fd_is_count, G_is_count, m_is_count, k_is_count, b_is_count, _⟩ := c_is_count.ex
  refine D.cal sc_is_place (fun vs H Q E h => by obtain ⟨_, _, _, rfl, _⟩ := h; rfl) (fun f cdv A outer s H vs Q E hr h => ?_)
  obtain ⟨n, v, p, rfl, ⟨t, rfl, ht⟩, hn, q⟩ := h
  refine ⟨_, (pss_cons (ps_if (PW.pt (pw_or (pt_not (pt_val (pe_callB (r := rIsi K) (by exact call_isi) (by rfl) B.isinstance boot_isinstance (pa_cons (pv 1) (pa_cons (pe_bltn (v := .ty "tuple") (by rfl) B.tuple boot_tuple rfl) pa_nil))))) (pw_or1 (pt_cmpR op_ne (pe_callB (r := Evl.rLenS K) (by exact call_len_seq) (by rfl) B.len PySem.boot_len (pa_cons (pv 1) pa_nil)) pe_int (nomark _))))) (pss_one (ps_ret pe_bl)) pss_nil)
    (pss_cons (ps_asg (pv 1) (pg_tup (n := 2) rfl (pgs_cons (pg_name (i := 2) sc.nd rfl (.inl rfl)) (pgs_cons (pg_name (i := 3) sc.nd rfl (.inl rfl)) pgs_nil))))
    (pss_cons (ps_set (i := 4) sc.nd rfl (.inl rfl) (pe_op op_shlW pe_int (pv 0)))
    (pss_one (ps_ret (pe_and (pe_call G_is_count hr (by rfl) m_is_count k_is_count b_is_count .nil pass0 (pa_cons (pv 2) (pa_cons (pv 4) pa_nil))) (pe_one (pe_call G_is_count hr (by rfl) m_is_count k_is_count b_is_count .nil pass0 (pa_cons (pv 3) (pa_cons (pv 4) pa_nil)))))))))), ?_⟩
  walk_at "rd"
  walk_at "rdo"
  refine isi_yes (.base (.tup ht)) (by decide +kernel) ?_
  walk_at "rd"
  refine ⟨_, .inr (.of ht), ?_⟩
  walk_at "rd"
  refine ⟨_, .of ht, rfl, _, _, rfl, _, _, rfl, rfl, shl1 (by omega), _, _, rfl, ?_⟩
  by_cases h1 : p.1 < 2 ^ n
  · rw [decide_eq_true ⟨Int.natCast_nonneg _, nat_lt_pw.mpr h1⟩]
    walk_at "rd"
    refine ⟨_, _, rfl, ?_⟩
    have e : (decide (0 ≤ (p.2 : Int) ∧ (p.2 : Int) < 2 ^ n)) = decide (In n p) := by
      rw [dec_In, Bool.eq_iff_iff, Bool.and_eq_true, decide_eq_true_eq, decide_eq_true_eq, decide_eq_true_eq, nat_lt_pw]
      exact ⟨fun h => ⟨h1, h.2⟩, fun h => ⟨Int.natCast_nonneg _, h.2⟩⟩
    rw [e]
    exact q
  · rw [decide_eq_false (fun h => h1 (nat_lt_pw.mp h.2))]
    walk_at "rd"
    rw [decide_eq_false (fun h => h1 h.1)] at q
    exact q
def sp_check_size : Sp := fun vs H Q _ => ∃ (n : Nat), vs = [.int (n : Int)] ∧ n ≤ 400 ∧ Q .non H
abbrev s_check_size : Stmt := topS 9
theorem sc_check_size : FnScope ["size"] ["size"] (defScope s_check_size) := ⟨rfl, rfl, rfl, by decide +kernel, rfl, by decide +kernel, by decide +kernel⟩
theorem ok_check_size (D : Def K mg "check_size" s_check_size ["size"]) (B : Blt mg) (m_LARGEST_SIZE : ∃ t, mg "LARGEST_SIZE" = some (.int 400 t)) (c_is_count : Cal P w K mg base "is_count" ["value", "limit"] sp_is_count k) : Cal P w K mg base "check_size" ["size"] sp_check_size (k + 1) := by
  have sc := sc_check_size
  obtain ⟨f_is_count, fd_is_count, G_is_count, m_is_count, k_is_count, b_is_count, _⟩ := c_is_count.ex
  refine D.cal sc_check_size (fun vs H Q E h => by obtain ⟨_, rfl, _⟩ := h; rfl) (fun f cdv A outer s H vs Q E hr h => ?_)
  obtain ⟨n, rfl, hn, q⟩ := h
  obtain ⟨tok, m_LARGEST_SIZE⟩ := m_LARGEST_SIZE
  refine ⟨_, (pss_one (ps_if (pt_not (pt_val (pe_call G_is_count hr (by rfl) m_is_count k_is_count b_is_count .nil pass0 (pa_cons (pv 0) (pa_cons (pe_op op_add (pe_glob (v := .int 400) rfl m_LARGEST_SIZE ⟨_, rfl⟩) pe_int) pa_nil))))) (pss_one ps_never) pss_nil)), ?_⟩
  walk_at "rd"
  refine ⟨_, _, rfl, ?_⟩
  rw [decide_eq_true (by omega)]
  walk_at "rd"
  exact q
def sp_check_place : Sp := fun vs H Q _ => ∃ (n : Nat) (v : V) (p : Pl), vs = [.int (n : Int), v] ∧ PlT H v p ∧ n ≤ 400 ∧ In n p ∧ Q .non H
abbrev s_check_place : Stmt := topS 10
theorem sc_check_place : FnScope ["size", "place"] ["size", "place"] (defScope s_check_place) := ⟨rfl, rfl, rfl, by decide +kernel, rfl, by decide +kernel, by decide +kernel⟩
theorem ok_check_place (D : Def K mg "check_place" s_check_place ["size", "place"]) (B : Blt mg)  (c_is_place : Cal P w K mg base "is_place" ["size", "value"] sp_is_place k) : Cal P w K mg base "check_place" ["size", "place"] sp_check_place (k + 1) := by
  have sc := sc_check_place
  obtain ⟨f_is_place, fd_is_place, G_is_place, m_is_place, k_is_place, b_is_place, _⟩ := c_is_place.ex
  refine D.cal sc_check_place (fun vs H Q E h => by obtain ⟨_, _, _, rfl, _⟩ := h; rfl) (fun f cdv A outer s H vs Q E hr h => ?_)
  obtain ⟨n, v, p, rfl, hp, hn, hi, q⟩ := h
  refine ⟨_, (pss_one (ps_if (pt_not (pt_val (pe_call G_is_place hr (by rfl) m_is_place k_is_place b_is_place .nil pass0 (pa_cons (pv 0) (pa_cons (pv 1) pa_nil))))) (pss_one ps_never) pss_nil)), ?_⟩
  walk_at "rd"
  refine ⟨n, v, p, rfl, hp, hn, ?_⟩
  rw [decide_eq_true hi]
  walk_at "rd"
  exact q
def sp_quarter_of : Sp := fun vs H Q _ => ∃ (n : Nat) (v : V) (p : Pl), vs = [.int ((n + 1 : Nat) : Int), v] ∧ PlT H v p ∧ Q (.int (qn n p : Nat)) H
abbrev s_quarter_of : Stmt := topS 11
theorem sc_quarter_of : FnScope ["size", "place", "column", "row"] ["size", "place"] (defScope s_quarter_of) := ⟨rfl, rfl, rfl, by decide +kernel, rfl, by decide +kernel, by decide +kernel⟩
theorem ok_quarter_of (D : Def K mg "quarter_of" s_quarter_of ["size", "place"]) (B : Blt mg)   : Cal P w K mg base "quarter_of" ["size", "place"] sp_quarter_of (k + 1) := by
  have sc := sc_quarter_of
  refine D.cal sc_quarter_of (fun vs H Q E h => by obtain ⟨_, _, _, rfl, _⟩ := h; rfl) (fun f cdv A outer s H vs Q E hr h => ?_)
  obtain ⟨n, v, p, rfl, ⟨t, rfl, ht⟩, q⟩ := h
  refine ⟨_, (pss_cons (ps_asg (pv 1) (pg_tup (n := 2) rfl (pgs_cons (pg_name (i := 2) sc.nd rfl (.inl rfl)) (pgs_cons (pg_name (i := 3) sc.nd rfl (.inl rfl)) pgs_nil))))
    (pss_one (ps_ret (pe_op op_add (pe_op op_and (pe_op op_shr (pv 2) (pe_op op_sub (pv 0) pe_int)) pe_int) (pe_op op_mul pe_int (pe_op op_and (pe_op op_shr (pv 3) (pe_op op_sub (pv 0) pe_int)) pe_int)))))), ?_⟩
  walk_at "rd"
  refine ⟨_, .of ht, rfl, _, _, rfl, _, _, rfl, rfl, ?_⟩
  rw [sub1, Int.toNat_natCast]
  walk_at "rd"
  rw [← qn_int]
  exact q
def sp_middle_places : Sp := fun vs H Q _ => ∃ (n : Nat) (v : V) (p : Pl), vs = [.int ((n + 1 : Nat) : Int), v] ∧ PlT H v p ∧ n ≤ 400 ∧ p.1 < 2 ^ 402 ∧ p.2 < 2 ^ 402 ∧
  ∀ H' l xs, Same H H' → H' l = some (.lst xs) → PlsT H' xs [md4 n p 0, md4 n p 1, md4 n p 2, md4 n p 3] → Q (.ref l) H'
abbrev s_middle_places : Stmt := topS 12
theorem sc_middle_places : FnScope ["size", "place", "column", "row", "half", "upper_column", "upper_row"] ["size", "place"] (defScope s_middle_places) := ⟨rfl, rfl, rfl, by decide +kernel, rfl, by decide +kernel, by decide +kernel⟩
theorem ok_middle_places (D : Def K mg "middle_places" s_middle_places ["size", "place"]) (B : Blt mg)   : Cal P w K mg base "middle_places" ["size", "place"] sp_middle_places (k + 1) := by
  have sc := sc_middle_places
  refine D.cal sc_middle_places (fun vs H Q E h => by obtain ⟨_, _, _, rfl, _⟩ := h; rfl) (fun f cdv A outer s H vs Q E hr h => ?_)
  obtain ⟨n, v, p, rfl, ⟨t, rfl, ht⟩, hn, hp1, hp2, q⟩ := h
  refine ⟨_, (pss_cons (ps_asg (pv 1) (pg_tup (n := 2) rfl (pgs_cons (pg_name (i := 2) sc.nd rfl (.inl rfl)) (pgs_cons (pg_name (i := 3) sc.nd rfl (.inl rfl)) pgs_nil))))
    (pss_cons (ps_set (i := 4) sc.nd rfl (.inl rfl) (pe_op op_shlW pe_int (pe_op op_sub (pv 0) pe_int)))
    (pss_cons (ps_set (i := 5) sc.nd rfl (.inl rfl) (pe_op op_add (pe_op op_shlW (pe_op op_shr (pv 2) (pv 0)) (pv 0)) (pv 4)))
    (pss_cons (ps_set (i := 6) sc.nd rfl (.inl rfl) (pe_op op_add (pe_op op_shlW (pe_op op_shr (pv 3) (pv 0)) (pv 0)) (pv 4)))
    (pss_one (ps_ret (pe_lst (pa_cons (pe_tup (pa_cons (pe_op op_sub (pv 5) pe_int) (pa_cons (pe_op op_sub (pv 6) pe_int) pa_nil))) (pa_cons (pe_tup (pa_cons (pv 5) (pa_cons (pe_op op_sub (pv 6) pe_int) pa_nil))) (pa_cons (pe_tup (pa_cons (pe_op op_sub (pv 5) pe_int) (pa_cons (pv 6) pa_nil))) (pa_cons (pe_tup (pa_cons (pv 5) (pa_cons (pv 6) pa_nil))) pa_nil))))))))))), ?_⟩
  walk_at "rd"
  refine ⟨_, .of ht, rfl, _, _, rfl, _, _, rfl, rfl, ?_⟩
  rw [sub1]
  walk_at "rd"
  rw [shr_int, shr_int]
  refine ⟨shl1 (by omega), shl_nat (Nat.lt_of_le_of_lt (Nat.div_le_self _ _) hp1) (by omega), shl_nat (Nat.lt_of_le_of_lt (Nat.div_le_self _ _) hp2) (by omega), ?_⟩
  rw [← shr_int, ← shr_int, ← upc_int1, ← upc_int1, ← upc_int, ← upc_int]
  rw [md4_all] at q
  intro t1 h1 t2 h2 t3 h3 t4 h4 l hl
  exact q _ l [.ref t1, .ref t2, .ref t3, .ref t4] (by walk_at "same") (by walk_at "look") (.cons ⟨t1, rfl, by walk_at "look"⟩ (.cons ⟨t2, rfl, by walk_at "look"⟩ (.cons ⟨t3, rfl, by walk_at "look"⟩ (.cons ⟨t4, rfl, by walk_at "look"⟩ .nil))))
def sp_middle_piece : Sp := fun vs H Q _ => ∃ (n : Nat) (v : V) (p : Pl), vs = [.int ((n + 1 : Nat) : Int), v] ∧ PlT H v p ∧ n ≤ 400 ∧ p.1 < 2 ^ 402 ∧ p.2 < 2 ^ 402 ∧
  ∀ H' l xs, Same H H' → H l = none → H' l = some (.lst xs) → PlsT H' xs (pc (midA n p)) → Q (.ref l) H'
abbrev s_middle_piece : Stmt := topS 13
theorem sc_middle_piece : FnScope ["size", "out", "quarter_out", "middle", "quarter"] ["size", "out"] (defScope s_middle_piece) := ⟨rfl, rfl, rfl, by decide +kernel, rfl, by decide +kernel, by decide +kernel⟩
theorem ok_middle_piece (D : Def K mg "middle_piece" s_middle_piece ["size", "out"]) (B : Blt mg)  (c_quarter_of : Cal P w K mg base "quarter_of" ["size", "place"] sp_quarter_of k) (c_middle_places : Cal P w K mg base "middle_places" ["size", "place"] sp_middle_places k) : Cal P w K mg base "middle_piece" ["size", "out"] sp_middle_piece (k + 1) := by
  have sc := sc_middle_piece
  obtain ⟨f_quarter_of, fd_quarter_of, G_quarter_of, m_quarter_of, k_quarter_of, b_quarter_of, _⟩ := c_quarter_of.ex
  obtain ⟨f_middle_places, fd_middle_places, G_middle_places, m_middle_places, k_middle_places, b_middle_places, _⟩ := c_middle_places.ex
  refine D.cal sc_middle_piece (fun vs H Q E h => by obtain ⟨_, _, _, rfl, _⟩ := h; rfl) (fun f cdv A outer s H vs Q E hr h => ?_)
  obtain ⟨n, v, p, rfl, hp, hn, hp1, hp2, q⟩ := h
  refine ⟨_, (pss_cons (ps_set (i := 2) sc.nd rfl (.inr rfl) (pe_call G_quarter_of hr (by rfl) m_quarter_of k_quarter_of b_quarter_of .nil pass0 (pa_cons (pv 0) (pa_cons (pv 1) pa_nil))))
    (pss_cons (ps_set (i := 3) sc.nd rfl (.inr rfl) (pe_call G_middle_places hr (by rfl) m_middle_places k_middle_places b_middle_places .nil pass0 (pa_cons (pv 0) (pa_cons (pv 1) pa_nil))))
    (pss_one (ps_ret (pe_callB (r := rSortedPO K) (by exact cr_sortedPO) (by rfl) B.sorted boot_sorted (pa_cons (pe_lc (own := [("quarter", 4)]) (g := (gName 4)) (by rfl) sc.nd (pi_range1 (by rfl) B.range (pa_cons pe_int pa_nil)) (blkOk_by (own := [("quarter", 4)]) (N := ["size", "out", "quarter_out", "middle", "quarter"]) (sc := defScope s_middle_piece) (by decide +kernel)) (fun _ _ _ _ _ => (pg_name (i := 4) sc.nd rfl (.inl rfl))) (fun _ _ _ _ _ => (pts_one (pt_cmpR op_ne (pv 4) (pv 2) (nomark _)))) (fun _ _ _ _ _ => (pe_ix (r := rIxL K) (by exact ix_list) (pv 3) (pv 4) (fun _ _ => rfl)))) pa_nil)))))), ?_⟩
  walk_at "rd"
  refine ⟨n, v, p, rfl, hp, ?_⟩
  refine ⟨n, v, p, rfl, hp, hn, hp1, hp2, fun H1 l1 xs sm e1 pl => ?_⟩
  refine lcr 4 (fun i => !decide (i = qn n p)) (fun i => .pl (md4 n p i)) (by omega) (fun R h => h) (fun i H2 hi s2 Kt Kf hT hF => ?_) (fun D H2 ys hD s2 eD g => ?_)
  · walk_at "rd"
    rw [nat_dec]
    by_cases hq : i = qn n p
    · rw [decide_eq_true hq]
      walk_at "rd"
      exact hF H2 (Same.refl _) (by simp [hq])
    · rw [decide_eq_false hq]
      walk_at "rd"
      have hg : [md4 n p 0, md4 n p 1, md4 n p 2, md4 n p 3][i]? = some (md4 n p i) := by
        have hi' : i = 0 ∨ i = 1 ∨ i = 2 ∨ i = 3 := by omega
        rcases hi' with e | e | e | e <;> subst e <;> rfl
      obtain ⟨x, hx, hp'⟩ := pl.get hg
      exact ⟨xs, .of (s2 _ _ e1), x, atI_nat hx, hT x H2 (Same.refl _) (by simp [hq]) (hp'.same s2)⟩
  · have hpm := pc_perm (midA n p) (qn_lt n p)
    exact sorted_pl (.of eD) g.pls hpm (pc_sorted _) fun l zs hl hz => q _ l zs (Same.upd (sm.trans s2) hl) (Same.free (sm.trans s2) hl) upd_same (hz.same (same_new hl))
def sp_left_out_of_quarter : Sp := fun vs H Q _ => ∃ (n q : Nat) (v : V) (o : Pl), vs = [.int ((n + 1 : Nat) : Int), v, .int (q : Int)] ∧ PlT H v o ∧ q < 4 ∧ n ≤ 400 ∧ o.1 < 2 ^ 402 ∧ o.2 < 2 ^ 402 ∧
  ∀ H' x, Same H H' → PlT H' x (loQ n o q) → Q x H'
abbrev s_left_out_of_quarter : Stmt := topS 14
theorem sc_left_out_of_quarter : FnScope ["size", "out", "quarter"] ["size", "out", "quarter"] (defScope s_left_out_of_quarter) := ⟨rfl, rfl, rfl, by decide +kernel, rfl, by decide +kernel, by decide +kernel⟩
theorem ok_left_out_of_quarter (D : Def K mg "left_out_of_quarter" s_left_out_of_quarter ["size", "out", "quarter"]) (B : Blt mg)  (c_quarter_of : Cal P w K mg base "quarter_of" ["size", "place"] sp_quarter_of k) (c_middle_places : Cal P w K mg base "middle_places" ["size", "place"] sp_middle_places k) : Cal P w K mg base "left_out_of_quarter" ["size", "out", "quarter"] sp_left_out_of_quarter (k + 1) := by
  have sc := sc_left_out_of_quarter
  obtain ⟨f_quarter_of, fd_quarter_of, G_quarter_of, m_quarter_of, k_quarter_of, b_quarter_of, _⟩ := c_quarter_of.ex
  obtain ⟨f_middle_places, fd_middle_places, G_middle_places, m_middle_places, k_middle_places, b_middle_places, _⟩ := c_middle_places.ex
  refine D.cal sc_left_out_of_quarter (fun vs H Q E h => by obtain ⟨_, _, _, _, rfl, _⟩ := h; rfl) (fun f cdv A outer s H vs Q E hr h => ?_)
  obtain ⟨n, q, v, o, rfl, ho, hq4, hn, hp1, hp2, qq⟩ := h
  refine ⟨_, (pss_cons (ps_if (pt_cmpR op_eq (pv 2) (pe_call G_quarter_of hr (by rfl) m_quarter_of k_quarter_of b_quarter_of .nil pass0 (pa_cons (pv 0) (pa_cons (pv 1) pa_nil))) (nomark _)) (pss_one (ps_ret (pv 1))) pss_nil)
    (pss_one (ps_ret (pe_ix (r := rIxL K) (by exact ix_list) (pe_call G_middle_places hr (by rfl) m_middle_places k_middle_places b_middle_places .nil pass0 (pa_cons (pv 0) (pa_cons (pv 1) pa_nil))) (pv 2) (fun _ _ => rfl))))), ?_⟩
  walk_at "rd"
  refine ⟨n, v, o, rfl, ho, ?_⟩
  try walk_at "rd"
  rw [nat_dec]
  by_cases hq : q = qn n o
  · rw [decide_eq_true hq]
    try walk_at "rd"
    refine qq H v (Same.refl _) ?_
    unfold loQ
    rw [if_pos hq]
    exact ho
  · rw [decide_eq_false hq]
    try walk_at "rd"
    refine ⟨n, v, o, rfl, ho, hn, hp1, hp2, fun H1 l xs sm e1 pl => ?_⟩
    try walk_at "rd"
    have hg : [md4 n o 0, md4 n o 1, md4 n o 2, md4 n o 3][q]? = some (md4 n o q) := by
      have hi' : q = 0 ∨ q = 1 ∨ q = 2 ∨ q = 3 := by omega
      rcases hi' with e | e | e | e <;> subst e <;> rfl
    obtain ⟨x, hx, hp'⟩ := pl.get hg
    refine ⟨xs, .of e1, x, atI_nat hx, qq H1 x sm ?_⟩
    unfold loQ
    rw [if_neg hq]
    exact hp'
def sp_check_covered : Sp := fun vs H Q _ => ∃ (n : Nat) (v v2 : V) (o p : Pl), vs = [.int (n : Int), v, v2] ∧ PlT H v o ∧ PlT H v2 p ∧ n ≤ 400 ∧ In n o ∧ In n p ∧ p ≠ o ∧ Q .non H
abbrev s_check_covered : Stmt := topS 15
theorem sc_check_covered : FnScope ["size", "out", "place"] ["size", "out", "place"] (defScope s_check_covered) := ⟨rfl, rfl, rfl, by decide +kernel, rfl, by decide +kernel, by decide +kernel⟩
theorem ok_check_covered (D : Def K mg "check_covered" s_check_covered ["size", "out", "place"]) (B : Blt mg)  (c_check_size : Cal P w K mg base "check_size" ["size"] sp_check_size k) (c_check_place : Cal P w K mg base "check_place" ["size", "place"] sp_check_place k) : Cal P w K mg base "check_covered" ["size", "out", "place"] sp_check_covered (k + 1) := by
  have sc := sc_check_covered
  obtain ⟨f_check_size, fd_check_size, G_check_size, m_check_size, k_check_size, b_check_size, _⟩ := c_check_size.ex
  obtain ⟨f_check_place, fd_check_place, G_check_place, m_check_place, k_check_place, b_check_place, _⟩ := c_check_place.ex
  refine D.cal sc_check_covered (fun vs H Q E h => by obtain ⟨_, _, _, _, _, rfl, _⟩ := h; rfl) (fun f cdv A outer s H vs Q E hr h => ?_)
  obtain ⟨n, v, v2, o, p, rfl, ho, hp, hn, io, ip, hne, q⟩ := h
  refine ⟨_, (pss_cons (ps_expr (pe_call G_check_size hr (by rfl) m_check_size k_check_size b_check_size .nil pass0 (pa_cons (pv 0) pa_nil)))
    (pss_cons (ps_expr (pe_call G_check_place hr (by rfl) m_check_place k_check_place b_check_place .nil pass0 (pa_cons (pv 0) (pa_cons (pv 1) pa_nil))))
    (pss_cons (ps_expr (pe_call G_check_place hr (by rfl) m_check_place k_check_place b_check_place .nil pass0 (pa_cons (pv 0) (pa_cons (pv 2) pa_nil))))
    (pss_one (ps_if (pt_cmpR (r := rEqD K) (by exact op_eqD hr.units) (pv 2) (pv 1) (nomark _)) (pss_one ps_never) pss_nil))))), ?_⟩
  walk_at "rd"
  refine ⟨n, rfl, hn, ?_⟩
  refine ⟨n, v, o, rfl, ho, hn, io, ?_⟩
  refine ⟨n, v2, p, rfl, hp, hn, ip, ?_⟩
  refine eq_pl hp ho ?_
  rw [decide_eq_false hne]
  try walk_at "rd"
  exact q
def sp_covering_part : Sp := fun vs H Q _ => ∃ (n : Nat) (v v2 : V) (o p : Pl), vs = [.int (n : Int), v, v2] ∧ PlT H v o ∧ PlT H v2 p ∧ n ≤ 400 ∧ In n o ∧ In n p ∧ p ≠ o ∧
  ∀ H' t x m o', Same H H' → H' t = some (.tup [.int ((m + 1 : Nat) : Int), x]) → PlT H' x o' → m + 1 ≤ n → m + 1 = Lv n o p → midA m o' = S n o p → o'.1 < 2 ^ 402 → o'.2 < 2 ^ 402 → Q (.ref t) H'
abbrev s_covering_part : Stmt := topS 16
theorem sc_covering_part : FnScope ["size", "out", "place", "part_size", "part_out"] ["size", "out", "place"] (defScope s_covering_part) := ⟨rfl, rfl, rfl, by decide +kernel, rfl, by decide +kernel, by decide +kernel⟩
theorem ok_covering_part (D : Def K mg "covering_part" s_covering_part ["size", "out", "place"]) (B : Blt mg)  (c_middle_piece : Cal P w K mg base "middle_piece" ["size", "out"] sp_middle_piece k) (c_left_out_of_quarter : Cal P w K mg base "left_out_of_quarter" ["size", "out", "quarter"] sp_left_out_of_quarter k) (c_quarter_of : Cal P w K mg base "quarter_of" ["size", "place"] sp_quarter_of k) : Cal P w K mg base "covering_part" ["size", "out", "place"] sp_covering_part (k + 1) := by
  have sc := sc_covering_part
  obtain ⟨f_middle_piece, fd_middle_piece, G_middle_piece, m_middle_piece, k_middle_piece, b_middle_piece, _⟩ := c_middle_piece.ex
  obtain ⟨f_left_out_of_quarter, fd_left_out_of_quarter, G_left_out_of_quarter, m_left_out_of_quarter, k_left_out_of_quarter, b_left_out_of_quarter, _⟩ := c_left_out_of_quarter.ex
  obtain ⟨f_quarter_of, fd_quarter_of, G_quarter_of, m_quarter_of, k_quarter_of, b_quarter_of, _⟩ := c_quarter_of.ex
  refine D.cal sc_covering_part (fun vs H Q E h => by obtain ⟨_, _, _, _, _, rfl, _⟩ := h; rfl) (fun f cdv A outer s H vs Q E hr h => ?_)
  obtain ⟨n, v, v2, o, p, rfl, ho, hp, hn, io, ip, hne, q⟩ := h
  refine ⟨_, (pss_cons (ps_set (i := 3) sc.nd rfl (.inl rfl) (pv 0))
    (pss_cons (ps_set (i := 4) sc.nd rfl (.inl rfl) (pv 1))
    (pss_cons (ps_while PassesOwn.never (pt_cmpR (r := rNotInD K) (by exact op_notInD (hu65 hr)) (pv 2) (pe_call G_middle_piece hr (by rfl) m_middle_piece k_middle_piece b_middle_piece .nil pass0 (pa_cons (pv 3) (pa_cons (pv 4) pa_nil))) (by rfl)) (pss_cons (ps_set (i := 4) sc.nd rfl (.inl rfl) (pe_call G_left_out_of_quarter hr (by rfl) m_left_out_of_quarter k_left_out_of_quarter b_left_out_of_quarter .nil pass0 (pa_cons (pv 3) (pa_cons (pv 4) (pa_cons (pe_call G_quarter_of hr (by rfl) m_quarter_of k_quarter_of b_quarter_of .nil pass0 (pa_cons (pv 3) (pa_cons (pv 2) pa_nil))) pa_nil)))))
      (pss_one (ps_aug (i := 3) sc.nd rfl (.inl rfl) pe_int ip_sub))))
    (pss_one (ps_ret (pe_tup (pa_cons (pv 3) (pa_cons (pv 4) pa_nil)))))))), ?_⟩
  walk_at "rd"
  have a0 := AtL.start io ip hne
  obtain ⟨m0, rfl⟩ : ∃ m, n = m + 1 := by
    cases n with
    | zero => exact (At.pos a0.at).elim
    | succ m => exact ⟨m, rfl⟩
  have bd : ∀ x : Nat, x < 2 ^ (m0 + 1) → x < 2 ^ 400 := fun x hx => Nat.lt_of_lt_of_le hx (Nat.pow_le_pow_right (by decide) hn)
  have near : ∀ {m : Nat} {o' : Pl} {l : Nat}, AtL (m + 1) o' p (S (m0 + 1) o p) l → m + 1 ≤ 400 → o'.1 < 2 ^ 402 ∧ o'.2 < 2 ^ 402 := fun {m o' l} a h => by
    have h1 := a.at.near
    have h2 := bd _ ip.1
    have h3 := bd _ ip.2
    have h4 : 2 ^ (m + 1) ≤ 2 ^ 400 := Nat.pow_le_pow_right (by decide) h
    have h5 : (2 : Nat) ^ 402 = 4 * 2 ^ 400 := by rw [show 402 = 400 + 2 from rfl, Nat.pow_add]; omega
    rw [h5]
    generalize 2 ^ 400 = z at *
    omega
  refine ⟨fun m σ H' => ∃ (o' : Pl) (vo : V), σ = [some (.int ((m0 + 1 : Nat) : Int)), some v, some v2, some (.int ((m + 1 : Nat) : Int)), some vo] ∧ Same H H' ∧ PlT H' vo o' ∧ AtL (m + 1) o' p (S (m0 + 1) o p) (Lv (m0 + 1) o p) ∧ m + 1 ≤ m0 + 1,
    ⟨m0, o, v, rfl, Same.refl _, ho, a0, Nat.le_refl _⟩, fun m σ H' hW => ?_⟩
  obtain ⟨o', vo, rfl, sm, po, a, hm⟩ := hW
  try walk_at "rd"
  have nr := near a (by omega)
  refine ⟨m, vo, o', rfl, po, by omega, nr.1, nr.2, fun H1 l1 xs1 s1 n1 e1 pl1 => ?_⟩
  try walk_at "rd"
  refine notIn_pls (hp.same (sm.trans s1)) (.of e1) pl1 ?_
  by_cases hin : p ∈ pc (midA m o')
  · rw [decide_eq_true hin]
    try walk_at "rd"
    obtain ⟨d1, d2⟩ := a.done hin
    intro t ht
    exact q _ t vo m o' (Same.upd (sm.trans s1) ht) upd_same ((po.same s1).same (same_new ht)) hm d2.symm d1.symm nr.1 nr.2
  · rw [decide_eq_false hin]
    try walk_at "rd"
    have a1 := a.turn hin
    obtain ⟨m1, rfl⟩ : ∃ j, m = j + 1 := by
      cases m with
      | zero => exact (At.pos a1.at).elim
      | succ j => exact ⟨j, rfl⟩
    refine ⟨fun σ' H2 => ∃ (o2 : Pl) (vo : V), σ' = [some (.int ((m0 + 1 : Nat) : Int)), some v, some v2, some (.int ((m1 + 1 : Nat) : Int)), some vo] ∧ Same H H2 ∧ PlT H2 vo o2 ∧ AtL (m1 + 1) o2 p (S (m0 + 1) o p) (Lv (m0 + 1) o p), fun σ' H2 hN => ?_, ?_⟩
    · obtain ⟨o2, vo2, rfl, r1, r2, r3⟩ := hN
      exact ⟨m1, by omega, o2, vo2, rfl, r1, r2, r3, by omega⟩
    · refine ⟨m1 + 1, v2, p, rfl, hp.same (sm.trans s1), ?_⟩
      try walk_at "rd"
      refine ⟨m1 + 1, qn (m1 + 1) p, vo, o', rfl, po.same s1, qn_lt _ _, by omega, nr.1, nr.2, fun H2 x s2 hx => ?_⟩
      have e1 : ((m1 + 1 + 1 : Nat) : Int) - 1 = ((m1 + 1 : Nat) : Int) := by omega
      try walk_at "rd"
      rw [e1]
      exact ⟨rfl, (sm.trans s1).trans s2, _, hx, a1⟩
def sp_piece : Sp := fun vs H Q _ => ∃ (n : Nat) (v v2 : V) (o p : Pl), vs = [.int (n : Int), v, v2] ∧ PlT H v o ∧ PlT H v2 p ∧ n ≤ 400 ∧ In n o ∧ In n p ∧ p ≠ o ∧
  ∀ H' l xs, Same H H' → H l = none → H' l = some (.lst xs) → PlsT H' xs (pc (S n o p)) → Q (.ref l) H'
abbrev s_piece : Stmt := topS 17
theorem sc_piece : FnScope ["size", "out", "place", "part_size", "part_out"] ["size", "out", "place"] (defScope s_piece) := ⟨rfl, rfl, rfl, by decide +kernel, rfl, by decide +kernel, by decide +kernel⟩
theorem ok_piece (D : Def K mg "piece" s_piece ["size", "out", "place"]) (B : Blt mg)  (c_check_covered : Cal P w K mg base "check_covered" ["size", "out", "place"] sp_check_covered k) (c_covering_part : Cal P w K mg base "covering_part" ["size", "out", "place"] sp_covering_part k) (c_middle_piece : Cal P w K mg base "middle_piece" ["size", "out"] sp_middle_piece k) : Cal P w K mg base "piece" ["size", "out", "place"] sp_piece (k + 1) := by
  have sc := sc_piece
  obtain ⟨f_check_covered, fd_check_covered, G_check_covered, m_check_covered, k_check_covered, b_check_covered, _⟩ := c_check_covered.ex
  obtain ⟨f_covering_part, fd_covering_part, G_covering_part, m_covering_part, k_covering_part, b_covering_part, _⟩ := c_covering_part.ex
  obtain ⟨f_middle_piece, fd_middle_piece, G_middle_piece, m_middle_piece, k_middle_piece, b_middle_piece, _⟩ := c_middle_piece.ex
  refine D.cal sc_piece (fun vs H Q E h => by obtain ⟨_, _, _, _, _, rfl, _⟩ := h; rfl) (fun f cdv A outer s H vs Q E hr h => ?_)
  obtain ⟨n, v, v2, o, p, rfl, ho, hp, hn, io, ip, hne, q⟩ := h
  refine ⟨_, (pss_cons (ps_expr (pe_call G_check_covered hr (by rfl) m_check_covered k_check_covered b_check_covered .nil pass0 (pa_cons (pv 0) (pa_cons (pv 1) (pa_cons (pv 2) pa_nil)))))
    (pss_cons (ps_asg (pe_call G_covering_part hr (by rfl) m_covering_part k_covering_part b_covering_part .nil pass0 (pa_cons (pv 0) (pa_cons (pv 1) (pa_cons (pv 2) pa_nil)))) (pg_tup (n := 2) rfl (pgs_cons (pg_name (i := 3) sc.nd rfl (.inl rfl)) (pgs_cons (pg_name (i := 4) sc.nd rfl (.inl rfl)) pgs_nil))))
    (pss_one (ps_ret (pe_call G_middle_piece hr (by rfl) m_middle_piece k_middle_piece b_middle_piece .nil pass0 (pa_cons (pv 3) (pa_cons (pv 4) pa_nil))))))), ?_⟩
  walk_at "rd"
  refine ⟨n, v, v2, o, p, rfl, ho, hp, hn, io, ip, hne, ?_⟩
  try walk_at "rd"
  refine ⟨n, v, v2, o, p, rfl, ho, hp, hn, io, ip, hne, fun H1 t x m o' s1 e1 h1 hm hl hS b1 b2 => ?_⟩
  try walk_at "rd"
  refine ⟨_, .of e1, rfl, _, _, rfl, _, _, rfl, rfl, ?_⟩
  try walk_at "rd"
  refine ⟨m, x, o', rfl, h1, by omega, b1, b2, fun H2 l xs s2 n2 e2 g2 => ?_⟩
  rw [hS] at g2
  exact q H2 l xs (s1.trans s2) (Same.free s1 n2) e2 g2
end
end Cf

namespace Cf
open PySem PySem.Spec PyProof.Rows L2
local macro_rules | `(tactic| walk_at "rd") => `(tactic| simp only [cx_K, cx_P, cx_w, tVar, tC, tCons, tNil, tOp, tUn, rI, rI0, rU, tSeq, Evl.tCut, tAsg, gName, tRet, tRetN, tIfS, tB, tTest, tNot, tAndV, tOrV, tNotV, tChain, tDrop, tRevL, tBM, rAppend, tAug, ipI, tTup, tLst, tCB, tCall, gTup, gCons, gNil, gSub, tNext, rEq, rNe, rIxL, rIxT, wipe, tYes, rSetL, tSl, tNoPart, tPart, tAugS, rGetL, tBits, rI0, Evl.rLenS, Evl.rListS, scal_ii, scal_bb, L2.start, List.map_cons, List.map_nil, List.length_cons, List.length_nil, List.replicate, List.cons_append, List.nil_append, List.append_nil, Nat.reduceAdd, Nat.reduceSub, List.set_cons_zero, List.set_cons_succ, List.getElem?_cons_zero, List.getElem?_cons_succ, Option.some.injEq, V.int.injEq, V.bl.injEq, V.ref.injEq, List.cons.injEq, and_assoc, and_true, true_and, exists_eq_left, exists_eq_left', exists_and_left, exists_and_right, exists_eq_right, exists_eq_right', decide_true, decide_false, Bool.false_eq_true, if_true, if_false, reduceIte, ↓reduceIte, Bool.not_true, Bool.not_false, Bool.or_false, Bool.or_true, Bool.true_or, Bool.false_or, Bool.and_true, Bool.true_and, Bool.and_false, Bool.false_and, exists_const, and_self, Int.one_mul, Int.toNat_natCast, bitAnd_m1, c0, c1, c2, c3, c4, cmul2, cdiv2, cdiv3, cdiv4, cdiv5, cdiv7, Int.natCast_nonneg, Int.reduceLT, eq_self, sz0, sz1, sz2, sz3, sz4, sz5, sz6, sz8, sz11])
local macro_rules | `(tactic| walk_at "rdo") => `(tactic| (simp only [tAnd, tOr, tIf]; (try walk_at "rd")))
local macro_rules | `(tactic| walk_at "same") => `(tactic| ((try unfold L2.Same); repeat (first | exact Same.refl _ | assumption | refine Same.upd ?_ (by assumption))))
local macro_rules | `(tactic| walk_at "look") => `(tactic| (repeat (first | exact upd_same | assumption | refine upd_old (by assumption) ?_)))

section
variable {P : Program} {w : World} {K : PySem.W.Frag} {mg : Str → Option Value} {base : Heap} {k : Nat}
def sp_pieces_in : Sp := fun vs H Q _ => ∃ (n : Nat), vs = [.int (n : Int)] ∧ n ≤ 401 ∧ Q (.int (cnt n : Nat)) H
abbrev s_pieces_in : Stmt := topS 19
theorem sc_pieces_in : FnScope ["size"] ["size"] (defScope s_pieces_in) := ⟨rfl, rfl, rfl, by decide +kernel, rfl, by decide +kernel, by decide +kernel⟩
theorem ok_pieces_in (D : Def K mg "pieces_in" s_pieces_in ["size"]) (B : Blt mg)   : Cal P w K mg base "pieces_in" ["size"] sp_pieces_in (k + 1) := by
  have sc := sc_pieces_in
  refine D.cal sc_pieces_in (fun vs H Q E h => by obtain ⟨_, rfl, _⟩ := h; rfl) (fun f cdv A outer s H vs Q E hr h => ?_)
  obtain ⟨n, rfl, hn, q⟩ := h
  refine ⟨_, (pss_one (ps_ret (pe_op op_fdiv (pe_op op_sub (pe_op op_shlW pe_int (pe_op op_mul pe_int (pv 0))) pe_int) pe_int))), ?_⟩
  walk_at "rd"
  refine ⟨shl1 (n := 2 * n) (by omega), ?_⟩
  rw [toNat2, ← Int.one_mul ((2 : Int) ^ (2 * n)), cnt_int]
  exact q
def sp_number_of_part : Sp := fun vs H Q _ => ∃ (n m : Nat) (v : V) (p : Pl), vs = [.int (n : Int), .int (m : Int), v] ∧ PlT H v p ∧ n ≤ 400 ∧ m ≤ n ∧ Q (.int (nsum p n m : Nat)) H
abbrev s_number_of_part : Stmt := topS 20
theorem sc_number_of_part : FnScope ["size", "part_size", "place", "number", "outer"] ["size", "part_size", "place"] (defScope s_number_of_part) := ⟨rfl, rfl, rfl, by decide +kernel, rfl, by decide +kernel, by decide +kernel⟩
theorem ok_number_of_part (D : Def K mg "number_of_part" s_number_of_part ["size", "part_size", "place"]) (B : Blt mg)  (c_quarter_of : Cal P w K mg base "quarter_of" ["size", "place"] sp_quarter_of k) (c_pieces_in : Cal P w K mg base "pieces_in" ["size"] sp_pieces_in k) : Cal P w K mg base "number_of_part" ["size", "part_size", "place"] sp_number_of_part (k + 1) := by
  have sc := sc_number_of_part
  obtain ⟨f_quarter_of, fd_quarter_of, G_quarter_of, m_quarter_of, k_quarter_of, b_quarter_of, _⟩ := c_quarter_of.ex
  obtain ⟨f_pieces_in, fd_pieces_in, G_pieces_in, m_pieces_in, k_pieces_in, b_pieces_in, _⟩ := c_pieces_in.ex
  refine D.cal sc_number_of_part (fun vs H Q E h => by obtain ⟨_, _, _, _, rfl, _⟩ := h; rfl) (fun f cdv A outer s H vs Q E hr h => ?_)
  obtain ⟨n, m, v, p, rfl, hp, hn, hm, q⟩ := h
  refine ⟨_, (pss_cons (ps_set (i := 3) sc.nd rfl (.inl rfl) pe_int)
    (pss_cons (ps_for PassesOwn.never rfl (pi_range3 (by rfl) B.range (pa_cons (pv 0) (pa_cons (pv 1) (pa_cons (pe_un un_neg pe_int) pa_nil)))) (pg_name (i := 4) sc.nd rfl (.inl rfl)) (pss_one (ps_aug (i := 3) sc.nd rfl (.inl rfl) (pe_op op_add pe_int (pe_op op_mul (pe_call G_quarter_of hr (by rfl) m_quarter_of k_quarter_of b_quarter_of .nil pass0 (pa_cons (pv 4) (pa_cons (pv 2) pa_nil))) (pe_call G_pieces_in hr (by rfl) m_pieces_in k_pieces_in b_pieces_in .nil pass0 (pa_cons (pe_op op_sub (pv 4) pe_int) pa_nil)))) ip_add)))
    (pss_one (ps_ret (pv 3))))), ?_⟩
  walk_at "rd"
  obtain ⟨Pv, eP⟩ := word (fun (i : Nat) (σ : L2.St) (H' : Hp) => ∃ (z : Nat) (u : Option V), σ = [some (.int (n : Int)), some (.int (m : Int)), some v, some (.int (z : Int)), u] ∧ H' = H ∧ z + nsum p (n - i) m = nsum p n m)
  refine fr4 n m (by omega) hm (fun R h => ?_) Pv (by rw [eP]; exact ⟨0, none, rfl, rfl, Nat.zero_add _⟩) (fun i σ H' hi hP => ?_) fun σ H' hP => ?_
  · try walk_at "rd"
    exact h
  · rw [eP] at hP
    obtain ⟨z, u, rfl, rfl, e⟩ := hP
    try walk_at "rd"
    obtain ⟨j, hj⟩ : ∃ j, n - i = j + 1 := ⟨n - i - 1, by omega⟩
    rw [hj] at e ⊢
    rw [nsum_gt (by omega)] at e
    refine ⟨j, v, p, rfl, hp, ?_⟩
    try walk_at "rd"
    rw [sub1]
    refine ⟨j, rfl, by omega, ?_⟩
    have h4 := qn_lt j p
    try walk_at "rd"
    refine ⟨mulL (by omega), ?_⟩
    try walk_at "rd"
    rw [eP]
    refine ⟨z + (1 + qn j p * cnt j), some (.int ((j + 1 : Nat) : Int)), ?_, rfl, ?_⟩
    · simp only [Int.natCast_add, Int.natCast_mul, c1]
    · rw [show n - (i + 1) = j by omega]
      omega
  · rw [eP] at hP
    obtain ⟨z, u, rfl, rfl, e⟩ := hP
    try walk_at "rd"
    rw [show n - (n - m) = m by omega, nsum_le (Nat.le_refl m), Nat.add_zero] at e
    rw [e]
    exact q
def sp_count : Sp := fun vs H Q _ => ∃ (n : Nat), vs = [.int (n : Int)] ∧ n ≤ 400 ∧ Q (.int (cnt n : Nat)) H
def sp_number_of : Sp := fun vs H Q _ => ∃ (n : Nat) (v v2 : V) (o p : Pl), vs = [.int (n : Int), v, v2] ∧ PlT H v o ∧ PlT H v2 p ∧ n ≤ 400 ∧ In n o ∧ In n p ∧ p ≠ o ∧
  ∀ H', Same H H' → Q (.int (N n o p : Nat)) H'
abbrev s_number_of : Stmt := topS 22
theorem sc_number_of : FnScope ["size", "out", "place", "part_size", "_"] ["size", "out", "place"] (defScope s_number_of) := ⟨rfl, rfl, rfl, by decide +kernel, rfl, by decide +kernel, by decide +kernel⟩
theorem ok_number_of (D : Def K mg "number_of" s_number_of ["size", "out", "place"]) (B : Blt mg)  (c_check_covered : Cal P w K mg base "check_covered" ["size", "out", "place"] sp_check_covered k) (c_covering_part : Cal P w K mg base "covering_part" ["size", "out", "place"] sp_covering_part k) (c_number_of_part : Cal P w K mg base "number_of_part" ["size", "part_size", "place"] sp_number_of_part k) : Cal P w K mg base "number_of" ["size", "out", "place"] sp_number_of (k + 1) := by
  have sc := sc_number_of
  obtain ⟨f_check_covered, fd_check_covered, G_check_covered, m_check_covered, k_check_covered, b_check_covered, _⟩ := c_check_covered.ex
  obtain ⟨f_covering_part, fd_covering_part, G_covering_part, m_covering_part, k_covering_part, b_covering_part, _⟩ := c_covering_part.ex
  obtain ⟨f_number_of_part, fd_number_of_part, G_number_of_part, m_number_of_part, k_number_of_part, b_number_of_part, _⟩ := c_number_of_part.ex
  refine D.cal sc_number_of (fun vs H Q E h => by obtain ⟨_, _, _, _, _, rfl, _⟩ := h; rfl) (fun f cdv A outer s H vs Q E hr h => ?_)
  obtain ⟨n, v, v2, o, p, rfl, ho, hp, hn, io, ip, hne, q⟩ := h
  refine ⟨_, (pss_cons (ps_expr (pe_call G_check_covered hr (by rfl) m_check_covered k_check_covered b_check_covered .nil pass0 (pa_cons (pv 0) (pa_cons (pv 1) (pa_cons (pv 2) pa_nil)))))
    (pss_cons (ps_asg (pe_call G_covering_part hr (by rfl) m_covering_part k_covering_part b_covering_part .nil pass0 (pa_cons (pv 0) (pa_cons (pv 1) (pa_cons (pv 2) pa_nil)))) (pg_tup (n := 2) rfl (pgs_cons (pg_name (i := 3) sc.nd rfl (.inl rfl)) (pgs_cons (pg_name (i := 4) sc.nd rfl (.inl rfl)) pgs_nil))))
    (pss_one (ps_ret (pe_call G_number_of_part hr (by rfl) m_number_of_part k_number_of_part b_number_of_part .nil pass0 (pa_cons (pv 0) (pa_cons (pv 3) (pa_cons (pv 2) pa_nil)))))))), ?_⟩
  walk_at "rd"
  refine ⟨n, v, v2, o, p, rfl, ho, hp, hn, io, ip, hne, ?_⟩
  try walk_at "rd"
  refine ⟨n, v, v2, o, p, rfl, ho, hp, hn, io, ip, hne, fun H1 t x m o' s1 e1 h1 hm hl hS b1 b2 => ?_⟩
  try walk_at "rd"
  refine ⟨_, .of e1, rfl, _, _, rfl, _, _, rfl, rfl, ?_⟩
  try walk_at "rd"
  refine ⟨n, m + 1, v2, p, rfl, hp.same s1, hn, hm, ?_⟩
  rw [hl, ← N_nsum]
  exact q H1 s1
def sp_piece_of : Sp := fun vs H Q _ => ∃ (n : Nat) (v : V) (o : Pl) (j : Nat), vs = [.int (n : Int), v, .int (j : Int)] ∧ PlT H v o ∧ n ≤ 400 ∧ In n o ∧ j < cnt n ∧
  ∀ H' l xs, Same H H' → H l = none → H' l = some (.lst xs) → PlsT H' xs (pc (PO n o j)) → Q (.ref l) H'
abbrev s_piece_of : Stmt := topS 23
theorem sc_piece_of : FnScope ["size", "out", "number", "part_size", "part_out", "part_number", "quarter"] ["size", "out", "number"] (defScope s_piece_of) := ⟨rfl, rfl, rfl, by decide +kernel, rfl, by decide +kernel, by decide +kernel⟩
theorem ok_piece_of (D : Def K mg "piece_of" s_piece_of ["size", "out", "number"]) (B : Blt mg)  (c_check_size : Cal P w K mg base "check_size" ["size"] sp_check_size k) (c_check_place : Cal P w K mg base "check_place" ["size", "place"] sp_check_place k) (c_is_count : Cal P w K mg base "is_count" ["value", "limit"] sp_is_count k) (c_pieces_in : Cal P w K mg base "pieces_in" ["size"] sp_pieces_in k) (c_left_out_of_quarter : Cal P w K mg base "left_out_of_quarter" ["size", "out", "quarter"] sp_left_out_of_quarter k) (c_middle_piece : Cal P w K mg base "middle_piece" ["size", "out"] sp_middle_piece k) : Cal P w K mg base "piece_of" ["size", "out", "number"] sp_piece_of (k + 1) := by
  have sc := sc_piece_of
  obtain ⟨f_check_size, fd_check_size, G_check_size, m_check_size, k_check_size, b_check_size, _⟩ := c_check_size.ex
  obtain ⟨f_check_place, fd_check_place, G_check_place, m_check_place, k_check_place, b_check_place, _⟩ := c_check_place.ex
  obtain ⟨f_is_count, fd_is_count, G_is_count, m_is_count, k_is_count, b_is_count, _⟩ := c_is_count.ex
  obtain ⟨f_pieces_in, fd_pieces_in, G_pieces_in, m_pieces_in, k_pieces_in, b_pieces_in, _⟩ := c_pieces_in.ex
  obtain ⟨f_left_out_of_quarter, fd_left_out_of_quarter, G_left_out_of_quarter, m_left_out_of_quarter, k_left_out_of_quarter, b_left_out_of_quarter, _⟩ := c_left_out_of_quarter.ex
  obtain ⟨f_middle_piece, fd_middle_piece, G_middle_piece, m_middle_piece, k_middle_piece, b_middle_piece, _⟩ := c_middle_piece.ex
  refine D.cal sc_piece_of (fun vs H Q E h => by obtain ⟨_, _, _, _, rfl, _⟩ := h; rfl) (fun f cdv A outer s H vs Q E hr h => ?_)
  obtain ⟨n, v, o, j, rfl, ho, hn, io, hj, q⟩ := h
  refine ⟨_, (pss_cons (ps_expr (pe_call G_check_size hr (by rfl) m_check_size k_check_size b_check_size .nil pass0 (pa_cons (pv 0) pa_nil)))
    (pss_cons (ps_expr (pe_call G_check_place hr (by rfl) m_check_place k_check_place b_check_place .nil pass0 (pa_cons (pv 0) (pa_cons (pv 1) pa_nil))))
    (pss_cons (ps_if (pt_not (pt_val (pe_call G_is_count hr (by rfl) m_is_count k_is_count b_is_count .nil pass0 (pa_cons (pv 2) (pa_cons (pe_call G_pieces_in hr (by rfl) m_pieces_in k_pieces_in b_pieces_in .nil pass0 (pa_cons (pv 0) pa_nil)) pa_nil))))) (pss_one ps_never) pss_nil)
    (pss_cons (ps_set (i := 3) sc.nd rfl (.inl rfl) (pv 0))
    (pss_cons (ps_set (i := 4) sc.nd rfl (.inl rfl) (pv 1))
    (pss_cons (ps_set (i := 5) sc.nd rfl (.inl rfl) (pv 2))
    (pss_cons (ps_while PassesOwn.never (pt_cmpR op_gt (pv 5) pe_int (nomark _)) (pss_cons (ps_asg (pe_callB call_divmodW (by rfl) B.divmod boot_divmod (pa_cons (pe_op op_sub (pv 5) pe_int) (pa_cons (pe_call G_pieces_in hr (by rfl) m_pieces_in k_pieces_in b_pieces_in .nil pass0 (pa_cons (pe_op op_sub (pv 3) pe_int) pa_nil)) pa_nil))) (pg_tup (n := 2) rfl (pgs_cons (pg_name (i := 6) sc.nd rfl (.inl rfl)) (pgs_cons (pg_name (i := 5) sc.nd rfl (.inl rfl)) pgs_nil))))
      (pss_cons (ps_set (i := 4) sc.nd rfl (.inl rfl) (pe_call G_left_out_of_quarter hr (by rfl) m_left_out_of_quarter k_left_out_of_quarter b_left_out_of_quarter .nil pass0 (pa_cons (pv 3) (pa_cons (pv 4) (pa_cons (pv 6) pa_nil)))))
      (pss_one (ps_aug (i := 3) sc.nd rfl (.inl rfl) pe_int ip_sub)))))
    (pss_one (ps_ret (pe_call G_middle_piece hr (by rfl) m_middle_piece k_middle_piece b_middle_piece .nil pass0 (pa_cons (pv 3) (pa_cons (pv 4) pa_nil)))))))))))), ?_⟩
  walk_at "rd"
  refine ⟨n, rfl, hn, ?_⟩
  try walk_at "rd"
  refine ⟨n, v, o, rfl, ho, hn, io, ?_⟩
  try walk_at "rd"
  refine ⟨n, rfl, by omega, ?_⟩
  try walk_at "rd"
  refine ⟨_, _, rfl, ?_⟩
  rw [decide_eq_true (show (0 : Int) ≤ (j : Int) ∧ (j : Int) < (cnt n : Int) by omega)]
  try walk_at "rd"
  have a0 := AtK.start io hj
  refine ⟨fun m σ H' => ∃ (o' : Pl) (vo : V) (i : Nat) (u : Option V), σ = [some (.int (n : Int)), some v, some (.int (j : Int)), some (.int (m : Int)), some vo, some (.int (i : Int)), u] ∧ Same H H' ∧ PlT H' vo o' ∧ AtK m o' i (PO n o j) ∧ m ≤ n,
    ⟨n, o, v, j, none, rfl, Same.refl _, ho, a0, Nat.le_refl _⟩, fun m σ H' hW => ?_⟩
  obtain ⟨o', vo, i, u, rfl, sm, po, a, hm⟩ := hW
  have nr := a.near (by omega)
  obtain ⟨m, rfl⟩ : ∃ j, m = j + 1 := by
    cases m with
    | zero => exact (AtK.pos a).elim
    | succ j => exact ⟨j, rfl⟩
  try walk_at "rd"
  cases i with
  | zero =>
    rw [decide_eq_false (by omega)]
    try walk_at "rd"
    refine ⟨m, vo, o', rfl, po, by omega, nr.1, nr.2, fun H2 l xs s2 n2 e2 g2 => ?_⟩
    rw [← a.done] at g2
    exact q H2 l xs (sm.trans s2) (Same.free sm n2) e2 g2
  | succ i =>
    have hp2 := a.pos2
    have a1 := a.turn (by omega)
    rw [decide_eq_true (by omega)]
    try walk_at "rd"
    refine ⟨fun σ' H2 => ∃ (o2 : Pl) (vo : V) (i2 : Nat) (u : Option V), σ' = [some (.int (n : Int)), some v, some (.int (j : Int)), some (.int (m : Int)), some vo, some (.int (i2 : Int)), u] ∧ Same H H2 ∧ PlT H2 vo o2 ∧ AtK m o2 i2 (PO n o j), fun σ' H2 hN => ?_, ?_⟩
    · obtain ⟨o2, vo2, i2, u, rfl, r1, r2, r3⟩ := hN
      exact ⟨m, by omega, o2, vo2, i2, ⟨u, rfl⟩, r1, r2, r3, by omega⟩
    · rw [sub1, sub1]
      refine ⟨m, rfl, by omega, ?_⟩
      try walk_at "rd"
      refine ⟨divP hp2.1 (cnt_lt m (by omega)), fun t ht => ?_⟩
      refine ⟨_, .of upd_same, rfl, _, _, rfl, _, _, rfl, rfl, ?_⟩
      try walk_at "rd"
      rw [← Int.natCast_ediv, ← Int.natCast_emod]
      refine ⟨m, i / cnt m, vo, o', rfl, po.same (same_new ht), hp2.2, by omega, nr.1, nr.2, fun H2 x s2 hx => ?_⟩
      try walk_at "rd"
      exact ⟨_, i % cnt m, rfl, ((sm.trans (same_new ht)).trans s2), hx, a1⟩
end
end Cf

namespace Cf
open PySem PySem.Spec PyProof.Rows L2
local macro_rules | `(tactic| walk_at "rd") => `(tactic| simp only [cx_K, cx_P, cx_w, tVar, tC, tCons, tNil, tOp, tUn, rI, rI0, rU, tSeq, Evl.tCut, tAsg, gName, tRet, tRetN, tIfS, tB, tTest, tNot, tAndV, tOrV, tNotV, tChain, tDrop, tRevL, tBM, rAppend, tAug, ipI, tTup, tLst, tCB, tCall, gTup, gCons, gNil, gSub, tNext, rEq, rNe, rIxL, rIxT, wipe, tYes, rSetL, tSl, tNoPart, tPart, tAugS, rGetL, tBits, rI0, Evl.rLenS, Evl.rListS, scal_ii, scal_bb, L2.start, List.map_cons, List.map_nil, List.length_cons, List.length_nil, List.replicate, List.cons_append, List.nil_append, List.append_nil, Nat.reduceAdd, Nat.reduceSub, List.set_cons_zero, List.set_cons_succ, List.getElem?_cons_zero, List.getElem?_cons_succ, Option.some.injEq, V.int.injEq, V.bl.injEq, V.ref.injEq, List.cons.injEq, and_assoc, and_true, true_and, exists_eq_left, exists_eq_left', exists_and_left, exists_and_right, exists_eq_right, exists_eq_right', decide_true, decide_false, Bool.false_eq_true, if_true, if_false, reduceIte, ↓reduceIte, Bool.not_true, Bool.not_false, Bool.or_false, Bool.or_true, Bool.true_or, Bool.false_or, Bool.and_true, Bool.true_and, Bool.and_false, Bool.false_and, exists_const, and_self, Int.one_mul, Int.toNat_natCast, bitAnd_m1, c0, c1, c2, c3, c4, cmul2, cdiv2, cdiv3, cdiv4, cdiv5, cdiv7, Int.natCast_nonneg, Int.reduceLT, eq_self, sz0, sz1, sz2, sz3, sz4, sz5, sz6, sz8, sz11])
local macro_rules | `(tactic| walk_at "rdo") => `(tactic| (simp only [tAnd, tOr, tIf]; (try walk_at "rd")))
local macro_rules | `(tactic| walk_at "same") => `(tactic| ((try unfold L2.Same); repeat (first | exact Same.refl _ | assumption | refine Same.upd ?_ (by assumption))))
local macro_rules | `(tactic| walk_at "look") => `(tactic| (repeat (first | exact upd_same | assumption | refine upd_old (by assumption) ?_)))

section
variable {P : Program} {w : World} {K : PySem.W.Frag} {mg : Str → Option Value} {base : Heap} {k : Nat}
def sp_ways_of_part : Sp := fun vs H Q _ => ∃ (q : Nat) (a c : Addr) (rs : List V) (f : Nat → Nat) (g : Nat → Nat → Nat), vs = [.int (q : Int), .ref a, .ref c] ∧ q < 4 ∧ H a = some (.lst (I4 f)) ∧ H c = some (.lst rs) ∧ RowsT H rs g ∧
  ∀ H' l, Same H H' → H l = none → H' l = some (.lst (I4 (wpi q f g 4))) → Q (.ref l) H'
abbrev s_ways_of_part : Stmt := topS 21
theorem sc_ways_of_part : FnScope ["quarter_out", "inner", "cornered", "told", "quarter", "many", "more"] ["quarter_out", "inner", "cornered"] (defScope s_ways_of_part) := ⟨rfl, rfl, rfl, by decide +kernel, rfl, by decide +kernel, by decide +kernel⟩
theorem ok_ways_of_part (D : Def K mg "ways_of_part" s_ways_of_part ["quarter_out", "inner", "cornered"]) (B : Blt mg)   : Cal P w K mg base "ways_of_part" ["quarter_out", "inner", "cornered"] sp_ways_of_part (k + 1) := by
  have sc := sc_ways_of_part
  refine D.cal sc_ways_of_part (fun vs H Q E h => by obtain ⟨_, _, _, _, _, _, rfl, _⟩ := h; rfl) (fun f cdv A outer s H vs Q E hr h => ?_)
  obtain ⟨q, a, c, rs, f, g, rfl, hq, ha, hc, hrs, qq⟩ := h
  refine ⟨_, (pss_cons (ps_set (i := 3) sc.nd rfl (.inl rfl) (pe_callTy (r := Evl.rListS K) (by exact call_list_of) (by rfl) B.list boot_list (pa_cons (pv 1) pa_nil)))
    (pss_cons (ps_augS (pv 3) (pv 0) get_listP pe_int ip_add set_list)
    (pss_cons (ps_for PassesOwn.never rfl (pi_range1 (by rfl) B.range (pa_cons pe_int pa_nil)) (pg_name (i := 4) sc.nd rfl (.inl rfl)) (pss_one (ps_if (pt_cmpR op_ne (pv 4) (pv 0) (nomark _)) (pss_one (ps_setLc (i := 3) (own := [("many", 5), ("more", 6)]) (g := (gTup K 2 (gCons (gName 5) (gCons (gName 6) gNil)))) (by rfl) sc.nd rfl rfl (sw_true rfl rfl rfl (by decide +kernel)) (pi_zip (by rfl) B.zip (pa_cons (pv 3) (pa_cons (pe_ix (r := rIxL K) (by exact ix_list) (pv 2) (pe_op op_sub pe_int (pv 4)) (fun _ _ => rfl)) pa_nil))) (blkOk_by (own := [("many", 5), ("more", 6)]) (N := ["quarter_out", "inner", "cornered", "told", "quarter", "many", "more"]) (sc := defScope s_ways_of_part) (by decide +kernel)) (fun _ _ _ _ _ => (pg_tup (n := 2) rfl (pgs_cons (pg_name (i := 5) sc.nd rfl (.inl rfl)) (pgs_cons (pg_name (i := 6) sc.nd rfl (.inl rfl)) pgs_nil)))) (fun _ _ _ _ _ => pts_nil) (fun _ _ _ _ _ => (pe_op op_add (pv 5) (pv 6))))) pss_nil)))
    (pss_one (ps_ret (pv 3)))))), ?_⟩
  walk_at "rd"
  refine ⟨_, .inl (.of ha), fun l nl => ?_⟩
  try walk_at "rd"
  refine ⟨I4 f, q, rfl, .of upd_same, _, I4_get f hq, _, rfl, _, upd_same, q, Evl.ixN_nat hq, ?_⟩
  rw [I4_set f hq, upd_upd]
  generalize hH1 : L2.upd H l (.lst (I4 fun j => f j + if j = q then 1 else 0)) = H1
  have s1 : Same H H1 := by rw [← hH1]; exact same_new nl
  have e1 : H1 l = some (.lst (I4 (wpi q f g 0))) := by rw [← hH1]; exact upd_same
  obtain ⟨Pv, eP⟩ := word (fun (i : Nat) (σ : L2.St) (H' : Hp) => ∃ (l2 : Addr) (u4 : Option V), σ = [some (.int (q : Int)), some (.ref a), some (.ref c), some (.ref l2), u4, none, none] ∧ Same H H' ∧ H l2 = none ∧ H' l2 = some (.lst (I4 (wpi q f g i))))
  refine fr1 4 (by omega) (fun R h => ?_) Pv (by rw [eP]; exact ⟨l, none, rfl, s1, nl, e1⟩) (fun i σ H' hi hP => ?_) fun σ H' hP => ?_
  · try walk_at "rd"
    exact h
  · rw [eP] at hP
    obtain ⟨l2, u4, rfl, sm, n2, e2⟩ := hP
    try walk_at "rd"
    rw [nat_dec]
    by_cases hiq : i = q
    · rw [decide_eq_true hiq]
      try walk_at "rd"
      rw [eP]
      refine ⟨l2, _, rfl, sm, n2, ?_⟩
      rw [e2]
      refine congrArg (fun z => some (HO.lst z)) (I4_congr fun j _ => ?_)
      show _ = wpi q f g i j + if i = q then 0 else g (3 - i) j
      rw [if_pos hiq, Nat.add_zero]
    · rw [decide_eq_false hiq]
      try walk_at "rd"
      obtain ⟨r, hr1, hr2⟩ := hrs (3 - i) (by omega)
      have e3 : (3 : Int) - (i : Int) = ((3 - i : Nat) : Int) := by omega
      refine lcz (P := fun us H3 => us = [.ref l2, .ref r] ∧ H3 = H') (fun R0 hR => ?_) fun us H3 hu => ?_
      · try walk_at "rd"
        rw [e3]
        exact ⟨rs, .of (sm _ _ hc), _, atI_nat hr1, hR _ _ ⟨rfl, rfl⟩⟩
      obtain ⟨rfl, rfl⟩ := hu
      refine ⟨l2, r, _, _, fun _ => true, fun j => .val (.int ((wpi q f g (i + 1) j : Nat) : Int)), rfl, .of e2, .of (sm _ _ hr2), rfl, by rw [I4_len]; omega, fun j x y T H4 hj hx hy s4 nT Kt Kf hT hF => ?_, fun D4 H4 zs nD s4 eD gD => ?_⟩
      · rw [I4_len] at hj
        rw [I4_get _ hj] at hx hy
        cases hx
        cases hy
        try walk_at "rd"
        refine ⟨_, .of upd_same, rfl, _, _, rfl, _, _, rfl, rfl, ?_⟩
        try walk_at "rd"
        refine hT _ _ (Same.refl _) rfl ?_
        show V.int _ = V.int _
        show _ = V.int ((wpi q f g i j + (if i = q then 0 else g (3 - i) j) : Nat) : Int)
        rw [if_neg hiq, Int.natCast_add]
      · have gv := Els.vals gD
        rw [I4_len, filter_all, I4_range] at gv
        subst gv
        try walk_at "rd"
        rw [eP]
        exact ⟨D4, _, rfl, sm.trans s4, Same.free sm nD, eD⟩
  · rw [eP] at hP
    obtain ⟨l2, u4, rfl, sm, n2, e2⟩ := hP
    try walk_at "rd"
    exact qq H' l2 sm n2 e2
def sp_ways : Sp := fun vs H Q _ => ∃ (n : Nat) (v : V) (o : Pl), vs = [.int (n : Int), v] ∧ PlT H v o ∧ n ≤ 400 ∧ In n o ∧
  ∀ H' l, Same H H' → H l = none → H' l = some (.lst (I4 (W n o))) → Q (.ref l) H'
abbrev s_ways : Stmt := topS 24
theorem sc_ways : FnScope ["size", "out", "told", "cornered", "part_size", "corner"] ["size", "out"] (defScope s_ways) := ⟨rfl, rfl, rfl, by decide +kernel, rfl, by decide +kernel, by decide +kernel⟩
theorem ok_ways (D : Def K mg "ways" s_ways ["size", "out"]) (B : Blt mg)  (c_check_size : Cal P w K mg base "check_size" ["size"] sp_check_size k) (c_check_place : Cal P w K mg base "check_place" ["size", "place"] sp_check_place k) (c_ways_of_part : Cal P w K mg base "ways_of_part" ["quarter_out", "inner", "cornered"] sp_ways_of_part k) (c_quarter_of : Cal P w K mg base "quarter_of" ["size", "place"] sp_quarter_of k) : Cal P w K mg base "ways" ["size", "out"] sp_ways (k + 1) := by
  have sc := sc_ways
  obtain ⟨f_check_size, fd_check_size, G_check_size, m_check_size, k_check_size, b_check_size, _⟩ := c_check_size.ex
  obtain ⟨f_check_place, fd_check_place, G_check_place, m_check_place, k_check_place, b_check_place, _⟩ := c_check_place.ex
  obtain ⟨f_ways_of_part, fd_ways_of_part, G_ways_of_part, m_ways_of_part, k_ways_of_part, b_ways_of_part, _⟩ := c_ways_of_part.ex
  obtain ⟨f_quarter_of, fd_quarter_of, G_quarter_of, m_quarter_of, k_quarter_of, b_quarter_of, _⟩ := c_quarter_of.ex
  refine D.cal sc_ways (fun vs H Q E h => by obtain ⟨_, _, _, rfl, _⟩ := h; rfl) (fun f cdv A outer s H vs Q E hr h => ?_)
  obtain ⟨n, v, o, rfl, ho, hn, io, q⟩ := h
  refine ⟨_, (pss_cons (ps_expr (pe_call G_check_size hr (by rfl) m_check_size k_check_size b_check_size .nil pass0 (pa_cons (pv 0) pa_nil)))
    (pss_cons (ps_expr (pe_call G_check_place hr (by rfl) m_check_place k_check_place b_check_place .nil pass0 (pa_cons (pv 0) (pa_cons (pv 1) pa_nil))))
    (pss_cons (ps_set (i := 2) sc.nd rfl (.inl rfl) (pe_lst (pa_cons pe_int (pa_cons pe_int (pa_cons pe_int (pa_cons pe_int pa_nil))))))
    (pss_cons (ps_set (i := 3) sc.nd rfl (.inr rfl) (pe_lst (pa_cons (pv 2) (pa_cons (pv 2) (pa_cons (pv 2) (pa_cons (pv 2) pa_nil))))))
    (pss_cons (ps_for PassesOwn.never rfl (pi_range2 (by rfl) B.range (pa_cons pe_int (pa_cons (pe_op op_add (pv 0) pe_int) pa_nil))) (pg_name (i := 4) sc.nd rfl (.inl rfl)) (pss_cons (ps_set (i := 2) sc.nd rfl (.inl rfl) (pe_call G_ways_of_part hr (by rfl) m_ways_of_part k_ways_of_part b_ways_of_part .nil pass0 (pa_cons (pe_call G_quarter_of hr (by rfl) m_quarter_of k_quarter_of b_quarter_of .nil pass0 (pa_cons (pv 4) (pa_cons (pv 1) pa_nil))) (pa_cons (pv 2) (pa_cons (pv 3) pa_nil)))))
      (pss_one (ps_set (i := 3) sc.nd rfl (.inr rfl) (pe_lc (own := [("corner", 5)]) (g := (gName 5)) (by rfl) sc.nd (pi_range1 (by rfl) B.range (pa_cons pe_int pa_nil)) (blkOk_by (own := [("corner", 5)]) (N := ["size", "out", "told", "cornered", "part_size", "corner"]) (sc := defScope s_ways) (by decide +kernel)) (fun _ _ _ _ _ => (pg_name (i := 5) sc.nd rfl (.inl rfl))) (fun _ _ _ _ _ => pts_nil) (fun _ _ _ _ _ => (pe_call G_ways_of_part hr (by rfl) m_ways_of_part k_ways_of_part b_ways_of_part .nil pass0 (pa_cons (pv 5) (pa_cons (pe_ix (r := rIxL K) (by exact ix_list) (pv 3) (pv 5) (fun _ _ => rfl)) (pa_cons (pv 3) pa_nil))))))))))
    (pss_one (ps_ret (pv 2)))))))), ?_⟩
  walk_at "rd"
  refine ⟨n, rfl, hn, ?_⟩
  try walk_at "rd"
  refine ⟨n, v, o, rfl, ho, hn, io, ?_⟩
  try walk_at "rd"
  intro t0 n0 c0 nc0
  generalize hH1 : L2.upd (L2.upd H t0 (.lst [.int 0, .int 0, .int 0, .int 0])) c0 (.lst [.ref t0, .ref t0, .ref t0, .ref t0]) = H1
  have s1 : Same H H1 := by rw [← hH1]; exact Same.upd (same_new n0) nc0
  have et : H1 t0 = some (.lst (I4 (W 0 (md 0 o)))) := by rw [← hH1]; exact upd_old nc0 upd_same
  have ec : H1 c0 = some (.lst [.ref t0, .ref t0, .ref t0, .ref t0]) := by rw [← hH1]; exact upd_same
  have er : RowsT H1 [.ref t0, .ref t0, .ref t0, .ref t0] (fun c => W 0 (crn 0 c)) := fun i hi => by
    refine ⟨t0, ?_, et⟩
    have hi' : i = 0 ∨ i = 1 ∨ i = 2 ∨ i = 3 := by omega
    rcases hi' with e | e | e | e <;> subst e <;> rfl
  obtain ⟨Pv, eP⟩ := word (fun (i : Nat) (σ : L2.St) (H' : Hp) => ∃ (l c : Addr) (rs : List V) (u4 : Option V), σ = [some (.int (n : Int)), some v, some (.ref l), some (.ref c), u4, none] ∧ Same H H' ∧ H l = none ∧ H' l = some (.lst (I4 (W i (md i o)))) ∧ H' c = some (.lst rs) ∧ RowsT H' rs (fun c => W i (crn i c)))
  refine fr2 n (by omega) (fun R h => ?_) Pv (by rw [eP]; exact ⟨t0, c0, _, none, rfl, s1, n0, et, ec, er⟩) (fun i σ H' hi hP => ?_) fun σ H' hP => ?_
  · try walk_at "rd"
    exact h
  · rw [eP] at hP
    obtain ⟨l, c, rs, u4, rfl, sm, nl, el, ec, er⟩ := hP
    try walk_at "rd"
    refine ⟨i, v, o, rfl, ho.same sm, ?_⟩
    try walk_at "rd"
    refine ⟨qn i o, l, c, rs, _, _, rfl, qn_lt i o, el, ec, er, fun H2 l2 s2 n2 e2 => ?_⟩
    rw [I4_congr fun j _ => wpi_out (m := i) (o := o) (w := j)] at e2
    try walk_at "rd"
    have ec2 := s2 _ _ ec
    have er2 := er.same s2
    refine ⟨4, rfl, by omega, by omega, fun D nD => ?_⟩
    have s02 := sm.trans s2
    refine lc_range (lo := 0) (n := (4 : Int).toNat) (fun (i' : Nat) (H3 : Hp) => Same H2 H3 ∧ ∃ ys : List V, H3 D = some (.lst ys) ∧ ys.length = i' ∧ ∀ j, j < i' → ∃ a, ys[j]? = some (.ref a) ∧ a ≠ D ∧ H3 a = some (.lst (I4 (W (i + 1) (crn (i + 1) j))))) ⟨same_new nD, [], upd_same, rfl, fun j hj => absurd hj (Nat.not_lt_zero j)⟩ (fun c' H3 hc' I => ?_) fun H3 I => ?_
    · obtain ⟨s3, ys, eD, ly, hys⟩ := I
      have hc4 : c' < 4 := hc'
      have e0 : (0 : Int) + (c' : Int) = (c' : Int) := Int.zero_add _
      rw [e0]
      try walk_at "rd"
      obtain ⟨r, hr1, hr2⟩ := er2 c' hc4
      refine ⟨rs, .of (s3 _ _ ec2), _, atI_nat hr1, ?_⟩
      refine ⟨c', r, c, rs, _, _, rfl, hc4, s3 _ _ hr2, s3 _ _ ec2, er2.same s3, fun H4 l4 s4 n4 e4 => ?_⟩
      rw [I4_congr fun j _ => wpi_crn (m := i) (w := j) hc4] at e4
      have eD4 := s4 _ _ eD
      have hl4 : l4 ≠ D := (ne_of_none eD n4).symm
      refine ⟨ys, eD4, small4 (by omega), Same.mut (s3.trans s4) nD, ys ++ [.ref l4], upd_same, by rw [List.length_append, ly]; rfl, fun j hj => ?_⟩
      by_cases hjc : j < c'
      · obtain ⟨a', h1, h2, h3⟩ := hys j hjc
        refine ⟨a', ?_, h2, ?_⟩
        · rw [List.getElem?_append_left (by omega)]
          exact h1
        · rw [upd_ne h2]
          exact s4 _ _ h3
      · have ej : j = c' := by omega
        subst ej
        refine ⟨l4, ?_, hl4, ?_⟩
        · rw [List.getElem?_append_right (by omega), ly, Nat.sub_self]
          rfl
        · rw [upd_ne hl4]
          exact e4
    · obtain ⟨s3, ys, eD, ly, hys⟩ := I
      rw [eP]
      refine ⟨l2, D, ys, _, rfl, s02.trans s3, Same.free sm n2, s3 _ _ e2, eD, fun j hj => ?_⟩
      obtain ⟨a', h1, h2, h3⟩ := hys j hj
      exact ⟨a', h1, h3⟩
  · rw [eP] at hP
    obtain ⟨l, c, rs, u4, rfl, sm, nl, el, ec, er⟩ := hP
    try walk_at "rd"
    rw [md_id io] at el
    exact q H' l sm nl el
end
end Cf

namespace Cf
open PySem PySem.Spec PyProof.Rows L2
local macro_rules | `(tactic| walk_at "rd") => `(tactic| simp only [cx_K, cx_P, cx_w, tVar, tC, tCons, tNil, tOp, tUn, rI, rI0, rU, tSeq, Evl.tCut, tAsg, gName, tRet, tRetN, tIfS, tB, tTest, tNot, tAndV, tOrV, tNotV, tChain, tDrop, tRevL, tBM, rAppend, tAug, ipI, tTup, tLst, tCB, tCall, gTup, gCons, gNil, gSub, tNext, rEq, rNe, rIxL, rIxT, wipe, tYes, rSetL, tSl, tNoPart, tPart, tAugS, rGetL, tBits, rI0, Evl.rLenS, Evl.rListS, scal_ii, scal_bb, L2.start, List.map_cons, List.map_nil, List.length_cons, List.length_nil, List.replicate, List.cons_append, List.nil_append, List.append_nil, Nat.reduceAdd, Nat.reduceSub, List.set_cons_zero, List.set_cons_succ, List.getElem?_cons_zero, List.getElem?_cons_succ, Option.some.injEq, V.int.injEq, V.bl.injEq, V.ref.injEq, List.cons.injEq, and_assoc, and_true, true_and, exists_eq_left, exists_eq_left', exists_and_left, exists_and_right, exists_eq_right, exists_eq_right', decide_true, decide_false, Bool.false_eq_true, if_true, if_false, reduceIte, ↓reduceIte, Bool.not_true, Bool.not_false, Bool.or_false, Bool.or_true, Bool.true_or, Bool.false_or, Bool.and_true, Bool.true_and, Bool.and_false, Bool.false_and, exists_const, and_self, Int.one_mul, Int.toNat_natCast, bitAnd_m1, c0, c1, c2, c3, c4, cmul2, cdiv2, cdiv3, cdiv4, cdiv5, cdiv7, Int.natCast_nonneg, Int.reduceLT, eq_self, sz0, sz1, sz2, sz3, sz4, sz5, sz6, sz8, sz11])
local macro_rules | `(tactic| walk_at "rdo") => `(tactic| (simp only [tAnd, tOr, tIf]; (try walk_at "rd")))
local macro_rules | `(tactic| walk_at "same") => `(tactic| ((try unfold L2.Same); repeat (first | exact Same.refl _ | assumption | refine Same.upd ?_ (by assumption))))
local macro_rules | `(tactic| walk_at "look") => `(tactic| (repeat (first | exact upd_same | assumption | refine upd_old (by assumption) ?_)))

section
variable {P : Program} {w : World} {K : PySem.W.Frag} {mg : Str → Option Value} {base : Heap} {k : Nat}
def sp_check_both : Sp := fun vs H Q _ => ∃ (n : Nat) (v v2 : V) (o p : Pl), vs = [.int (n : Int), v, v2] ∧ PlT H v o ∧ PlT H v2 p ∧ n ≤ 400 ∧ In n o ∧ In n p ∧ Q .non H
abbrev s_check_both : Stmt := topS 26
theorem sc_check_both : FnScope ["size", "one", "other"] ["size", "one", "other"] (defScope s_check_both) := ⟨rfl, rfl, rfl, by decide +kernel, rfl, by decide +kernel, by decide +kernel⟩
theorem ok_check_both (D : Def K mg "check_both" s_check_both ["size", "one", "other"]) (B : Blt mg)  (c_check_size : Cal P w K mg base "check_size" ["size"] sp_check_size k) (c_check_place : Cal P w K mg base "check_place" ["size", "place"] sp_check_place k) : Cal P w K mg base "check_both" ["size", "one", "other"] sp_check_both (k + 1) := by
  have sc := sc_check_both
  obtain ⟨f_check_size, fd_check_size, G_check_size, m_check_size, k_check_size, b_check_size, _⟩ := c_check_size.ex
  obtain ⟨f_check_place, fd_check_place, G_check_place, m_check_place, k_check_place, b_check_place, _⟩ := c_check_place.ex
  refine D.cal sc_check_both (fun vs H Q E h => by obtain ⟨_, _, _, _, _, rfl, _⟩ := h; rfl) (fun f cdv A outer s H vs Q E hr h => ?_)
  obtain ⟨n, v, v2, o, p, rfl, ho, hp, hn, io, ip, q⟩ := h
  refine ⟨_, (pss_cons (ps_expr (pe_call G_check_size hr (by rfl) m_check_size k_check_size b_check_size .nil pass0 (pa_cons (pv 0) pa_nil)))
    (pss_cons (ps_expr (pe_call G_check_place hr (by rfl) m_check_place k_check_place b_check_place .nil pass0 (pa_cons (pv 0) (pa_cons (pv 1) pa_nil))))
    (pss_one (ps_expr (pe_call G_check_place hr (by rfl) m_check_place k_check_place b_check_place .nil pass0 (pa_cons (pv 0) (pa_cons (pv 2) pa_nil))))))), ?_⟩
  walk_at "rd"
  refine ⟨n, rfl, hn, ?_⟩
  refine ⟨n, v, o, rfl, ho, hn, io, ?_⟩
  refine ⟨n, v2, p, rfl, hp, hn, ip, ?_⟩
  exact q
def sp_shared_part : Sp := fun vs H Q _ => ∃ (n : Nat) (v v2 : V) (o p : Pl), vs = [v, v2] ∧ PlT H v o ∧ PlT H v2 p ∧ In n o ∧ In n p ∧ Q (.int (Sh n o p : Nat)) H
abbrev s_shared_part : Stmt := topS 27
theorem sc_shared_part : FnScope ["one", "other"] ["one", "other"] (defScope s_shared_part) := ⟨rfl, rfl, rfl, by decide +kernel, rfl, by decide +kernel, by decide +kernel⟩
theorem ok_shared_part (D : Def K mg "shared_part" s_shared_part ["one", "other"]) (B : Blt mg)   : Cal P w K mg base "shared_part" ["one", "other"] sp_shared_part (k + 1) := by
  have sc := sc_shared_part
  refine D.cal sc_shared_part (fun vs H Q E h => by obtain ⟨_, _, _, _, _, rfl, _⟩ := h; rfl) (fun f cdv A outer s H vs Q E hr h => ?_)
  obtain ⟨n, v, v2, o, p, rfl, ⟨t, rfl, ht⟩, ⟨t2, rfl, ht2⟩, io, ip, q⟩ := h
  refine ⟨_, (pss_one (ps_ret (pe_bits (pe_op op_or (pe_op op_xor (pe_ix (r := rIxT K) (by exact ix_tup) (pv 0) pe_int (fun _ _ => rfl)) (pe_ix (r := rIxT K) (by exact ix_tup) (pv 1) pe_int (fun _ _ => rfl))) (pe_op op_xor (pe_ix (r := rIxT K) (by exact ix_tup) (pv 0) pe_int (fun _ _ => rfl)) (pe_ix (r := rIxT K) (by exact ix_tup) (pv 1) pe_int (fun _ _ => rfl))))))), ?_⟩
  walk_at "rd"
  refine ⟨_, .of ht, _, rfl, _, .of ht2, _, rfl, _, rfl, _, rfl, _, .of ht, _, rfl, _, .of ht2, _, rfl, _, rfl, _, rfl, ?_⟩
  rw [bits_Sh io ip]
  exact q
def sp_unlike_a_corner : Sp := fun vs H Q _ => ∃ (n c : Nat) (v : V) (p : Pl), vs = [.int (n : Int), v, .int (c : Int)] ∧ PlT H v p ∧ n ≤ 400 ∧ c < 4 ∧ Q (.int (UC p n c : Nat)) H
abbrev s_unlike_a_corner : Stmt := topS 28
theorem sc_unlike_a_corner : FnScope ["size", "out", "corner", "told", "corner_out", "part_size", "quarter"] ["size", "out", "corner"] (defScope s_unlike_a_corner) := ⟨rfl, rfl, rfl, by decide +kernel, rfl, by decide +kernel, by decide +kernel⟩
theorem ok_unlike_a_corner (D : Def K mg "unlike_a_corner" s_unlike_a_corner ["size", "out", "corner"]) (B : Blt mg)  (c_quarter_of : Cal P w K mg base "quarter_of" ["size", "place"] sp_quarter_of k) : Cal P w K mg base "unlike_a_corner" ["size", "out", "corner"] sp_unlike_a_corner (k + 1) := by
  have sc := sc_unlike_a_corner
  obtain ⟨f_quarter_of, fd_quarter_of, G_quarter_of, m_quarter_of, k_quarter_of, b_quarter_of, _⟩ := c_quarter_of.ex
  refine D.cal sc_unlike_a_corner (fun vs H Q E h => by obtain ⟨_, _, _, _, rfl, _⟩ := h; rfl) (fun f cdv A outer s H vs Q E hr h => ?_)
  obtain ⟨n, c, v, p, rfl, hp, hn, hc, q⟩ := h
  refine ⟨_, (pss_cons (ps_set (i := 3) sc.nd rfl (.inl rfl) pe_int)
    (pss_cons (ps_set (i := 4) sc.nd rfl (.inl rfl) (pv 2))
    (pss_cons (ps_for PassesOwn.never rfl (pi_range3 (by rfl) B.range (pa_cons (pv 0) (pa_cons pe_int (pa_cons (pe_un un_neg pe_int) pa_nil)))) (pg_name (i := 5) sc.nd rfl (.inl rfl)) (pss_cons (ps_set (i := 6) sc.nd rfl (.inl rfl) (pe_call G_quarter_of hr (by rfl) m_quarter_of k_quarter_of b_quarter_of .nil pass0 (pa_cons (pv 5) (pa_cons (pv 1) pa_nil))))
      (pss_one (ps_if (pt_cmpR op_ne (pv 6) (pv 4) (nomark _)) (pss_cons (ps_aug (i := 3) sc.nd rfl (.inl rfl) (pe_op op_shlW pe_int (pe_op op_sub (pv 5) pe_int)) ip_add)
        (pss_one (ps_set (i := 4) sc.nd rfl (.inl rfl) (pe_op op_sub pe_int (pv 6))))) pss_nil))))
    (pss_one (ps_ret (pv 3)))))), ?_⟩
  walk_at "rd"
  obtain ⟨Pv, eP⟩ := word (fun (i : Nat) (σ : L2.St) (H' : Hp) => ∃ (z c' : Nat) (u5 u6 : Option V), σ = [some (.int (n : Int)), some v, some (.int (c : Int)), some (.int (z : Int)), some (.int (c' : Int)), u5, u6] ∧ H' = H ∧ c' < 4 ∧ z + UC p (n - i) c' = UC p n c)
  refine fr4 n 0 (by omega) (by omega) (fun R h => ?_) Pv (by rw [eP]; exact ⟨0, c, none, none, rfl, rfl, hc, Nat.zero_add _⟩) (fun i σ H' hi hP => ?_) fun σ H' hP => ?_
  · try walk_at "rd"
    exact h
  · rw [eP] at hP
    obtain ⟨z, c', u5, u6, rfl, rfl, hc', e⟩ := hP
    try walk_at "rd"
    obtain ⟨j, hj⟩ : ∃ j, n - i = j + 1 := ⟨n - i - 1, by omega⟩
    rw [hj] at e ⊢
    refine ⟨j, v, p, rfl, hp, ?_⟩
    try walk_at "rd"
    rw [nat_dec]
    by_cases hq : qn j p = c'
    · rw [decide_eq_true hq]
      try walk_at "rd"
      rw [eP]
      refine ⟨z, c', _, _, rfl, rfl, hc', ?_⟩
      rw [show n - (i + 1) = j by omega, ← e]
      show _ = z + (if qn j p = c' then UC p j c' else _)
      rw [if_pos hq]
    · rw [decide_eq_false hq]
      try walk_at "rd"
      rw [sub1]
      refine ⟨shl1 (by omega), ?_⟩
      try walk_at "rd"
      have h4 := qn_lt j p
      rw [eP]
      refine ⟨z + 2 ^ j, 3 - qn j p, some (.int ((j + 1 : Nat) : Int)), some (.int ((qn j p : Nat) : Int)), ?_, rfl, by omega, ?_⟩
      · have e3 : ((z + 2 ^ j : Nat) : Int) = (z : Int) + 2 ^ j := by rw [Int.natCast_add, PySem.W.kbt_cast]
        rw [e3, show ((3 - qn j p : Nat) : Int) = 3 - (qn j p : Int) by omega]
      · rw [show n - (i + 1) = j by omega, ← e]
        show _ = z + (if qn j p = c' then _ else 2 ^ j + UC p j (3 - qn j p))
        rw [if_neg hq, Nat.add_assoc]
  · rw [eP] at hP
    obtain ⟨z, c', u5, u6, rfl, rfl, hc', e⟩ := hP
    try walk_at "rd"
    rw [show n - (n - 0) = 0 by omega] at e
    have e0 : z = UC p n c := e
    rw [e0]
    exact q
def sp_unlike : Sp := fun vs H Q _ => ∃ (n : Nat) (v v2 : V) (o p : Pl), vs = [.int (n : Int), v, v2] ∧ PlT H v o ∧ PlT H v2 p ∧ n ≤ 400 ∧ In n o ∧ In n p ∧ ∀ H', Same H H' → Q (.int (U n o p : Nat)) H'
abbrev s_unlike : Stmt := topS 29
theorem sc_unlike : FnScope ["size", "one", "other", "part_size", "told", "out"] ["size", "one", "other"] (defScope s_unlike) := ⟨rfl, rfl, rfl, by decide +kernel, rfl, by decide +kernel, by decide +kernel⟩
theorem ok_unlike (D : Def K mg "unlike" s_unlike ["size", "one", "other"]) (B : Blt mg)  (c_check_both : Cal P w K mg base "check_both" ["size", "one", "other"] sp_check_both k) (c_shared_part : Cal P w K mg base "shared_part" ["one", "other"] sp_shared_part k) (c_unlike_a_corner : Cal P w K mg base "unlike_a_corner" ["size", "out", "corner"] sp_unlike_a_corner k) (c_quarter_of : Cal P w K mg base "quarter_of" ["size", "place"] sp_quarter_of k) : Cal P w K mg base "unlike" ["size", "one", "other"] sp_unlike (k + 1) := by
  have sc := sc_unlike
  obtain ⟨f_check_both, fd_check_both, G_check_both, m_check_both, k_check_both, b_check_both, _⟩ := c_check_both.ex
  obtain ⟨f_shared_part, fd_shared_part, G_shared_part, m_shared_part, k_shared_part, b_shared_part, _⟩ := c_shared_part.ex
  obtain ⟨f_unlike_a_corner, fd_unlike_a_corner, G_unlike_a_corner, m_unlike_a_corner, k_unlike_a_corner, b_unlike_a_corner, _⟩ := c_unlike_a_corner.ex
  obtain ⟨f_quarter_of, fd_quarter_of, G_quarter_of, m_quarter_of, k_quarter_of, b_quarter_of, _⟩ := c_quarter_of.ex
  refine D.cal sc_unlike (fun vs H Q E h => by obtain ⟨_, _, _, _, _, rfl, _⟩ := h; rfl) (fun f cdv A outer s H vs Q E hr h => ?_)
  obtain ⟨n, v, v2, o, p, rfl, ho, hp, hn, io, ip, q⟩ := h
  refine ⟨_, (pss_cons (ps_expr (pe_call G_check_both hr (by rfl) m_check_both k_check_both b_check_both .nil pass0 (pa_cons (pv 0) (pa_cons (pv 1) (pa_cons (pv 2) pa_nil)))))
    (pss_cons (ps_set (i := 3) sc.nd rfl (.inl rfl) (pe_call G_shared_part hr (by rfl) m_shared_part k_shared_part b_shared_part .nil pass0 (pa_cons (pv 1) (pa_cons (pv 2) pa_nil))))
    (pss_cons (ps_if (pt_cmpR op_eq (pv 3) pe_int (nomark _)) (pss_one (ps_ret pe_int)) pss_nil)
    (pss_cons (ps_set (i := 4) sc.nd rfl (.inl rfl) pe_int)
    (pss_cons (ps_for PassesOwn.never rfl (pi_tup (pe_tup (pa_cons (pv 1) (pa_cons (pv 2) pa_nil)))) (pg_name (i := 5) sc.nd rfl (.inl rfl)) (pss_one (ps_aug (i := 4) sc.nd rfl (.inl rfl) (pe_call G_unlike_a_corner hr (by rfl) m_unlike_a_corner k_unlike_a_corner b_unlike_a_corner .nil pass0 (pa_cons (pe_op op_sub (pv 3) pe_int) (pa_cons (pv 5) (pa_cons (pe_op op_sub pe_int (pe_call G_quarter_of hr (by rfl) m_quarter_of k_quarter_of b_quarter_of .nil pass0 (pa_cons (pv 3) (pa_cons (pv 5) pa_nil)))) pa_nil)))) ip_add)))
    (pss_one (ps_ret (pv 4)))))))), ?_⟩
  walk_at "rd"
  refine ⟨n, v, v2, o, p, rfl, ho, hp, hn, io, ip, ?_⟩
  try walk_at "rd"
  refine ⟨n, v, v2, o, p, rfl, ho, hp, io, ip, ?_⟩
  try walk_at "rd"
  have hU := U_Sh n o p
  have hle := Sh_le n o p
  generalize Sh n o p = s at *
  cases s with
  | zero =>
    rw [if_pos rfl] at hU
    rw [decide_eq_true (by omega)]
    try walk_at "rd"
    have h0 := q H (Same.refl _)
    rw [hU] at h0
    exact h0
  | succ s =>
    rw [if_neg (by omega), Nat.add_sub_cancel] at hU
    rw [decide_eq_false (by omega)]
    try walk_at "rd"
    refine forT (P := fun x H2 => ∃ t, x = .ref t ∧ Same H H2 ∧ H2 t = some (.tup [v, v2])) (fun R0 hR => ?_) fun x H2 hx => ?_
    · try walk_at "rd"
      exact fun t nt => hR _ _ ⟨t, rfl, same_new nt, upd_same⟩
    obtain ⟨t, rfl, s2, e2⟩ := hx
    obtain ⟨Pv, eP⟩ := word (fun (i : Nat) (σ : L2.St) (H' : Hp) => ∃ (z : Nat) (u5 : Option V), σ = [some (.int (n : Int)), some v, some v2, some (.int ((s + 1 : Nat) : Int)), some (.int (z : Int)), u5] ∧ H' = H2 ∧ z + ((if i < 1 then UC o s (3 - qn s o) else 0) + (if i < 2 then UC p s (3 - qn s p) else 0)) = U n o p)
    refine ⟨t, [v, v2], Pv, rfl, .of e2, by rw [eP]; exact ⟨1, none, rfl, rfl, by simpa using hU.symm⟩, fun i σ' H' hP => ?_, fun i x σ' H' hx hP => ?_, fun σ' H' hP => ?_⟩
    · rw [eP] at hP
      obtain ⟨z, u5, rfl, rfl, e⟩ := hP
      exact .of e2
    · rw [eP] at hP
      obtain ⟨z, u5, rfl, rfl, e⟩ := hP
      try walk_at "rd"
      obtain ⟨pl, hpl, hsum⟩ : ∃ pl, PlT H' x pl ∧ (z + UC pl s (3 - qn s pl)) + ((if i + 1 < 1 then UC o s (3 - qn s o) else 0) + (if i + 1 < 2 then UC p s (3 - qn s p) else 0)) = U n o p := by
        rcases i with _ | _ | i
        · cases Option.some.inj hx
          refine ⟨o, ho.same s2, ?_⟩
          simp at e ⊢
          omega
        · cases Option.some.inj hx
          refine ⟨p, hp.same s2, ?_⟩
          simp at e ⊢
          omega
        · simp at hx
      have h4 := qn_lt s pl
      refine ⟨s, x, pl, rfl, hpl, ?_⟩
      try walk_at "rd"
      rw [sub1]
      refine ⟨s, 3 - qn s pl, x, pl, ?_, hpl, by omega, by omega, ?_⟩
      · rw [show ((3 - qn s pl : Nat) : Int) = 3 - (qn s pl : Int) by omega]
      try walk_at "rd"
      rw [eP]
      refine ⟨z + UC pl s (3 - qn s pl), some x, ?_, rfl, hsum⟩
      have e3 : ((z + UC pl s (3 - qn s pl) : Nat) : Int) = (z : Int) + (UC pl s (3 - qn s pl) : Int) := Int.natCast_add _ _
      rw [e3]
    · rw [eP] at hP
      obtain ⟨z, u5, rfl, rfl, e⟩ := hP
      try walk_at "rd"
      have e0 : z = U n o p := by simpa using e
      rw [e0]
      exact q _ s2
def sp_first_unlike : Sp := fun vs H Q _ => ∃ (n : Nat) (v v2 : V) (o p : Pl), vs = [.int (n : Int), v, v2] ∧ PlT H v o ∧ PlT H v2 p ∧ n ≤ 400 ∧ In n o ∧ In n p ∧ Q (.int (if o = p then -1 else (FN n o p : Int))) H
abbrev s_first_unlike : Stmt := topS 30
theorem sc_first_unlike : FnScope ["size", "one", "other", "part_size"] ["size", "one", "other"] (defScope s_first_unlike) := ⟨rfl, rfl, rfl, by decide +kernel, rfl, by decide +kernel, by decide +kernel⟩
theorem ok_first_unlike (D : Def K mg "first_unlike" s_first_unlike ["size", "one", "other"]) (B : Blt mg)  (c_check_both : Cal P w K mg base "check_both" ["size", "one", "other"] sp_check_both k) (c_shared_part : Cal P w K mg base "shared_part" ["one", "other"] sp_shared_part k) (c_number_of_part : Cal P w K mg base "number_of_part" ["size", "part_size", "place"] sp_number_of_part k) : Cal P w K mg base "first_unlike" ["size", "one", "other"] sp_first_unlike (k + 1) := by
  have sc := sc_first_unlike
  obtain ⟨f_check_both, fd_check_both, G_check_both, m_check_both, k_check_both, b_check_both, _⟩ := c_check_both.ex
  obtain ⟨f_shared_part, fd_shared_part, G_shared_part, m_shared_part, k_shared_part, b_shared_part, _⟩ := c_shared_part.ex
  obtain ⟨f_number_of_part, fd_number_of_part, G_number_of_part, m_number_of_part, k_number_of_part, b_number_of_part, _⟩ := c_number_of_part.ex
  refine D.cal sc_first_unlike (fun vs H Q E h => by obtain ⟨_, _, _, _, _, rfl, _⟩ := h; rfl) (fun f cdv A outer s H vs Q E hr h => ?_)
  obtain ⟨n, v, v2, o, p, rfl, ho, hp, hn, io, ip, q⟩ := h
  refine ⟨_, (pss_cons (ps_expr (pe_call G_check_both hr (by rfl) m_check_both k_check_both b_check_both .nil pass0 (pa_cons (pv 0) (pa_cons (pv 1) (pa_cons (pv 2) pa_nil)))))
    (pss_cons (ps_set (i := 3) sc.nd rfl (.inl rfl) (pe_call G_shared_part hr (by rfl) m_shared_part k_shared_part b_shared_part .nil pass0 (pa_cons (pv 1) (pa_cons (pv 2) pa_nil))))
    (pss_cons (ps_if (pt_cmpR op_eq (pv 3) pe_int (nomark _)) (pss_one (ps_ret (pe_un un_neg pe_int))) pss_nil)
    (pss_one (ps_ret (pe_call G_number_of_part hr (by rfl) m_number_of_part k_number_of_part b_number_of_part .nil pass0 (pa_cons (pv 0) (pa_cons (pv 3) (pa_cons (pv 1) pa_nil))))))))), ?_⟩
  walk_at "rd"
  refine ⟨n, v, v2, o, p, rfl, ho, hp, hn, io, ip, ?_⟩
  try walk_at "rd"
  refine ⟨n, v, v2, o, p, rfl, ho, hp, io, ip, ?_⟩
  try walk_at "rd"
  have h0 := Sh_zero n o p io ip
  by_cases hop : o = p
  · rw [h0.mpr hop, decide_eq_true (show ((0 : Nat) : Int) = 0 from rfl)]
    try walk_at "rd"
    rw [if_pos hop] at q
    exact q
  · have hne : Sh n o p ≠ 0 := fun z => hop (h0.mp z)
    rw [decide_eq_false (show ¬ ((Sh n o p : Nat) : Int) = 0 by omega)]
    try walk_at "rd"
    rw [if_neg hop] at q
    refine ⟨n, Sh n o p, v, o, rfl, ho, hn, Sh_le n o p, ?_⟩
    rw [← FN_nsum]
    exact q
end
end Cf

namespace Cf
open PySem PySem.Spec PyProof.Rows L2
local macro_rules | `(tactic| walk_at "rd") => `(tactic| simp only [cx_K, cx_P, cx_w, tVar, tC, tCons, tNil, tOp, tUn, rI, rI0, rU, tSeq, Evl.tCut, tAsg, gName, tRet, tRetN, tIfS, tB, tTest, tNot, tAndV, tOrV, tNotV, tChain, tDrop, tNever, tDNewK, tRevL, tBM, rAppend, tAug, ipI, tTup, tLst, tCB, tCall, tCallS, gTup, gCons, gNil, gSub, tNext, rEq, rNe, rIxL, rIxT, wipe, tYes, rSetL, tSl, tNoPart, tPart, tAugS, rGetL, tBits, rI0, Evl.rLenS, Evl.rListS, scal_ii, scal_bb, L2.start, List.map_cons, List.map_nil, List.length_cons, List.length_nil, List.replicate, List.cons_append, List.nil_append, List.append_nil, Nat.reduceAdd, Nat.reduceSub, List.set_cons_zero, List.set_cons_succ, List.getElem?_cons_zero, List.getElem?_cons_succ, Option.some.injEq, V.int.injEq, V.bl.injEq, V.ref.injEq, List.cons.injEq, and_assoc, and_true, true_and, exists_eq_left, exists_eq_left', exists_and_left, exists_and_right, exists_eq_right, exists_eq_right', decide_true, decide_false, Bool.false_eq_true, if_true, if_false, reduceIte, ↓reduceIte, Bool.not_true, Bool.not_false, Bool.or_false, Bool.or_true, Bool.true_or, Bool.false_or, Bool.and_true, Bool.true_and, Bool.and_false, Bool.false_and, exists_const, and_self, Int.one_mul, Int.toNat_natCast, bitAnd_m1, c0, c1, c2, c3, c4, cmul2, cdiv2, cdiv3, cdiv4, cdiv5, cdiv7, cdiv8, cdiv12, cdiv13, cdiv40, Int.natCast_nonneg, Int.reduceLT, eq_self, sz0, sz1, sz2, sz3, sz4, sz5, sz6, sz8, sz11])
local macro_rules | `(tactic| walk_at "rdo") => `(tactic| (simp only [tAnd, tOr, tIf]; (try walk_at "rd")))
local macro_rules | `(tactic| walk_at "same") => `(tactic| ((try unfold L2.Same); repeat (first | exact Same.refl _ | assumption | refine Same.upd ?_ (by assumption))))
local macro_rules | `(tactic| walk_at "look") => `(tactic| (repeat (first | exact upd_same | assumption | refine upd_old (by assumption) ?_)))

section
variable {P : Program} {w : World} {K : PySem.W.Frag} {mg : Str → Option Value} {base : Heap} {k d : Nat} {CB CP CN : Addr}
def sp2_is_count : Sp := fun vs H Q _ => ∃ (v : V) (j : Int), vs = [v, .int j] ∧ ((NoNum H j v ∧ Q (.bl false) H) ∨ ∃ i : Int, v = .int i ∧ 0 ≤ i ∧ i < j ∧ Q (.bl true) H)
theorem ok2_is_count (D : Def K mg "is_count" s_is_count ["value", "limit"]) (B : Blt mg) : Cal P w K mg base "is_count" ["value", "limit"] sp2_is_count (k + 1) := by
  refine D.cal sc_is_count (fun vs H Q E h => by obtain ⟨_, _, rfl, _⟩ := h; rfl) (fun f cdv A outer s H vs Q E hr h => ?_)
  have sc := sc_is_count
  obtain ⟨v, j, rfl, ⟨hv, q⟩ | ⟨i, rfl, h0, h1, q⟩⟩ := h
  · 
    refine ⟨_, (pss_one (ps_ret (pe_and (pe_callB (r := rIsi K) (by exact call_isi) (by rfl) B.isinstance boot_isinstance (pa_cons (pv 0) (pa_cons (pe_bltn (v := .ty "int") (by rfl) B.int boot_int rfl) pa_nil))) (pe_and (pe_not (pe_callB (r := rIsi K) (by exact call_isi) (by rfl) B.isinstance boot_isinstance (pa_cons (pv 0) (pa_cons (pe_bltn (v := .ty "bool") (by rfl) B.bool boot_bool rfl) pa_nil)))) (pe_one (pe_chain op_le op_lt pe_int (pv 0) (pv 1))))))), ?_⟩
    (try walk_at "rd")
    refine hv.isi (fun hb => ?_) (fun hi => ?_) ?_
    · obtain ⟨b, rfl⟩ := hb
      try walk_at "rd"
      refine isi_yes (.base (.bl b)) (by decide +kernel) ?_
      try walk_at "rd"
      exact q
    · obtain ⟨i, rfl, hn⟩ := hi
      try walk_at "rd"
      refine isi_no (.base (.int i)) (by decide +kernel) ?_
      try walk_at "rd"
      by_cases h0 : 0 ≤ i
      · rw [if_pos (decide_eq_true h0), decide_eq_false (show ¬ i < j from fun z => hn ⟨h0, z⟩)]
        exact q
      · rw [if_neg (by simp [h0])]
        exact q
    · try walk_at "rd"
      exact q
  · 
    refine ⟨_, (pss_one (ps_ret (pe_and (pe_callB (r := rIsi K) (by exact call_isi) (by rfl) B.isinstance boot_isinstance (pa_cons (pv 0) (pa_cons (pe_bltn (v := .ty "int") (by rfl) B.int boot_int rfl) pa_nil))) (pe_and (pe_not (pe_callB (r := rIsi K) (by exact call_isi) (by rfl) B.isinstance boot_isinstance (pa_cons (pv 0) (pa_cons (pe_bltn (v := .ty "bool") (by rfl) B.bool boot_bool rfl) pa_nil)))) (pe_one (pe_chain op_le op_lt pe_int (pv 0) (pv 1))))))), ?_⟩
    (try walk_at "rd")
    refine isi_yes (.base (.int i)) (by decide +kernel) ?_
    try walk_at "rd"
    refine isi_no (.base (.int i)) (by decide +kernel) ?_
    try walk_at "rd"
    rw [if_pos (decide_eq_true h0), decide_eq_true h1]
    exact q
def sp2_is_place : Sp := fun vs H Q _ => ∃ (n : Nat) (v : V), vs = [.int (n : Int), v] ∧ n ≤ 400 ∧ BadPl H n v ∧ Q (.bl false) H
theorem ok2_is_place (D : Def K mg "is_place" s_is_place ["size", "value"]) (B : Blt mg) (c_is_count : Cal P w K mg base "is_count" ["value", "limit"] sp2_is_count k) : Cal P w K mg base "is_place" ["size", "value"] sp2_is_place (k + 1) := by
  refine D.cal sc_is_place (fun vs H Q E h => by obtain ⟨_, _, rfl, _⟩ := h; rfl) (fun f cdv A outer s H vs Q E hr h => ?_)
  have sc := sc_is_place
  obtain ⟨f_is_count, fd_is_count, G_is_count, m_is_count, k_is_count, b_is_count, _⟩ := c_is_count.ex
  obtain ⟨n, v, rfl, hn, hv, q⟩ := h
  cases hv with
  | non =>
    refine ⟨_, (pss_cons (ps_if (PW.pt (pw_or (pt_not (pt_val (pe_callB (r := rIsi K) (by exact call_isi) (by rfl) B.isinstance boot_isinstance (pa_cons (pv 1) (pa_cons (pe_bltn (v := .ty "tuple") (by rfl) B.tuple boot_tuple rfl) pa_nil))))) (pw_or1 (pt_cmpR op_ne (pe_callB (r := Evl.rLenS K) (by exact call_len_seq) (by rfl) B.len PySem.boot_len (pa_cons (pv 1) pa_nil)) pe_int (nomark _))))) (pss_one (ps_ret pe_bl)) pss_nil)
    (pss_cons (ps_asg (pv 1) (pg_tup (n := 2) rfl (pgs_cons (pg_name (i := 2) sc.nd rfl (.inl rfl)) (pgs_cons (pg_name (i := 3) sc.nd rfl (.inl rfl)) pgs_nil))))
    (pss_cons (ps_set (i := 4) sc.nd rfl (.inl rfl) (pe_op op_shlW pe_int (pv 0)))
    (pss_one (ps_ret (pe_and (pe_call G_is_count hr (by rfl) m_is_count k_is_count b_is_count .nil pass0 (pa_cons (pv 2) (pa_cons (pv 4) pa_nil))) (pe_one (pe_call G_is_count hr (by rfl) m_is_count k_is_count b_is_count .nil pass0 (pa_cons (pv 3) (pa_cons (pv 4) pa_nil)))))))))), ?_⟩
    (try walk_at "rd")
    walk_at "rdo"
    refine isi_no (.base .non) (by decide +kernel) ?_
    try walk_at "rd"
    exact q
  | int i =>
    refine ⟨_, (pss_cons (ps_if (PW.pt (pw_or (pt_not (pt_val (pe_callB (r := rIsi K) (by exact call_isi) (by rfl) B.isinstance boot_isinstance (pa_cons (pv 1) (pa_cons (pe_bltn (v := .ty "tuple") (by rfl) B.tuple boot_tuple rfl) pa_nil))))) (pw_or1 (pt_cmpR op_ne (pe_callB (r := Evl.rLenS K) (by exact call_len_seq) (by rfl) B.len PySem.boot_len (pa_cons (pv 1) pa_nil)) pe_int (nomark _))))) (pss_one (ps_ret pe_bl)) pss_nil)
    (pss_cons (ps_asg (pv 1) (pg_tup (n := 2) rfl (pgs_cons (pg_name (i := 2) sc.nd rfl (.inl rfl)) (pgs_cons (pg_name (i := 3) sc.nd rfl (.inl rfl)) pgs_nil))))
    (pss_cons (ps_set (i := 4) sc.nd rfl (.inl rfl) (pe_op op_shlW pe_int (pv 0)))
    (pss_one (ps_ret (pe_and (pe_call G_is_count hr (by rfl) m_is_count k_is_count b_is_count .nil pass0 (pa_cons (pv 2) (pa_cons (pv 4) pa_nil))) (pe_one (pe_call G_is_count hr (by rfl) m_is_count k_is_count b_is_count .nil pass0 (pa_cons (pv 3) (pa_cons (pv 4) pa_nil)))))))))), ?_⟩
    (try walk_at "rd")
    walk_at "rdo"
    refine isi_no (.base (.int i)) (by decide +kernel) ?_
    try walk_at "rd"
    exact q
  | str x =>
    refine ⟨_, (pss_cons (ps_if (PW.pt (pw_or (pt_not (pt_val (pe_callB (r := rIsi K) (by exact call_isi) (by rfl) B.isinstance boot_isinstance (pa_cons (pv 1) (pa_cons (pe_bltn (v := .ty "tuple") (by rfl) B.tuple boot_tuple rfl) pa_nil))))) (pw_or1 (pt_cmpR op_ne (pe_callB (r := Evl.rLenS K) (by exact call_len_seq) (by rfl) B.len PySem.boot_len (pa_cons (pv 1) pa_nil)) pe_int (nomark _))))) (pss_one (ps_ret pe_bl)) pss_nil)
    (pss_cons (ps_asg (pv 1) (pg_tup (n := 2) rfl (pgs_cons (pg_name (i := 2) sc.nd rfl (.inl rfl)) (pgs_cons (pg_name (i := 3) sc.nd rfl (.inl rfl)) pgs_nil))))
    (pss_cons (ps_set (i := 4) sc.nd rfl (.inl rfl) (pe_op op_shlW pe_int (pv 0)))
    (pss_one (ps_ret (pe_and (pe_call G_is_count hr (by rfl) m_is_count k_is_count b_is_count .nil pass0 (pa_cons (pv 2) (pa_cons (pv 4) pa_nil))) (pe_one (pe_call G_is_count hr (by rfl) m_is_count k_is_count b_is_count .nil pass0 (pa_cons (pv 3) (pa_cons (pv 4) pa_nil)))))))))), ?_⟩
    (try walk_at "rd")
    walk_at "rdo"
    refine isi_no (.base (.str x)) (by decide +kernel) ?_
    try walk_at "rd"
    exact q
  | lst a xs h =>
    refine ⟨_, (pss_cons (ps_if (PW.pt (pw_or (pt_not (pt_val (pe_callB (r := rIsi K) (by exact call_isi) (by rfl) B.isinstance boot_isinstance (pa_cons (pv 1) (pa_cons (pe_bltn (v := .ty "tuple") (by rfl) B.tuple boot_tuple rfl) pa_nil))))) (pw_or1 (pt_cmpR op_ne (pe_callB (r := Evl.rLenS K) (by exact call_len_seq) (by rfl) B.len PySem.boot_len (pa_cons (pv 1) pa_nil)) pe_int (nomark _))))) (pss_one (ps_ret pe_bl)) pss_nil)
    (pss_cons (ps_asg (pv 1) (pg_tup (n := 2) rfl (pgs_cons (pg_name (i := 2) sc.nd rfl (.inl rfl)) (pgs_cons (pg_name (i := 3) sc.nd rfl (.inl rfl)) pgs_nil))))
    (pss_cons (ps_set (i := 4) sc.nd rfl (.inl rfl) (pe_op op_shlW pe_int (pv 0)))
    (pss_one (ps_ret (pe_and (pe_call G_is_count hr (by rfl) m_is_count k_is_count b_is_count .nil pass0 (pa_cons (pv 2) (pa_cons (pv 4) pa_nil))) (pe_one (pe_call G_is_count hr (by rfl) m_is_count k_is_count b_is_count .nil pass0 (pa_cons (pv 3) (pa_cons (pv 4) pa_nil)))))))))), ?_⟩
    (try walk_at "rd")
    walk_at "rdo"
    refine isi_no (.base (.lst h)) (by decide +kernel) ?_
    try walk_at "rd"
    exact q
  | len a xs h l =>
    refine ⟨_, (pss_cons (ps_if (PW.pt (pw_or (pt_not (pt_val (pe_callB (r := rIsi K) (by exact call_isi) (by rfl) B.isinstance boot_isinstance (pa_cons (pv 1) (pa_cons (pe_bltn (v := .ty "tuple") (by rfl) B.tuple boot_tuple rfl) pa_nil))))) (pw_or1 (pt_cmpR op_ne (pe_callB (r := Evl.rLenS K) (by exact call_len_seq) (by rfl) B.len PySem.boot_len (pa_cons (pv 1) pa_nil)) pe_int (nomark _))))) (pss_one (ps_ret pe_bl)) pss_nil)
    (pss_cons (ps_asg (pv 1) (pg_tup (n := 2) rfl (pgs_cons (pg_name (i := 2) sc.nd rfl (.inl rfl)) (pgs_cons (pg_name (i := 3) sc.nd rfl (.inl rfl)) pgs_nil))))
    (pss_cons (ps_set (i := 4) sc.nd rfl (.inl rfl) (pe_op op_shlW pe_int (pv 0)))
    (pss_one (ps_ret (pe_and (pe_call G_is_count hr (by rfl) m_is_count k_is_count b_is_count .nil pass0 (pa_cons (pv 2) (pa_cons (pv 4) pa_nil))) (pe_one (pe_call G_is_count hr (by rfl) m_is_count k_is_count b_is_count .nil pass0 (pa_cons (pv 3) (pa_cons (pv 4) pa_nil)))))))))), ?_⟩
    (try walk_at "rd")
    walk_at "rdo"
    refine isi_yes (.base (.tup h)) (by decide +kernel) ?_
    try walk_at "rd"
    refine ⟨_, .inr (.of h), ?_⟩
    rw [decide_eq_false (show ¬ ((xs.length : Nat) : Int) = 2 by omega)]
    try walk_at "rd"
    exact q
  | one a x y h b =>
    refine ⟨_, (pss_cons (ps_if (PW.pt (pw_or (pt_not (pt_val (pe_callB (r := rIsi K) (by exact call_isi) (by rfl) B.isinstance boot_isinstance (pa_cons (pv 1) (pa_cons (pe_bltn (v := .ty "tuple") (by rfl) B.tuple boot_tuple rfl) pa_nil))))) (pw_or1 (pt_cmpR op_ne (pe_callB (r := Evl.rLenS K) (by exact call_len_seq) (by rfl) B.len PySem.boot_len (pa_cons (pv 1) pa_nil)) pe_int (nomark _))))) (pss_one (ps_ret pe_bl)) pss_nil)
    (pss_cons (ps_asg (pv 1) (pg_tup (n := 2) rfl (pgs_cons (pg_name (i := 2) sc.nd rfl (.inl rfl)) (pgs_cons (pg_name (i := 3) sc.nd rfl (.inl rfl)) pgs_nil))))
    (pss_cons (ps_set (i := 4) sc.nd rfl (.inl rfl) (pe_op op_shlW pe_int (pv 0)))
    (pss_one (ps_ret (pe_and (pe_call G_is_count hr (by rfl) m_is_count k_is_count b_is_count .nil pass0 (pa_cons (pv 2) (pa_cons (pv 4) pa_nil))) (pe_one (pe_call G_is_count hr (by rfl) m_is_count k_is_count b_is_count .nil pass0 (pa_cons (pv 3) (pa_cons (pv 4) pa_nil)))))))))), ?_⟩
    (try walk_at "rd")
    walk_at "rdo"
    refine isi_yes (.base (.tup h)) (by decide +kernel) ?_
    try walk_at "rd"
    refine ⟨_, .inr (.of h), ?_⟩
    try walk_at "rd"
    refine ⟨_, .of h, rfl, _, _, rfl, _, _, rfl, rfl, shl1 (by omega), x, _, rfl, .inl ⟨b, ?_⟩⟩
    try walk_at "rd"
    exact q
  | two a i y h h0 h1 b =>
    refine ⟨_, (pss_cons (ps_if (PW.pt (pw_or (pt_not (pt_val (pe_callB (r := rIsi K) (by exact call_isi) (by rfl) B.isinstance boot_isinstance (pa_cons (pv 1) (pa_cons (pe_bltn (v := .ty "tuple") (by rfl) B.tuple boot_tuple rfl) pa_nil))))) (pw_or1 (pt_cmpR op_ne (pe_callB (r := Evl.rLenS K) (by exact call_len_seq) (by rfl) B.len PySem.boot_len (pa_cons (pv 1) pa_nil)) pe_int (nomark _))))) (pss_one (ps_ret pe_bl)) pss_nil)
    (pss_cons (ps_asg (pv 1) (pg_tup (n := 2) rfl (pgs_cons (pg_name (i := 2) sc.nd rfl (.inl rfl)) (pgs_cons (pg_name (i := 3) sc.nd rfl (.inl rfl)) pgs_nil))))
    (pss_cons (ps_set (i := 4) sc.nd rfl (.inl rfl) (pe_op op_shlW pe_int (pv 0)))
    (pss_one (ps_ret (pe_and (pe_call G_is_count hr (by rfl) m_is_count k_is_count b_is_count .nil pass0 (pa_cons (pv 2) (pa_cons (pv 4) pa_nil))) (pe_one (pe_call G_is_count hr (by rfl) m_is_count k_is_count b_is_count .nil pass0 (pa_cons (pv 3) (pa_cons (pv 4) pa_nil)))))))))), ?_⟩
    (try walk_at "rd")
    walk_at "rdo"
    refine isi_yes (.base (.tup h)) (by decide +kernel) ?_
    try walk_at "rd"
    refine ⟨_, .inr (.of h), ?_⟩
    try walk_at "rd"
    refine ⟨_, .of h, rfl, _, _, rfl, _, _, rfl, rfl, shl1 (by omega), .int i, _, rfl, .inr ⟨i, rfl, h0, h1, ?_⟩⟩
    try walk_at "rd"
    refine ⟨y, _, rfl, .inl ⟨b, ?_⟩⟩
    exact q
theorem scx_check_size : FnScope ["size"] ["size"] (defScope s_check_size) := ⟨rfl, rfl, rfl, by decide +kernel, rfl, by decide +kernel, by decide +kernel⟩
theorem okx_check_size (D : Def K mg "check_size" s_check_size ["size"]) (B : Blt mg) (X6 : Ex6 K mg CB CP CN) (m_LARGEST_SIZE : ∃ t, mg "LARGEST_SIZE" = some (.int 400 t)) (c_is_count : Cal P w K mg base "is_count" ["value", "limit"] sp2_is_count k) : CalX P w K mg base "check_size" ["size"] (spx_check_size K CB CP CN) (k + 1) := by
  have sc := scx_check_size
  obtain ⟨f_is_count, fd_is_count, G_is_count, m_is_count, k_is_count, b_is_count, _⟩ := c_is_count.ex
  refine D.calX scx_check_size (fun vs H Q E h => ?_) (fun f cdv A outer s H vs Q E hr h => ?_)
  · obtain ⟨s, rfl, _⟩ := h
    rfl
  obtain ⟨s, rfl, hs, e⟩ := h
  obtain ⟨tok, m_LARGEST_SIZE⟩ := m_LARGEST_SIZE
  refine ⟨_, (pss_one (ps_if (pt_not (pt_val (pe_call G_is_count hr (by rfl) m_is_count k_is_count b_is_count .nil pass0 (pa_cons (pv 0) (pa_cons (pe_op op_add (pe_glob (v := .int 400) rfl m_LARGEST_SIZE ⟨_, rfl⟩) pe_int) pa_nil))))) (pss_one (ps_raise rfl (takes_of rfl rfl rfl rfl) (pmk_own PySem.F.excBase_ValueError X6.b.xI X6.b.g X6.b.kC (raises_own X6.b.bC X6.b.tC) (by exact rfl)))) pss_nil)), ?_⟩
  (try walk_at "rd")
  refine ⟨s, _, rfl, .inl ⟨hs, ?_⟩⟩
  try walk_at "rd"
  exact e
theorem scx_check_place : FnScope ["size", "place"] ["size", "place"] (defScope s_check_place) := ⟨rfl, rfl, rfl, by decide +kernel, rfl, by decide +kernel, by decide +kernel⟩
theorem okx_check_place (D : Def K mg "check_place" s_check_place ["size", "place"]) (B : Blt mg) (X6 : Ex6 K mg CB CP CN)  (c_is_place : Cal P w K mg base "is_place" ["size", "value"] sp2_is_place k) : CalX P w K mg base "check_place" ["size", "place"] (spx_check_place K CB CP CN) (k + 1) := by
  have sc := scx_check_place
  obtain ⟨f_is_place, fd_is_place, G_is_place, m_is_place, k_is_place, b_is_place, _⟩ := c_is_place.ex
  refine D.calX scx_check_place (fun vs H Q E h => ?_) (fun f cdv A outer s H vs Q E hr h => ?_)
  · obtain ⟨n, o, rfl, _⟩ := h
    rfl
  obtain ⟨n, o, rfl, hn, hb, e⟩ := h
  refine ⟨_, (pss_one (ps_if (pt_not (pt_val (pe_call G_is_place hr (by rfl) m_is_place k_is_place b_is_place .nil pass0 (pa_cons (pv 0) (pa_cons (pv 1) pa_nil))))) (pss_one (ps_raise rfl (takes_of rfl rfl rfl rfl) (pmk_own PySem.F.excBase_ValueError X6.p.xI X6.p.g X6.p.kC (raises_own X6.p.bC X6.p.tC) (by exact rfl)))) pss_nil)), ?_⟩
  (try walk_at "rd")
  refine ⟨n, o, rfl, hn, hb, ?_⟩
  try walk_at "rd"
  exact e
theorem scx_check_covered : FnScope ["size", "out", "place"] ["size", "out", "place"] (defScope s_check_covered) := ⟨rfl, rfl, rfl, by decide +kernel, rfl, by decide +kernel, by decide +kernel⟩
theorem okx_check_covered (D : Def K mg "check_covered" s_check_covered ["size", "out", "place"]) (B : Blt mg) (X6 : Ex6 K mg CB CP CN)  (c_check_size : Cal P w K mg base "check_size" ["size"] sp_check_size k) (c_check_place : Cal P w K mg base "check_place" ["size", "place"] sp_check_place k) (x_check_size : CalX P w K mg base "check_size" ["size"] (spx_check_size K CB CP CN) k) (x_check_place : CalX P w K mg base "check_place" ["size", "place"] (spx_check_place K CB CP CN) k) : CalX P w K mg base "check_covered" ["size", "out", "place"] (spx_cov K CB CP CN) (k + 1) := by
  have sc := scx_check_covered
  obtain ⟨f_check_size, fd_check_size, G_check_size, m_check_size, k_check_size, b_check_size, _⟩ := c_check_size.ex
  obtain ⟨f_check_place, fd_check_place, G_check_place, m_check_place, k_check_place, b_check_place, _⟩ := c_check_place.ex
  obtain ⟨fX_check_size, fdX_check_size, GX_check_size, mX_check_size, kX_check_size, bX_check_size⟩ := x_check_size.ex
  obtain ⟨fX_check_place, fdX_check_place, GX_check_place, mX_check_place, kX_check_place, bX_check_place⟩ := x_check_place.ex
  refine D.calX scx_check_covered (fun vs H Q E h => ?_) (fun f cdv A outer s H vs Q E hr h => ?_)
  · obtain ⟨s, o, p, c, rfl, _⟩ := h
    rfl
  obtain ⟨s, o, p, c, rfl, hb, e⟩ := h
  cases hb with
  | sop s o p c hb =>
    cases hb with
    | so s o p c hb =>
      cases hb with
      | size s o hs =>
        refine ⟨_, (pss_cons (ps_expr (pe_callS GX_check_size hr (by rfl) mX_check_size kX_check_size bX_check_size (fun σ => passAt (takes_of rfl rfl rfl rfl) σ) (pa_cons (pv 0) pa_nil)))
    (pss_cons ps_never
    (pss_cons ps_never
    (pss_one ps_never)))), ?_⟩
        (try walk_at "rd")
        exact ⟨s, rfl, hs, e⟩
      | out n o hn hb =>
        refine ⟨_, (pss_cons (ps_expr (pe_call G_check_size hr (by rfl) m_check_size k_check_size b_check_size .nil pass0 (pa_cons (pv 0) pa_nil)))
    (pss_cons (ps_expr (pe_callS GX_check_place hr (by rfl) mX_check_place kX_check_place bX_check_place (fun σ => passAt (takes_of rfl rfl rfl rfl) σ) (pa_cons (pv 0) (pa_cons (pv 1) pa_nil))))
    (pss_cons ps_never
    (pss_one ps_never)))), ?_⟩
        (try walk_at "rd")
        refine ⟨n, rfl, hn, ?_⟩
        try walk_at "rd"
        exact ⟨n, o, rfl, hn, hb, e⟩
    | pl n o p oo hn ho io hb =>
      refine ⟨_, (pss_cons (ps_expr (pe_call G_check_size hr (by rfl) m_check_size k_check_size b_check_size .nil pass0 (pa_cons (pv 0) pa_nil)))
    (pss_cons (ps_expr (pe_call G_check_place hr (by rfl) m_check_place k_check_place b_check_place .nil pass0 (pa_cons (pv 0) (pa_cons (pv 1) pa_nil))))
    (pss_cons (ps_expr (pe_callS GX_check_place hr (by rfl) mX_check_place kX_check_place bX_check_place (fun σ => passAt (takes_of rfl rfl rfl rfl) σ) (pa_cons (pv 0) (pa_cons (pv 2) pa_nil))))
    (pss_one ps_never)))), ?_⟩
      (try walk_at "rd")
      refine ⟨n, rfl, hn, ?_⟩
      try walk_at "rd"
      refine ⟨n, o, oo, rfl, ho, hn, io, ?_⟩
      try walk_at "rd"
      exact ⟨n, p, rfl, hn, hb, e⟩
  | eq n o p oo hn ho hp io =>
    refine ⟨_, (pss_cons (ps_expr (pe_call G_check_size hr (by rfl) m_check_size k_check_size b_check_size .nil pass0 (pa_cons (pv 0) pa_nil)))
    (pss_cons (ps_expr (pe_call G_check_place hr (by rfl) m_check_place k_check_place b_check_place .nil pass0 (pa_cons (pv 0) (pa_cons (pv 1) pa_nil))))
    (pss_cons (ps_expr (pe_call G_check_place hr (by rfl) m_check_place k_check_place b_check_place .nil pass0 (pa_cons (pv 0) (pa_cons (pv 2) pa_nil))))
    (pss_one (ps_if (pt_cmpR (r := rEqD K) (by exact op_eqD hr.units) (pv 2) (pv 1) (nomark _)) (pss_one (ps_raise rfl (takes_of rfl rfl rfl rfl) (pmk_own PySem.F.excBase_ValueError X6.p.xI X6.p.g X6.p.kC (raises_own X6.p.bC X6.p.tC) (by exact rfl)))) pss_nil))))), ?_⟩
    (try walk_at "rd")
    refine ⟨n, rfl, hn, ?_⟩
    try walk_at "rd"
    refine ⟨n, o, oo, rfl, ho, hn, io, ?_⟩
    try walk_at "rd"
    refine ⟨n, p, oo, rfl, hp, hn, io, ?_⟩
    try walk_at "rd"
    refine eq_pl hp ho ?_
    rw [decide_eq_true rfl]
    try walk_at "rd"
    exact e
theorem scx_piece : FnScope ["size", "out", "place", "part_size", "part_out"] ["size", "out", "place"] (defScope s_piece) := ⟨rfl, rfl, rfl, by decide +kernel, rfl, by decide +kernel, by decide +kernel⟩
theorem okx_piece (D : Def K mg "piece" s_piece ["size", "out", "place"]) (B : Blt mg) (X6 : Ex6 K mg CB CP CN)  (x_check_covered : CalX P w K mg base "check_covered" ["size", "out", "place"] (spx_cov K CB CP CN) k) : CalX P w K mg base "piece" ["size", "out", "place"] (spx_cov K CB CP CN) (k + 1) := by
  have sc := scx_piece
  obtain ⟨fX_check_covered, fdX_check_covered, GX_check_covered, mX_check_covered, kX_check_covered, bX_check_covered⟩ := x_check_covered.ex
  refine D.calX scx_piece (fun vs H Q E h => ?_) (fun f cdv A outer s H vs Q E hr h => ?_)
  · obtain ⟨s, o, p, c, rfl, _⟩ := h
    rfl
  obtain ⟨s, o, p, c, rfl, hb, e⟩ := h
  refine ⟨_, (pss_cons (ps_expr (pe_callS GX_check_covered hr (by rfl) mX_check_covered kX_check_covered bX_check_covered (fun σ => passAt (takes_of rfl rfl rfl rfl) σ) (pa_cons (pv 0) (pa_cons (pv 1) (pa_cons (pv 2) pa_nil)))))
    (pss_cons ps_never
    (pss_one ps_never))), ?_⟩
  (try walk_at "rd")
  exact ⟨s, o, p, c, rfl, hb, e⟩
theorem scx_number_of : FnScope ["size", "out", "place", "part_size", "_"] ["size", "out", "place"] (defScope s_number_of) := ⟨rfl, rfl, rfl, by decide +kernel, rfl, by decide +kernel, by decide +kernel⟩
theorem okx_number_of (D : Def K mg "number_of" s_number_of ["size", "out", "place"]) (B : Blt mg) (X6 : Ex6 K mg CB CP CN)  (x_check_covered : CalX P w K mg base "check_covered" ["size", "out", "place"] (spx_cov K CB CP CN) k) : CalX P w K mg base "number_of" ["size", "out", "place"] (spx_cov K CB CP CN) (k + 1) := by
  have sc := scx_number_of
  obtain ⟨fX_check_covered, fdX_check_covered, GX_check_covered, mX_check_covered, kX_check_covered, bX_check_covered⟩ := x_check_covered.ex
  refine D.calX scx_number_of (fun vs H Q E h => ?_) (fun f cdv A outer s H vs Q E hr h => ?_)
  · obtain ⟨s, o, p, c, rfl, _⟩ := h
    rfl
  obtain ⟨s, o, p, c, rfl, hb, e⟩ := h
  refine ⟨_, (pss_cons (ps_expr (pe_callS GX_check_covered hr (by rfl) mX_check_covered kX_check_covered bX_check_covered (fun σ => passAt (takes_of rfl rfl rfl rfl) σ) (pa_cons (pv 0) (pa_cons (pv 1) (pa_cons (pv 2) pa_nil)))))
    (pss_cons ps_never
    (pss_one ps_never))), ?_⟩
  (try walk_at "rd")
  exact ⟨s, o, p, c, rfl, hb, e⟩
theorem scx_piece_of : FnScope ["size", "out", "number", "part_size", "part_out", "part_number", "quarter"] ["size", "out", "number"] (defScope s_piece_of) := ⟨rfl, rfl, rfl, by decide +kernel, rfl, by decide +kernel, by decide +kernel⟩
theorem okx_piece_of (D : Def K mg "piece_of" s_piece_of ["size", "out", "number"]) (B : Blt mg) (X6 : Ex6 K mg CB CP CN)  (c_check_size : Cal P w K mg base "check_size" ["size"] sp_check_size k) (c_check_place : Cal P w K mg base "check_place" ["size", "place"] sp_check_place k) (c_is_count : Cal P w K mg base "is_count" ["value", "limit"] sp2_is_count k) (c_pieces_in : Cal P w K mg base "pieces_in" ["size"] sp_pieces_in k) (x_check_size : CalX P w K mg base "check_size" ["size"] (spx_check_size K CB CP CN) k) (x_check_place : CalX P w K mg base "check_place" ["size", "place"] (spx_check_place K CB CP CN) k) : CalX P w K mg base "piece_of" ["size", "out", "number"] (spx_no K CB CP CN) (k + 1) := by
  have sc := scx_piece_of
  obtain ⟨f_check_size, fd_check_size, G_check_size, m_check_size, k_check_size, b_check_size, _⟩ := c_check_size.ex
  obtain ⟨f_check_place, fd_check_place, G_check_place, m_check_place, k_check_place, b_check_place, _⟩ := c_check_place.ex
  obtain ⟨f_is_count, fd_is_count, G_is_count, m_is_count, k_is_count, b_is_count, _⟩ := c_is_count.ex
  obtain ⟨f_pieces_in, fd_pieces_in, G_pieces_in, m_pieces_in, k_pieces_in, b_pieces_in, _⟩ := c_pieces_in.ex
  obtain ⟨fX_check_size, fdX_check_size, GX_check_size, mX_check_size, kX_check_size, bX_check_size⟩ := x_check_size.ex
  obtain ⟨fX_check_place, fdX_check_place, GX_check_place, mX_check_place, kX_check_place, bX_check_place⟩ := x_check_place.ex
  refine D.calX scx_piece_of (fun vs H Q E h => ?_) (fun f cdv A outer s H vs Q E hr h => ?_)
  · obtain ⟨s, o, p, c, rfl, _⟩ := h
    rfl
  obtain ⟨s, o, j, c, rfl, hb, e⟩ := h
  cases hb with
  | so s o j c hb =>
    cases hb with
    | size s o hs =>
      refine ⟨_, (pss_cons (ps_expr (pe_callS GX_check_size hr (by rfl) mX_check_size kX_check_size bX_check_size (fun σ => passAt (takes_of rfl rfl rfl rfl) σ) (pa_cons (pv 0) pa_nil)))
    (pss_cons ps_never
    (pss_cons ps_never
    (pss_cons ps_never
    (pss_cons ps_never
    (pss_cons ps_never
    (pss_cons ps_never
    (pss_one ps_never)))))))), ?_⟩
      (try walk_at "rd")
      exact ⟨s, rfl, hs, e⟩
    | out n o hn hb =>
      refine ⟨_, (pss_cons (ps_expr (pe_call G_check_size hr (by rfl) m_check_size k_check_size b_check_size .nil pass0 (pa_cons (pv 0) pa_nil)))
    (pss_cons (ps_expr (pe_callS GX_check_place hr (by rfl) mX_check_place kX_check_place bX_check_place (fun σ => passAt (takes_of rfl rfl rfl rfl) σ) (pa_cons (pv 0) (pa_cons (pv 1) pa_nil))))
    (pss_cons ps_never
    (pss_cons ps_never
    (pss_cons ps_never
    (pss_cons ps_never
    (pss_cons ps_never
    (pss_one ps_never)))))))), ?_⟩
      (try walk_at "rd")
      refine ⟨n, rfl, hn, ?_⟩
      try walk_at "rd"
      exact ⟨n, o, rfl, hn, hb, e⟩
  | no n o j oo hn ho io hb =>
    refine ⟨_, (pss_cons (ps_expr (pe_call G_check_size hr (by rfl) m_check_size k_check_size b_check_size .nil pass0 (pa_cons (pv 0) pa_nil)))
    (pss_cons (ps_expr (pe_call G_check_place hr (by rfl) m_check_place k_check_place b_check_place .nil pass0 (pa_cons (pv 0) (pa_cons (pv 1) pa_nil))))
    (pss_cons (ps_if (pt_not (pt_val (pe_call G_is_count hr (by rfl) m_is_count k_is_count b_is_count .nil pass0 (pa_cons (pv 2) (pa_cons (pe_call G_pieces_in hr (by rfl) m_pieces_in k_pieces_in b_pieces_in .nil pass0 (pa_cons (pv 0) pa_nil)) pa_nil))))) (pss_one (ps_raise rfl (takes_of rfl rfl rfl rfl) (pmk_own PySem.F.excBase_ValueError X6.n.xI X6.n.g X6.n.kC (raises_own X6.n.bC X6.n.tC) (by exact rfl)))) pss_nil)
    (pss_cons ps_never
    (pss_cons ps_never
    (pss_cons ps_never
    (pss_cons ps_never
    (pss_one ps_never)))))))), ?_⟩
    (try walk_at "rd")
    refine ⟨n, rfl, hn, ?_⟩
    try walk_at "rd"
    refine ⟨n, o, oo, rfl, ho, hn, io, ?_⟩
    try walk_at "rd"
    refine ⟨n, rfl, by omega, ?_⟩
    try walk_at "rd"
    refine ⟨j, _, rfl, .inl ⟨hb, ?_⟩⟩
    try walk_at "rd"
    exact e
theorem scx_ways : FnScope ["size", "out", "told", "cornered", "part_size", "corner"] ["size", "out"] (defScope s_ways) := ⟨rfl, rfl, rfl, by decide +kernel, rfl, by decide +kernel, by decide +kernel⟩
theorem okx_ways (D : Def K mg "ways" s_ways ["size", "out"]) (B : Blt mg) (X6 : Ex6 K mg CB CP CN)  (c_check_size : Cal P w K mg base "check_size" ["size"] sp_check_size k) (c_check_place : Cal P w K mg base "check_place" ["size", "place"] sp_check_place k) (x_check_size : CalX P w K mg base "check_size" ["size"] (spx_check_size K CB CP CN) k) (x_check_place : CalX P w K mg base "check_place" ["size", "place"] (spx_check_place K CB CP CN) k) : CalX P w K mg base "ways" ["size", "out"] (spx_so K CB CP CN) (k + 1) := by
  have sc := scx_ways
  obtain ⟨f_check_size, fd_check_size, G_check_size, m_check_size, k_check_size, b_check_size, _⟩ := c_check_size.ex
  obtain ⟨f_check_place, fd_check_place, G_check_place, m_check_place, k_check_place, b_check_place, _⟩ := c_check_place.ex
  obtain ⟨fX_check_size, fdX_check_size, GX_check_size, mX_check_size, kX_check_size, bX_check_size⟩ := x_check_size.ex
  obtain ⟨fX_check_place, fdX_check_place, GX_check_place, mX_check_place, kX_check_place, bX_check_place⟩ := x_check_place.ex
  refine D.calX scx_ways (fun vs H Q E h => ?_) (fun f cdv A outer s H vs Q E hr h => ?_)
  · obtain ⟨s, o, c, rfl, _⟩ := h
    rfl
  obtain ⟨s, o, c, rfl, hb, e⟩ := h
  cases hb with
  | size s o hs =>
    refine ⟨_, (pss_cons (ps_expr (pe_callS GX_check_size hr (by rfl) mX_check_size kX_check_size bX_check_size (fun σ => passAt (takes_of rfl rfl rfl rfl) σ) (pa_cons (pv 0) pa_nil)))
    (pss_cons ps_never
    (pss_cons ps_never
    (pss_cons ps_never
    (pss_cons ps_never
    (pss_one ps_never)))))), ?_⟩
    (try walk_at "rd")
    exact ⟨s, rfl, hs, e⟩
  | out n o hn hb =>
    refine ⟨_, (pss_cons (ps_expr (pe_call G_check_size hr (by rfl) m_check_size k_check_size b_check_size .nil pass0 (pa_cons (pv 0) pa_nil)))
    (pss_cons (ps_expr (pe_callS GX_check_place hr (by rfl) mX_check_place kX_check_place bX_check_place (fun σ => passAt (takes_of rfl rfl rfl rfl) σ) (pa_cons (pv 0) (pa_cons (pv 1) pa_nil))))
    (pss_cons ps_never
    (pss_cons ps_never
    (pss_cons ps_never
    (pss_one ps_never)))))), ?_⟩
    (try walk_at "rd")
    refine ⟨n, rfl, hn, ?_⟩
    try walk_at "rd"
    exact ⟨n, o, rfl, hn, hb, e⟩
theorem scx_check_both : FnScope ["size", "one", "other"] ["size", "one", "other"] (defScope s_check_both) := ⟨rfl, rfl, rfl, by decide +kernel, rfl, by decide +kernel, by decide +kernel⟩
theorem okx_check_both (D : Def K mg "check_both" s_check_both ["size", "one", "other"]) (B : Blt mg) (X6 : Ex6 K mg CB CP CN)  (c_check_size : Cal P w K mg base "check_size" ["size"] sp_check_size k) (c_check_place : Cal P w K mg base "check_place" ["size", "place"] sp_check_place k) (x_check_size : CalX P w K mg base "check_size" ["size"] (spx_check_size K CB CP CN) k) (x_check_place : CalX P w K mg base "check_place" ["size", "place"] (spx_check_place K CB CP CN) k) : CalX P w K mg base "check_both" ["size", "one", "other"] (spx_sop K CB CP CN) (k + 1) := by
  have sc := scx_check_both
  obtain ⟨f_check_size, fd_check_size, G_check_size, m_check_size, k_check_size, b_check_size, _⟩ := c_check_size.ex
  obtain ⟨f_check_place, fd_check_place, G_check_place, m_check_place, k_check_place, b_check_place, _⟩ := c_check_place.ex
  obtain ⟨fX_check_size, fdX_check_size, GX_check_size, mX_check_size, kX_check_size, bX_check_size⟩ := x_check_size.ex
  obtain ⟨fX_check_place, fdX_check_place, GX_check_place, mX_check_place, kX_check_place, bX_check_place⟩ := x_check_place.ex
  refine D.calX scx_check_both (fun vs H Q E h => ?_) (fun f cdv A outer s H vs Q E hr h => ?_)
  · obtain ⟨s, o, p, c, rfl, _⟩ := h
    rfl
  obtain ⟨s, o, p, c, rfl, hb, e⟩ := h
  cases hb with
  | so s o p c hb =>
    cases hb with
    | size s o hs =>
      refine ⟨_, (pss_cons (ps_expr (pe_callS GX_check_size hr (by rfl) mX_check_size kX_check_size bX_check_size (fun σ => passAt (takes_of rfl rfl rfl rfl) σ) (pa_cons (pv 0) pa_nil)))
    (pss_cons ps_never
    (pss_one ps_never))), ?_⟩
      (try walk_at "rd")
      exact ⟨s, rfl, hs, e⟩
    | out n o hn hb =>
      refine ⟨_, (pss_cons (ps_expr (pe_call G_check_size hr (by rfl) m_check_size k_check_size b_check_size .nil pass0 (pa_cons (pv 0) pa_nil)))
    (pss_cons (ps_expr (pe_callS GX_check_place hr (by rfl) mX_check_place kX_check_place bX_check_place (fun σ => passAt (takes_of rfl rfl rfl rfl) σ) (pa_cons (pv 0) (pa_cons (pv 1) pa_nil))))
    (pss_one ps_never))), ?_⟩
      (try walk_at "rd")
      refine ⟨n, rfl, hn, ?_⟩
      try walk_at "rd"
      exact ⟨n, o, rfl, hn, hb, e⟩
  | pl n o p oo hn ho io hb =>
    refine ⟨_, (pss_cons (ps_expr (pe_call G_check_size hr (by rfl) m_check_size k_check_size b_check_size .nil pass0 (pa_cons (pv 0) pa_nil)))
    (pss_cons (ps_expr (pe_call G_check_place hr (by rfl) m_check_place k_check_place b_check_place .nil pass0 (pa_cons (pv 0) (pa_cons (pv 1) pa_nil))))
    (pss_one (ps_expr (pe_callS GX_check_place hr (by rfl) mX_check_place kX_check_place bX_check_place (fun σ => passAt (takes_of rfl rfl rfl rfl) σ) (pa_cons (pv 0) (pa_cons (pv 2) pa_nil))))))), ?_⟩
    (try walk_at "rd")
    refine ⟨n, rfl, hn, ?_⟩
    try walk_at "rd"
    refine ⟨n, o, oo, rfl, ho, hn, io, ?_⟩
    try walk_at "rd"
    exact ⟨n, p, rfl, hn, hb, e⟩
theorem scx_unlike : FnScope ["size", "one", "other", "part_size", "told", "out"] ["size", "one", "other"] (defScope s_unlike) := ⟨rfl, rfl, rfl, by decide +kernel, rfl, by decide +kernel, by decide +kernel⟩
theorem okx_unlike (D : Def K mg "unlike" s_unlike ["size", "one", "other"]) (B : Blt mg) (X6 : Ex6 K mg CB CP CN)  (x_check_both : CalX P w K mg base "check_both" ["size", "one", "other"] (spx_sop K CB CP CN) k) : CalX P w K mg base "unlike" ["size", "one", "other"] (spx_sop K CB CP CN) (k + 1) := by
  have sc := scx_unlike
  obtain ⟨fX_check_both, fdX_check_both, GX_check_both, mX_check_both, kX_check_both, bX_check_both⟩ := x_check_both.ex
  refine D.calX scx_unlike (fun vs H Q E h => ?_) (fun f cdv A outer s H vs Q E hr h => ?_)
  · obtain ⟨s, o, p, c, rfl, _⟩ := h
    rfl
  obtain ⟨s, o, p, c, rfl, hb, e⟩ := h
  refine ⟨_, (pss_cons (ps_expr (pe_callS GX_check_both hr (by rfl) mX_check_both kX_check_both bX_check_both (fun σ => passAt (takes_of rfl rfl rfl rfl) σ) (pa_cons (pv 0) (pa_cons (pv 1) (pa_cons (pv 2) pa_nil)))))
    (pss_cons ps_never
    (pss_cons ps_never
    (pss_cons ps_never
    (pss_cons ps_never
    (pss_one ps_never)))))), ?_⟩
  (try walk_at "rd")
  exact ⟨s, o, p, c, rfl, hb, e⟩
theorem scx_first_unlike : FnScope ["size", "one", "other", "part_size"] ["size", "one", "other"] (defScope s_first_unlike) := ⟨rfl, rfl, rfl, by decide +kernel, rfl, by decide +kernel, by decide +kernel⟩
theorem okx_first_unlike (D : Def K mg "first_unlike" s_first_unlike ["size", "one", "other"]) (B : Blt mg) (X6 : Ex6 K mg CB CP CN)  (x_check_both : CalX P w K mg base "check_both" ["size", "one", "other"] (spx_sop K CB CP CN) k) : CalX P w K mg base "first_unlike" ["size", "one", "other"] (spx_sop K CB CP CN) (k + 1) := by
  have sc := scx_first_unlike
  obtain ⟨fX_check_both, fdX_check_both, GX_check_both, mX_check_both, kX_check_both, bX_check_both⟩ := x_check_both.ex
  refine D.calX scx_first_unlike (fun vs H Q E h => ?_) (fun f cdv A outer s H vs Q E hr h => ?_)
  · obtain ⟨s, o, p, c, rfl, _⟩ := h
    rfl
  obtain ⟨s, o, p, c, rfl, hb, e⟩ := h
  refine ⟨_, (pss_cons (ps_expr (pe_callS GX_check_both hr (by rfl) mX_check_both kX_check_both bX_check_both (fun σ => passAt (takes_of rfl rfl rfl rfl) σ) (pa_cons (pv 0) (pa_cons (pv 1) (pa_cons (pv 2) pa_nil)))))
    (pss_cons ps_never
    (pss_cons ps_never
    (pss_one ps_never)))), ?_⟩
  (try walk_at "rd")
  exact ⟨s, o, p, c, rfl, hb, e⟩
end
end Cf

namespace Cf
open PySem PySem.Spec PyProof.Rows L2
local macro_rules | `(tactic| walk_at "rd") => `(tactic| simp only [cx_K, cx_P, cx_w, tVar, tC, tCons, tNil, tOp, tUn, rI, rI0, rU, tSeq, Evl.tCut, tAsg, gName, tRet, tRetN, tIfS, tB, tTest, tNot, tAndV, tOrV, tNotV, tChain, tDrop, tNever, tDNewK, tRevL, tBM, rAppend, tAug, ipI, tTup, tLst, tCB, tCall, tCallS, gTup, gCons, gNil, gSub, tNext, rEq, rNe, rIxL, rIxT, wipe, tYes, rSetL, tSl, tNoPart, tPart, tAugS, rGetL, tBits, rI0, Evl.rLenS, Evl.rListS, scal_ii, scal_bb, L2.start, List.map_cons, List.map_nil, List.length_cons, List.length_nil, List.replicate, List.cons_append, List.nil_append, List.append_nil, Nat.reduceAdd, Nat.reduceSub, List.set_cons_zero, List.set_cons_succ, List.getElem?_cons_zero, List.getElem?_cons_succ, Option.some.injEq, V.int.injEq, V.bl.injEq, V.ref.injEq, List.cons.injEq, and_assoc, and_true, true_and, exists_eq_left, exists_eq_left', exists_and_left, exists_and_right, exists_eq_right, exists_eq_right', decide_true, decide_false, Bool.false_eq_true, if_true, if_false, reduceIte, ↓reduceIte, Bool.not_true, Bool.not_false, Bool.or_false, Bool.or_true, Bool.true_or, Bool.false_or, Bool.and_true, Bool.true_and, Bool.and_false, Bool.false_and, exists_const, and_self, Int.one_mul, Int.toNat_natCast, bitAnd_m1, c0, c1, c2, c3, c4, cmul2, cdiv2, cdiv3, cdiv4, cdiv5, cdiv7, cdiv8, cdiv12, cdiv13, cdiv40, Int.natCast_nonneg, Int.reduceLT, eq_self, sz0, sz1, sz2, sz3, sz4, sz5, sz6, sz8, sz11])
local macro_rules | `(tactic| walk_at "rdo") => `(tactic| (simp only [tAnd, tOr, tIf]; (try walk_at "rd")))
local macro_rules | `(tactic| walk_at "same") => `(tactic| ((try unfold L2.Same); repeat (first | exact Same.refl _ | assumption | refine Same.upd ?_ (by assumption))))
local macro_rules | `(tactic| walk_at "look") => `(tactic| (repeat (first | exact upd_same | assumption | refine upd_old (by assumption) ?_)))

section
variable {P : Program} {w : World} {K : PySem.W.Frag} {mg : Str → Option Value} {base : Heap} {k d : Nat} {CB CP CN CF : Addr}
abbrev s__law_ask : Stmt := topS 32
theorem scx__law_ask : FnScope ["_law_door", "_law_size", "_law_out", "_law_third"] ["_law_door", "_law_size", "_law_out", "_law_third"] (defScope s__law_ask) := ⟨rfl, rfl, rfl, by decide +kernel, rfl, by decide +kernel, by decide +kernel⟩
theorem okx__law_ask (D : Def K mg "_law_ask" s__law_ask ["_law_door", "_law_size", "_law_out", "_law_third"]) (B : Blt mg) (X6 : Ex6 K mg CB CP CN)  (x_piece : CalX P w K mg base "piece" ["size", "out", "place"] (spx_cov K CB CP CN) k) (x_number_of : CalX P w K mg base "number_of" ["size", "out", "place"] (spx_cov K CB CP CN) k) (x_piece_of : CalX P w K mg base "piece_of" ["size", "out", "number"] (spx_no K CB CP CN) k) (x_ways : CalX P w K mg base "ways" ["size", "out"] (spx_so K CB CP CN) k) (x_unlike : CalX P w K mg base "unlike" ["size", "one", "other"] (spx_sop K CB CP CN) k) (x_first_unlike : CalX P w K mg base "first_unlike" ["size", "one", "other"] (spx_sop K CB CP CN) k) : CalX P w K mg base "_law_ask" ["_law_door", "_law_size", "_law_out", "_law_third"] (spx__law_ask K CB CP CN) (k + 1) := by
  have sc := scx__law_ask
  obtain ⟨fX_piece, fdX_piece, GX_piece, mX_piece, kX_piece, bX_piece⟩ := x_piece.ex
  obtain ⟨fX_number_of, fdX_number_of, GX_number_of, mX_number_of, kX_number_of, bX_number_of⟩ := x_number_of.ex
  obtain ⟨fX_piece_of, fdX_piece_of, GX_piece_of, mX_piece_of, kX_piece_of, bX_piece_of⟩ := x_piece_of.ex
  obtain ⟨fX_ways, fdX_ways, GX_ways, mX_ways, kX_ways, bX_ways⟩ := x_ways.ex
  obtain ⟨fX_unlike, fdX_unlike, GX_unlike, mX_unlike, kX_unlike, bX_unlike⟩ := x_unlike.ex
  obtain ⟨fX_first_unlike, fdX_first_unlike, GX_first_unlike, mX_first_unlike, kX_first_unlike, bX_first_unlike⟩ := x_first_unlike.ex
  refine D.calX scx__law_ask (fun vs H Q E h => ?_) (fun f cdv A outer s H vs Q E hr h => ?_)
  · obtain ⟨d, s, o, p, c, rfl, _⟩ := h
    rfl
  obtain ⟨d, s, o, t, c, rfl, hb, e⟩ := h
  refine ⟨_, (pss_cons (ps_if (pt_cmpR op_lt (pv 0) pe_int (nomark _)) (pss_one (ps_ret (pe_ifExp (pt_cmpR op_eq (pv 0) pe_int (nomark _)) (pe_callS GX_piece hr (by rfl) mX_piece kX_piece bX_piece (fun σ => passAt (takes_of rfl rfl rfl rfl) σ) (pa_cons (pv 1) (pa_cons (pv 2) (pa_cons (pv 3) pa_nil)))) (pe_callS GX_number_of hr (by rfl) mX_number_of kX_number_of bX_number_of (fun σ => passAt (takes_of rfl rfl rfl rfl) σ) (pa_cons (pv 1) (pa_cons (pv 2) (pa_cons (pv 3) pa_nil))))))) pss_nil)
    (pss_cons (ps_if (pt_cmpR op_lt (pv 0) pe_int (nomark _)) (pss_one (ps_ret (pe_ifExp (pt_cmpR op_eq (pv 0) pe_int (nomark _)) (pe_callS GX_piece_of hr (by rfl) mX_piece_of kX_piece_of bX_piece_of (fun σ => passAt (takes_of rfl rfl rfl rfl) σ) (pa_cons (pv 1) (pa_cons (pv 2) (pa_cons (pv 3) pa_nil)))) (pe_callS GX_ways hr (by rfl) mX_ways kX_ways bX_ways (fun σ => passAt (takes_of rfl rfl rfl rfl) σ) (pa_cons (pv 1) (pa_cons (pv 2) pa_nil)))))) pss_nil)
    (pss_one (ps_ret (pe_ifExp (pt_cmpR op_eq (pv 0) pe_int (nomark _)) (pe_callS GX_unlike hr (by rfl) mX_unlike kX_unlike bX_unlike (fun σ => passAt (takes_of rfl rfl rfl rfl) σ) (pa_cons (pv 1) (pa_cons (pv 2) (pa_cons (pv 3) pa_nil)))) (pe_callS GX_first_unlike hr (by rfl) mX_first_unlike kX_first_unlike bX_first_unlike (fun σ => passAt (takes_of rfl rfl rfl rfl) σ) (pa_cons (pv 1) (pa_cons (pv 2) (pa_cons (pv 3) pa_nil))))))))), ?_⟩
  (try walk_at "rd")
  cases hb with
  | cov d s o t c hd hb =>
    rw [decide_eq_true (show (d : Int) < 2 by omega)]
    walk_at "rdo"
    by_cases h0 : d = 0
    · subst h0
      simp only [c0, eq_self, decide_true, if_true]
      exact ⟨s, o, t, c, rfl, hb, e⟩
    · rw [decide_eq_false (show ¬ (d : Int) = 0 by omega)]
      try walk_at "rd"
      exact ⟨s, o, t, c, rfl, hb, e⟩
  | no s o t c hb =>
    rw [decide_eq_false (show ¬ ((2 : Nat) : Int) < 2 by decide)]
    try walk_at "rd"
    walk_at "rdo"
    exact ⟨s, o, t, c, rfl, hb, e⟩
  | so s o t c hb =>
    rw [decide_eq_false (show ¬ ((3 : Nat) : Int) < 2 by decide)]
    try walk_at "rd"
    walk_at "rdo"
    rw [decide_eq_false (show ¬ (3 : Int) = 2 by decide)]
    try walk_at "rd"
    exact ⟨s, o, c, rfl, hb, e⟩
  | sop d s o t c h4 h6 hb =>
    rw [decide_eq_false (show ¬ (d : Int) < 2 by omega)]
    try walk_at "rd"
    rw [decide_eq_false (show ¬ (d : Int) < 4 by omega)]
    walk_at "rdo"
    by_cases h0 : d = 4
    · subst h0
      try walk_at "rd"
      exact ⟨s, o, t, c, rfl, hb, e⟩
    · rw [decide_eq_false (show ¬ (d : Int) = 4 by omega)]
      try walk_at "rd"
      exact ⟨s, o, t, c, rfl, hb, e⟩
def sp__law_places : Sp := fun vs H Q _ => ∃ (m : Nat), vs = [.int (m : Int)] ∧ ∀ H' l xs, Same H H' → H' l = some (.lst xs) → xs.length = 12 → (∀ x ∈ xs, BadPl H' 3 x ∧ Odd H' x) → Q (.ref l) H'
abbrev s__law_places : Stmt := topS 33
theorem sc__law_places : FnScope ["_law_more", "_law_bad"] ["_law_more"] (defScope s__law_places) := ⟨rfl, rfl, rfl, by decide +kernel, rfl, by decide +kernel, by decide +kernel⟩
theorem ok__law_places (D : Def K mg "_law_places" s__law_places ["_law_more"]) (B : Blt mg)   : Cal P w K mg base "_law_places" ["_law_more"] sp__law_places (k + 1) := by
  have sc := sc__law_places
  refine D.cal sc__law_places (fun vs H Q E h => by obtain ⟨_, rfl, _⟩ := h; rfl) (fun f cdv A outer s H vs Q E hr h => ?_)
  obtain ⟨m, rfl, q⟩ := h
  refine ⟨_, (pss_cons (ps_set (i := 1) sc.nd rfl (.inl rfl) (pe_lst (pa_cons pe_non (pa_cons pe_int (pa_cons (pe_tup (pa_cons pe_int pa_nil)) (pa_cons (pe_tup (pa_cons pe_int (pa_cons pe_int (pa_cons pe_int pa_nil)))) (pa_cons (pe_lst (pa_cons pe_int (pa_cons pe_int pa_nil))) (pa_cons pe_str (pa_cons (pe_tup (pa_cons pe_bl (pa_cons pe_int pa_nil))) (pa_cons (pe_tup (pa_cons pe_int (pa_cons pe_bl pa_nil))) (pa_cons (pe_tup (pa_cons (pe_op op_sub (pe_un un_neg pe_int) (pv 0)) (pa_cons pe_int pa_nil))) (pa_cons (pe_tup (pa_cons pe_int (pa_cons (pe_op op_sub (pe_un un_neg pe_int) (pv 0)) pa_nil))) (pa_cons (pe_tup (pa_cons (pe_op op_add pe_int (pv 0)) (pa_cons pe_int pa_nil))) pa_nil)))))))))))))
    (pss_one (ps_ret (pe_op op_cat (pv 1) (pe_lst (pa_cons (pe_tup (pa_cons pe_int (pa_cons (pe_op op_add pe_int (pv 0)) pa_nil))) pa_nil)))))), ?_⟩
  walk_at "rd"
  intro t1 nt1 t2 nt2 t3 nt3 t4 nt4 t5 nt5 t6 nt6 t7 nt7 t8 nt8 l1 nl1
  try walk_at "rd"
  intro t9 nt9 l2 nl2
  have s9 : Same H (L2.upd (L2.upd (L2.upd (L2.upd (L2.upd (L2.upd (L2.upd (L2.upd (L2.upd (L2.upd (L2.upd H t1 (.tup [.int 1])) t2 (.tup [.int 1, .int 2, .int 3])) t3 (.lst [.int 1, .int 2])) t4 (.tup [.bl true, .int 1])) t5 (.tup [.int 1, .bl false])) t6 (.tup [.int (-1 - (m : Int)), .int 0])) t7 (.tup [.int 0, .int (-1 - (m : Int))])) t8 (.tup [.int (8 + (m : Int)), .int 0])) l1 (.lst [.non, .int 5, .ref t1, .ref t2, .ref t3, .str "12", .ref t4, .ref t5, .ref t6, .ref t7, .ref t8])) t9 (.tup [.int 0, .int (8 + (m : Int))])) l2 (.lst [.ref t9])) := by walk_at "same"
  have et1 : (L2.upd (L2.upd (L2.upd (L2.upd (L2.upd (L2.upd (L2.upd (L2.upd (L2.upd (L2.upd (L2.upd H t1 (.tup [.int 1])) t2 (.tup [.int 1, .int 2, .int 3])) t3 (.lst [.int 1, .int 2])) t4 (.tup [.bl true, .int 1])) t5 (.tup [.int 1, .bl false])) t6 (.tup [.int (-1 - (m : Int)), .int 0])) t7 (.tup [.int 0, .int (-1 - (m : Int))])) t8 (.tup [.int (8 + (m : Int)), .int 0])) l1 (.lst [.non, .int 5, .ref t1, .ref t2, .ref t3, .str "12", .ref t4, .ref t5, .ref t6, .ref t7, .ref t8])) t9 (.tup [.int 0, .int (8 + (m : Int))])) l2 (.lst [.ref t9])) t1 = some (.tup [.int 1]) := by walk_at "look"
  have et2 : (L2.upd (L2.upd (L2.upd (L2.upd (L2.upd (L2.upd (L2.upd (L2.upd (L2.upd (L2.upd (L2.upd H t1 (.tup [.int 1])) t2 (.tup [.int 1, .int 2, .int 3])) t3 (.lst [.int 1, .int 2])) t4 (.tup [.bl true, .int 1])) t5 (.tup [.int 1, .bl false])) t6 (.tup [.int (-1 - (m : Int)), .int 0])) t7 (.tup [.int 0, .int (-1 - (m : Int))])) t8 (.tup [.int (8 + (m : Int)), .int 0])) l1 (.lst [.non, .int 5, .ref t1, .ref t2, .ref t3, .str "12", .ref t4, .ref t5, .ref t6, .ref t7, .ref t8])) t9 (.tup [.int 0, .int (8 + (m : Int))])) l2 (.lst [.ref t9])) t2 = some (.tup [.int 1, .int 2, .int 3]) := by walk_at "look"
  have et3 : (L2.upd (L2.upd (L2.upd (L2.upd (L2.upd (L2.upd (L2.upd (L2.upd (L2.upd (L2.upd (L2.upd H t1 (.tup [.int 1])) t2 (.tup [.int 1, .int 2, .int 3])) t3 (.lst [.int 1, .int 2])) t4 (.tup [.bl true, .int 1])) t5 (.tup [.int 1, .bl false])) t6 (.tup [.int (-1 - (m : Int)), .int 0])) t7 (.tup [.int 0, .int (-1 - (m : Int))])) t8 (.tup [.int (8 + (m : Int)), .int 0])) l1 (.lst [.non, .int 5, .ref t1, .ref t2, .ref t3, .str "12", .ref t4, .ref t5, .ref t6, .ref t7, .ref t8])) t9 (.tup [.int 0, .int (8 + (m : Int))])) l2 (.lst [.ref t9])) t3 = some (.lst [.int 1, .int 2]) := by walk_at "look"
  have et4 : (L2.upd (L2.upd (L2.upd (L2.upd (L2.upd (L2.upd (L2.upd (L2.upd (L2.upd (L2.upd (L2.upd H t1 (.tup [.int 1])) t2 (.tup [.int 1, .int 2, .int 3])) t3 (.lst [.int 1, .int 2])) t4 (.tup [.bl true, .int 1])) t5 (.tup [.int 1, .bl false])) t6 (.tup [.int (-1 - (m : Int)), .int 0])) t7 (.tup [.int 0, .int (-1 - (m : Int))])) t8 (.tup [.int (8 + (m : Int)), .int 0])) l1 (.lst [.non, .int 5, .ref t1, .ref t2, .ref t3, .str "12", .ref t4, .ref t5, .ref t6, .ref t7, .ref t8])) t9 (.tup [.int 0, .int (8 + (m : Int))])) l2 (.lst [.ref t9])) t4 = some (.tup [.bl true, .int 1]) := by walk_at "look"
  have et5 : (L2.upd (L2.upd (L2.upd (L2.upd (L2.upd (L2.upd (L2.upd (L2.upd (L2.upd (L2.upd (L2.upd H t1 (.tup [.int 1])) t2 (.tup [.int 1, .int 2, .int 3])) t3 (.lst [.int 1, .int 2])) t4 (.tup [.bl true, .int 1])) t5 (.tup [.int 1, .bl false])) t6 (.tup [.int (-1 - (m : Int)), .int 0])) t7 (.tup [.int 0, .int (-1 - (m : Int))])) t8 (.tup [.int (8 + (m : Int)), .int 0])) l1 (.lst [.non, .int 5, .ref t1, .ref t2, .ref t3, .str "12", .ref t4, .ref t5, .ref t6, .ref t7, .ref t8])) t9 (.tup [.int 0, .int (8 + (m : Int))])) l2 (.lst [.ref t9])) t5 = some (.tup [.int 1, .bl false]) := by walk_at "look"
  have et6 : (L2.upd (L2.upd (L2.upd (L2.upd (L2.upd (L2.upd (L2.upd (L2.upd (L2.upd (L2.upd (L2.upd H t1 (.tup [.int 1])) t2 (.tup [.int 1, .int 2, .int 3])) t3 (.lst [.int 1, .int 2])) t4 (.tup [.bl true, .int 1])) t5 (.tup [.int 1, .bl false])) t6 (.tup [.int (-1 - (m : Int)), .int 0])) t7 (.tup [.int 0, .int (-1 - (m : Int))])) t8 (.tup [.int (8 + (m : Int)), .int 0])) l1 (.lst [.non, .int 5, .ref t1, .ref t2, .ref t3, .str "12", .ref t4, .ref t5, .ref t6, .ref t7, .ref t8])) t9 (.tup [.int 0, .int (8 + (m : Int))])) l2 (.lst [.ref t9])) t6 = some (.tup [.int (-1 - (m : Int)), .int 0]) := by walk_at "look"
  have et7 : (L2.upd (L2.upd (L2.upd (L2.upd (L2.upd (L2.upd (L2.upd (L2.upd (L2.upd (L2.upd (L2.upd H t1 (.tup [.int 1])) t2 (.tup [.int 1, .int 2, .int 3])) t3 (.lst [.int 1, .int 2])) t4 (.tup [.bl true, .int 1])) t5 (.tup [.int 1, .bl false])) t6 (.tup [.int (-1 - (m : Int)), .int 0])) t7 (.tup [.int 0, .int (-1 - (m : Int))])) t8 (.tup [.int (8 + (m : Int)), .int 0])) l1 (.lst [.non, .int 5, .ref t1, .ref t2, .ref t3, .str "12", .ref t4, .ref t5, .ref t6, .ref t7, .ref t8])) t9 (.tup [.int 0, .int (8 + (m : Int))])) l2 (.lst [.ref t9])) t7 = some (.tup [.int 0, .int (-1 - (m : Int))]) := by walk_at "look"
  have et8 : (L2.upd (L2.upd (L2.upd (L2.upd (L2.upd (L2.upd (L2.upd (L2.upd (L2.upd (L2.upd (L2.upd H t1 (.tup [.int 1])) t2 (.tup [.int 1, .int 2, .int 3])) t3 (.lst [.int 1, .int 2])) t4 (.tup [.bl true, .int 1])) t5 (.tup [.int 1, .bl false])) t6 (.tup [.int (-1 - (m : Int)), .int 0])) t7 (.tup [.int 0, .int (-1 - (m : Int))])) t8 (.tup [.int (8 + (m : Int)), .int 0])) l1 (.lst [.non, .int 5, .ref t1, .ref t2, .ref t3, .str "12", .ref t4, .ref t5, .ref t6, .ref t7, .ref t8])) t9 (.tup [.int 0, .int (8 + (m : Int))])) l2 (.lst [.ref t9])) t8 = some (.tup [.int (8 + (m : Int)), .int 0]) := by walk_at "look"
  have et9 : (L2.upd (L2.upd (L2.upd (L2.upd (L2.upd (L2.upd (L2.upd (L2.upd (L2.upd (L2.upd (L2.upd H t1 (.tup [.int 1])) t2 (.tup [.int 1, .int 2, .int 3])) t3 (.lst [.int 1, .int 2])) t4 (.tup [.bl true, .int 1])) t5 (.tup [.int 1, .bl false])) t6 (.tup [.int (-1 - (m : Int)), .int 0])) t7 (.tup [.int 0, .int (-1 - (m : Int))])) t8 (.tup [.int (8 + (m : Int)), .int 0])) l1 (.lst [.non, .int 5, .ref t1, .ref t2, .ref t3, .str "12", .ref t4, .ref t5, .ref t6, .ref t7, .ref t8])) t9 (.tup [.int 0, .int (8 + (m : Int))])) l2 (.lst [.ref t9])) t9 = some (.tup [.int 0, .int (8 + (m : Int))]) := by walk_at "look"
  have el1 : (L2.upd (L2.upd (L2.upd (L2.upd (L2.upd (L2.upd (L2.upd (L2.upd (L2.upd (L2.upd (L2.upd H t1 (.tup [.int 1])) t2 (.tup [.int 1, .int 2, .int 3])) t3 (.lst [.int 1, .int 2])) t4 (.tup [.bl true, .int 1])) t5 (.tup [.int 1, .bl false])) t6 (.tup [.int (-1 - (m : Int)), .int 0])) t7 (.tup [.int 0, .int (-1 - (m : Int))])) t8 (.tup [.int (8 + (m : Int)), .int 0])) l1 (.lst [.non, .int 5, .ref t1, .ref t2, .ref t3, .str "12", .ref t4, .ref t5, .ref t6, .ref t7, .ref t8])) t9 (.tup [.int 0, .int (8 + (m : Int))])) l2 (.lst [.ref t9])) l1 = some (.lst [.non, .int 5, .ref t1, .ref t2, .ref t3, .str "12", .ref t4, .ref t5, .ref t6, .ref t7, .ref t8]) := by walk_at "look"
  have el2 : (L2.upd (L2.upd (L2.upd (L2.upd (L2.upd (L2.upd (L2.upd (L2.upd (L2.upd (L2.upd (L2.upd H t1 (.tup [.int 1])) t2 (.tup [.int 1, .int 2, .int 3])) t3 (.lst [.int 1, .int 2])) t4 (.tup [.bl true, .int 1])) t5 (.tup [.int 1, .bl false])) t6 (.tup [.int (-1 - (m : Int)), .int 0])) t7 (.tup [.int 0, .int (-1 - (m : Int))])) t8 (.tup [.int (8 + (m : Int)), .int 0])) l1 (.lst [.non, .int 5, .ref t1, .ref t2, .ref t3, .str "12", .ref t4, .ref t5, .ref t6, .ref t7, .ref t8])) t9 (.tup [.int 0, .int (8 + (m : Int))])) l2 (.lst [.ref t9])) l2 = some (.lst [.ref t9]) := by walk_at "look"
  generalize (L2.upd (L2.upd (L2.upd (L2.upd (L2.upd (L2.upd (L2.upd (L2.upd (L2.upd (L2.upd (L2.upd H t1 (.tup [.int 1])) t2 (.tup [.int 1, .int 2, .int 3])) t3 (.lst [.int 1, .int 2])) t4 (.tup [.bl true, .int 1])) t5 (.tup [.int 1, .bl false])) t6 (.tup [.int (-1 - (m : Int)), .int 0])) t7 (.tup [.int 0, .int (-1 - (m : Int))])) t8 (.tup [.int (8 + (m : Int)), .int 0])) l1 (.lst [.non, .int 5, .ref t1, .ref t2, .ref t3, .str "12", .ref t4, .ref t5, .ref t6, .ref t7, .ref t8])) t9 (.tup [.int 0, .int (8 + (m : Int))])) l2 (.lst [.ref t9])) = H9 at *
  refine ⟨l1, l2, _, _, rfl, rfl, el1, el2, by simp only [List.length_cons, List.length_nil]; decide, fun l nl => ?_⟩
  have s10 := same_new (o := .lst ([.non, .int 5, .ref t1, .ref t2, .ref t3, .str "12", .ref t4, .ref t5, .ref t6, .ref t7, .ref t8] ++ [.ref t9])) nl
  refine q _ l ([.non, .int 5, .ref t1, .ref t2, .ref t3, .str "12", .ref t4, .ref t5, .ref t6, .ref t7, .ref t8] ++ [.ref t9]) (s9.trans s10) upd_same rfl fun x hx => ?_
  suffices h : BadPl H9 3 x ∧ Odd H9 x from ⟨h.1.same s10, h.2.same s10⟩
  simp only [List.cons_append, List.nil_append, List.mem_cons, List.not_mem_nil, or_false] at hx
  have p3 : (2 : Int) ^ 3 = 8 := by decide
  rcases hx with rfl | rfl | rfl | rfl | rfl | rfl | rfl | rfl | rfl | rfl | rfl | rfl
  · exact ⟨.non, .non⟩
  · exact ⟨.int 5, .int 5⟩
  · exact ⟨.len t1 _ et1 (by simp), .tup t1 [1] et1 (by simp)⟩
  · exact ⟨.len t2 _ et2 (by simp), .tup t2 [1, 2, 3] et2 (by simp)⟩
  · exact ⟨.lst t3 _ et3, .lst t3 [1, 2] et3⟩
  · exact ⟨.str _, .str _ (by decide +kernel)⟩
  · exact ⟨.one t4 _ _ et4 (.bl true), .tb t4 true 1 et4 (by decide)⟩
  · exact ⟨.two t5 1 _ et5 (by decide) (by decide) (.bl false), .tc t5 false 1 et5 (by decide)⟩
  · exact ⟨.one t6 _ _ et6 (.int _ (by omega)), .tup t6 [-1 - (m : Int), 0] et6 (by simp)⟩
  · exact ⟨.two t7 0 _ et7 (by decide) (by decide) (.int _ (by omega)), .tup t7 [0, -1 - (m : Int)] et7 (by simp)⟩
  · exact ⟨.one t8 _ _ et8 (.int _ (by omega)), .tup t8 [8 + (m : Int), 0] et8 (by simp)⟩
  · exact ⟨.two t9 0 _ et9 (by decide) (by decide) (.int _ (by omega)), .tup t9 [0, 8 + (m : Int)] et9 (by simp)⟩
end
end Cf

namespace Cf
open PySem PySem.Spec PyProof.Rows L2
local macro_rules | `(tactic| walk_at "rd") => `(tactic| simp only [cx_K, cx_P, cx_w, tVar, tC, tCons, tNil, tOp, tUn, rI, rI0, rU, tSeq, Evl.tCut, tAsg, gName, tRet, tRetN, tIfS, tB, tTest, tNot, tAndV, tOrV, tNotV, tChain, tDrop, tNever, tDNewK, tRevL, tBM, rAppend, tAug, ipI, tTup, tLst, tCB, tCall, tCallS, gTup, gCons, gNil, gSub, tNext, rEq, rNe, rIxL, rIxT, wipe, tYes, rSetL, tSl, tNoPart, tPart, tAugS, rGetL, tBits, rI0, Evl.rLenS, Evl.rListS, scal_ii, scal_bb, L2.start, List.map_cons, List.map_nil, List.length_cons, List.length_nil, List.replicate, List.cons_append, List.nil_append, List.append_nil, Nat.reduceAdd, Nat.reduceSub, List.set_cons_zero, List.set_cons_succ, List.getElem?_cons_zero, List.getElem?_cons_succ, Option.some.injEq, V.int.injEq, V.bl.injEq, V.ref.injEq, List.cons.injEq, and_assoc, and_true, true_and, exists_eq_left, exists_eq_left', exists_and_left, exists_and_right, exists_eq_right, exists_eq_right', decide_true, decide_false, Bool.false_eq_true, if_true, if_false, reduceIte, ↓reduceIte, Bool.not_true, Bool.not_false, Bool.or_false, Bool.or_true, Bool.true_or, Bool.false_or, Bool.and_true, Bool.true_and, Bool.and_false, Bool.false_and, exists_const, and_self, Int.one_mul, Int.toNat_natCast, bitAnd_m1, c0, c1, c2, c3, c4, cmul2, cdiv2, cdiv3, cdiv4, cdiv5, cdiv7, cdiv8, cdiv12, cdiv13, cdiv40, Int.natCast_nonneg, Int.reduceLT, eq_self, sz0, sz1, sz2, sz3, sz4, sz5, sz6, sz8, sz11])
local macro_rules | `(tactic| walk_at "rdo") => `(tactic| (simp only [tAnd, tOr, tIf]; (try walk_at "rd")))
local macro_rules | `(tactic| walk_at "same") => `(tactic| ((try unfold L2.Same); repeat (first | exact Same.refl _ | assumption | refine Same.upd ?_ (by assumption))))
local macro_rules | `(tactic| walk_at "look") => `(tactic| (repeat (first | exact upd_same | assumption | refine upd_old (by assumption) ?_)))

section
variable {P : Program} {w : World} {K : PySem.W.Frag} {mg : Str → Option Value} {base : Heap} {k d : Nat} {CB CP CN CF : Addr}
def sp__law_told : Sp := fun vs H Q _ => ∃ (kd wh m : Nat), vs = [.int (kd : Int), .int (wh : Int), .int (m : Int)] ∧ kd < 4 ∧
  ∀ H' l, Same H H' → H' l = some (.lst ([decide (kd = 0), decide (kd = 1 ∨ kd = 2), decide (kd = 3), true].map V.bl)) → Q (.ref l) H'
def tsuite (K : PySem.W.Frag) (CB CP CN : Addr) (a : Addr) (cls : Value) (d : Option Addr) : TS :=
  tSeq (tAsg (tLst (tCons (tCB (rIsE2 K cls d a) (tCons (tVar 3) (tCons (tC (V.ref CB)) tNil))) (tCons (tCB (rIsE2 K cls d a) (tCons (tVar 3) (tCons (tC (V.ref CP)) tNil))) (tCons (tCB (rIsE2 K cls d a) (tCons (tVar 3) (tCons (tC (V.ref CN)) tNil))) tNil)))) (gName 5))
    (tRet (tOp rCat (tVar 5) (tLst (tCons (tCB (rIsE2 K cls d a) (tCons (tVar 3) (tCons (tC (V.ty "ValueError")) tNil))) tNil))))
theorem suite_ok {c : Addr} {b0 b1 b3 : Bool} {u0 u1 u2 u4 u5 u6 : Option V} {H H' : Hp} {Nx : L2.St → Hp → Prop} {Q : VK} (X : ExR K CB CP CN CF c b0 b1 b3) (s : Same H H')
    (q : ∀ H' l, Same H H' → H' l = some (.lst ([b0, b1, b3, true].map V.bl)) → Q (.ref l) H') :
    wAs K (.ref CF) 3 (tsuite K CB CP CN) (fun _ _ _ _ => False) { nx := Nx, rt := Q } (.ref c) none [u0, u1, u2, none, u4, u5, u6] H' := by
  refine ⟨true, X.e, fun _ a ha => ?_, fun z => nomatch z⟩
  unfold tsuite
  walk_at "rd"
  refine isE_own X.c rfl X.k0 ?_
  try walk_at "rd"
  refine isE_own X.c rfl X.k1 ?_
  try walk_at "rd"
  refine isE_own X.c rfl X.k3 ?_
  try walk_at "rd"
  intro l1 n1
  refine isE_ty X.c X.kv ?_
  try walk_at "rd"
  intro l2 n2
  refine ⟨l1, l2, _, _, rfl, rfl, upd_old n2 upd_same, upd_same, by simp only [List.length_cons, List.length_nil]; decide, fun l nl => ?_⟩
  exact q _ l (s.trans (Same.upd (Same.upd (same_new n1) n2) nl)) upd_same
abbrev s__law_told : Stmt := topS 34
theorem sc__law_told : FnScope ["_law_kind", "_law_which", "_law_more", "error", "_law_bad", "_law_found", "_law_door"] ["_law_kind", "_law_which", "_law_more"] (defScope s__law_told) := ⟨rfl, rfl, rfl, by decide +kernel, rfl, by decide +kernel, by decide +kernel⟩
theorem ok__law_told (D : Def K mg "_law_told" s__law_told ["_law_kind", "_law_which", "_law_more"]) (B : Blt mg) (X6 : Ex6 K mg CB CP CN) (X7 : Ex7 K mg CB CP CN CF) (x__law_ask : CalX P w K mg base "_law_ask" ["_law_door", "_law_size", "_law_out", "_law_third"] (spx__law_ask K CB CP CN) k) (x_piece_of : CalX P w K mg base "piece_of" ["size", "out", "number"] (spx_no K CB CP CN) k) (c__law_places : Cal P w K mg base "_law_places" ["_law_more"] sp__law_places k) : Cal P w K mg base "_law_told" ["_law_kind", "_law_which", "_law_more"] sp__law_told (k + 1) := by
  have sc := sc__law_told
  obtain ⟨f__law_places, fd__law_places, G__law_places, m__law_places, k__law_places, b__law_places, _⟩ := c__law_places.ex
  refine D.cal sc__law_told (fun vs H Q E h => by obtain ⟨_, _, _, rfl, _⟩ := h; rfl) (fun f cdv A outer s H vs Q E hr h => ?_)
  obtain ⟨kd, wh, m, rfl, hk, q⟩ := h
  have gF := X7.gF
  have m_ValueError := X7.vE
  obtain ⟨fX__law_ask, fdX__law_ask, GX__law_ask, mX__law_ask, kX__law_ask, bX__law_ask⟩ := x__law_ask.ex
  obtain ⟨fX_piece_of, fdX_piece_of, GX_piece_of, mX_piece_of, kX_piece_of, bX_piece_of⟩ := x_piece_of.ex
  refine ⟨_, (pss_cons (ps_try_as (i := 3) rfl rfl sc.nd rfl rfl ⟨rfl, by decide, .inl gF⟩ takes0
      (fun W pn xe tk _ => (pss_one (ps_if (pt_cmpR op_eq (pv 0) pe_int (nomark _)) (pss_cons (ps_set (i := 4) sc.nd rfl (.inl rfl) (pe_ix (r := rIxL K) (by exact ix_list) (pe_lst (pa_cons pe_non (pa_cons (pe_op op_sub (pe_un un_neg pe_int) (pv 2)) (pa_cons (pe_op op_add pe_int (pv 2)) (pa_cons pe_bl (pa_cons pe_str (pa_cons (pe_lst (pa_cons pe_int pa_nil)) (pa_cons (pe_tup (pa_cons pe_int pa_nil)) (pa_cons pe_dnewK pa_nil))))))))) (pe_op op_mod (pv 1) pe_int) (fun _ _ => rfl)))
        (pss_one (ps_expr (pe_callS GX__law_ask hr (by rfl) mX__law_ask kX__law_ask bX__law_ask (fun σ => passAt tk σ) (pa_cons (pe_op op_mod (pe_op op_fdiv (pv 1) pe_int) pe_int) (pa_cons (pv 4) (pa_cons pe_non (pa_cons pe_non pa_nil)))))))) (pss_one (ps_if (pt_cmpR op_eq (pv 0) pe_int (nomark _)) (pss_one (ps_expr (pe_callS GX__law_ask hr (by rfl) mX__law_ask kX__law_ask bX__law_ask (fun σ => passAt tk σ) (pa_cons (pe_op op_mod (pe_op op_fdiv (pv 1) pe_int) pe_int) (pa_cons pe_int (pa_cons (pe_ix (r := rIxL K) (by exact ix_list) (pe_call G__law_places hr (by rfl) m__law_places k__law_places b__law_places .nil pass0 (pa_cons (pv 2) pa_nil)) (pe_op op_mod (pv 1) pe_int) (fun _ _ => rfl)) (pa_cons pe_non pa_nil))))))) (pss_one (ps_if (pt_cmpR op_eq (pv 0) pe_int (nomark _)) (pss_cons (ps_set (i := 4) sc.nd rfl (.inl rfl) (pe_ix (r := rIxL K) (by exact ix_list) (pe_op op_cat (pe_call G__law_places hr (by rfl) m__law_places k__law_places b__law_places .nil pass0 (pa_cons (pv 2) pa_nil)) (pe_lst (pa_cons (pe_tup (pa_cons pe_int (pa_cons pe_int pa_nil))) pa_nil))) (pe_op op_mod (pv 1) pe_int) (fun _ _ => rfl)))
            (pss_cons (ps_set (i := 6) sc.nd rfl (.inl rfl) (pe_ix (r := rIxT K) (by exact ix_tup) (pe_tup (pa_cons pe_int (pa_cons pe_int (pa_cons pe_int (pa_cons pe_int pa_nil))))) (pe_op op_mod (pe_op op_fdiv (pv 1) pe_int) pe_int) (fun _ _ => rfl)))
            (pss_one (ps_expr (pe_callS GX__law_ask hr (by rfl) mX__law_ask kX__law_ask bX__law_ask (fun σ => passAt tk σ) (pa_cons (pe_ifExp (pt_cmpR (r := rNeD K) (by exact op_neD hr.units) (pv 4) (pe_tup (pa_cons pe_int (pa_cons pe_int pa_nil))) (nomark _)) (pv 6) (pe_op op_mod (pv 6) pe_int)) (pa_cons pe_int (pa_cons (pe_tup (pa_cons pe_int (pa_cons pe_int pa_nil))) (pa_cons (pv 4) pa_nil))))))))) (pss_cons (ps_set (i := 4) sc.nd rfl (.inl rfl) (pe_ix (r := rIxL K) (by exact ix_list) (pe_lst (pa_cons pe_non (pa_cons (pe_op op_sub (pe_un un_neg pe_int) (pv 2)) (pa_cons (pe_op op_add pe_int (pv 2)) (pa_cons pe_bl (pa_cons pe_str (pa_cons (pe_lst (pa_cons pe_int pa_nil)) (pa_cons (pe_tup (pa_cons pe_int pa_nil)) (pa_cons pe_dnewK pa_nil))))))))) (pe_op op_mod (pv 1) pe_int) (fun _ _ => rfl)))
            (pss_one (ps_expr (pe_callS GX_piece_of hr (by rfl) mX_piece_of kX_piece_of bX_piece_of (fun σ => passAt tk σ) (pa_cons pe_int (pa_cons (pe_tup (pa_cons pe_int (pa_cons pe_int pa_nil))) (pa_cons (pv 4) pa_nil))))))))))))))
      (fun a oe cls d pn hz hf => (pss_cons (ps_set (i := 5) sc.nd rfl (.inl rfl) (pe_lst (pa_cons (pe_callB (call_isE2 hz hf) (by rfl) B.isinstance boot_isinstance (pa_cons (pv 3) (pa_cons (pe_glob (v := .ref CB) (u := .ref CB) rfl X6.b.g rfl) pa_nil))) (pa_cons (pe_callB (call_isE2 hz hf) (by rfl) B.isinstance boot_isinstance (pa_cons (pv 3) (pa_cons (pe_glob (v := .ref CP) (u := .ref CP) rfl X6.p.g rfl) pa_nil))) (pa_cons (pe_callB (call_isE2 hz hf) (by rfl) B.isinstance boot_isinstance (pa_cons (pv 3) (pa_cons (pe_glob (v := .ref CN) (u := .ref CN) rfl X6.n.g rfl) pa_nil))) pa_nil)))))
      (pss_one (ps_ret (pe_op op_cat (pv 5) (pe_lst (pa_cons (pe_callB (call_isE2 hz hf) (by rfl) B.isinstance boot_isinstance (pa_cons (pv 3) (pa_cons (pe_bltn (v := .ty "ValueError") (by rfl) m_ValueError boot_ValueError rfl) pa_nil))) pa_nil))))))))
    (pss_one (ps_ret (pe_lst pa_nil)))), ?_⟩
  walk_at "rd"
  have w8 : ((wh : Int) % 8) = ((wh % 8 : Nat) : Int) := by omega
  have w12 : ((wh : Int) % 12) = ((wh % 12 : Nat) : Int) := by omega
  have w13 : ((wh : Int) % 13) = ((wh % 13 : Nat) : Int) := by omega
  have hk' : kd = 0 ∨ kd = 1 ∨ kd = 2 ∨ kd = 3 := by omega
  rcases hk' with rfl | rfl | rfl | rfl
  · simp only [c0, eq_self, decide_true, if_true]
    intro p3 np3 t3 nt3 d3 nd3 l3 nl3
    have s9 : Same H (L2.upd (L2.upd (L2.upd (L2.upd H p3 (.lst [.int 3])) t3 (.tup [.int 3])) d3 (.dK [])) l3 (.lst [.non, .int (-1 - (m : Int)), .int (401 + (m : Int)), .bl true, .str "3", .ref p3, .ref t3, .ref d3])) := by walk_at "same"
    have ep3 : (L2.upd (L2.upd (L2.upd (L2.upd H p3 (.lst [.int 3])) t3 (.tup [.int 3])) d3 (.dK [])) l3 (.lst [.non, .int (-1 - (m : Int)), .int (401 + (m : Int)), .bl true, .str "3", .ref p3, .ref t3, .ref d3])) p3 = some (.lst [.int 3]) := by walk_at "look"
    have et3 : (L2.upd (L2.upd (L2.upd (L2.upd H p3 (.lst [.int 3])) t3 (.tup [.int 3])) d3 (.dK [])) l3 (.lst [.non, .int (-1 - (m : Int)), .int (401 + (m : Int)), .bl true, .str "3", .ref p3, .ref t3, .ref d3])) t3 = some (.tup [.int 3]) := by walk_at "look"
    have ed3 : (L2.upd (L2.upd (L2.upd (L2.upd H p3 (.lst [.int 3])) t3 (.tup [.int 3])) d3 (.dK [])) l3 (.lst [.non, .int (-1 - (m : Int)), .int (401 + (m : Int)), .bl true, .str "3", .ref p3, .ref t3, .ref d3])) d3 = some (.dK []) := by walk_at "look"
    have el3 : (L2.upd (L2.upd (L2.upd (L2.upd H p3 (.lst [.int 3])) t3 (.tup [.int 3])) d3 (.dK [])) l3 (.lst [.non, .int (-1 - (m : Int)), .int (401 + (m : Int)), .bl true, .str "3", .ref p3, .ref t3, .ref d3])) l3 = some (.lst [.non, .int (-1 - (m : Int)), .int (401 + (m : Int)), .bl true, .str "3", .ref p3, .ref t3, .ref d3]) := upd_same
    generalize L2.upd (L2.upd (L2.upd (L2.upd H p3 (.lst [.int 3])) t3 (.tup [.int 3])) d3 (.dK [])) l3 (.lst [.non, .int (-1 - (m : Int)), .int (401 + (m : Int)), .bl true, .str "3", .ref p3, .ref t3, .ref d3]) = H9 at *
    obtain ⟨x, hx, mx⟩ := idx (xs := [.non, .int (-1 - (m : Int)), .int (401 + (m : Int)), .bl true, .str "3", .ref p3, .ref t3, .ref d3]) w8 (by simp; omega)
    have hno : NoNum H9 401 x := by
      simp only [List.mem_cons, List.not_mem_nil, or_false] at mx
      rcases mx with rfl | rfl | rfl | rfl | rfl | rfl | rfl | rfl
      · exact .non
      · exact .int _ (by omega)
      · exact .int _ (by omega)
      · exact .bl _
      · exact .str _
      · exact .lst _ _ ep3
      · exact .tup _ _ et3
      · exact .dct _ ed3
    refine ⟨_, .of el3, x, hx, ?_⟩
    refine ⟨wh / 8 % 6, x, .non, .non, CB, ?_, BadAsk_size (by omega) hno, suite_ok X7.b s9 q⟩
    rw [show ((wh / 8 % 6 : Nat) : Int) = (wh : Int) / 8 % 6 by omega]
  · rw [decide_eq_false (show ¬ ((1 : Nat) : Int) = 0 by decide)]
    try walk_at "rd"
    refine ⟨m, rfl, fun H1 l xs s1 e1 lx hxs => ?_⟩
    try walk_at "rd"
    obtain ⟨x, hx, mx⟩ := idx (xs := xs) w12 (by omega)
    refine ⟨xs, .of e1, x, hx, ?_⟩
    refine ⟨wh / 12 % 6, .int ((3 : Nat) : Int), x, .non, CP, ?_, BadAsk_out (by omega) (by omega) (hxs x mx).1, suite_ok X7.p s1 q⟩
    rw [show ((wh / 12 % 6 : Nat) : Int) = (wh : Int) / 12 % 6 by omega]
    rfl
  · rw [decide_eq_false (show ¬ ((2 : Nat) : Int) = 0 by decide)]
    try walk_at "rd"
    rw [decide_eq_false (show ¬ (2 : Int) = 1 by decide)]
    try walk_at "rd"
    refine ⟨m, rfl, fun H1 l xs s1 e1 lx hxs => ?_⟩
    try walk_at "rd"
    intro t0 n0 l0 nl0
    refine ⟨l, l0, xs, _, rfl, rfl, upd_old nl0 (upd_old n0 e1), upd_same, by rw [lx]; simp only [List.length_cons, List.length_nil]; decide, fun l13 n13 => ?_⟩
    have s13 : Same H1 (L2.upd (L2.upd (L2.upd H1 t0 (.tup [.int 2, .int 5])) l0 (.lst [.ref t0])) l13 (.lst (xs ++ [.ref t0]))) := Same.upd (Same.upd (same_new n0) nl0) n13
    have e13 : (L2.upd (L2.upd (L2.upd H1 t0 (.tup [.int 2, .int 5])) l0 (.lst [.ref t0])) l13 (.lst (xs ++ [.ref t0]))) l13 = some (.lst (xs ++ [.ref t0])) := upd_same
    have et0 : PlT (L2.upd (L2.upd (L2.upd H1 t0 (.tup [.int 2, .int 5])) l0 (.lst [.ref t0])) l13 (.lst (xs ++ [.ref t0]))) (.ref t0) (2, 5) := ⟨t0, rfl, by walk_at "look"⟩
    generalize L2.upd (L2.upd (L2.upd H1 t0 (.tup [.int 2, .int 5])) l0 (.lst [.ref t0])) l13 (.lst (xs ++ [.ref t0])) = H2 at *
    obtain ⟨x, hx, mx⟩ := idx (xs := xs ++ [.ref t0]) w13 (by rw [List.length_append, lx]; simp only [List.length_cons, List.length_nil]; omega)
    try walk_at "rd"
    refine ⟨_, .of e13, x, hx, ?_⟩
    intro td ntd
    have w4 : ((wh : Int) / 13 % 4) = ((wh / 13 % 4 : Nat) : Int) := by omega
    obtain ⟨y, hy, my⟩ := idx (xs := [.int 0, .int 1, .int 4, .int 5]) w4 (by simp only [List.length_cons, List.length_nil]; omega)
    obtain ⟨dd, rfl, hdd⟩ : ∃ dd : Nat, y = .int (dd : Int) ∧ (dd < 2 ∨ 4 ≤ dd ∧ dd < 6) := by
      simp only [List.mem_cons, List.not_mem_nil, or_false] at my
      rcases my with rfl | rfl | rfl | rfl
      · exact ⟨0, rfl, by omega⟩
      · exact ⟨1, rfl, by omega⟩
      · exact ⟨4, rfl, by omega⟩
      · exact ⟨5, rfl, by omega⟩
    refine ⟨_, .of upd_same, _, hy, ?_⟩
    have s3 := same_new (o := .tup [.int 0, .int 1, .int 4, .int 5]) ntd
    generalize L2.upd H2 td (.tup [.int 0, .int 1, .int 4, .int 5]) = H3 at *
    walk_at "rdo"
    intro tq nq
    have hi3 : In 3 (2, 5) := by decide
    rcases List.mem_append.mp mx with mx | mx
    · obtain ⟨hb, ho⟩ := hxs x mx
      have s4 := Same.upd (o := .tup [.int 2, .int 5]) (s13.trans s3) nq
      refine (ho.same s4).ne ⟨tq, rfl, upd_same⟩ ?_
      generalize L2.upd H3 tq (.tup [.int 2, .int 5]) = H4 at *
      try walk_at "rd"
      intro tc nc
      have s5 := Same.upd (o := .tup [.int 2, .int 5]) s4 nc
      have hc : PlT (L2.upd H4 tc (.tup [.int 2, .int 5])) (.ref tc) (2, 5) := ⟨tc, rfl, upd_same⟩
      refine ⟨dd, .int ((3 : Nat) : Int), .ref tc, x, CP, rfl, ?_, suite_ok X7.p (s1.trans s5) q⟩
      rcases hdd with h | ⟨h, h'⟩
      · exact .cov dd _ _ _ _ h (.sop _ _ _ _ (.pl 3 _ _ (2, 5) (by omega) hc hi3 (hb.same s5)))
      · exact .sop dd _ _ _ _ h h' (.pl 3 _ _ (2, 5) (by omega) hc hi3 (hb.same s5))
    · rw [List.mem_singleton.mp mx] at *
      have s4 := Same.upd (o := .tup [.int 2, .int 5]) s3 nq
      refine ne_pl (q := (2, 5)) (et0.same s4) ⟨tq, rfl, upd_same⟩ ?_
      generalize L2.upd H3 tq (.tup [.int 2, .int 5]) = H4 at *
      rw [decide_eq_true rfl]
      try walk_at "rd"
      intro tc nc
      have s5 := Same.upd (o := .tup [.int 2, .int 5]) s4 nc
      have hc : PlT (L2.upd H4 tc (.tup [.int 2, .int 5])) (.ref tc) (2, 5) := ⟨tc, rfl, upd_same⟩
      refine ⟨dd % 2, .int ((3 : Nat) : Int), .ref tc, .ref t0, CP, ?_, .cov _ _ _ _ _ (by omega) (.eq 3 _ _ (2, 5) (by omega) hc (et0.same s5) hi3), suite_ok X7.p (s1.trans (s13.trans s5)) q⟩
      rw [show ((dd % 2 : Nat) : Int) = (dd : Int) % 2 by omega]
      rfl
  · rw [decide_eq_false (show ¬ ((3 : Nat) : Int) = 0 by decide)]
    try walk_at "rd"
    rw [decide_eq_false (show ¬ (3 : Int) = 1 by decide)]
    try walk_at "rd"
    rw [decide_eq_false (show ¬ (3 : Int) = 2 by decide)]
    try walk_at "rd"
    intro p3 np3 t3 nt3 d3 nd3 l3 nl3
    have s9 : Same H (L2.upd (L2.upd (L2.upd (L2.upd H p3 (.lst [.int 3])) t3 (.tup [.int 3])) d3 (.dK [])) l3 (.lst [.non, .int (-1 - (m : Int)), .int (21 + (m : Int)), .bl true, .str "3", .ref p3, .ref t3, .ref d3])) := by walk_at "same"
    have ep3 : (L2.upd (L2.upd (L2.upd (L2.upd H p3 (.lst [.int 3])) t3 (.tup [.int 3])) d3 (.dK [])) l3 (.lst [.non, .int (-1 - (m : Int)), .int (21 + (m : Int)), .bl true, .str "3", .ref p3, .ref t3, .ref d3])) p3 = some (.lst [.int 3]) := by walk_at "look"
    have et3 : (L2.upd (L2.upd (L2.upd (L2.upd H p3 (.lst [.int 3])) t3 (.tup [.int 3])) d3 (.dK [])) l3 (.lst [.non, .int (-1 - (m : Int)), .int (21 + (m : Int)), .bl true, .str "3", .ref p3, .ref t3, .ref d3])) t3 = some (.tup [.int 3]) := by walk_at "look"
    have ed3 : (L2.upd (L2.upd (L2.upd (L2.upd H p3 (.lst [.int 3])) t3 (.tup [.int 3])) d3 (.dK [])) l3 (.lst [.non, .int (-1 - (m : Int)), .int (21 + (m : Int)), .bl true, .str "3", .ref p3, .ref t3, .ref d3])) d3 = some (.dK []) := by walk_at "look"
    have el3 : (L2.upd (L2.upd (L2.upd (L2.upd H p3 (.lst [.int 3])) t3 (.tup [.int 3])) d3 (.dK [])) l3 (.lst [.non, .int (-1 - (m : Int)), .int (21 + (m : Int)), .bl true, .str "3", .ref p3, .ref t3, .ref d3])) l3 = some (.lst [.non, .int (-1 - (m : Int)), .int (21 + (m : Int)), .bl true, .str "3", .ref p3, .ref t3, .ref d3]) := upd_same
    generalize (L2.upd (L2.upd (L2.upd (L2.upd H p3 (.lst [.int 3])) t3 (.tup [.int 3])) d3 (.dK [])) l3 (.lst [.non, .int (-1 - (m : Int)), .int (21 + (m : Int)), .bl true, .str "3", .ref p3, .ref t3, .ref d3])) = H9 at *
    obtain ⟨x, hx, mx⟩ := idx (xs := [.non, .int (-1 - (m : Int)), .int (21 + (m : Int)), .bl true, .str "3", .ref p3, .ref t3, .ref d3]) w8 (by simp; omega)
    have hno : NoNum H9 (cnt 3 : Int) x := by
      have hc3 : ((cnt 3 : Nat) : Int) = 21 := by decide
      rw [hc3]
      simp only [List.mem_cons, List.not_mem_nil, or_false] at mx
      rcases mx with rfl | rfl | rfl | rfl | rfl | rfl | rfl | rfl
      · exact .non
      · exact .int _ (by omega)
      · exact .int _ (by omega)
      · exact .bl _
      · exact .str _
      · exact .lst _ _ ep3
      · exact .tup _ _ et3
      · exact .dct _ ed3
    refine ⟨_, .of el3, x, hx, ?_⟩
    intro tc nc
    have s5 := Same.upd (o := .tup [.int 2, .int 5]) s9 nc
    exact ⟨.int ((3 : Nat) : Int), .ref tc, x, CN, rfl, .no 3 _ _ (2, 5) (by omega) ⟨tc, rfl, upd_same⟩ (by decide) (hno.same (same_new nc)), suite_ok X7.n s5 q⟩
end
end Cf

namespace Cf
open PySem PySem.Spec PyProof.Rows L2
local macro_rules | `(tactic| walk_at "rd") => `(tactic| simp only [cx_K, cx_P, cx_w, tVar, tC, tCons, tNil, tOp, tUn, rI, rI0, rU, tSeq, Evl.tCut, tAsg, gName, tRet, tRetN, tIfS, tB, tTest, tNot, tAndV, tOrV, tNotV, tChain, tDrop, tNever, tDNewK, tRevL, tBM, rAppend, tAug, ipI, tTup, tLst, tCB, tCall, tCallS, gTup, gCons, gNil, gSub, tNext, rEq, rNe, rIxL, rIxT, wipe, tYes, rSetL, tSl, tNoPart, tPart, tAugS, rGetL, tBits, rI0, Evl.rLenS, Evl.rListS, scal_ii, scal_bb, L2.start, List.map_cons, List.map_nil, List.length_cons, List.length_nil, List.replicate, List.cons_append, List.nil_append, List.append_nil, Nat.reduceAdd, Nat.reduceSub, List.set_cons_zero, List.set_cons_succ, List.getElem?_cons_zero, List.getElem?_cons_succ, Option.some.injEq, V.int.injEq, V.bl.injEq, V.ref.injEq, List.cons.injEq, and_assoc, and_true, true_and, exists_eq_left, exists_eq_left', exists_and_left, exists_and_right, exists_eq_right, exists_eq_right', decide_true, decide_false, Bool.false_eq_true, if_true, if_false, reduceIte, ↓reduceIte, Bool.not_true, Bool.not_false, Bool.or_false, Bool.or_true, Bool.true_or, Bool.false_or, Bool.and_true, Bool.true_and, Bool.and_false, Bool.false_and, exists_const, and_self, Int.one_mul, Int.toNat_natCast, bitAnd_m1, c0, c1, c2, c3, c4, cmul2, cdiv2, cdiv3, cdiv4, cdiv5, cdiv7, cdiv8, cdiv12, cdiv13, cdiv40, Int.natCast_nonneg, Int.reduceLT, eq_self, sz0, sz1, sz2, sz3, sz4, sz5, sz6, sz8, sz11])
local macro_rules | `(tactic| walk_at "rdo") => `(tactic| (simp only [tAnd, tOr, tIf]; (try walk_at "rd")))
local macro_rules | `(tactic| walk_at "same") => `(tactic| ((try unfold L2.Same); repeat (first | exact Same.refl _ | assumption | refine Same.upd ?_ (by assumption))))
local macro_rules | `(tactic| walk_at "look") => `(tactic| (repeat (first | exact upd_same | assumption | refine upd_old (by assumption) ?_)))

section
variable {P : Program} {w : World} {K : PySem.W.Frag} {mg : Str → Option Value} {base : Heap} {k d : Nat} {CB CP CN CF : Addr}
def sp_law (K : PySem.W.Frag) : Sp := fun vs H Q _ => ∃ (a : Addr) (ns : List Int), vs = [.ref a] ∧ SqL K H a (ns.map V.int) ∧ ns.length ≤ 63 ∧ ∀ H', Q (.bl true) H'
abbrev s_law : Stmt := topS 35
theorem sc_law : FnScope ["_law_script", "_law_cell", "_law_kind", "_law_due"] ["_law_script"] (defScope s_law) := ⟨rfl, rfl, rfl, by decide +kernel, rfl, by decide +kernel, by decide +kernel⟩
theorem ok_law (D : Def K mg "law" s_law ["_law_script"]) (B : Blt mg)  (c__law_told : Cal P w K mg base "_law_told" ["_law_kind", "_law_which", "_law_more"] sp__law_told k) (c_unlike : Cal P w K mg base "unlike" ["size", "one", "other"] sp_unlike k) (c_ways : Cal P w K mg base "ways" ["size", "out"] sp_ways k) (c_piece_of : Cal P w K mg base "piece_of" ["size", "out", "number"] sp_piece_of k) (c_piece : Cal P w K mg base "piece" ["size", "out", "place"] sp_piece k) : Cal P w K mg base "law" ["_law_script"] (sp_law K) (k + 1) := by
  have sc := sc_law
  obtain ⟨f__law_told, fd__law_told, G__law_told, m__law_told, k__law_told, b__law_told, _⟩ := c__law_told.ex
  obtain ⟨f_unlike, fd_unlike, G_unlike, m_unlike, k_unlike, b_unlike, _⟩ := c_unlike.ex
  obtain ⟨f_ways, fd_ways, G_ways, m_ways, k_ways, b_ways, _⟩ := c_ways.ex
  obtain ⟨f_piece_of, fd_piece_of, G_piece_of, m_piece_of, k_piece_of, b_piece_of, _⟩ := c_piece_of.ex
  obtain ⟨f_piece, fd_piece, G_piece, m_piece, k_piece, b_piece, _⟩ := c_piece.ex
  refine D.cal sc_law (fun vs H Q E h => by obtain ⟨_, _, rfl, _⟩ := h; rfl) (fun f cdv A outer s H vs Q E hr h => ?_)
  obtain ⟨a, ns, rfl, ha, hl, q⟩ := h
  refine ⟨_, (pss_cons (ps_for PassesOwn.never rfl (pi_list (pv 0)) (pg_name (i := 1) sc.nd rfl (.inl rfl)) (pss_cons (ps_set (i := 2) sc.nd rfl (.inl rfl) (pe_op op_mod (pv 1) pe_int))
      (pss_cons (ps_set (i := 3) sc.nd rfl (.inl rfl) (pe_lst (pa_cons (pe_cmpR op_eq (pv 2) pe_int (nomark _)) (pa_cons (pe_cmpR (r := rIn K false) (by exact op_in_seq) (pv 2) (pe_lst (pa_cons pe_int (pa_cons pe_int pa_nil))) (by rfl)) (pa_cons (pe_cmpR op_eq (pv 2) pe_int (nomark _)) (pa_cons pe_bl pa_nil))))))
      (pss_one (ps_if (pt_cmpR (r := rNeD K) (by exact op_neD hr.units) (pe_call G__law_told hr (by rfl) m__law_told k__law_told b__law_told .nil pass0 (pa_cons (pv 2) (pa_cons (pe_op op_mod (pe_op op_fdiv (pv 1) pe_int) pe_int) (pa_cons (pe_op op_mod (pe_op op_fdiv (pv 1) pe_int) pe_int) pa_nil)))) (pv 3) (nomark _)) (pss_one (ps_ret pe_bl)) pss_nil)))))
    (pss_cons (ps_if (PW.pt (pw_or (pt_cmpR op_ne (pe_call G_unlike hr (by rfl) m_unlike k_unlike b_unlike .nil pass0 (pa_cons pe_int (pa_cons (pe_tup (pa_cons pe_int (pa_cons pe_int pa_nil))) (pa_cons (pe_tup (pa_cons pe_int (pa_cons pe_int pa_nil))) pa_nil)))) pe_int (nomark _)) (pw_or1 (pt_cmpR (r := rNeD K) (by exact op_neD hr.units) (pe_call G_ways hr (by rfl) m_ways k_ways b_ways .nil pass0 (pa_cons pe_int (pa_cons (pe_tup (pa_cons pe_int (pa_cons pe_int pa_nil))) pa_nil))) (pe_lst (pa_cons pe_int (pa_cons pe_int (pa_cons pe_int (pa_cons pe_int pa_nil))))) (nomark _))))) (pss_one (ps_ret pe_bl)) pss_nil)
    (pss_one (ps_ret (pe_cmpR (r := rEqD K) (by exact op_eqD hr.units) (pe_call G_piece_of hr (by rfl) m_piece_of k_piece_of b_piece_of .nil pass0 (pa_cons pe_int (pa_cons (pe_tup (pa_cons pe_int (pa_cons pe_int pa_nil))) (pa_cons pe_int pa_nil)))) (pe_call G_piece hr (by rfl) m_piece k_piece b_piece .nil pass0 (pa_cons pe_int (pa_cons (pe_tup (pa_cons pe_int (pa_cons pe_int pa_nil))) (pa_cons (pe_ix (r := rIxL K) (by exact ix_list) (pe_call G_piece_of hr (by rfl) m_piece_of k_piece_of b_piece_of .nil pass0 (pa_cons pe_int (pa_cons (pe_tup (pa_cons pe_int (pa_cons pe_int pa_nil))) (pa_cons pe_int pa_nil)))) pe_int (fun _ _ => rfl)) pa_nil)))) (nomark _)))))), ?_⟩
  walk_at "rd"
  obtain ⟨Pv, eP⟩ := word (fun (i : Nat) (σ : L2.St) (H' : Hp) => ∃ (u1 u2 u3 : Option V), σ = [some (.ref a), u1, u2, u3] ∧ Same H H')
  refine fl ha (fun R h => ⟨_, rfl, h⟩) Pv (by rw [eP]; exact ⟨none, none, none, rfl, Same.refl _⟩) (fun i σ H' hP => ?_) (fun i x σ H' hx hP => ?_) fun σ H' hP => ?_
  · rw [eP] at hP
    obtain ⟨u1, u2, u3, rfl, s⟩ := hP
    exact Same.seq s ha
  · rw [eP] at hP
    obtain ⟨u1, u2, u3, rfl, s⟩ := hP
    obtain ⟨z, rfl⟩ : ∃ z : Int, x = .int z := by
      rw [List.getElem?_map] at hx
      cases hz : ns[i]? with
      | none => rw [hz] at hx; cases hx
      | some z =>
        rw [hz] at hx
        exact ⟨z, (Option.some.inj hx).symm⟩
    try walk_at "rd"
    have h4 : 0 ≤ z % 4 ∧ z % 4 < 4 := ⟨Int.emod_nonneg _ (by decide), Int.emod_lt_of_pos _ (by decide)⟩
    obtain ⟨kd, hkd⟩ := Int.eq_ofNat_of_zero_le h4.1
    obtain ⟨wh, hwh⟩ := Int.eq_ofNat_of_zero_le (Int.emod_nonneg (z / 4) (show (100000 : Int) ≠ 0 by decide))
    obtain ⟨m, hm⟩ := Int.eq_ofNat_of_zero_le (Int.emod_nonneg (z / 400000) (show (1000 : Int) ≠ 0 by decide))
    rw [hkd] at h4 ⊢
    rw [hwh, hm]
    intro p np
    refine ⟨p, [.int 1, .int 2], rfl, .inl (.of upd_same), rfl, rfl, ?_⟩
    rw [if_neg Bool.false_ne_true]
    have hin : inV (.int (kd : Int)) [.int 1, .int 2] = decide (kd = 1 ∨ kd = 2) := by
      have hk : kd = 0 ∨ kd = 1 ∨ kd = 2 ∨ kd = 3 := by omega
      rcases hk with rfl | rfl | rfl | rfl <;> rfl
    rw [hin, show decide ((kd : Int) = 0) = decide (kd = 0) from nat_dec kd 0, show decide ((kd : Int) = 3) = decide (kd = 3) from nat_dec kd 3]
    intro l nl
    have s1 := Same.upd (o := .lst [.bl (decide (kd = 0)), .bl (decide (kd = 1 ∨ kd = 2)), .bl (decide (kd = 3)), .bl true]) (same_new (o := .lst [.int 1, .int 2]) np) nl
    have e1 : (L2.upd (L2.upd H' p (.lst [.int 1, .int 2])) l (.lst [.bl (decide (kd = 0)), .bl (decide (kd = 1 ∨ kd = 2)), .bl (decide (kd = 3)), .bl true])) l = some (.lst ([decide (kd = 0), decide (kd = 1 ∨ kd = 2), decide (kd = 3), true].map V.bl)) := upd_same
    generalize L2.upd (L2.upd H' p (.lst [.int 1, .int 2])) l (.lst [.bl (decide (kd = 0)), .bl (decide (kd = 1 ∨ kd = 2)), .bl (decide (kd = 3)), .bl true]) = H1 at *
    refine ⟨kd, wh, m, rfl, by omega, fun H2 l2 s2 e2 => ?_⟩
    refine ne_bls e2 (s2 _ _ e1) ?_
    try walk_at "rd"
    rw [eP]
    exact ⟨_, _, _, rfl, (s.trans s1).trans s2⟩
  · rw [eP] at hP
    obtain ⟨u1, u2, u3, rfl, s⟩ := hP
    try walk_at "rd"
    have i400 : In 400 (2, 5) := by
      have h : 2 ^ 3 ≤ 2 ^ 400 := Nat.pow_le_pow_right (by decide) (by decide)
      have h8 : (2 : Nat) ^ 3 = 8 := by decide
      rw [h8] at h
      exact ⟨Nat.lt_of_lt_of_le (by decide) h, Nat.lt_of_lt_of_le (by decide) h⟩
    refine or_g false false (fun R0 hR => ?_) (fun _ H1 s1 R0 hR => ?_) fun H1 s1 => ?_
    · try walk_at "rd"
      intro t1 n1 t2 n2
      refine ⟨400, .ref t1, .ref t2, (2, 5), (2, 5), rfl, ⟨t1, rfl, upd_old n2 upd_same⟩, ⟨t2, rfl, upd_same⟩, by omega, i400, i400, fun H2 s2 => ?_⟩
      rw [U_self]
      try walk_at "rd"
      exact hR _ ((Same.upd (same_new n1) n2).trans s2)
    · try walk_at "rd"
      intro t1 n1
      refine ⟨2, .ref t1, (0, 0), rfl, ⟨t1, rfl, upd_same⟩, by omega, by decide, fun H2 l2 s2 n2 e2 => ?_⟩
      try walk_at "rd"
      intro l3 n3
      refine I4_neL (ms := [3, 1, 1, 0]) (upd_old n3 e2) upd_same (by decide) ?_
      try walk_at "rd"
      exact hR _ (Same.upd ((same_new n1).trans s2) n3)
    try walk_at "rd"
    have i3 : In 3 (2, 5) := by decide
    have h20 : 20 < cnt 3 := by decide
    have okP := PO_ok 3 (2, 5) 20 i3 h20
    generalize hT : PO 3 (2, 5) 20 = T at *
    intro t1 n1
    refine ⟨3, .ref t1, (2, 5), 20, rfl, ⟨t1, rfl, upd_same⟩, by omega, i3, h20, fun H2 l2 xs2 s2 n2 e2 g2 => ?_⟩
    rw [hT] at g2
    try walk_at "rd"
    intro t3 n3 t4 n4
    have g34 : PlT (L2.upd (L2.upd H2 t3 (.tup [.int 2, .int 5])) t4 (.tup [.int 2, .int 5])) (.ref t3) (2, 5) := ⟨t3, rfl, upd_old n4 upd_same⟩
    have s34 := Same.upd (o := .tup [.int 2, .int 5]) (same_new (o := .tup [.int 2, .int 5]) n3) n4
    refine ⟨3, .ref t4, (2, 5), 20, rfl, ⟨t4, rfl, upd_same⟩, by omega, i3, h20, fun H5 l5 xs5 s5 n5 e5 g5 => ?_⟩
    rw [hT] at g5
    try walk_at "rd"
    obtain ⟨p0, hp0⟩ : ∃ p0, (pc T)[0]? = some p0 := by
      rw [List.getElem?_eq_getElem (by rw [pc_len]; omega)]
      exact ⟨_, rfl⟩
    obtain ⟨y, hy, hpy⟩ := PlsT.get g5 hp0
    have h3 := okP.2 p0 (List.mem_of_getElem? hp0)
    refine ⟨xs5, .of e5, y, atI_nat (j := 0) hy, ?_⟩
    refine ⟨3, .ref t3, y, (2, 5), p0, rfl, g34.same s5, hpy, by omega, i3, h3.1, h3.2.1, fun H6 l6 xs6 s6 n6 e6 g6 => ?_⟩
    rw [h3.2.2.2] at g6
    have s26 := (s34.trans s5).trans s6
    refine eq_pls (.of (s26 _ _ e2)) (PlsT.same s26 g2) (.of e6) g6 ?_
    rw [decide_eq_true rfl]
    exact q _
end
end Cf

namespace Cf
open PySem PySem.Spec PyProof.Rows L2
theorem all_mk {l : PySem.W.OpenLaw} {w : World} {K : PySem.W.Frag} {h : Heap} {mg : Str → Option Value} {fa : Addr} (X : K.In h) (G : h.Ns mainGlobals mg) (hfa : mg "law" = some (.ref fa))
    {f0 : Addr} {od0 an0 : Option Addr} {sl0 : Array (Option Value)} {oc0 kV0 dc0 pm0 cd0 ct0 : Value}
    {f1 : Addr} {od1 an1 : Option Addr} {sl1 : Array (Option Value)} {oc1 kV1 dc1 pm1 cd1 ct1 : Value}
    {f2 : Addr} {od2 an2 : Option Addr} {sl2 : Array (Option Value)} {oc2 kV2 dc2 pm2 cd2 ct2 : Value}
    {f3 : Addr} {od3 an3 : Option Addr} {sl3 : Array (Option Value)} {oc3 kV3 dc3 pm3 cd3 ct3 : Value}
    {f4 : Addr} {od4 an4 : Option Addr} {sl4 : Array (Option Value)} {oc4 kV4 dc4 pm4 cd4 ct4 : Value}
    {f5 : Addr} {od5 an5 : Option Addr} {sl5 : Array (Option Value)} {oc5 kV5 dc5 pm5 cd5 ct5 : Value}
    {f6 : Addr} {od6 an6 : Option Addr} {sl6 : Array (Option Value)} {oc6 kV6 dc6 pm6 cd6 ct6 : Value}
    {f7 : Addr} {od7 an7 : Option Addr} {sl7 : Array (Option Value)} {oc7 kV7 dc7 pm7 cd7 ct7 : Value}
    {f8 : Addr} {od8 an8 : Option Addr} {sl8 : Array (Option Value)} {oc8 kV8 dc8 pm8 cd8 ct8 : Value}
    {f9 : Addr} {od9 an9 : Option Addr} {sl9 : Array (Option Value)} {oc9 kV9 dc9 pm9 cd9 ct9 : Value}
    {f10 : Addr} {od10 an10 : Option Addr} {sl10 : Array (Option Value)} {oc10 kV10 dc10 pm10 cd10 ct10 : Value}
    {f11 : Addr} {od11 an11 : Option Addr} {sl11 : Array (Option Value)} {oc11 kV11 dc11 pm11 cd11 ct11 : Value}
    {f12 : Addr} {od12 an12 : Option Addr} {sl12 : Array (Option Value)} {oc12 kV12 dc12 pm12 cd12 ct12 : Value}
    {f13 : Addr} {od13 an13 : Option Addr} {sl13 : Array (Option Value)} {oc13 kV13 dc13 pm13 cd13 ct13 : Value}
    {f14 : Addr} {od14 an14 : Option Addr} {sl14 : Array (Option Value)} {oc14 kV14 dc14 pm14 cd14 ct14 : Value}
    {f15 : Addr} {od15 an15 : Option Addr} {sl15 : Array (Option Value)} {oc15 kV15 dc15 pm15 cd15 ct15 : Value}
    {f16 : Addr} {od16 an16 : Option Addr} {sl16 : Array (Option Value)} {oc16 kV16 dc16 pm16 cd16 ct16 : Value}
    {f17 : Addr} {od17 an17 : Option Addr} {sl17 : Array (Option Value)} {oc17 kV17 dc17 pm17 cd17 ct17 : Value}
    {f18 : Addr} {od18 an18 : Option Addr} {sl18 : Array (Option Value)} {oc18 kV18 dc18 pm18 cd18 ct18 : Value}
    {f19 : Addr} {od19 an19 : Option Addr} {sl19 : Array (Option Value)} {oc19 kV19 dc19 pm19 cd19 ct19 : Value}
    {f20 : Addr} {od20 an20 : Option Addr} {sl20 : Array (Option Value)} {oc20 kV20 dc20 pm20 cd20 ct20 : Value}
    {f21 : Addr} {od21 an21 : Option Addr} {sl21 : Array (Option Value)} {oc21 kV21 dc21 pm21 cd21 ct21 : Value}
    {f22 : Addr} {od22 an22 : Option Addr} {sl22 : Array (Option Value)} {oc22 kV22 dc22 pm22 cd22 ct22 : Value}
    {f23 : Addr} {od23 an23 : Option Addr} {sl23 : Array (Option Value)} {oc23 kV23 dc23 pm23 cd23 ct23 : Value}
    {f24 : Addr} {od24 an24 : Option Addr} {sl24 : Array (Option Value)} {oc24 kV24 dc24 pm24 cd24 ct24 : Value}
    {f25 : Addr} {od25 an25 : Option Addr} {sl25 : Array (Option Value)} {oc25 kV25 dc25 pm25 cd25 ct25 : Value}
    {tk_LARGEST_SIZE : Tok} (y_LARGEST_SIZE : PySem.W.nsIn K mainGlobals "LARGEST_SIZE" = some (some (.int 400 tk_LARGEST_SIZE)))
    (a0 : PySem.W.nsIn K mainGlobals "is_count" = some (some (.ref f0))) (l0 : K.lookup f0 = some ⟨oc0, od0, .func (PySem.W.fnOf "is_count" "is_count" (defArgs s_is_count) (defBody s_is_count) (defScope s_is_count) .none kV0 dc0 pm0 an0 cd0 ct0), sl0⟩) (c0 : PySem.W.codeIn K cd0 "is_count" = true) (k0 : PySem.W.keepIn K (.ref f0) = true)
    (a1 : PySem.W.nsIn K mainGlobals "is_place" = some (some (.ref f1))) (l1 : K.lookup f1 = some ⟨oc1, od1, .func (PySem.W.fnOf "is_place" "is_place" (defArgs s_is_place) (defBody s_is_place) (defScope s_is_place) .none kV1 dc1 pm1 an1 cd1 ct1), sl1⟩) (c1 : PySem.W.codeIn K cd1 "is_place" = true) (k1 : PySem.W.keepIn K (.ref f1) = true)
    (a2 : PySem.W.nsIn K mainGlobals "check_size" = some (some (.ref f2))) (l2 : K.lookup f2 = some ⟨oc2, od2, .func (PySem.W.fnOf "check_size" "check_size" (defArgs s_check_size) (defBody s_check_size) (defScope s_check_size) .none kV2 dc2 pm2 an2 cd2 ct2), sl2⟩) (c2 : PySem.W.codeIn K cd2 "check_size" = true) (k2 : PySem.W.keepIn K (.ref f2) = true)
    (a3 : PySem.W.nsIn K mainGlobals "check_place" = some (some (.ref f3))) (l3 : K.lookup f3 = some ⟨oc3, od3, .func (PySem.W.fnOf "check_place" "check_place" (defArgs s_check_place) (defBody s_check_place) (defScope s_check_place) .none kV3 dc3 pm3 an3 cd3 ct3), sl3⟩) (c3 : PySem.W.codeIn K cd3 "check_place" = true) (k3 : PySem.W.keepIn K (.ref f3) = true)
    (a4 : PySem.W.nsIn K mainGlobals "quarter_of" = some (some (.ref f4))) (l4 : K.lookup f4 = some ⟨oc4, od4, .func (PySem.W.fnOf "quarter_of" "quarter_of" (defArgs s_quarter_of) (defBody s_quarter_of) (defScope s_quarter_of) .none kV4 dc4 pm4 an4 cd4 ct4), sl4⟩) (c4 : PySem.W.codeIn K cd4 "quarter_of" = true) (k4 : PySem.W.keepIn K (.ref f4) = true)
    (a5 : PySem.W.nsIn K mainGlobals "middle_places" = some (some (.ref f5))) (l5 : K.lookup f5 = some ⟨oc5, od5, .func (PySem.W.fnOf "middle_places" "middle_places" (defArgs s_middle_places) (defBody s_middle_places) (defScope s_middle_places) .none kV5 dc5 pm5 an5 cd5 ct5), sl5⟩) (c5 : PySem.W.codeIn K cd5 "middle_places" = true) (k5 : PySem.W.keepIn K (.ref f5) = true)
    (a6 : PySem.W.nsIn K mainGlobals "middle_piece" = some (some (.ref f6))) (l6 : K.lookup f6 = some ⟨oc6, od6, .func (PySem.W.fnOf "middle_piece" "middle_piece" (defArgs s_middle_piece) (defBody s_middle_piece) (defScope s_middle_piece) .none kV6 dc6 pm6 an6 cd6 ct6), sl6⟩) (c6 : PySem.W.codeIn K cd6 "middle_piece" = true) (k6 : PySem.W.keepIn K (.ref f6) = true)
    (a7 : PySem.W.nsIn K mainGlobals "left_out_of_quarter" = some (some (.ref f7))) (l7 : K.lookup f7 = some ⟨oc7, od7, .func (PySem.W.fnOf "left_out_of_quarter" "left_out_of_quarter" (defArgs s_left_out_of_quarter) (defBody s_left_out_of_quarter) (defScope s_left_out_of_quarter) .none kV7 dc7 pm7 an7 cd7 ct7), sl7⟩) (c7 : PySem.W.codeIn K cd7 "left_out_of_quarter" = true) (k7 : PySem.W.keepIn K (.ref f7) = true)
    (a8 : PySem.W.nsIn K mainGlobals "check_covered" = some (some (.ref f8))) (l8 : K.lookup f8 = some ⟨oc8, od8, .func (PySem.W.fnOf "check_covered" "check_covered" (defArgs s_check_covered) (defBody s_check_covered) (defScope s_check_covered) .none kV8 dc8 pm8 an8 cd8 ct8), sl8⟩) (c8 : PySem.W.codeIn K cd8 "check_covered" = true) (k8 : PySem.W.keepIn K (.ref f8) = true)
    (a9 : PySem.W.nsIn K mainGlobals "covering_part" = some (some (.ref f9))) (l9 : K.lookup f9 = some ⟨oc9, od9, .func (PySem.W.fnOf "covering_part" "covering_part" (defArgs s_covering_part) (defBody s_covering_part) (defScope s_covering_part) .none kV9 dc9 pm9 an9 cd9 ct9), sl9⟩) (c9 : PySem.W.codeIn K cd9 "covering_part" = true) (k9 : PySem.W.keepIn K (.ref f9) = true)
    (a10 : PySem.W.nsIn K mainGlobals "piece" = some (some (.ref f10))) (l10 : K.lookup f10 = some ⟨oc10, od10, .func (PySem.W.fnOf "piece" "piece" (defArgs s_piece) (defBody s_piece) (defScope s_piece) .none kV10 dc10 pm10 an10 cd10 ct10), sl10⟩) (c10 : PySem.W.codeIn K cd10 "piece" = true) (k10 : PySem.W.keepIn K (.ref f10) = true)
    (a11 : PySem.W.nsIn K mainGlobals "pieces_in" = some (some (.ref f11))) (l11 : K.lookup f11 = some ⟨oc11, od11, .func (PySem.W.fnOf "pieces_in" "pieces_in" (defArgs s_pieces_in) (defBody s_pieces_in) (defScope s_pieces_in) .none kV11 dc11 pm11 an11 cd11 ct11), sl11⟩) (c11 : PySem.W.codeIn K cd11 "pieces_in" = true) (k11 : PySem.W.keepIn K (.ref f11) = true)
    (a12 : PySem.W.nsIn K mainGlobals "number_of_part" = some (some (.ref f12))) (l12 : K.lookup f12 = some ⟨oc12, od12, .func (PySem.W.fnOf "number_of_part" "number_of_part" (defArgs s_number_of_part) (defBody s_number_of_part) (defScope s_number_of_part) .none kV12 dc12 pm12 an12 cd12 ct12), sl12⟩) (c12 : PySem.W.codeIn K cd12 "number_of_part" = true) (k12 : PySem.W.keepIn K (.ref f12) = true)
    (a13 : PySem.W.nsIn K mainGlobals "ways_of_part" = some (some (.ref f13))) (l13 : K.lookup f13 = some ⟨oc13, od13, .func (PySem.W.fnOf "ways_of_part" "ways_of_part" (defArgs s_ways_of_part) (defBody s_ways_of_part) (defScope s_ways_of_part) .none kV13 dc13 pm13 an13 cd13 ct13), sl13⟩) (c13 : PySem.W.codeIn K cd13 "ways_of_part" = true) (k13 : PySem.W.keepIn K (.ref f13) = true)
    (a14 : PySem.W.nsIn K mainGlobals "number_of" = some (some (.ref f14))) (l14 : K.lookup f14 = some ⟨oc14, od14, .func (PySem.W.fnOf "number_of" "number_of" (defArgs s_number_of) (defBody s_number_of) (defScope s_number_of) .none kV14 dc14 pm14 an14 cd14 ct14), sl14⟩) (c14 : PySem.W.codeIn K cd14 "number_of" = true) (k14 : PySem.W.keepIn K (.ref f14) = true)
    (a15 : PySem.W.nsIn K mainGlobals "piece_of" = some (some (.ref f15))) (l15 : K.lookup f15 = some ⟨oc15, od15, .func (PySem.W.fnOf "piece_of" "piece_of" (defArgs s_piece_of) (defBody s_piece_of) (defScope s_piece_of) .none kV15 dc15 pm15 an15 cd15 ct15), sl15⟩) (c15 : PySem.W.codeIn K cd15 "piece_of" = true) (k15 : PySem.W.keepIn K (.ref f15) = true)
    (a16 : PySem.W.nsIn K mainGlobals "ways" = some (some (.ref f16))) (l16 : K.lookup f16 = some ⟨oc16, od16, .func (PySem.W.fnOf "ways" "ways" (defArgs s_ways) (defBody s_ways) (defScope s_ways) .none kV16 dc16 pm16 an16 cd16 ct16), sl16⟩) (c16 : PySem.W.codeIn K cd16 "ways" = true) (k16 : PySem.W.keepIn K (.ref f16) = true)
    (a17 : PySem.W.nsIn K mainGlobals "check_both" = some (some (.ref f17))) (l17 : K.lookup f17 = some ⟨oc17, od17, .func (PySem.W.fnOf "check_both" "check_both" (defArgs s_check_both) (defBody s_check_both) (defScope s_check_both) .none kV17 dc17 pm17 an17 cd17 ct17), sl17⟩) (c17 : PySem.W.codeIn K cd17 "check_both" = true) (k17 : PySem.W.keepIn K (.ref f17) = true)
    (a18 : PySem.W.nsIn K mainGlobals "shared_part" = some (some (.ref f18))) (l18 : K.lookup f18 = some ⟨oc18, od18, .func (PySem.W.fnOf "shared_part" "shared_part" (defArgs s_shared_part) (defBody s_shared_part) (defScope s_shared_part) .none kV18 dc18 pm18 an18 cd18 ct18), sl18⟩) (c18 : PySem.W.codeIn K cd18 "shared_part" = true) (k18 : PySem.W.keepIn K (.ref f18) = true)
    (a19 : PySem.W.nsIn K mainGlobals "unlike_a_corner" = some (some (.ref f19))) (l19 : K.lookup f19 = some ⟨oc19, od19, .func (PySem.W.fnOf "unlike_a_corner" "unlike_a_corner" (defArgs s_unlike_a_corner) (defBody s_unlike_a_corner) (defScope s_unlike_a_corner) .none kV19 dc19 pm19 an19 cd19 ct19), sl19⟩) (c19 : PySem.W.codeIn K cd19 "unlike_a_corner" = true) (k19 : PySem.W.keepIn K (.ref f19) = true)
    (a20 : PySem.W.nsIn K mainGlobals "unlike" = some (some (.ref f20))) (l20 : K.lookup f20 = some ⟨oc20, od20, .func (PySem.W.fnOf "unlike" "unlike" (defArgs s_unlike) (defBody s_unlike) (defScope s_unlike) .none kV20 dc20 pm20 an20 cd20 ct20), sl20⟩) (c20 : PySem.W.codeIn K cd20 "unlike" = true) (k20 : PySem.W.keepIn K (.ref f20) = true)
    (a21 : PySem.W.nsIn K mainGlobals "first_unlike" = some (some (.ref f21))) (l21 : K.lookup f21 = some ⟨oc21, od21, .func (PySem.W.fnOf "first_unlike" "first_unlike" (defArgs s_first_unlike) (defBody s_first_unlike) (defScope s_first_unlike) .none kV21 dc21 pm21 an21 cd21 ct21), sl21⟩) (c21 : PySem.W.codeIn K cd21 "first_unlike" = true) (k21 : PySem.W.keepIn K (.ref f21) = true)
    (a22 : PySem.W.nsIn K mainGlobals "_law_ask" = some (some (.ref f22))) (l22 : K.lookup f22 = some ⟨oc22, od22, .func (PySem.W.fnOf "_law_ask" "_law_ask" (defArgs s__law_ask) (defBody s__law_ask) (defScope s__law_ask) .none kV22 dc22 pm22 an22 cd22 ct22), sl22⟩) (c22 : PySem.W.codeIn K cd22 "_law_ask" = true) (k22 : PySem.W.keepIn K (.ref f22) = true)
    (a23 : PySem.W.nsIn K mainGlobals "_law_places" = some (some (.ref f23))) (l23 : K.lookup f23 = some ⟨oc23, od23, .func (PySem.W.fnOf "_law_places" "_law_places" (defArgs s__law_places) (defBody s__law_places) (defScope s__law_places) .none kV23 dc23 pm23 an23 cd23 ct23), sl23⟩) (c23 : PySem.W.codeIn K cd23 "_law_places" = true) (k23 : PySem.W.keepIn K (.ref f23) = true)
    (a24 : PySem.W.nsIn K mainGlobals "_law_told" = some (some (.ref f24))) (l24 : K.lookup f24 = some ⟨oc24, od24, .func (PySem.W.fnOf "_law_told" "_law_told" (defArgs s__law_told) (defBody s__law_told) (defScope s__law_told) .none kV24 dc24 pm24 an24 cd24 ct24), sl24⟩) (c24 : PySem.W.codeIn K cd24 "_law_told" = true) (k24 : PySem.W.keepIn K (.ref f24) = true)
    (a25 : PySem.W.nsIn K mainGlobals "law" = some (some (.ref f25))) (l25 : K.lookup f25 = some ⟨oc25, od25, .func (PySem.W.fnOf "law" "law" (defArgs s_law) (defBody s_law) (defScope s_law) .none kV25 dc25 pm25 an25 cd25 ct25), sl25⟩) (c25 : PySem.W.codeIn K cd25 "law" = true) (k25 : PySem.W.keepIn K (.ref f25) = true)
    (z_isinstance : PySem.W.nsIn K mainGlobals "isinstance" = some none)
    (z_int : PySem.W.nsIn K mainGlobals "int" = some none)
    (z_bool : PySem.W.nsIn K mainGlobals "bool" = some none)
    (z_tuple : PySem.W.nsIn K mainGlobals "tuple" = some none)
    (z_list : PySem.W.nsIn K mainGlobals "list" = some none)
    (z_set : PySem.W.nsIn K mainGlobals "set" = some none)
    (z_len : PySem.W.nsIn K mainGlobals "len" = some none)
    (z_sum : PySem.W.nsIn K mainGlobals "sum" = some none)
    (z_range : PySem.W.nsIn K mainGlobals "range" = some none)
    (z_sorted : PySem.W.nsIn K mainGlobals "sorted" = some none)
    (z_min : PySem.W.nsIn K mainGlobals "min" = some none)
    (z_max : PySem.W.nsIn K mainGlobals "max" = some none)
    (z_all : PySem.W.nsIn K mainGlobals "all" = some none)
    (z_any : PySem.W.nsIn K mainGlobals "any" = some none)
    (z_enumerate : PySem.W.nsIn K mainGlobals "enumerate" = some none)
    (z_zip : PySem.W.nsIn K mainGlobals "zip" = some none)
    (z_abs : PySem.W.nsIn K mainGlobals "abs" = some none)
    (z_str : PySem.W.nsIn K mainGlobals "str" = some none)
    (z_divmod : PySem.W.nsIn K mainGlobals "divmod" = some none)
    {CB CP CN CF : Addr}
    (g_F : PySem.W.nsIn K mainGlobals "FloorError" = some (some (.ref CF)))
    (bC_F : PySem.W.subIn K (.ref CF) (.type "BaseException") = some true)
    (tC_F : PySem.W.typeIn K (.ref CF) = some (.type "type"))
    (iC_F : PySem.W.isClsIn K CF = true)
    (z_ValueError : PySem.W.nsIn K mainGlobals "ValueError" = some none)
    (g_B : PySem.W.nsIn K mainGlobals "BadFloor" = some (some (.ref CB)))
    (xI_B : PySem.W.excIn K CB [.type "ValueError", .type "Exception", .type "BaseException", .type "object"] "ValueError.__new__" = true)
    (kC_B : PySem.W.keepIn K (.ref CB) = true)
    (bC_B : PySem.W.subIn K (.ref CB) (.type "BaseException") = some true)
    (tC_B : PySem.W.typeIn K (.ref CB) = some (.type "type"))
    (iC_B : PySem.W.isClsIn K CB = true)
    (f_B : PySem.W.subIn K (.ref CB) (.ref CF) = some true)
    (v_B : PySem.W.subIn K (.ref CB) (.type "ValueError") = some true)
    (s_BB : PySem.W.subIn K (.ref CB) (.ref CB) = some true)
    (s_BP : PySem.W.subIn K (.ref CB) (.ref CP) = some false)
    (s_BN : PySem.W.subIn K (.ref CB) (.ref CN) = some false)
    (hg_B : PySem.W.findIn K (.ref CB) "__getattribute__" = some (some (.builtin "BaseException.__getattribute__")))
    (hk_B : PySem.W.findIn K (.ref CB) "__getattr__" = some none)
    (hd_B : PySem.W.hasDictIn K CB = true)
    (ha_B : PySem.W.findIn K (.ref CB) "__class__" = some (some (.builtin "object.__class__")))
    (hm_B : PySem.W.mroIn K CB (.type "object") = some true)
    (g_P : PySem.W.nsIn K mainGlobals "BadPlace" = some (some (.ref CP)))
    (xI_P : PySem.W.excIn K CP [.type "ValueError", .type "Exception", .type "BaseException", .type "object"] "ValueError.__new__" = true)
    (kC_P : PySem.W.keepIn K (.ref CP) = true)
    (bC_P : PySem.W.subIn K (.ref CP) (.type "BaseException") = some true)
    (tC_P : PySem.W.typeIn K (.ref CP) = some (.type "type"))
    (iC_P : PySem.W.isClsIn K CP = true)
    (f_P : PySem.W.subIn K (.ref CP) (.ref CF) = some true)
    (v_P : PySem.W.subIn K (.ref CP) (.type "ValueError") = some true)
    (s_PB : PySem.W.subIn K (.ref CP) (.ref CB) = some false)
    (s_PP : PySem.W.subIn K (.ref CP) (.ref CP) = some true)
    (s_PN : PySem.W.subIn K (.ref CP) (.ref CN) = some false)
    (hg_P : PySem.W.findIn K (.ref CP) "__getattribute__" = some (some (.builtin "BaseException.__getattribute__")))
    (hk_P : PySem.W.findIn K (.ref CP) "__getattr__" = some none)
    (hd_P : PySem.W.hasDictIn K CP = true)
    (ha_P : PySem.W.findIn K (.ref CP) "__class__" = some (some (.builtin "object.__class__")))
    (hm_P : PySem.W.mroIn K CP (.type "object") = some true)
    (g_N : PySem.W.nsIn K mainGlobals "BadNumber" = some (some (.ref CN)))
    (xI_N : PySem.W.excIn K CN [.type "ValueError", .type "Exception", .type "BaseException", .type "object"] "ValueError.__new__" = true)
    (kC_N : PySem.W.keepIn K (.ref CN) = true)
    (bC_N : PySem.W.subIn K (.ref CN) (.type "BaseException") = some true)
    (tC_N : PySem.W.typeIn K (.ref CN) = some (.type "type"))
    (iC_N : PySem.W.isClsIn K CN = true)
    (f_N : PySem.W.subIn K (.ref CN) (.ref CF) = some true)
    (v_N : PySem.W.subIn K (.ref CN) (.type "ValueError") = some true)
    (s_NB : PySem.W.subIn K (.ref CN) (.ref CB) = some false)
    (s_NP : PySem.W.subIn K (.ref CN) (.ref CP) = some false)
    (s_NN : PySem.W.subIn K (.ref CN) (.ref CN) = some true)
    (hg_N : PySem.W.findIn K (.ref CN) "__getattribute__" = some (some (.builtin "BaseException.__getattribute__")))
    (hk_N : PySem.W.findIn K (.ref CN) "__getattr__" = some none)
    (hd_N : PySem.W.hasDictIn K CN = true)
    (ha_N : PySem.W.findIn K (.ref CN) "__class__" = some (some (.builtin "object.__class__")))
    (hm_N : PySem.W.mroIn K CN (.type "object") = some true)
    (hn : PySem.W.specialIn K (.builtin "object.__class__") "__get__" = some (some (.builtin "getset_descriptor.__get__")))
    (ht : PySem.W.takesIn K (.builtin "object.__class__") = some true)
    : ∃ fd : FuncData, (∀ (s : Shared) (v : Value), BindsTo s fd ⟨[v], []⟩ [("_law_script", v)]) ∧ ∀ base : Heap, K.In base → base.Ns mainGlobals mg → FnOk l.prog w K mg base CX0 8 fa fd ["_law_script"] (sp_law K) := by
  have e := hfa.symm.trans (PySem.W.mg_of X G a25)
  cases e
  have D_is_count : Def K mg "is_count" s_is_count ["value", "limit"] := ⟨f0, _, fun_mk (st := s_is_count) l0 c0 k0, PySem.W.mg_of X G a0, (fun_mk (st := s_is_count) l0 c0 k0).binds (ps := ["value", "limit"]) fun _ _ _ _ _ _ us hl => match us, hl with | [_, _], _ => rfl⟩
  have D_is_place : Def K mg "is_place" s_is_place ["size", "value"] := ⟨f1, _, fun_mk (st := s_is_place) l1 c1 k1, PySem.W.mg_of X G a1, (fun_mk (st := s_is_place) l1 c1 k1).binds (ps := ["size", "value"]) fun _ _ _ _ _ _ us hl => match us, hl with | [_, _], _ => rfl⟩
  have D_check_size : Def K mg "check_size" s_check_size ["size"] := ⟨f2, _, fun_mk (st := s_check_size) l2 c2 k2, PySem.W.mg_of X G a2, (fun_mk (st := s_check_size) l2 c2 k2).binds (ps := ["size"]) fun _ _ _ _ _ _ us hl => match us, hl with | [_], _ => rfl⟩
  have D_check_place : Def K mg "check_place" s_check_place ["size", "place"] := ⟨f3, _, fun_mk (st := s_check_place) l3 c3 k3, PySem.W.mg_of X G a3, (fun_mk (st := s_check_place) l3 c3 k3).binds (ps := ["size", "place"]) fun _ _ _ _ _ _ us hl => match us, hl with | [_, _], _ => rfl⟩
  have D_quarter_of : Def K mg "quarter_of" s_quarter_of ["size", "place"] := ⟨f4, _, fun_mk (st := s_quarter_of) l4 c4 k4, PySem.W.mg_of X G a4, (fun_mk (st := s_quarter_of) l4 c4 k4).binds (ps := ["size", "place"]) fun _ _ _ _ _ _ us hl => match us, hl with | [_, _], _ => rfl⟩
  have D_middle_places : Def K mg "middle_places" s_middle_places ["size", "place"] := ⟨f5, _, fun_mk (st := s_middle_places) l5 c5 k5, PySem.W.mg_of X G a5, (fun_mk (st := s_middle_places) l5 c5 k5).binds (ps := ["size", "place"]) fun _ _ _ _ _ _ us hl => match us, hl with | [_, _], _ => rfl⟩
  have D_middle_piece : Def K mg "middle_piece" s_middle_piece ["size", "out"] := ⟨f6, _, fun_mk (st := s_middle_piece) l6 c6 k6, PySem.W.mg_of X G a6, (fun_mk (st := s_middle_piece) l6 c6 k6).binds (ps := ["size", "out"]) fun _ _ _ _ _ _ us hl => match us, hl with | [_, _], _ => rfl⟩
  have D_left_out_of_quarter : Def K mg "left_out_of_quarter" s_left_out_of_quarter ["size", "out", "quarter"] := ⟨f7, _, fun_mk (st := s_left_out_of_quarter) l7 c7 k7, PySem.W.mg_of X G a7, (fun_mk (st := s_left_out_of_quarter) l7 c7 k7).binds (ps := ["size", "out", "quarter"]) fun _ _ _ _ _ _ us hl => match us, hl with | [_, _, _], _ => rfl⟩
  have D_check_covered : Def K mg "check_covered" s_check_covered ["size", "out", "place"] := ⟨f8, _, fun_mk (st := s_check_covered) l8 c8 k8, PySem.W.mg_of X G a8, (fun_mk (st := s_check_covered) l8 c8 k8).binds (ps := ["size", "out", "place"]) fun _ _ _ _ _ _ us hl => match us, hl with | [_, _, _], _ => rfl⟩
  have D_covering_part : Def K mg "covering_part" s_covering_part ["size", "out", "place"] := ⟨f9, _, fun_mk (st := s_covering_part) l9 c9 k9, PySem.W.mg_of X G a9, (fun_mk (st := s_covering_part) l9 c9 k9).binds (ps := ["size", "out", "place"]) fun _ _ _ _ _ _ us hl => match us, hl with | [_, _, _], _ => rfl⟩
  have D_piece : Def K mg "piece" s_piece ["size", "out", "place"] := ⟨f10, _, fun_mk (st := s_piece) l10 c10 k10, PySem.W.mg_of X G a10, (fun_mk (st := s_piece) l10 c10 k10).binds (ps := ["size", "out", "place"]) fun _ _ _ _ _ _ us hl => match us, hl with | [_, _, _], _ => rfl⟩
  have D_pieces_in : Def K mg "pieces_in" s_pieces_in ["size"] := ⟨f11, _, fun_mk (st := s_pieces_in) l11 c11 k11, PySem.W.mg_of X G a11, (fun_mk (st := s_pieces_in) l11 c11 k11).binds (ps := ["size"]) fun _ _ _ _ _ _ us hl => match us, hl with | [_], _ => rfl⟩
  have D_number_of_part : Def K mg "number_of_part" s_number_of_part ["size", "part_size", "place"] := ⟨f12, _, fun_mk (st := s_number_of_part) l12 c12 k12, PySem.W.mg_of X G a12, (fun_mk (st := s_number_of_part) l12 c12 k12).binds (ps := ["size", "part_size", "place"]) fun _ _ _ _ _ _ us hl => match us, hl with | [_, _, _], _ => rfl⟩
  have D_ways_of_part : Def K mg "ways_of_part" s_ways_of_part ["quarter_out", "inner", "cornered"] := ⟨f13, _, fun_mk (st := s_ways_of_part) l13 c13 k13, PySem.W.mg_of X G a13, (fun_mk (st := s_ways_of_part) l13 c13 k13).binds (ps := ["quarter_out", "inner", "cornered"]) fun _ _ _ _ _ _ us hl => match us, hl with | [_, _, _], _ => rfl⟩
  have D_number_of : Def K mg "number_of" s_number_of ["size", "out", "place"] := ⟨f14, _, fun_mk (st := s_number_of) l14 c14 k14, PySem.W.mg_of X G a14, (fun_mk (st := s_number_of) l14 c14 k14).binds (ps := ["size", "out", "place"]) fun _ _ _ _ _ _ us hl => match us, hl with | [_, _, _], _ => rfl⟩
  have D_piece_of : Def K mg "piece_of" s_piece_of ["size", "out", "number"] := ⟨f15, _, fun_mk (st := s_piece_of) l15 c15 k15, PySem.W.mg_of X G a15, (fun_mk (st := s_piece_of) l15 c15 k15).binds (ps := ["size", "out", "number"]) fun _ _ _ _ _ _ us hl => match us, hl with | [_, _, _], _ => rfl⟩
  have D_ways : Def K mg "ways" s_ways ["size", "out"] := ⟨f16, _, fun_mk (st := s_ways) l16 c16 k16, PySem.W.mg_of X G a16, (fun_mk (st := s_ways) l16 c16 k16).binds (ps := ["size", "out"]) fun _ _ _ _ _ _ us hl => match us, hl with | [_, _], _ => rfl⟩
  have D_check_both : Def K mg "check_both" s_check_both ["size", "one", "other"] := ⟨f17, _, fun_mk (st := s_check_both) l17 c17 k17, PySem.W.mg_of X G a17, (fun_mk (st := s_check_both) l17 c17 k17).binds (ps := ["size", "one", "other"]) fun _ _ _ _ _ _ us hl => match us, hl with | [_, _, _], _ => rfl⟩
  have D_shared_part : Def K mg "shared_part" s_shared_part ["one", "other"] := ⟨f18, _, fun_mk (st := s_shared_part) l18 c18 k18, PySem.W.mg_of X G a18, (fun_mk (st := s_shared_part) l18 c18 k18).binds (ps := ["one", "other"]) fun _ _ _ _ _ _ us hl => match us, hl with | [_, _], _ => rfl⟩
  have D_unlike_a_corner : Def K mg "unlike_a_corner" s_unlike_a_corner ["size", "out", "corner"] := ⟨f19, _, fun_mk (st := s_unlike_a_corner) l19 c19 k19, PySem.W.mg_of X G a19, (fun_mk (st := s_unlike_a_corner) l19 c19 k19).binds (ps := ["size", "out", "corner"]) fun _ _ _ _ _ _ us hl => match us, hl with | [_, _, _], _ => rfl⟩
  have D_unlike : Def K mg "unlike" s_unlike ["size", "one", "other"] := ⟨f20, _, fun_mk (st := s_unlike) l20 c20 k20, PySem.W.mg_of X G a20, (fun_mk (st := s_unlike) l20 c20 k20).binds (ps := ["size", "one", "other"]) fun _ _ _ _ _ _ us hl => match us, hl with | [_, _, _], _ => rfl⟩
  have D_first_unlike : Def K mg "first_unlike" s_first_unlike ["size", "one", "other"] := ⟨f21, _, fun_mk (st := s_first_unlike) l21 c21 k21, PySem.W.mg_of X G a21, (fun_mk (st := s_first_unlike) l21 c21 k21).binds (ps := ["size", "one", "other"]) fun _ _ _ _ _ _ us hl => match us, hl with | [_, _, _], _ => rfl⟩
  have D__law_ask : Def K mg "_law_ask" s__law_ask ["_law_door", "_law_size", "_law_out", "_law_third"] := ⟨f22, _, fun_mk (st := s__law_ask) l22 c22 k22, PySem.W.mg_of X G a22, (fun_mk (st := s__law_ask) l22 c22 k22).binds (ps := ["_law_door", "_law_size", "_law_out", "_law_third"]) fun _ _ _ _ _ _ us hl => match us, hl with | [_, _, _, _], _ => rfl⟩
  have D__law_places : Def K mg "_law_places" s__law_places ["_law_more"] := ⟨f23, _, fun_mk (st := s__law_places) l23 c23 k23, PySem.W.mg_of X G a23, (fun_mk (st := s__law_places) l23 c23 k23).binds (ps := ["_law_more"]) fun _ _ _ _ _ _ us hl => match us, hl with | [_], _ => rfl⟩
  have D__law_told : Def K mg "_law_told" s__law_told ["_law_kind", "_law_which", "_law_more"] := ⟨f24, _, fun_mk (st := s__law_told) l24 c24 k24, PySem.W.mg_of X G a24, (fun_mk (st := s__law_told) l24 c24 k24).binds (ps := ["_law_kind", "_law_which", "_law_more"]) fun _ _ _ _ _ _ us hl => match us, hl with | [_, _, _], _ => rfl⟩
  have D_law : Def K mg "law" s_law ["_law_script"] := ⟨fa, _, fun_mk (st := s_law) l25 c25 k25, PySem.W.mg_of X G a25, (fun_mk (st := s_law) l25 c25 k25).binds (ps := ["_law_script"]) fun _ _ _ _ _ _ us hl => match us, hl with | [_], _ => rfl⟩
  have B : Blt mg := ⟨PySem.W.mg_none_of X G z_isinstance, PySem.W.mg_none_of X G z_int, PySem.W.mg_none_of X G z_bool, PySem.W.mg_none_of X G z_tuple, PySem.W.mg_none_of X G z_list, PySem.W.mg_none_of X G z_set, PySem.W.mg_none_of X G z_len, PySem.W.mg_none_of X G z_sum, PySem.W.mg_none_of X G z_range, PySem.W.mg_none_of X G z_sorted, PySem.W.mg_none_of X G z_min, PySem.W.mg_none_of X G z_max, PySem.W.mg_none_of X G z_all, PySem.W.mg_none_of X G z_any, PySem.W.mg_none_of X G z_enumerate, PySem.W.mg_none_of X G z_zip, PySem.W.mg_none_of X G z_abs, PySem.W.mg_none_of X G z_str, PySem.W.mg_none_of X G z_divmod⟩
  have m_LARGEST_SIZE := PySem.W.mg_of X G y_LARGEST_SIZE
  refine ⟨PySem.W.fnOf "law" "law" (defArgs s_law) (defBody s_law) (defScope s_law) .none kV25 dc25 pm25 an25 cd25 ct25, fun s v => .of_eq rfl, fun base _ _ => ?_⟩
  have X6 : Ex6 K mg CB CP CN := ⟨⟨PySem.W.mg_of X G g_B, xI_B, kC_B, bC_B, tC_B⟩, ⟨PySem.W.mg_of X G g_P, xI_P, kC_P, bC_P, tC_P⟩, ⟨PySem.W.mg_of X G g_N, xI_N, kC_N, bC_N, tC_N⟩⟩
  have X7 : Ex7 K mg CB CP CN CF := ⟨PySem.W.mg_of X G g_F, PySem.W.mg_none_of X G z_ValueError, ⟨⟨hg_B, hk_B, bC_B, hd_B, ha_B, hn, ht, hm_B⟩, exm_sub bC_F iC_F tC_F f_B, kit_own iC_B tC_B s_BB s_BB, kit_own iC_P tC_P s_BP s_BB, kit_own iC_N tC_N s_BN s_BB, kit_bi v_B⟩, ⟨⟨hg_P, hk_P, bC_P, hd_P, ha_P, hn, ht, hm_P⟩, exm_sub bC_F iC_F tC_F f_P, kit_own iC_B tC_B s_PB s_PP, kit_own iC_P tC_P s_PP s_PP, kit_own iC_N tC_N s_PN s_PP, kit_bi v_P⟩, ⟨⟨hg_N, hk_N, bC_N, hd_N, ha_N, hn, ht, hm_N⟩, exm_sub bC_F iC_F tC_F f_N, kit_own iC_B tC_B s_NB s_NN, kit_own iC_P tC_P s_NP s_NN, kit_own iC_N tC_N s_NN s_NN, kit_bi v_N⟩⟩
  have c_is_count := ok_is_count (P := l.prog) (w := w) (base := base) (k := 0) D_is_count B
  have c2_is_count := ok2_is_count (P := l.prog) (w := w) (base := base) (k := 0) D_is_count B
  have c_is_place := ok_is_place (k := 1) D_is_place B c_is_count
  have c2_is_place := ok2_is_place (k := 1) D_is_place B c2_is_count
  have c_check_size := ok_check_size (k := 1) D_check_size B ⟨_, m_LARGEST_SIZE⟩ c_is_count
  have x_check_size := okx_check_size (k := 1) D_check_size B X6 ⟨_, m_LARGEST_SIZE⟩ c2_is_count
  have c_check_place := ok_check_place (k := 2) D_check_place B c_is_place
  have x_check_place := okx_check_place (k := 2) D_check_place B X6 c2_is_place
  have c_quarter_of := ok_quarter_of (P := l.prog) (w := w) (base := base) (k := 0) D_quarter_of B
  have c_middle_places := ok_middle_places (P := l.prog) (w := w) (base := base) (k := 0) D_middle_places B
  have c_middle_piece := ok_middle_piece (k := 1) D_middle_piece B c_quarter_of c_middle_places
  have c_left_out_of_quarter := ok_left_out_of_quarter (k := 1) D_left_out_of_quarter B c_quarter_of c_middle_places
  have c_check_covered := ok_check_covered (k := 3) D_check_covered B (c_check_size.mono (by decide)) c_check_place
  have x_check_covered := okx_check_covered (k := 3) D_check_covered B X6 (c_check_size.mono (by decide)) c_check_place (x_check_size.mono (by decide)) x_check_place
  have c_covering_part := ok_covering_part (k := 2) D_covering_part B c_middle_piece c_left_out_of_quarter (c_quarter_of.mono (by decide))
  have c_piece := ok_piece (k := 4) D_piece B c_check_covered (c_covering_part.mono (by decide)) (c_middle_piece.mono (by decide))
  have x_piece := okx_piece (k := 4) D_piece B X6 x_check_covered
  have c_pieces_in := ok_pieces_in (P := l.prog) (w := w) (base := base) (k := 0) D_pieces_in B
  have c_number_of_part := ok_number_of_part (k := 1) D_number_of_part B c_quarter_of c_pieces_in
  have c_ways_of_part := ok_ways_of_part (P := l.prog) (w := w) (base := base) (k := 0) D_ways_of_part B
  have c_number_of := ok_number_of (k := 4) D_number_of B c_check_covered (c_covering_part.mono (by decide)) (c_number_of_part.mono (by decide))
  have x_number_of := okx_number_of (k := 4) D_number_of B X6 x_check_covered
  have c_piece_of := ok_piece_of (k := 3) D_piece_of B (c_check_size.mono (by decide)) c_check_place (c_is_count.mono (by decide)) (c_pieces_in.mono (by decide)) (c_left_out_of_quarter.mono (by decide)) (c_middle_piece.mono (by decide))
  have x_piece_of := okx_piece_of (k := 3) D_piece_of B X6 (c_check_size.mono (by decide)) c_check_place (c2_is_count.mono (by decide)) (c_pieces_in.mono (by decide)) (x_check_size.mono (by decide)) x_check_place
  have c_ways := ok_ways (k := 3) D_ways B (c_check_size.mono (by decide)) c_check_place (c_ways_of_part.mono (by decide)) (c_quarter_of.mono (by decide))
  have x_ways := okx_ways (k := 3) D_ways B X6 (c_check_size.mono (by decide)) c_check_place (x_check_size.mono (by decide)) x_check_place
  have c_check_both := ok_check_both (k := 3) D_check_both B (c_check_size.mono (by decide)) c_check_place
  have x_check_both := okx_check_both (k := 3) D_check_both B X6 (c_check_size.mono (by decide)) c_check_place (x_check_size.mono (by decide)) x_check_place
  have c_shared_part := ok_shared_part (P := l.prog) (w := w) (base := base) (k := 0) D_shared_part B
  have c_unlike_a_corner := ok_unlike_a_corner (k := 1) D_unlike_a_corner B c_quarter_of
  have c_unlike := ok_unlike (k := 4) D_unlike B c_check_both (c_shared_part.mono (by decide)) (c_unlike_a_corner.mono (by decide)) (c_quarter_of.mono (by decide))
  have x_unlike := okx_unlike (k := 4) D_unlike B X6 x_check_both
  have c_first_unlike := ok_first_unlike (k := 4) D_first_unlike B c_check_both (c_shared_part.mono (by decide)) (c_number_of_part.mono (by decide))
  have x_first_unlike := okx_first_unlike (k := 4) D_first_unlike B X6 x_check_both
  have c__law_ask := okx__law_ask (k := 5) D__law_ask B X6 x_piece x_number_of (x_piece_of.mono (by decide)) (x_ways.mono (by decide)) x_unlike x_first_unlike
  have c__law_places := ok__law_places (P := l.prog) (w := w) (base := base) (k := 0) D__law_places B
  have c__law_told := ok__law_told (k := 6) D__law_told B X6 X7 c__law_ask (x_piece_of.mono (by decide)) (c__law_places.mono (by decide))
  have c_law := ok_law (k := 7) D_law B c__law_told (c_unlike.mono (by decide)) (c_ways.mono (by decide)) (c_piece_of.mono (by decide)) (c_piece.mono (by decide))
  exact c_law.fn (PySem.W.mg_of X G a25) l25
end Cf
open PySem PySem.W PyProof.Rows
set_option maxRecDepth 100000 in
set_option maxHeartbeats 0 in
theorem PySem.Challenge.cw_cornerfloor_k06_refused_holds : PySem.Challenge.rw_cornerfloor_k06_refused.Holds := by
  w_on; o_law; k_head; (case hw => w_witness2)
  k_fill
  refine L2.walk_of (l := PySem.Challenge.rw_cornerfloor_k06_refused) (n := 63) (k := 8) (x := "_law_script") (CX := fun _ => L2.CX0) (sp := fun w => Cf.sp_law _) rfl (by decide) rfl ⟨rfl, by decide, by decide⟩ (fun w h Y => PySem.W.kIn_of Y) ?F (fun _ _ a ns hl _ hS => ⟨a, ns, rfl, hS, hl, fun _ => rfl⟩) (fun _ _ _ _ _ h => h)
  case F =>
    intro w mg fa h KX G hmg
    refine' Cf.all_mk KX G hmg ?y_LARGEST_SIZE ?a0 ?l0 ?c0 ?k0 ?a1 ?l1 ?c1 ?k1 ?a2 ?l2 ?c2 ?k2 ?a3 ?l3 ?c3 ?k3 ?a4 ?l4 ?c4 ?k4 ?a5 ?l5 ?c5 ?k5 ?a6 ?l6 ?c6 ?k6 ?a7 ?l7 ?c7 ?k7 ?a8 ?l8 ?c8 ?k8 ?a9 ?l9 ?c9 ?k9 ?a10 ?l10 ?c10 ?k10 ?a11 ?l11 ?c11 ?k11 ?a12 ?l12 ?c12 ?k12 ?a13 ?l13 ?c13 ?k13 ?a14 ?l14 ?c14 ?k14 ?a15 ?l15 ?c15 ?k15 ?a16 ?l16 ?c16 ?k16 ?a17 ?l17 ?c17 ?k17 ?a18 ?l18 ?c18 ?k18 ?a19 ?l19 ?c19 ?k19 ?a20 ?l20 ?c20 ?k20 ?a21 ?l21 ?c21 ?k21 ?a22 ?l22 ?c22 ?k22 ?a23 ?l23 ?c23 ?k23 ?a24 ?l24 ?c24 ?k24 ?a25 ?l25 ?c25 ?k25 ?z_isinstance ?z_int ?z_bool ?z_tuple ?z_list ?z_set ?z_len ?z_sum ?z_range ?z_sorted ?z_min ?z_max ?z_all ?z_any ?z_enumerate ?z_zip ?z_abs ?z_str ?z_divmod ?g_F ?bC_F ?tC_F ?iC_F ?z_ValueError ?g_B ?xI_B ?kC_B ?bC_B ?tC_B ?iC_B ?f_B ?v_B ?s_BB ?s_BP ?s_BN ?hg_B ?hk_B ?hd_B ?ha_B ?hm_B ?g_P ?xI_P ?kC_P ?bC_P ?tC_P ?iC_P ?f_P ?v_P ?s_PB ?s_PP ?s_PN ?hg_P ?hk_P ?hd_P ?ha_P ?hm_P ?g_N ?xI_N ?kC_N ?bC_N ?tC_N ?iC_N ?f_N ?v_N ?s_NB ?s_NP ?s_NN ?hg_N ?hk_N ?hd_N ?ha_N ?hm_N ?hn ?ht
    (case g_F => first | k_is | rfl | decide +kernel)
    (case g_B => first | k_is | rfl | decide +kernel)
    (case g_P => first | k_is | rfl | decide +kernel)
    (case g_N => first | k_is | rfl | decide +kernel)
    (case y_LARGEST_SIZE => k_is)
    (case a0 => k_is)
    (case l0 => k_is)
    (case c0 => k_is)
    (case k0 => k_is)
    (case a1 => k_is)
    (case l1 => k_is)
    (case c1 => k_is)
    (case k1 => k_is)
    (case a2 => k_is)
    (case l2 => k_is)
    (case c2 => k_is)
    (case k2 => k_is)
    (case a3 => k_is)
    (case l3 => k_is)
    (case c3 => k_is)
    (case k3 => k_is)
    (case a4 => k_is)
    (case l4 => k_is)
    (case c4 => k_is)
    (case k4 => k_is)
    (case a5 => k_is)
    (case l5 => k_is)
    (case c5 => k_is)
    (case k5 => k_is)
    (case a6 => k_is)
    (case l6 => k_is)
    (case c6 => k_is)
    (case k6 => k_is)
    (case a7 => k_is)
    (case l7 => k_is)
    (case c7 => k_is)
    (case k7 => k_is)
    (case a8 => k_is)
    (case l8 => k_is)
    (case c8 => k_is)
    (case k8 => k_is)
    (case a9 => k_is)
    (case l9 => k_is)
    (case c9 => k_is)
    (case k9 => k_is)
    (case a10 => k_is)
    (case l10 => k_is)
    (case c10 => k_is)
    (case k10 => k_is)
    (case a11 => k_is)
    (case l11 => k_is)
    (case c11 => k_is)
    (case k11 => k_is)
    (case a12 => k_is)
    (case l12 => k_is)
    (case c12 => k_is)
    (case k12 => k_is)
    (case a13 => k_is)
    (case l13 => k_is)
    (case c13 => k_is)
    (case k13 => k_is)
    (case a14 => k_is)
    (case l14 => k_is)
    (case c14 => k_is)
    (case k14 => k_is)
    (case a15 => k_is)
    (case l15 => k_is)
    (case c15 => k_is)
    (case k15 => k_is)
    (case a16 => k_is)
    (case l16 => k_is)
    (case c16 => k_is)
    (case k16 => k_is)
    (case a17 => k_is)
    (case l17 => k_is)
    (case c17 => k_is)
    (case k17 => k_is)
    (case a18 => k_is)
    (case l18 => k_is)
    (case c18 => k_is)
    (case k18 => k_is)
    (case a19 => k_is)
    (case l19 => k_is)
    (case c19 => k_is)
    (case k19 => k_is)
    (case a20 => k_is)
    (case l20 => k_is)
    (case c20 => k_is)
    (case k20 => k_is)
    (case a21 => k_is)
    (case l21 => k_is)
    (case c21 => k_is)
    (case k21 => k_is)
    (case a22 => k_is)
    (case l22 => k_is)
    (case c22 => k_is)
    (case k22 => k_is)
    (case a23 => k_is)
    (case l23 => k_is)
    (case c23 => k_is)
    (case k23 => k_is)
    (case a24 => k_is)
    (case l24 => k_is)
    (case c24 => k_is)
    (case k24 => k_is)
    (case a25 => k_is)
    (case l25 => k_is)
    (case c25 => k_is)
    (case k25 => k_is)
    (case z_isinstance => k_is)
    (case z_int => k_is)
    (case z_bool => k_is)
    (case z_tuple => k_is)
    (case z_list => k_is)
    (case z_set => k_is)
    (case z_len => k_is)
    (case z_sum => k_is)
    (case z_range => k_is)
    (case z_sorted => k_is)
    (case z_min => k_is)
    (case z_max => k_is)
    (case z_all => k_is)
    (case z_any => k_is)
    (case z_enumerate => k_is)
    (case z_zip => k_is)
    (case z_abs => k_is)
    (case z_str => k_is)
    (case z_divmod => k_is)
    (case bC_F => first | k_is | rfl | decide +kernel)
    (case tC_F => first | k_is | rfl | decide +kernel)
    (case iC_F => first | k_is | rfl | decide +kernel)
    (case z_ValueError => first | k_is | rfl | decide +kernel)
    (case xI_B => k_exc)
    (case kC_B => first | k_is | rfl | decide +kernel)
    (case bC_B => first | k_is | rfl | decide +kernel)
    (case tC_B => first | k_is | rfl | decide +kernel)
    (case iC_B => first | k_is | rfl | decide +kernel)
    (case f_B => first | k_is | rfl | decide +kernel)
    (case v_B => first | k_is | rfl | decide +kernel)
    (case s_BB => first | k_is | rfl | decide +kernel)
    (case s_BP => first | k_is | rfl | decide +kernel)
    (case s_BN => first | k_is | rfl | decide +kernel)
    (case hg_B => first | k_is | rfl | decide +kernel)
    (case hk_B => first | k_is | rfl | decide +kernel)
    (case hd_B => first | k_is | rfl | decide +kernel)
    (case ha_B => first | k_is | rfl | decide +kernel)
    (case hm_B => first | k_is | rfl | decide +kernel)
    (case xI_P => k_exc)
    (case kC_P => first | k_is | rfl | decide +kernel)
    (case bC_P => first | k_is | rfl | decide +kernel)
    (case tC_P => first | k_is | rfl | decide +kernel)
    (case iC_P => first | k_is | rfl | decide +kernel)
    (case f_P => first | k_is | rfl | decide +kernel)
    (case v_P => first | k_is | rfl | decide +kernel)
    (case s_PB => first | k_is | rfl | decide +kernel)
    (case s_PP => first | k_is | rfl | decide +kernel)
    (case s_PN => first | k_is | rfl | decide +kernel)
    (case hg_P => first | k_is | rfl | decide +kernel)
    (case hk_P => first | k_is | rfl | decide +kernel)
    (case hd_P => first | k_is | rfl | decide +kernel)
    (case ha_P => first | k_is | rfl | decide +kernel)
    (case hm_P => first | k_is | rfl | decide +kernel)
    (case xI_N => k_exc)
    (case kC_N => first | k_is | rfl | decide +kernel)
    (case bC_N => first | k_is | rfl | decide +kernel)
    (case tC_N => first | k_is | rfl | decide +kernel)
    (case iC_N => first | k_is | rfl | decide +kernel)
    (case f_N => first | k_is | rfl | decide +kernel)
    (case v_N => first | k_is | rfl | decide +kernel)
    (case s_NB => first | k_is | rfl | decide +kernel)
    (case s_NP => first | k_is | rfl | decide +kernel)
    (case s_NN => first | k_is | rfl | decide +kernel)
    (case hg_N => first | k_is | rfl | decide +kernel)
    (case hk_N => first | k_is | rfl | decide +kernel)
    (case hd_N => first | k_is | rfl | decide +kernel)
    (case ha_N => first | k_is | rfl | decide +kernel)
    (case hm_N => first | k_is | rfl | decide +kernel)
    (case hn => first | k_is | rfl | decide +kernel)
    (case ht => first | k_is | rfl | decide +kernel)

