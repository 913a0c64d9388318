import PyProof.Rows.All
import Wide.All
import OpenK.AllK
import Wide.FinOn
import HandS.ForMost
import HandS.IsInst
import HandS.Star
import HandS.Walk
import HandS.Zip
import HandS.TupSets
import HandS.Gcd
import HandS.Conv
import HandS.SetFor
import HandS.Strs
import KE.DataMinMax
import KE.GoesMore
import KE.SortData
import HandS.Style
import PySem.Challenge.RW_handwalk_k02_whole_permutation_algebra
set_option Elab.async false
set_option linter.all false
set_option maxRecDepth 100000
set_option maxHeartbeats 8000000
namespace Hw
open PySem PySem.Spec PyProof.Rows L2

/-- a def of the text, where it stands, how it binds -/
structure Df (K : PySem.W.Frag) (mg : Str → Option Value) (x : Str) (st : Stmt) (ps : List Str) : Prop where
  ex : ∃ (f : Addr) (fd : FuncData), Fun K x x st f fd ∧ Binds K fd ps [] ∧ mg x = some (.ref f)

/-- a def that can be called by its name, with its promise -/
structure Cal (P : Program) (w : World) (K : PySem.W.Frag) (mg : Str → Option Value) (base : Heap) (x : Str) (k : Nat) (sp : Sp) : Prop where
  ex : ∃ f : Addr, mg x = some (.ref f) ∧ PySem.W.keepIn K (.ref f) = true ∧ L2.FnR P w K mg base CX0 k f sp

section
variable {P : Program} {w : World} {K : PySem.W.Frag} {mg : Str → Option Value} {base : Heap} {x : Str}
theorem Cal.mono {j k : Nat} {sp : Sp} (c : Cal P w K mg base x j sp) (h : j ≤ k) : Cal P w K mg base x k sp := by
  obtain ⟨f, a, b, F⟩ := c.ex
  exact ⟨f, a, b, F.mono h⟩
theorem cal_of {st : Stmt} {N ps : List Str} {k : Nat} {sp : Sp} (D : Df K mg x st ps) (S : FnScope N ps (defScope st)) (len : ∀ vs H Q E, sp vs H Q E → vs.length = ps.length)
    (hbody : ∀ (f : Addr) (cdv : Value) (A : Around) (outer : List Env) (s : Shared) (H : Hp) (vs : List V) (Q : VK) (E : XK), Room k (A.deeper (envOfC x (defScope st) s.heap.objs.size f cdv)) → sp vs H Q E →
      ∃ t, PSs (cxOf CX0 P w K mg base N x (defScope st) f cdv A outer s H E).nox (defBody st) t ∧ t { nx := fun _ H' => Q .non H', rt := Q } (start N vs) H) : Cal P w K mg base x (k + 1) sp := by
  obtain ⟨f, fd, F, b, g⟩ := D.ex
  have G : FnOk P w K mg base CX0 (k + 1) f fd ps sp := F.ok S len (fun cdv A outer s H vs Q E hr h => hbody f cdv A outer s H vs Q E hr h)
  refine ⟨f, g, F.kp, ?_⟩
  have R := G.raw b (dvs := []) .nil
  exact R.imp fun vs H Q E h => by
    show sp (vs ++ []) H Q E
    rw [List.append_nil]
    exact h
end
section
variable {X : Cx} {k : Nat} {sp : Sp} {x : Str} {p pos : Pos} {e : Expr} {es : List Expr} {t : TA}
theorem pe_cal (c : Cal X.prog X.w X.K X.mg X.base x k sp) (hr : Room k X.A) (hg : Gl X x) (ha : PA X (e :: es) t) (hdb : (x == ("__debug__" : Str)) = false := by decide)
    (he : starEach (e :: es) X.env = (false, eval e X.env) :: starEach es X.env := by rfl) (hpl : (backTo pos (starEach es X.env)).any (·.1) = false := by rfl) :
    PE X (.Call (.Name x p) (e :: es) [] pos) (fun σ H Q => t σ H fun vs H1 => sp vs H1 Q E0) := by
  obtain ⟨f, hm, hk, F⟩ := c.ex
  refine ⟨fun pins s σ H Q I h => ?_⟩
  refine wpAny_Call_Name_kw (ld_glob I hg hm ?_ hdb)
  refine PySem.W.callWith_K (h₀ := X.base) I.ok.mod.kin hk (thn (ha.run pos pins s σ H _ I h) fun us s1 ⟨vs, H1, I1, r, q⟩ => ⟨I1.kIn, ?_⟩) he hpl
  exact wpAny_call (L2.run_fnR F hr pass0 I1 r q)
theorem pe_cal0 (c : Cal X.prog X.w X.K X.mg X.base x k sp) (hr : Room k X.A) (hg : Gl X x) (hdb : (x == ("__debug__" : Str)) = false := by decide) :
    PE X (.Call (.Name x p) [] [] pos) (fun σ H Q => sp [] H Q E0) := by
  obtain ⟨f, hm, hk, F⟩ := c.ex
  refine ⟨fun pins s σ H Q I h => ?_⟩
  refine wpAny_Call_Name_kw (ld_glob I hg hm ?_ hdb)
  exact PySem.W.callWith_K0 I.kIn hk (wpAny_call (L2.run_fnR F hr pass0 I .nil h))
end
/-- len of a list or a tuple -/
def rLenS (K : PySem.W.Frag) : List V → Hp → VK → Prop := fun xs H Q => ∃ p ys, xs = [.ref p] ∧ (SqL K H p ys ∨ SqT K H p ys) ∧ Q (.int (ys.length : Int)) H
theorem cr_len {X : Cx} : CallR X (.builtin "len") (rLenS X.K) := call_len_seq
end Hw

/-! Permutations as lists of numbers: what the program's functions compute. No Python here. -/
namespace Hw
/-- item x of p (0 beyond) -/
def ap (p : List Nat) (x : Nat) : Nat := p.getD x 0
def IsP (p : List Nat) : Prop := p.Nodup ∧ ∀ x ∈ p, x < p.length
/-- first p, then q -/
def mul (p q : List Nat) : List Nat := p.map (ap q)
def inv (p : List Nat) : List Nat := (List.range p.length).map fun y => p.idxOf y
/-- all of ps, one after the other, on n positions -/
def muls (n : Nat) (ps : List (List Nat)) : List Nat := ps.foldl mul (List.range n)
/-- k steps from x -/
def it (p : List Nat) : Nat → Nat → Nat
  | 0, x => x
  | k + 1, x => ap p (it p k x)
/-- x comes back first after so many steps: the least k from 1 on, sought up to n -/
def perF (p : List Nat) (x : Nat) : Nat → Nat → Nat
  | 0, k => k
  | m + 1, k => if it p k x = x then k else perF p x m (k + 1)
def per (p : List Nat) (x : Nat) : Nat := perF p x p.length 1
/-- the way of x until it is back -/
def orb (p : List Nat) (x : Nat) : List Nat := (List.range (per p x)).map fun k => it p k x
/-- j lies on the way of one below i -/
def sn (p : List Nat) (i j : Nat) : Bool := (List.range i).any fun f => decide (j ∈ orb p f)
/-- the cycles that begin below i -/
def cycF (p : List Nat) (i : Nat) : List (List Nat) := ((List.range i).filter fun f => !sn p f f && decide (1 < per p f)).map (orb p)
def cyc (p : List Nat) : List (List Nat) := cycF p p.length
def ord (p : List Nat) : Nat := (cyc p).foldl (fun r c => Nat.lcm r c.length) 1
def evenP (p : List Nat) : Bool := decide (((cyc p).map fun c => (c.length : Int) - 1).sum % 2 = 0)
/-- how many ahead of place i are greater than what stands there -/
def invAt (p : List Nat) (i : Nat) : Nat := ((p.take i).filter fun x => decide (ap p i < x)).length
def invs (p : List Nat) : Nat := ((List.range p.length).map (invAt p)).sum
theorem ap_get {p : List Nat} {x : Nat} (h : x < p.length) : p[x]? = some (ap p x) := by
  unfold ap
  rw [List.getD_eq_getElem?_getD, List.getElem?_eq_getElem h]
  rfl
theorem ap_mem {p : List Nat} {x : Nat} (h : x < p.length) : ap p x ∈ p := List.mem_of_getElem? (ap_get h)
theorem ap_lt {p : List Nat} {x : Nat} (hp : IsP p) (h : x < p.length) : ap p x < p.length := hp.2 _ (ap_mem h)
theorem mul_len (p q : List Nat) : (mul p q).length = p.length := by unfold mul; rw [List.length_map]
/-- a row of n numbers below n -/
def Row (n : Nat) (m : List Nat) : Prop := m.length = n ∧ ∀ x ∈ m, x < n
theorem row_range (n : Nat) : Row n (List.range n) := ⟨List.length_range, fun x hx => List.mem_range.mp hx⟩
theorem row_of {p : List Nat} {n : Nat} (h : IsP p) (e : p.length = n) : Row n p := ⟨e, fun x hx => by rw [← e]; exact h.2 x hx⟩
theorem row_mul {n : Nat} {m p : List Nat} (hm : Row n m) (hp : Row n p) : Row n (mul m p) := by
  refine ⟨by rw [mul_len]; exact hm.1, fun x hx => ?_⟩
  obtain ⟨y, hy, rfl⟩ := List.mem_map.mp hx
  exact hp.2 _ (ap_mem (by rw [hp.1]; exact hm.2 y hy))
theorem row_foldl {n : Nat} : ∀ (ps : List (List Nat)) (m : List Nat), Row n m → (∀ p ∈ ps, Row n p) → Row n (ps.foldl mul m)
  | [], _, h, _ => h
  | p :: ps, m, h, hp => row_foldl ps (mul m p) (row_mul h (hp p List.mem_cons_self)) fun q hq => hp q (List.mem_cons_of_mem _ hq)
theorem row_muls {n : Nat} {ps : List (List Nat)} (hp : ∀ p ∈ ps, Row n p) : Row n (muls n ps) := row_foldl ps _ (row_range n) hp
theorem muls_snoc (n : Nat) (ps : List (List Nat)) (p : List Nat) : muls n (ps ++ [p]) = mul (muls n ps) p := by
  unfold muls
  rw [List.foldl_append]
  rfl
end Hw

namespace Hw
/-! ### numbers below n -/
theorem len_le : ∀ (n : Nat) (l : List Nat), l.Nodup → (∀ x ∈ l, x < n) → l.length ≤ n
  | 0, l, _, h => by
    cases l with
    | nil => exact Nat.le_refl _
    | cons x r => exact absurd (h x List.mem_cons_self) (Nat.not_lt_zero _)
  | n + 1, l, nd, h => by
    have h1 := len_le n (l.erase n) (nd.erase n) fun x hx => by
      have e1 := (List.Nodup.mem_erase_iff nd).mp hx
      have := h x e1.2
      have := e1.1
      omega
    by_cases z : n ∈ l
    · rw [List.length_erase_of_mem z] at h1
      omega
    · rw [List.erase_of_not_mem z] at h1
      omega
theorem isP_mem {p : List Nat} (h : IsP p) {y : Nat} (hy : y < p.length) : y ∈ p := by
  by_cases z : y ∈ p
  · exact z
  · exfalso
    have := len_le p.length (y :: p) (List.nodup_cons.mpr ⟨z, h.1⟩) fun x hx => by
      rcases List.mem_cons.mp hx with e | m
      · rw [e]; exact hy
      · exact h.2 x m
    rw [List.length_cons] at this
    omega
theorem ap_inj {p : List Nat} (h : IsP p) {x y : Nat} (hx : x < p.length) (hy : y < p.length) (e : ap p x = ap p y) : x = y := by
  have h1 := ap_get hx
  have h2 := ap_get hy
  rw [e] at h1
  obtain ⟨_, e1⟩ := List.getElem?_eq_some_iff.mp h1
  obtain ⟨_, e2⟩ := List.getElem?_eq_some_iff.mp h2
  exact (List.getElem_inj (h₀ := hx) (h₁ := hy) h.1).mp (e1.trans e2.symm)
/-! ### steps -/
theorem it_lt {p : List Nat} (h : IsP p) {x : Nat} (hx : x < p.length) : ∀ k, it p k x < p.length
  | 0 => hx
  | k + 1 => ap_lt h (it_lt h hx k)
theorem it_add (p : List Nat) (x j : Nat) : ∀ k, it p (j + k) x = it p k (it p j x)
  | 0 => rfl
  | k + 1 => by
    show ap p (it p (j + k) x) = ap p (it p k (it p j x))
    rw [it_add p x j k]
theorem it_inj {p : List Nat} (h : IsP p) {x y : Nat} (hx : x < p.length) (hy : y < p.length) : ∀ k, it p k x = it p k y → x = y
  | 0, e => e
  | k + 1, e => it_inj h hx hy k (ap_inj h (it_lt h hx k) (it_lt h hy k) e)
theorem back_ex {p : List Nat} (h : IsP p) {x : Nat} (hx : x < p.length) : ∃ k, 1 ≤ k ∧ k ≤ p.length ∧ it p k x = x := by
  by_cases z : ∃ k, 1 ≤ k ∧ k ≤ p.length ∧ it p k x = x
  · exact z
  · exfalso
    have nd : ((List.range (p.length + 1)).map fun k => it p k x).Nodup := by
      rw [List.nodup_iff_pairwise_ne, List.pairwise_map]
      refine List.Pairwise.imp_of_mem (fun {i j} hi hj hij e => ?_) (List.pairwise_lt_range (n := p.length + 1))
      rw [List.mem_range] at hi hj
      apply z
      refine ⟨j - i, by omega, by omega, ?_⟩
      have e2 : j = i + (j - i) := by omega
      rw [e2, Nat.add_comm, it_add] at e
      exact (it_inj h hx (it_lt h hx _) i (by
        rw [e])).symm
    have := len_le p.length _ nd fun y hy => by
      obtain ⟨k, _, rfl⟩ := List.mem_map.mp hy
      exact it_lt h hx k
    rw [List.length_map, List.length_range] at this
    omega
theorem perF_spec (p : List Nat) (x : Nat) : ∀ m k, (∃ j, k ≤ j ∧ j < k + m ∧ it p j x = x) → k ≤ perF p x m k ∧ perF p x m k < k + m ∧ it p (perF p x m k) x = x ∧ ∀ j, k ≤ j → j < perF p x m k → it p j x ≠ x
  | 0, k, ⟨j, h1, h2, _⟩ => by omega
  | m + 1, k, ⟨j, h1, h2, h3⟩ => by
    unfold perF
    by_cases z : it p k x = x
    · rw [if_pos z]
      exact ⟨Nat.le_refl _, by omega, z, fun j a b => by omega⟩
    · rw [if_neg z]
      have hj : k + 1 ≤ j := by
        rcases Nat.lt_or_ge k j with q | q
        · exact q
        · have : j = k := by omega
          subst this
          exact absurd h3 z
      obtain ⟨a, b, c, d⟩ := perF_spec p x m (k + 1) ⟨j, hj, by omega, h3⟩
      refine ⟨by omega, by omega, c, fun i hi hi2 => ?_⟩
      rcases Nat.lt_or_ge k i with q | q
      · exact d i q hi2
      · have : i = k := by omega
        subst this
        exact z
section
variable {p : List Nat} (h : IsP p) {x y : Nat} (hx : x < p.length)
include h hx
theorem per_spec : 1 ≤ per p x ∧ per p x ≤ p.length ∧ it p (per p x) x = x ∧ ∀ j, 1 ≤ j → j < per p x → it p j x ≠ x := by
  obtain ⟨k, h1, h2, h3⟩ := back_ex h hx
  obtain ⟨a, b, c, d⟩ := perF_spec p x p.length 1 ⟨k, h1, by omega, h3⟩
  exact ⟨a, by unfold per; omega, c, d⟩
theorem it_mul (k : Nat) : it p (per p x * k) x = x := by
  induction k with
  | zero => rfl
  | succ k ih => rw [Nat.mul_succ, it_add, ih, (per_spec h hx).2.2.1]
theorem it_mod (k : Nat) : it p k x = it p (k % per p x) x := by
  have e := Nat.div_add_mod k (per p x)
  calc it p k x = it p (per p x * (k / per p x) + k % per p x) x := by rw [e]
    _ = it p (k % per p x) x := by rw [it_add, it_mul h hx]
theorem it_back_iff (k : Nat) : it p k x = x ↔ per p x ∣ k := by
  have hp := (per_spec h hx)
  constructor
  · intro e
    rw [it_mod h hx] at e
    have lt := Nat.mod_lt k (show 0 < per p x from hp.1)
    rcases Nat.eq_zero_or_pos (k % per p x) with z | z
    · exact Nat.dvd_of_mod_eq_zero z
    · exact absurd e (hp.2.2.2 _ z lt)
  · rintro ⟨c, rfl⟩
    exact it_mul h hx c
theorem it_eq_iff {i j : Nat} (hi : i < per p x) (hj : j < per p x) (e : it p i x = it p j x) : i = j := by
  have main : ∀ i j, i < j → j < per p x → it p i x = it p j x → False := fun i j hij hj e => by
    have e2 : j = (j - i) + i := by omega
    rw [e2, it_add] at e
    have e3 := it_inj h hx (it_lt h hx (j - i)) i e
    exact (per_spec h hx).2.2.2 (j - i) (by omega) (by omega) e3.symm
  rcases Nat.lt_trichotomy i j with z | z | z
  · exact (main i j z hj e).elim
  · exact z
  · exact (main j i z hi e.symm).elim
theorem orb_len : (orb p x).length = per p x := by unfold orb; rw [List.length_map, List.length_range]
theorem orb_get {k : Nat} (hk : k < per p x) : (orb p x)[k]? = some (it p k x) := by
  unfold orb
  rw [List.getElem?_map, List.getElem?_range hk]
  rfl
theorem orb_nodup : (orb p x).Nodup := by
  unfold orb
  rw [List.nodup_iff_pairwise_ne, List.pairwise_map]
  refine List.Pairwise.imp_of_mem (fun {i j} hi hj hij e => ?_) (List.pairwise_lt_range (n := per p x))
  rw [List.mem_range] at hi hj
  have := it_eq_iff h hx hi hj e
  omega
theorem mem_orb : y ∈ orb p x ↔ ∃ k, it p k x = y := by
  constructor
  · intro z
    obtain ⟨k, _, e⟩ := List.mem_map.mp z
    exact ⟨k, e⟩
  · rintro ⟨k, rfl⟩
    rw [it_mod h hx]
    exact List.mem_map.mpr ⟨_, List.mem_range.mpr (Nat.mod_lt _ (per_spec h hx).1), rfl⟩
theorem orb_lt (z : y ∈ orb p x) : y < p.length := by
  obtain ⟨k, rfl⟩ := (mem_orb h hx).mp z
  exact it_lt h hx k
theorem self_orb : x ∈ orb p x := (mem_orb h hx).mpr ⟨0, rfl⟩
theorem orb_symm (z : y ∈ orb p x) : x ∈ orb p y := by
  have hy := orb_lt h hx z
  obtain ⟨k, rfl⟩ := (mem_orb h hx).mp z
  refine (mem_orb h hy).mpr ⟨per p x * k - k, ?_⟩
  have hk : k ≤ per p x * k := Nat.le_mul_of_pos_left k (per_spec h hx).1
  rw [← it_add, Nat.add_sub_cancel' hk, it_mul h hx]
theorem orb_trans {z : Nat} (a : y ∈ orb p x) (b : z ∈ orb p y) : z ∈ orb p x := by
  have hy := orb_lt h hx a
  obtain ⟨k, rfl⟩ := (mem_orb h hx).mp a
  obtain ⟨j, rfl⟩ := (mem_orb h hy).mp b
  exact (mem_orb h hx).mpr ⟨k + j, it_add p x k j⟩
end
/-! ### what is seen -/
theorem sn_iff {p : List Nat} {i j : Nat} : sn p i j = true ↔ ∃ f, f < i ∧ j ∈ orb p f := by
  unfold sn
  simp only [List.any_eq_true, List.mem_range, decide_eq_true_eq]
theorem sn_succ (p : List Nat) (i j : Nat) : sn p (i + 1) j = (sn p i j || decide (j ∈ orb p i)) := by
  unfold sn
  rw [List.range_succ, List.any_append]
  simp
theorem sn_seen {p : List Nat} (h : IsP p) {i : Nat} (hi : i < p.length) (s : sn p i i = true) (j : Nat) : sn p (i + 1) j = sn p i j := by
  rw [sn_succ]
  by_cases z : j ∈ orb p i
  · obtain ⟨f, hf, hm⟩ := sn_iff.mp s
    have hfl : f < p.length := by omega
    have : sn p i j = true := sn_iff.mpr ⟨f, hf, orb_trans h hfl hm z⟩
    rw [this]
    rfl
  · simp [z]
theorem sn_fresh {p : List Nat} (h : IsP p) {i : Nat} (hi : i < p.length) (s : sn p i i = false) {j : Nat} (z : j ∈ orb p i) : sn p i j = false := by
  cases e : sn p i j with
  | false => rfl
  | true =>
    obtain ⟨f, hf, hm⟩ := sn_iff.mp e
    have hfl : f < p.length := by omega
    have : sn p i i = true := sn_iff.mpr ⟨f, hf, orb_trans h hfl hm (orb_symm h hi z)⟩
    rw [s] at this
    cases this
theorem cycF_succ (p : List Nat) (i : Nat) : cycF p (i + 1) = cycF p i ++ if (!sn p i i && decide (1 < per p i)) = true then [orb p i] else [] := by
  unfold cycF
  rw [List.range_succ, List.filter_append, List.map_append]
  congr 1
  simp only [List.filter_cons, List.filter_nil]
  split <;> rfl
end Hw

namespace Hw
/-! ### products -/
theorem isP_range (n : Nat) : IsP (List.range n) := ⟨List.nodup_range, fun x hx => by rw [List.length_range]; exact List.mem_range.mp hx⟩
theorem ext_ap {p q : List Nat} (hl : p.length = q.length) (h : ∀ x, x < p.length → ap p x = ap q x) : p = q := by
  apply List.ext_getElem?
  intro x
  by_cases hx : x < p.length
  · rw [ap_get hx, ap_get (by rw [← hl]; exact hx), h x hx]
  · rw [List.getElem?_eq_none (by omega), List.getElem?_eq_none (by omega)]
theorem ap_map {n x : Nat} (f : Nat → Nat) (h : x < n) : ap ((List.range n).map f) x = f x := by
  unfold ap
  rw [List.getD_eq_getElem?_getD, List.getElem?_map, List.getElem?_range h]
  rfl
theorem ap_range {n x : Nat} (h : x < n) : ap (List.range n) x = x := by
  unfold ap
  rw [List.getD_eq_getElem?_getD, List.getElem?_range h]
  rfl
theorem ap_mul {p q : List Nat} {x : Nat} (h : x < p.length) : ap (mul p q) x = ap q (ap p x) := by
  unfold mul
  conv => lhs; unfold ap
  rw [List.getD_eq_getElem?_getD, List.getElem?_map, ap_get h]
  rfl
theorem isP_of_inj {p : List Nat} (h1 : ∀ x, x < p.length → ap p x < p.length) (h2 : ∀ x y, x < p.length → y < p.length → ap p x = ap p y → x = y) : IsP p := by
  refine ⟨?_, fun x hx => ?_⟩
  · rw [List.nodup_iff_pairwise_ne, List.pairwise_iff_getElem]
    intro i j hi hj hij e
    have a1 := ap_get hi
    have a2 := ap_get hj
    rw [List.getElem?_eq_getElem hi] at a1
    rw [List.getElem?_eq_getElem hj] at a2
    have := h2 i j hi hj (by rw [← Option.some.inj a1, ← Option.some.inj a2, e])
    omega
  · obtain ⟨i, hi, e⟩ := List.getElem_of_mem hx
    have a1 := ap_get hi
    rw [List.getElem?_eq_getElem hi] at a1
    rw [← e, Option.some.inj a1]
    exact h1 i hi
theorem isP_mul {p q : List Nat} (hp : IsP p) (hq : IsP q) (hl : p.length = q.length) : IsP (mul p q) := by
  have lt : ∀ x, x < p.length → ap p x < q.length := fun x hx => by rw [← hl]; exact ap_lt hp hx
  refine isP_of_inj (fun x hx => ?_) (fun x y hx hy e => ?_)
  · rw [mul_len] at hx ⊢
    rw [ap_mul hx, hl]
    exact ap_lt hq (lt x hx)
  · rw [mul_len] at hx hy
    rw [ap_mul hx, ap_mul hy] at e
    exact ap_inj hp hx hy (ap_inj hq (lt x hx) (lt y hy) e)
theorem mul_range_left {p : List Nat} {n : Nat} (h : p.length = n) : mul (List.range n) p = p := by
  refine ext_ap (by rw [mul_len, List.length_range, h]) fun x hx => ?_
  rw [mul_len] at hx
  have hx' : x < n := by rw [List.length_range] at hx; exact hx
  rw [ap_mul hx, ap_range hx']
theorem mul_range_right {p : List Nat} {n : Nat} (hp : IsP p) (h : p.length = n) : mul p (List.range n) = p := by
  refine ext_ap (by rw [mul_len]) fun x hx => ?_
  rw [mul_len] at hx
  rw [ap_mul hx, ap_range (by rw [← h]; exact ap_lt hp hx)]
theorem mul_assoc' {p q r : List Nat} (hp : IsP p) (h : p.length = q.length) : mul (mul p q) r = mul p (mul q r) := by
  refine ext_ap (by rw [mul_len, mul_len, mul_len]) fun x hx => ?_
  rw [mul_len, mul_len] at hx
  rw [ap_mul (by rw [mul_len]; exact hx), ap_mul hx, ap_mul hx, ap_mul (by rw [← h]; exact ap_lt hp hx)]
theorem inv_len (p : List Nat) : (inv p).length = p.length := by unfold inv; rw [List.length_map, List.length_range]
theorem ap_inv {p : List Nat} (hp : IsP p) {x : Nat} (hx : x < p.length) : ap (inv p) (ap p x) = x := by
  have hy := ap_lt hp hx
  unfold inv
  rw [ap_map _ hy]
  have h1 : p.idxOf (ap p x) < p.length := List.idxOf_lt_length_iff.mpr (ap_mem hx)
  have h2 : p[p.idxOf (ap p x)] = ap p x := List.getElem_idxOf h1
  have h3 := ap_get hx
  rw [List.getElem?_eq_getElem hx] at h3
  exact (List.getElem_inj (h₀ := h1) (h₁ := hx) hp.1).mp (by rw [h2, Option.some.inj h3])
theorem ap_surj {p : List Nat} (hp : IsP p) {y : Nat} (hy : y < p.length) : ∃ x, x < p.length ∧ ap p x = y := by
  obtain ⟨i, hi, e⟩ := List.getElem_of_mem (isP_mem hp hy)
  have h3 := ap_get hi
  rw [List.getElem?_eq_getElem hi] at h3
  exact ⟨i, hi, by rw [← Option.some.inj h3, e]⟩
theorem ap_inv' {p : List Nat} (hp : IsP p) {y : Nat} (hy : y < p.length) : ap p (ap (inv p) y) = y := by
  obtain ⟨x, hx, rfl⟩ := ap_surj hp hy
  rw [ap_inv hp hx]
theorem isP_inv {p : List Nat} (hp : IsP p) : IsP (inv p) := by
  refine isP_of_inj (fun x hx => ?_) (fun x y hx hy e => ?_)
  · rw [inv_len] at hx ⊢
    obtain ⟨z, hz, rfl⟩ := ap_surj hp hx
    rw [ap_inv hp hz]
    exact hz
  · rw [inv_len] at hx hy
    rw [← ap_inv' hp hx, ← ap_inv' hp hy, e]
theorem mul_inv {p : List Nat} (hp : IsP p) : mul p (inv p) = List.range p.length := by
  refine ext_ap (by rw [mul_len, List.length_range]) fun x hx => ?_
  rw [mul_len] at hx
  rw [ap_mul hx, ap_inv hp hx, ap_range hx]
theorem inv_mul {p : List Nat} (hp : IsP p) : mul (inv p) p = List.range p.length := by
  refine ext_ap (by rw [mul_len, inv_len, List.length_range]) fun x hx => ?_
  rw [mul_len] at hx
  have hx' := hx
  rw [inv_len] at hx'
  rw [ap_mul hx, ap_inv' hp hx', ap_range hx']
theorem inv_inv' {p : List Nat} (hp : IsP p) : inv (inv p) = p := by
  refine ext_ap (by rw [inv_len, inv_len]) fun x hx => ?_
  rw [inv_len, inv_len] at hx
  have h1 := ap_inv (isP_inv hp) (x := ap p x) (by rw [inv_len]; exact ap_lt hp hx)
  rw [ap_inv hp hx] at h1
  exact h1
/-- an inverse is known by its product -/
theorem inv_of {p q : List Nat} (hp : IsP p) (hl : q.length = p.length) (h : ∀ x, x < p.length → ap q (ap p x) = x) : q = inv p := by
  refine ext_ap (by rw [inv_len, hl]) fun y hy => ?_
  rw [hl] at hy
  obtain ⟨x, hx, rfl⟩ := ap_surj hp hy
  rw [h x hx, ap_inv hp hx]
/-! ### powers, order -/
theorem it_succ' (p : List Nat) (k x : Nat) : it p (k + 1) x = it p k (ap p x) := by
  rw [Nat.add_comm, it_add]
  rfl
section
variable {p : List Nat} (h : IsP p)
include h
theorem per_orb {f x : Nat} (hf : f < p.length) (hx : x ∈ orb p f) : per p x = per p f := by
  have hxl := orb_lt h hf hx
  obtain ⟨j, rfl⟩ := (mem_orb h hf).mp hx
  have key : ∀ k, per p (it p j f) ∣ k ↔ per p f ∣ k := fun k => by
    rw [← it_back_iff h hxl, ← it_back_iff h hf, ← it_add, Nat.add_comm, it_add]
    exact ⟨fun e => it_inj h (it_lt h hf k) hf j e, fun e => by rw [e]⟩
  exact Nat.dvd_antisymm ((key _).mpr (Nat.dvd_refl _)) ((key _).mp (Nat.dvd_refl _))
/-- everyone lies on the way of a least one -/
theorem low_ex {x : Nat} (hx : x < p.length) : ∃ f, f ≤ x ∧ sn p f f = false ∧ x ∈ orb p f := by
  have main : ∀ m f, f ≤ m → f ≤ x → x ∈ orb p f → ∃ f, f ≤ x ∧ sn p f f = false ∧ x ∈ orb p f := by
    intro m
    induction m with
    | zero =>
      intro f hf hfx hm
      have : f = 0 := by omega
      subst this
      exact ⟨0, by omega, rfl, hm⟩
    | succ m ih =>
      intro f hf hfx hm
      cases e : sn p f f with
      | false => exact ⟨f, hfx, e, hm⟩
      | true =>
        obtain ⟨g, hg, hgm⟩ := sn_iff.mp e
        exact ih g (by omega) (by omega) (orb_trans h (by omega) hgm hm)
  exact main x x (Nat.le_refl _) (Nat.le_refl _) (self_orb h hx)
theorem mem_cyc {c : List Nat} : c ∈ cyc p ↔ ∃ f, f < p.length ∧ sn p f f = false ∧ 1 < per p f ∧ c = orb p f := by
  unfold cyc cycF
  simp only [List.mem_map, List.mem_filter, List.mem_range, Bool.and_eq_true, Bool.not_eq_true', decide_eq_true_eq]
  constructor
  · rintro ⟨f, ⟨hf, h1, h2⟩, rfl⟩
    exact ⟨f, hf, h1, h2, rfl⟩
  · rintro ⟨f, hf, h1, h2, rfl⟩
    exact ⟨f, ⟨hf, h1, h2⟩, rfl⟩
theorem lcm_fold (k : Nat) : ∀ (cs : List (List Nat)) (r : Nat), cs.foldl (fun r c => Nat.lcm r c.length) r ∣ k ↔ r ∣ k ∧ ∀ c ∈ cs, c.length ∣ k
  | [], r => by simp
  | c :: cs, r => by
    rw [List.foldl_cons, lcm_fold k cs, Nat.lcm_dvd_iff]
    simp only [List.mem_cons, forall_eq_or_imp]
    exact ⟨fun ⟨⟨a, b⟩, c⟩ => ⟨a, b, c⟩, fun ⟨a, b, c⟩ => ⟨⟨a, b⟩, c⟩⟩
theorem ord_dvd (k : Nat) : ord p ∣ k ↔ ∀ x, x < p.length → it p k x = x := by
  unfold ord
  rw [lcm_fold h]
  constructor
  · rintro ⟨_, hc⟩ x hx
    obtain ⟨f, hfx, hs, hm⟩ := low_ex h hx
    have hf : f < p.length := by omega
    rw [it_back_iff h hx, per_orb h hf hm]
    by_cases z : 1 < per p f
    · have := hc (orb p f) ((mem_cyc h).mpr ⟨f, hf, hs, z, rfl⟩)
      rw [orb_len h hf] at this
      exact this
    · have := (per_spec h hf).1
      have e : per p f = 1 := by omega
      rw [e]
      exact Nat.one_dvd _
  · intro hk
    refine ⟨Nat.one_dvd _, fun c hc => ?_⟩
    obtain ⟨f, hf, _, _, rfl⟩ := (mem_cyc h).mp hc
    rw [orb_len h hf, ← it_back_iff h hf]
    exact hk f hf
theorem fold_pos : ∀ (cs : List (List Nat)) (r : Nat), 0 < r → (∀ c ∈ cs, 0 < c.length) → 0 < cs.foldl (fun r c => Nat.lcm r c.length) r
  | [], _, hr, _ => hr
  | c :: cs, r, hr, hc => fold_pos cs _ (Nat.lcm_pos hr (hc c List.mem_cons_self)) fun d hd => hc d (List.mem_cons_of_mem _ hd)
theorem cyc_len {c : List Nat} (hc : c ∈ cyc p) : 2 ≤ c.length ∧ c.length ≤ p.length := by
  obtain ⟨f, hf, _, h1, rfl⟩ := (mem_cyc h).mp hc
  rw [orb_len h hf]
  exact ⟨h1, (per_spec h hf).2.1⟩
theorem ord_pos : 0 < ord p := by
  unfold ord
  refine fold_pos h _ 1 (by omega) fun c hc => ?_
  have := cyc_len h hc
  omega
theorem cyc_dvd (hl : p.length ≤ 12) {c : List Nat} (hc : c ∈ cyc p) : c.length ∣ 27720 := by
  have h1 := cyc_len h hc
  have h2 : ∀ k, k ≤ 12 → 2 ≤ k → k ∣ 27720 := by decide
  exact h2 _ (by omega) h1.1
/-- p done j + 1 times -/
def tn (p : List Nat) (j : Nat) : List Nat := (List.range p.length).map fun x => it p (j + 1) x
omit h in
theorem tn_len (j : Nat) : (tn p j).length = p.length := by unfold tn; rw [List.length_map, List.length_range]
omit h in
theorem tn_zero : tn p 0 = p := by
  refine ext_ap (tn_len 0) fun x hx => ?_
  rw [tn_len] at hx
  unfold tn
  rw [ap_map _ hx]
  rfl
theorem tn_succ (j : Nat) : mul (tn p j) p = tn p (j + 1) := by
  refine ext_ap (by rw [mul_len, tn_len, tn_len]) fun x hx => ?_
  rw [mul_len, tn_len] at hx
  rw [ap_mul (by rw [tn_len]; exact hx)]
  unfold tn
  rw [ap_map _ hx, ap_map _ hx]
  rfl
theorem isP_tn : ∀ j, IsP (tn p j)
  | 0 => by rw [tn_zero]; exact h
  | j + 1 => by
    rw [← tn_succ h]
    exact isP_mul (isP_tn j) h (tn_len j)
theorem tn_idle (j : Nat) : tn p j = List.range p.length ↔ ord p ∣ j + 1 := by
  rw [ord_dvd h]
  constructor
  · intro e x hx
    have := congrArg (fun l => ap l x) e
    have this : ap (tn p j) x = ap (List.range p.length) x := this
    unfold tn at this
    rw [ap_map _ hx, ap_range hx] at this
    exact this
  · intro hk
    refine ext_ap (by rw [tn_len, List.length_range]) fun x hx => ?_
    rw [tn_len] at hx
    unfold tn
    rw [ap_map _ hx, ap_range hx, hk x hx]
theorem it_inv {x : Nat} (hx : x < p.length) : ∀ k, it p k (it (inv p) k x) = x
  | 0 => rfl
  | k + 1 => by
    have hq := isP_inv h
    have hlt := it_lt hq (x := x) (by rw [inv_len]; exact hx) k
    rw [inv_len] at hlt
    rw [it_succ']
    show it p k (ap p (ap (inv p) (it (inv p) k x))) = x
    rw [ap_inv' h hlt]
    exact it_inv hx k
theorem ord_inv : ord (inv p) = ord p := by
  have hq := isP_inv h
  have one : ∀ p : List Nat, IsP p → ∀ k, ord p ∣ k → ord (inv p) ∣ k := fun p h k hk => by
    rw [ord_dvd h] at hk
    rw [ord_dvd (isP_inv h), inv_len]
    intro x hx
    have hlt := it_lt (isP_inv h) (x := x) (by rw [inv_len]; exact hx) k
    rw [inv_len] at hlt
    have e1 := hk _ hlt
    rw [it_inv h hx k] at e1
    exact e1.symm
  refine Nat.dvd_antisymm (one p h _ (Nat.dvd_refl _)) ?_
  have := one (inv p) hq (ord (inv p)) (Nat.dvd_refl _)
  rw [inv_inv' h] at this
  exact this
end
/-- the same powers, the same order -/
theorem ord_eq {p q : List Nat} (hp : IsP p) (hq : IsP q) (h : ∀ k, (∀ x, x < p.length → it p k x = x) ↔ ∀ x, x < q.length → it q k x = x) : ord p = ord q := by
  refine Nat.dvd_antisymm ?_ ?_
  · rw [ord_dvd hp, h, ← ord_dvd hq]
    exact Nat.dvd_refl _
  · rw [ord_dvd hq, ← h, ← ord_dvd hp]
    exact Nat.dvd_refl _
/-! ### one cycle alone -/
def mvF (p : List Nat) (s : List Nat) (x : Nat) : Nat := if x ∈ s then ap p x else x
/-- only those of s are moved -/
def mv (p : List Nat) (s : List Nat) : List Nat := (List.range p.length).map (mvF p s)
theorem mv_len (p s : List Nat) : (mv p s).length = p.length := by unfold mv; rw [List.length_map, List.length_range]
theorem ap_mv {p s : List Nat} {x : Nat} (hx : x < p.length) : ap (mv p s) x = mvF p s x := by unfold mv; rw [ap_map _ hx]
section
variable {p : List Nat} (h : IsP p) {s : List Nat} (hs : ∀ x, x < p.length → (x ∈ s ↔ ap p x ∈ s))
include h hs
theorem isP_mv : IsP (mv p s) := by
  refine isP_of_inj (fun x hx => ?_) (fun x y hx hy e => ?_)
  · rw [mv_len] at hx ⊢
    rw [ap_mv hx]
    unfold mvF
    split
    · exact ap_lt h hx
    · exact hx
  · rw [mv_len] at hx hy
    rw [ap_mv hx, ap_mv hy] at e
    unfold mvF at e
    by_cases a : x ∈ s
    · by_cases b : y ∈ s
      · rw [if_pos a, if_pos b] at e
        exact ap_inj h hx hy e
      · rw [if_pos a, if_neg b] at e
        have := (hs x hx).mp a
        rw [e] at this
        exact absurd this b
    · by_cases b : y ∈ s
      · rw [if_neg a, if_pos b] at e
        have := (hs y hy).mp b
        rw [← e] at this
        exact absurd this a
      · rw [if_neg a, if_neg b] at e
        exact e
theorem it_mv {x : Nat} (hx : x < p.length) : ∀ k, it (mv p s) k x = if x ∈ s then it p k x else x
  | 0 => by split <;> rfl
  | k + 1 => by
    have ih := it_mv hx k
    show ap (mv p s) (it (mv p s) k x) = _
    rw [ih]
    by_cases a : x ∈ s
    · rw [if_pos a, if_pos a]
      have hlt := it_lt h hx k
      have inS : ∀ k, it p k x ∈ s := fun k => by
        induction k with
        | zero => exact a
        | succ k ih2 => exact (hs _ (it_lt h hx k)).mp ih2
      rw [ap_mv hlt]
      unfold mvF
      rw [if_pos (inS k)]
      rfl
    · rw [if_neg a, if_neg a, ap_mv hx]
      unfold mvF
      rw [if_neg a]
end
theorem orb_step {p : List Nat} (h : IsP p) {f : Nat} (hf : f < p.length) {x : Nat} (hx : x < p.length) : x ∈ orb p f ↔ ap p x ∈ orb p f := by
  constructor
  · intro m
    obtain ⟨k, rfl⟩ := (mem_orb h hf).mp m
    exact (mem_orb h hf).mpr ⟨k + 1, rfl⟩
  · intro m
    have hy := ap_lt h hx
    have m1 : ap p x ∈ orb p x := (mem_orb h hx).mpr ⟨1, rfl⟩
    exact orb_trans h hf m (orb_symm h hx m1)
theorem ord_mv {p : List Nat} (h : IsP p) {f : Nat} (hf : f < p.length) : ord (mv p (orb p f)) = per p f := by
  have hs : ∀ x, x < p.length → (x ∈ orb p f ↔ ap p x ∈ orb p f) := fun x hx => orb_step h hf hx
  have key : ∀ k, ord (mv p (orb p f)) ∣ k ↔ per p f ∣ k := fun k => by
    rw [ord_dvd (isP_mv h hs), mv_len, ← it_back_iff h hf]
    constructor
    · intro hk
      have := hk f hf
      rw [it_mv h hs hf, if_pos (self_orb h hf)] at this
      exact this
    · intro e x hx
      rw [it_mv h hs hx]
      split
      · rename_i m
        rw [it_back_iff h hx, per_orb h hf m, ← it_back_iff h hf]
        exact e
      · rfl
  exact Nat.dvd_antisymm ((key _).mpr (Nat.dvd_refl _)) ((key _).mp (Nat.dvd_refl _))
end Hw

namespace Hw
/-! ### sums -/
def sm (n : Nat) (F : Nat → Int) : Int := ((List.range n).map F).sum
theorem sm_zero (F : Nat → Int) : sm 0 F = 0 := rfl
theorem sm_succ (n : Nat) (F : Nat → Int) : sm (n + 1) F = sm n F + F n := by
  unfold sm
  rw [List.range_succ, List.map_append, List.sum_append]
  simp
theorem sm_congr {n : Nat} {F G : Nat → Int} (h : ∀ i, i < n → F i = G i) : sm n F = sm n G := by
  unfold sm
  congr 1
  exact List.map_congr_left fun i hi => h i (List.mem_range.mp hi)
theorem sm_add (F G : Nat → Int) : ∀ n, sm n (fun i => F i + G i) = sm n F + sm n G
  | 0 => rfl
  | n + 1 => by
    rw [sm_succ, sm_succ, sm_succ, sm_add F G n]
    omega
theorem sm_comb (F G T : Nat → Int) : ∀ n, sm n (fun i => F i + G i - 2 * T i) = sm n F + sm n G - 2 * sm n T
  | 0 => rfl
  | n + 1 => by
    rw [sm_succ, sm_succ, sm_succ, sm_succ, sm_comb F G T n]
    omega
def dd (n : Nat) (y : Nat → Nat → Int) : Int := sm n fun i => sm n fun j => y i j
theorem dd_sym {y : Nat → Nat → Int} (hs : ∀ i j, y i j = y j i) (h0 : ∀ i, y i i = 0) : ∀ n, dd n y = 2 * sm n fun j => sm j fun i => y i j
  | 0 => rfl
  | n + 1 => by
    have ih := dd_sym hs h0 n
    unfold dd at ih ⊢
    rw [sm_succ, sm_succ, sm_succ, h0]
    have e1 : (sm n fun i => sm (n + 1) fun j => y i j) = (sm n fun i => sm n fun j => y i j) + sm n fun i => y i n := by
      rw [← sm_add]
      exact sm_congr fun i _ => sm_succ n _
    have e2 : (sm n fun j => y n j) = sm n fun i => y i n := sm_congr fun i _ => hs n i
    rw [e1, e2, ih]
    omega
theorem perm_sum {l m : List Int} (h : l.Perm m) : l.sum = m.sum := by
  induction h with
  | nil => rfl
  | cons x _ ih => rw [List.sum_cons, List.sum_cons, ih]
  | swap x y l => simp only [List.sum_cons]; omega
  | trans _ _ a b => rw [a, b]
theorem nodup_count {l : List Nat} (h : l.Nodup) (a : Nat) : l.count a = if a ∈ l then 1 else 0 := by
  induction l with
  | nil => rfl
  | cons x r ih =>
    obtain ⟨h1, h2⟩ := List.nodup_cons.mp h
    rw [List.count_cons, ih h2]
    by_cases e : x = a
    · subst e
      simp [h1]
    · have e' : ¬ a = x := fun z => e z.symm
      simp [e, e']
theorem perm_of_mem {l m : List Nat} (hl : l.Nodup) (hm : m.Nodup) (h : ∀ x, x ∈ l ↔ x ∈ m) : l.Perm m := by
  rw [List.perm_iff_count]
  intro a
  rw [nodup_count hl, nodup_count hm]
  simp only [h a]
theorem perm_range {p : List Nat} (hp : IsP p) : p.Perm (List.range p.length) :=
  perm_of_mem hp.1 List.nodup_range fun x => ⟨fun m => List.mem_range.mpr (hp.2 x m), fun m => isP_mem hp (List.mem_range.mp m)⟩
theorem map_ap (p : List Nat) : (List.range p.length).map (ap p) = p := by
  refine ext_ap (by rw [List.length_map, List.length_range]) fun x hx => ?_
  rw [List.length_map, List.length_range] at hx
  rw [ap_map _ hx]
theorem sm_perm {p : List Nat} (hp : IsP p) (F : Nat → Int) : (sm p.length fun i => F (ap p i)) = sm p.length F := by
  unfold sm
  have e : (List.range p.length).map (fun i => F (ap p i)) = p.map F := by
    conv => rhs; rw [← map_ap p]
    rw [List.map_map]
    rfl
  rw [e]
  exact perm_sum ((perm_range hp).map F)
/-! ### pairs that stand the other way -/
def xx (p : List Nat) (i j : Nat) : Int := if decide (i < j) = decide (ap p i < ap p j) then 0 else 1
theorem xx_self (p : List Nat) (i : Nat) : xx p i i = 0 := by unfold xx; simp
theorem xx_sym {p : List Nat} (hp : IsP p) {i j : Nat} (hi : i < p.length) (hj : j < p.length) : xx p i j = xx p j i := by
  unfold xx
  by_cases e : i = j
  · subst e; rfl
  · have ne : ap p i ≠ ap p j := fun z => e (ap_inj hp hi hj z)
    have a : decide (i < j) = !decide (j < i) := by
      by_cases q : i < j
      · have : ¬ j < i := by omega
        simp [q, this]
      · have : j < i := by omega
        simp [q, this]
    have b : decide (ap p i < ap p j) = !decide (ap p j < ap p i) := by
      by_cases q : ap p i < ap p j
      · have : ¬ ap p j < ap p i := by omega
        simp [q, this]
      · have : ap p j < ap p i := by omega
        simp [q, this]
    rw [a, b]
    cases decide (j < i) <;> cases decide (ap p j < ap p i) <;> rfl
/-- xx within n, else nothing: symmetric everywhere -/
def xn (n : Nat) (y : Nat → Nat → Int) (i j : Nat) : Int := if i < n ∧ j < n then y i j else 0
theorem dd_xn (n : Nat) (y : Nat → Nat → Int) : dd n (xn n y) = dd n y := by
  unfold dd
  refine sm_congr fun i hi => sm_congr fun j hj => ?_
  unfold xn
  rw [if_pos ⟨hi, hj⟩]
theorem dd_half {n : Nat} {y : Nat → Nat → Int} (hs : ∀ i j, i < n → j < n → y i j = y j i) (h0 : ∀ i, y i i = 0) : dd n y = 2 * sm n fun j => sm j fun i => y i j := by
  rw [← dd_xn, dd_sym (y := xn n y)]
  · congr 1
    refine sm_congr fun j hj => sm_congr fun i hi => ?_
    unfold xn
    rw [if_pos ⟨by omega, hj⟩]
  · intro i j
    unfold xn
    by_cases q : i < n ∧ j < n
    · rw [if_pos q, if_pos ⟨q.2, q.1⟩]
      exact hs i j q.1 q.2
    · rw [if_neg q, if_neg (fun z => q ⟨z.2, z.1⟩)]
  · intro i
    unfold xn
    split
    · exact h0 i
    · rfl
theorem len_filter (P : Nat → Bool) : ∀ l : List Nat, ((l.filter P).length : Int) = (l.map fun x => if P x = true then (1 : Int) else 0).sum
  | [] => rfl
  | x :: r => by
    rw [List.map_cons, List.sum_cons, ← len_filter P r, List.filter_cons]
    by_cases e : P x = true
    · rw [if_pos e, if_pos e, List.length_cons]
      omega
    · rw [if_neg e, if_neg e]
      omega
theorem take_ap {p : List Nat} {j : Nat} (hj : j ≤ p.length) : p.take j = (List.range j).map (ap p) := by
  conv => lhs; rw [← map_ap p]
  rw [← List.map_take, List.take_range, Nat.min_eq_left hj]
theorem invs_sm {p : List Nat} (hp : IsP p) : (invs p : Int) = sm p.length fun j => sm j fun i => xx p i j := by
  unfold invs
  have e : ∀ l : List Nat, (((l.map (invAt p)).sum : Nat) : Int) = (l.map fun j => (invAt p j : Int)).sum := by
    intro l
    induction l with
    | nil => rfl
    | cons x r ih =>
      rw [List.map_cons, List.map_cons, List.sum_cons, List.sum_cons, ← ih]
      omega
  rw [e]
  refine sm_congr fun j hj => ?_
  unfold invAt
  rw [len_filter, take_ap (by omega), List.map_map]
  refine sm_congr fun i hi => ?_
  show (if decide (ap p j < ap p i) = true then (1 : Int) else 0) = xx p i j
  unfold xx
  have ne : ap p i ≠ ap p j := fun z => by
    have := ap_inj hp (by omega) hj z
    omega
  by_cases q : ap p j < ap p i
  · have q2 : ¬ ap p i < ap p j := by omega
    simp [q, q2, hi]
  · have q2 : ap p i < ap p j := by omega
    simp [q, q2, hi]
theorem dd_invs {p : List Nat} (hp : IsP p) : dd p.length (xx p) = 2 * (invs p : Int) := by
  rw [invs_sm hp]
  exact dd_half (fun i j hi hj => xx_sym hp hi hj) (xx_self p)
theorem bool3 (a b c : Bool) : (if a = c then (0 : Int) else 1) = (if a = b then (0 : Int) else 1) + (if b = c then (0 : Int) else 1) - 2 * ((if a = b then (0 : Int) else 1) * (if b = c then (0 : Int) else 1)) := by
  cases a <;> cases b <;> cases c <;> decide
theorem invs_mul {p q : List Nat} (hp : IsP p) (hq : IsP q) (hl : p.length = q.length) : ∃ t : Int, (invs (mul p q) : Int) = invs p + invs q - 2 * t := by
  have hpq := isP_mul hp hq hl
  have lt : ∀ i, i < p.length → ap p i < q.length := fun i hi => by rw [← hl]; exact ap_lt hp hi
  have e1 := dd_invs hpq
  rw [mul_len] at e1
  have e2 : dd p.length (xx (mul p q)) = dd p.length (xx p) + dd p.length (fun i j => xx q (ap p i) (ap p j)) - 2 * dd p.length (fun i j => xx p i j * xx q (ap p i) (ap p j)) := by
    unfold dd
    rw [← sm_comb]
    refine sm_congr fun i hi => ?_
    rw [← sm_comb]
    refine sm_congr fun j hj => ?_
    unfold xx
    rw [ap_mul hi, ap_mul hj]
    exact bool3 _ _ _
  have e3 : dd p.length (fun i j => xx q (ap p i) (ap p j)) = dd q.length (xx q) := by
    unfold dd
    have a : (sm p.length fun i => sm p.length fun j => xx q (ap p i) (ap p j)) = sm p.length fun i => sm p.length fun j => xx q (ap p i) j :=
      sm_congr fun i _ => sm_perm hp fun j => xx q (ap p i) j
    rw [a, sm_perm hp (fun i => sm p.length fun j => xx q i j), hl]
  have e4 := dd_half (n := p.length) (y := fun i j => xx p i j * xx q (ap p i) (ap p j)) (fun i j hi hj => by
    rw [xx_sym hp hi hj, xx_sym hq (lt i hi) (lt j hj)]) (fun i => by rw [xx_self]; simp)
  rw [dd_invs hp, e3, dd_invs hq, e4, e1] at e2
  exact ⟨sm p.length fun j => sm j fun i => xx p i j * xx q (ap p i) (ap p j), by omega⟩
theorem sgn_mul {p q : List Nat} (hp : IsP p) (hq : IsP q) (hl : p.length = q.length) : (invs (mul p q) : Int) % 2 = ((invs p : Int) + invs q) % 2 := by
  obtain ⟨t, e⟩ := invs_mul hp hq hl
  omega
end Hw

namespace Hw
/-! ### exchanges of two -/
def swF (i j x : Nat) : Nat := if x = i then j else if x = j then i else x
def sw (n i j : Nat) : List Nat := (List.range n).map (swF i j)
theorem sw_len (n i j : Nat) : (sw n i j).length = n := by unfold sw; rw [List.length_map, List.length_range]
theorem ap_sw {n i j x : Nat} (h : x < n) : ap (sw n i j) x = swF i j x := by unfold sw; rw [ap_map _ h]
theorem isP_sw {n i j : Nat} (hi : i < n) (hj : j < n) : IsP (sw n i j) := by
  refine isP_of_inj (fun x hx => ?_) (fun x y hx hy e => ?_)
  · rw [sw_len] at hx ⊢
    rw [ap_sw hx]
    unfold swF
    split
    · exact hj
    · split
      · exact hi
      · exact hx
  · rw [sw_len] at hx hy
    rw [ap_sw hx, ap_sw hy] at e
    unfold swF at e
    repeat (first | omega | split at e)
theorem sw_all : ∀ n, n ≤ 12 → ∀ i, i < n → ∀ j, j < n → i ≠ j → invs (sw n i j) % 2 = 1 := by decide +kernel
theorem sgn_sw {n i j : Nat} (hn : n ≤ 12) (hi : i < n) (hj : j < n) (h : i ≠ j) : (invs (sw n i j) : Int) % 2 = 1 := by
  have := sw_all n hn i hi j hj h
  omega
theorem invs_range_all : ∀ n, n ≤ 12 → invs (List.range n) = 0 := by decide +kernel
/-! ### a cycle, exchange by exchange -/
def ptF (p : List Nat) (f k x : Nat) : Nat := if x ∈ (orb p f).take k then (if x = it p (k - 1) f then f else ap p x) else x
def pt (p : List Nat) (f k : Nat) : List Nat := (List.range p.length).map (ptF p f k)
theorem pt_len (p : List Nat) (f k : Nat) : (pt p f k).length = p.length := by unfold pt; rw [List.length_map, List.length_range]
theorem ap_pt {p : List Nat} {f k x : Nat} (hx : x < p.length) : ap (pt p f k) x = ptF p f k x := by unfold pt; rw [ap_map _ hx]
section
variable {p : List Nat} (h : IsP p) {f : Nat} (hf : f < p.length)
include h hf
theorem mem_orb_take {k x : Nat} (hk : k ≤ per p f) : x ∈ (orb p f).take k ↔ ∃ i, i < k ∧ it p i f = x := by
  rw [List.mem_take_iff_getElem]
  constructor
  · rintro ⟨j, hj, e⟩
    have h1 := orb_get h hf (k := j) (by omega)
    have h2 := List.getElem?_eq_getElem (l := orb p f) (i := j) (by omega)
    rw [h1] at h2
    exact ⟨j, by omega, by rw [Option.some.inj h2, e]⟩
  · rintro ⟨i, hi, rfl⟩
    have hl := orb_len h hf
    refine ⟨i, by omega, ?_⟩
    have h1 := orb_get h hf (k := i) (by omega)
    have h2 := List.getElem?_eq_getElem (l := orb p f) (i := i) (by omega)
    rw [h1] at h2
    exact (Option.some.inj h2).symm
theorem pt_one : pt p f 1 = List.range p.length := by
  have ps := per_spec h hf
  refine ext_ap (by rw [pt_len, List.length_range]) fun x hx => ?_
  rw [pt_len] at hx
  rw [ap_pt hx, ap_range hx]
  unfold ptF
  by_cases m : x ∈ (orb p f).take 1
  · rw [if_pos m]
    obtain ⟨i, hi, e⟩ := (mem_orb_take h hf ps.1).mp m
    have : i = 0 := by omega
    subst this
    have e' : f = x := e
    show (if x = f then f else ap p x) = x
    rw [if_pos e'.symm]
    exact e'
  · rw [if_neg m]
theorem pt_succ {k : Nat} (h1 : 1 ≤ k) (h2 : k < per p f) : pt p f (k + 1) = mul (pt p f k) (sw p.length f (it p k f)) := by
  have hk := it_lt h hf k
  have ptlt : ∀ x, x < p.length → ptF p f k x < p.length := fun x hx => by
    unfold ptF
    repeat (first | exact ap_lt h hx | exact hf | exact hx | split)
  refine ext_ap (by rw [pt_len, mul_len, pt_len]) fun x hx => ?_
  rw [pt_len] at hx
  rw [ap_pt hx, ap_mul (by rw [pt_len]; exact hx), ap_pt hx, ap_sw (ptlt x hx)]
  have inj : ∀ {i j}, i < per p f → j < per p f → it p i f = it p j f → i = j := fun hi hj e => it_eq_iff h hf hi hj e
  by_cases m : x ∈ (orb p f).take k
  · obtain ⟨i, hi, rfl⟩ := (mem_orb_take h hf (by omega)).mp m
    have m2 : it p i f ∈ (orb p f).take (k + 1) := (mem_orb_take h hf (by omega)).mpr ⟨i, by omega, rfl⟩
    have nk : it p i f ≠ it p k f := fun e => by
      have := inj (by omega) h2 e
      omega
    have a1 : ptF p f (k + 1) (it p i f) = it p (i + 1) f := by
      unfold ptF
      rw [if_pos m2, Nat.add_sub_cancel, if_neg nk]
      rfl
    rw [a1]
    by_cases e : i = k - 1
    · have a2 : ptF p f k (it p i f) = f := by
        unfold ptF
        rw [if_pos m, e, if_pos rfl]
      rw [a2]
      unfold swF
      rw [if_pos rfl]
      have : i + 1 = k := by omega
      rw [this]
    · have ne : it p i f ≠ it p (k - 1) f := fun z => e (inj (by omega) (by omega) z)
      have a2 : ptF p f k (it p i f) = it p (i + 1) f := by
        unfold ptF
        rw [if_pos m, if_neg ne]
        rfl
      rw [a2]
      unfold swF
      rw [if_neg (fun z => by
        have := inj (i := i + 1) (j := 0) (by omega) (by omega) z
        omega), if_neg (fun z => by
        have := inj (i := i + 1) (j := k) (by omega) (by omega) z
        omega)]
  · have a2 : ptF p f k x = x := by
      unfold ptF
      rw [if_neg m]
    rw [a2]
    have nf : x ≠ f := fun e => m ((mem_orb_take h hf (by omega)).mpr ⟨0, by omega, e.symm⟩)
    by_cases e : x = it p k f
    · have m2 : x ∈ (orb p f).take (k + 1) := (mem_orb_take h hf (by omega)).mpr ⟨k, by omega, e.symm⟩
      unfold ptF swF
      rw [if_pos m2, Nat.add_sub_cancel, if_pos e, if_neg nf, if_pos e]
    · have m2 : x ∉ (orb p f).take (k + 1) := fun z => by
        obtain ⟨i, hi, e2⟩ := (mem_orb_take h hf (by omega)).mp z
        by_cases q : i = k
        · exact e (by rw [← e2, q])
        · exact m ((mem_orb_take h hf (by omega)).mpr ⟨i, by omega, e2⟩)
      unfold ptF swF
      rw [if_neg m2, if_neg nf, if_neg e]
theorem pt_all : pt p f (per p f) = mv p (orb p f) := by
  have ps := per_spec h hf
  refine ext_ap (by rw [pt_len, mv_len]) fun x hx => ?_
  rw [pt_len] at hx
  rw [ap_pt hx, ap_mv hx]
  unfold ptF mvF
  have e1 : (orb p f).take (per p f) = orb p f := by rw [← orb_len h hf, List.take_length]
  rw [e1]
  by_cases m : x ∈ orb p f
  · rw [if_pos m, if_pos m]
    by_cases e : x = it p (per p f - 1) f
    · rw [if_pos e, e]
      have : per p f = (per p f - 1) + 1 := by omega
      have e2 := ps.2.2.1
      rw [this] at e2
      exact e2.symm
    · rw [if_neg e]
  · rw [if_neg m, if_neg m]
theorem pt_sgn (hn : p.length ≤ 12) : ∀ k, k + 1 ≤ per p f → IsP (pt p f (k + 1)) ∧ (invs (pt p f (k + 1)) : Int) % 2 = (k : Int) % 2
  | 0, _ => by
    rw [pt_one h hf]
    refine ⟨isP_range _, ?_⟩
    rw [invs_range_all _ hn]
  | k + 1, hk => by
    obtain ⟨i1, i2⟩ := pt_sgn hn k (by omega)
    have hs := isP_sw hf (it_lt h hf (k + 1))
    have hl : (pt p f (k + 1)).length = (sw p.length f (it p (k + 1) f)).length := by rw [pt_len, sw_len]
    rw [pt_succ h hf (by omega) (by omega)]
    refine ⟨isP_mul i1 hs hl, ?_⟩
    rw [sgn_mul i1 hs hl]
    have ne : f ≠ it p (k + 1) f := fun e => by
      have := it_eq_iff h hf (i := 0) (j := k + 1) (by omega) (by omega) e
      omega
    have := sgn_sw hn hf (it_lt h hf (k + 1)) ne
    omega
theorem sgn_mv (hn : p.length ≤ 12) : (invs (mv p (orb p f)) : Int) % 2 = ((per p f : Int) - 1) % 2 := by
  have ps := per_spec h hf
  have := (pt_sgn h hf hn (per p f - 1) (by omega)).2
  rw [show per p f - 1 + 1 = per p f by omega, pt_all h hf] at this
  omega
end
end Hw

namespace Hw
/-! ### all cycles -/
section
variable {p : List Nat} (h : IsP p)
include h
theorem orb_disj {f g : Nat} (hf : f < p.length) (hg : g < p.length) (hfg : f < g) (sg : sn p g g = false) {x : Nat} (a : x ∈ orb p f) : x ∉ orb p g := fun b => by
  have : sn p g g = true := sn_iff.mpr ⟨f, hfg, orb_trans h hf a (orb_symm h hg b)⟩
  rw [sg] at this
  cases this
theorem cyc_pw : (cyc p).Pairwise fun c d => ∃ f g, f < p.length ∧ g < p.length ∧ f < g ∧ sn p f f = false ∧ sn p g g = false ∧ c = orb p f ∧ d = orb p g := by
  unfold cyc cycF
  rw [List.pairwise_map]
  refine List.Pairwise.imp_of_mem (fun {f g} hf hg hfg => ?_) (List.Pairwise.filter _ (List.pairwise_lt_range (n := p.length)))
  obtain ⟨a1, a2⟩ := List.mem_filter.mp hf
  obtain ⟨b1, b2⟩ := List.mem_filter.mp hg
  rw [List.mem_range] at a1 b1
  simp only [Bool.and_eq_true, Bool.not_eq_true'] at a2 b2
  exact ⟨f, g, a1, b1, hfg, a2.1, b2.1, rfl, rfl⟩
theorem cyc_disj {i j : Nat} {c d : List Nat} (hij : i < j) (hc : (cyc p)[i]? = some c) (hd : (cyc p)[j]? = some d) {x : Nat} (a : x ∈ c) : x ∉ d := by
  obtain ⟨hi, e1⟩ := List.getElem?_eq_some_iff.mp hc
  obtain ⟨hj, e2⟩ := List.getElem?_eq_some_iff.mp hd
  obtain ⟨f, g, hf, hg, hfg, _, sg, ec, ed⟩ := List.pairwise_iff_getElem.mp (cyc_pw h) i j hi hj hij
  rw [e1] at ec
  rw [e2] at ed
  rw [ec] at a
  rw [ed]
  exact orb_disj h hf hg hfg sg a
theorem flat_nodup : (cyc p).flatten.Nodup := by
  rw [List.nodup_iff_pairwise_ne, List.pairwise_flatten]
  refine ⟨fun c hc => ?_, List.Pairwise.imp (fun {c d} => ?_) (cyc_pw h)⟩
  · obtain ⟨f, hf, _, _, rfl⟩ := (mem_cyc h).mp hc
    exact List.nodup_iff_pairwise_ne.mp (orb_nodup h hf)
  · rintro ⟨f, g, hf, hg, hfg, _, sg, rfl, rfl⟩ x hx y hy e
    subst e
    exact orb_disj h hf hg hfg sg hx hy
theorem mem_flat {x : Nat} (hx : x < p.length) : x ∈ (cyc p).flatten ↔ ap p x ≠ x := by
  rw [List.mem_flatten]
  constructor
  · rintro ⟨c, hc, m⟩
    obtain ⟨f, hf, _, h1, rfl⟩ := (mem_cyc h).mp hc
    intro e
    have : per p x ∣ 1 := (it_back_iff h hx 1).mp e
    rw [per_orb h hf m] at this
    have := Nat.le_of_dvd (by omega) this
    omega
  · intro ne
    obtain ⟨f, hfx, hs, m⟩ := low_ex h hx
    have hf : f < p.length := by omega
    refine ⟨orb p f, (mem_cyc h).mpr ⟨f, hf, hs, ?_, rfl⟩, m⟩
    have ps := per_spec h hf
    rcases Nat.lt_or_ge 1 (per p f) with z | z
    · exact z
    · exfalso
      have e : per p f = 1 := by omega
      apply ne
      exact (it_back_iff h hx 1).mpr (by rw [per_orb h hf m, e]; exact Nat.dvd_refl _)
theorem flat_lt {x : Nat} (m : x ∈ (cyc p).flatten) : x < p.length := by
  obtain ⟨c, hc, m⟩ := List.mem_flatten.mp m
  obtain ⟨f, hf, _, _, rfl⟩ := (mem_cyc h).mp hc
  exact orb_lt h hf m
theorem take_closed (i : Nat) {x : Nat} (hx : x < p.length) : x ∈ ((cyc p).take i).flatten ↔ ap p x ∈ ((cyc p).take i).flatten := by
  rw [List.mem_flatten, List.mem_flatten]
  constructor
  · rintro ⟨c, hc, m⟩
    obtain ⟨f, hf, _, _, rfl⟩ := (mem_cyc h).mp (List.mem_of_mem_take hc)
    exact ⟨_, hc, (orb_step h hf hx).mp m⟩
  · rintro ⟨c, hc, m⟩
    obtain ⟨f, hf, _, _, rfl⟩ := (mem_cyc h).mp (List.mem_of_mem_take hc)
    exact ⟨_, hc, (orb_step h hf hx).mpr m⟩
theorem isP_take (i : Nat) : IsP (mv p ((cyc p).take i).flatten) := isP_mv h fun x hx => take_closed h i hx
theorem isP_cyc {c : List Nat} (hc : c ∈ cyc p) : IsP (mv p c) := by
  obtain ⟨f, hf, _, _, rfl⟩ := (mem_cyc h).mp hc
  exact isP_mv h fun x hx => orb_step h hf hx
theorem mv_next {i : Nat} {c : List Nat} (hc : (cyc p)[i]? = some c) : mul (mv p ((cyc p).take i).flatten) (mv p c) = mv p ((cyc p).take (i + 1)).flatten := by
  have hm := List.mem_of_getElem? hc
  obtain ⟨f, hf, _, _, ec⟩ := (mem_cyc h).mp hm
  have stp : ∀ x, x < p.length → (x ∈ c ↔ ap p x ∈ c) := fun x hx => by rw [ec]; exact orb_step h hf hx
  have dis : ∀ x, x ∈ ((cyc p).take i).flatten → x ∉ c := fun x m => by
    obtain ⟨d, hd, md⟩ := List.mem_flatten.mp m
    obtain ⟨j, hj, e⟩ := List.mem_take_iff_getElem.mp hd
    exact cyc_disj h (by omega) (List.getElem?_eq_some_iff.mpr ⟨by omega, e⟩) hc md
  refine ext_ap (by rw [mul_len, mv_len, mv_len]) fun x hx => ?_
  rw [mul_len, mv_len] at hx
  rw [ap_mul (by rw [mv_len]; exact hx), ap_mv hx, ap_mv hx]
  have e1 : ((cyc p).take (i + 1)).flatten = ((cyc p).take i).flatten ++ c := by
    rw [List.take_add_one, hc, List.flatten_append]
    simp
  rw [e1]
  unfold mvF
  by_cases m : x ∈ ((cyc p).take i).flatten
  · have m2 := (take_closed h i hx).mp m
    rw [if_pos m, ap_mv (ap_lt h hx), if_pos (List.mem_append_left _ m)]
    unfold mvF
    rw [if_neg (dis _ m2)]
  · rw [if_neg m, ap_mv hx]
    unfold mvF
    by_cases m3 : x ∈ c
    · rw [if_pos m3, if_pos (List.mem_append_right _ m3)]
    · rw [if_neg m3, if_neg (fun z => (List.mem_append.mp z).elim m m3)]
theorem mv_nil : mv p [] = List.range p.length := by
  refine ext_ap (by rw [mv_len, List.length_range]) fun x hx => ?_
  rw [mv_len] at hx
  rw [ap_mv hx, ap_range hx]
  unfold mvF
  rw [if_neg (by simp)]
theorem mv_flat : mv p (cyc p).flatten = p := by
  refine ext_ap (mv_len _ _) fun x hx => ?_
  rw [mv_len] at hx
  rw [ap_mv hx]
  unfold mvF
  by_cases m : x ∈ (cyc p).flatten
  · rw [if_pos m]
  · rw [if_neg m]
    exact (Classical.not_not.mp fun z => m ((mem_flat h hx).mpr z)).symm
theorem sgn_take (hn : p.length ≤ 12) : ∀ i, i ≤ (cyc p).length → (invs (mv p ((cyc p).take i).flatten) : Int) % 2 = (((cyc p).take i).map fun c => (c.length : Int) - 1).sum % 2
  | 0, _ => by
    have e : ((cyc p).take 0).flatten = [] := by simp
    rw [e, mv_nil h, invs_range_all _ hn]
    rfl
  | i + 1, hi => by
    have ih := sgn_take hn i (by omega)
    obtain ⟨c, hc⟩ : ∃ c, (cyc p)[i]? = some c := ⟨_, List.getElem?_eq_getElem (by omega)⟩
    have hm := List.mem_of_getElem? hc
    rw [← mv_next h hc, sgn_mul (isP_take h i) (isP_cyc h hm) (by rw [mv_len, mv_len])]
    obtain ⟨f, hf, _, _, ec⟩ := (mem_cyc h).mp hm
    have h1 := sgn_mv h hf hn
    have e1 : (cyc p).take (i + 1) = (cyc p).take i ++ [c] := by
      rw [List.take_add_one, hc]
      rfl
    rw [e1, List.map_append, List.sum_append]
    have hl : (c.length : Int) = per p f := by rw [ec, orb_len h hf]
    rw [← ec] at h1
    simp only [List.map_cons, List.map_nil, List.sum_cons, List.sum_nil]
    omega
theorem even_sgn (hn : p.length ≤ 12) : evenP p = decide ((invs p : Int) % 2 = 0) := by
  have := sgn_take h hn (cyc p).length (Nat.le_refl _)
  rw [List.take_length, mv_flat h] at this
  unfold evenP
  rw [← this]
theorem even_mul {q : List Nat} (hq : IsP q) (hl : p.length = q.length) (hn : p.length ≤ 12) : evenP (mul p q) = (evenP p == evenP q) := by
  rw [even_sgn (isP_mul h hq hl) (by rw [mul_len]; exact hn), even_sgn h hn, even_sgn hq (by rw [← hl]; exact hn), sgn_mul h hq hl]
  have h1 : (invs p : Int) % 2 = 0 ∨ (invs p : Int) % 2 = 1 := by omega
  have h2 : (invs q : Int) % 2 = 0 ∨ (invs q : Int) % 2 = 1 := by omega
  rcases h1 with a | a <;> rcases h2 with b | b
  · have : ((invs p : Int) + invs q) % 2 = 0 := by omega
    simp [a, b, this]
  · have : ((invs p : Int) + invs q) % 2 = 1 := by omega
    simp [a, b, this]
  · have : ((invs p : Int) + invs q) % 2 = 1 := by omega
    simp [a, b, this]
  · have : ((invs p : Int) + invs q) % 2 = 0 := by omega
    simp [a, b, this]
theorem even_inv (hn : p.length ≤ 12) : evenP (inv p) = evenP p := by
  have e := even_mul h (isP_inv h) (inv_len p).symm hn
  rw [mul_inv h, even_sgn (isP_range _) (by rw [List.length_range]; exact hn), invs_range_all _ hn] at e
  have e' : true = (evenP p == evenP (inv p)) := e
  revert e'
  cases evenP p <;> cases evenP (inv p) <;> decide
end
theorem even_sw {n i j : Nat} (hn : n ≤ 12) (hi : i < n) (hj : j < n) : evenP (sw n i j) = decide (i = j) := by
  rw [even_sgn (isP_sw hi hj) (by rw [sw_len]; exact hn)]
  by_cases e : i = j
  · subst e
    have : sw n i i = List.range n := by
      refine ext_ap (by rw [sw_len, List.length_range]) fun x hx => ?_
      rw [sw_len] at hx
      rw [ap_sw hx, ap_range hx]
      unfold swF
      by_cases z : x = i
      · rw [if_pos z, z]
      · rw [if_neg z, if_neg z]
    rw [this, invs_range_all _ hn]
    simp
  · have := sgn_sw hn hi hj e
    simp [e, this]
end Hw

namespace Hw
section
variable {p : List Nat} (h : IsP p)
include h
/-- the way of f, turned on by one -/
theorem rot_get {f k : Nat} (hf : f < p.length) (hk : k < per p f) : ((orb p f).drop 1 ++ (orb p f).take 1)[k]? = some (it p (k + 1) f) := by
  have hl := orb_len h hf
  have ps := per_spec h hf
  by_cases z : k + 1 < per p f
  · rw [List.getElem?_append_left (by rw [List.length_drop]; omega), List.getElem?_drop, Nat.add_comm 1 k]
    exact orb_get h hf z
  · have e : k + 1 = per p f := by omega
    rw [List.getElem?_append_right (by rw [List.length_drop]; omega), List.length_drop, hl]
    have e2 : k - (per p f - 1) = 0 := by omega
    rw [e2, e, ps.2.2.1, List.getElem?_take, if_pos (by omega)]
    exact orb_get h hf ps.1
theorem mv_set {f k : Nat} (hf : f < p.length) (hk : k < per p f) : (mv p ((orb p f).take k)).set (it p k f) (it p (k + 1) f) = mv p ((orb p f).take (k + 1)) := by
  have hx := it_lt h hf k
  apply List.ext_getElem?
  intro j
  by_cases hj : j < p.length
  · rw [List.getElem?_set, mv_len, List.take_add_one, orb_get h hf hk]
    have g : ∀ s, (mv p s)[j]? = some (mvF p s j) := fun s => by
      unfold mv
      rw [List.getElem?_map, List.getElem?_range hj]
      rfl
    rw [g, g]
    by_cases e : it p k f = j
    · subst e
      rw [if_pos rfl, if_pos hj]
      unfold mvF
      rw [if_pos (by simp)]
      rfl
    · rw [if_neg e]
      have e' : ¬ j = it p k f := fun z => e z.symm
      unfold mvF
      simp [e']
  · rw [List.getElem?_eq_none (by rw [List.length_set, mv_len]; omega), List.getElem?_eq_none (by rw [mv_len]; omega)]
theorem low_min {f : Nat} (hf : f < p.length) (s : sn p f f = false) {y : Nat} (m : y ∈ orb p f) : f ≤ y := by
  rcases Nat.lt_or_ge y f with z | z
  · exfalso
    have hy := orb_lt h hf m
    have : sn p f f = true := sn_iff.mpr ⟨y, z, orb_symm h hf m⟩
    rw [s] at this
    cases this
  · exact z
theorem orb_head {f : Nat} (hf : f < p.length) : ∃ r, orb p f = f :: r := by
  have g := orb_get h hf (per_spec h hf).1
  cases e : orb p f with
  | nil => rw [e] at g; cases g
  | cons x r =>
    rw [e] at g
    have : x = f := Option.some.inj g
    exact ⟨r, by rw [this]⟩
theorem away_perm : ((List.range p.length).filter fun x => decide (ap p x ≠ x)).Perm (cyc p).flatten := by
  refine perm_of_mem (List.Nodup.sublist List.filter_sublist List.nodup_range) (flat_nodup h) fun x => ?_
  rw [List.mem_filter, List.mem_range, decide_eq_true_eq]
  constructor
  · rintro ⟨a, b⟩
    exact (mem_flat h a).mpr b
  · intro m
    have hx := flat_lt h m
    exact ⟨hx, (mem_flat h hx).mp m⟩
theorem away_pw : ((List.range p.length).filter fun x => decide (ap p x ≠ x)).Pairwise (· ≤ ·) :=
  List.Pairwise.filter _ (List.Pairwise.imp (fun h => Nat.le_of_lt h) (List.pairwise_lt_range (n := p.length)))
end
/-! ### conjugates -/
section
variable {a b c : List Nat} (ha : IsP a) (hb : IsP b) (hc : IsP c) (l1 : b.length = a.length) (l2 : c.length = a.length) (hcj : ∀ x, x < a.length → ap c (ap b x) = ap b (ap a x))
include ha hb hc l1 l2 hcj
theorem cj_it {x : Nat} (hx : x < a.length) : ∀ k, it c k (ap b x) = ap b (it a k x)
  | 0 => rfl
  | k + 1 => by
    show ap c (it c k (ap b x)) = ap b (ap a (it a k x))
    rw [cj_it hx k, hcj _ (it_lt ha hx k)]
theorem cj_per {x : Nat} (hx : x < a.length) : per c (ap b x) = per a x := by
  have hy : ap b x < c.length := by rw [l2, ← l1]; exact ap_lt hb (by rw [l1]; exact hx)
  have key : ∀ k, per c (ap b x) ∣ k ↔ per a x ∣ k := fun k => by
    rw [← it_back_iff hc hy, ← it_back_iff ha hx, cj_it ha hb hc l1 l2 hcj hx]
    exact ⟨fun e => ap_inj hb (by rw [l1]; exact it_lt ha hx k) (by rw [l1]; exact hx) e, fun e => by rw [e]⟩
  exact Nat.dvd_antisymm ((key _).mpr (Nat.dvd_refl _)) ((key _).mp (Nat.dvd_refl _))
theorem cj_ord : ord c = ord a := by
  refine ord_eq hc ha fun k => ⟨fun hk x hx => ?_, fun hk y hy => ?_⟩
  · have hy : ap b x < c.length := by rw [l2, ← l1]; exact ap_lt hb (by rw [l1]; exact hx)
    have e := hk _ hy
    rw [cj_it ha hb hc l1 l2 hcj hx] at e
    exact ap_inj hb (by rw [l1]; exact it_lt ha hx k) (by rw [l1]; exact hx) e
  · obtain ⟨x, hx, rfl⟩ := ap_surj hb (y := y) (by rw [l1, ← l2]; exact hy)
    rw [l1] at hx
    rw [cj_it ha hb hc l1 l2 hcj hx, hk x hx]
end
def withPer (p : List Nat) (L : Nat) : List Nat := (List.range p.length).filter fun x => decide (per p x = L)
theorem withPer_nodup (p : List Nat) (L : Nat) : (withPer p L).Nodup := List.Nodup.sublist List.filter_sublist List.nodup_range
theorem mem_withPer {p : List Nat} {L x : Nat} : x ∈ withPer p L ↔ x < p.length ∧ per p x = L := by
  unfold withPer
  rw [List.mem_filter, List.mem_range, decide_eq_true_eq]
theorem flat_len {L : Nat} : ∀ cs : List (List Nat), (∀ c ∈ cs, c.length = L) → cs.flatten.length = cs.length * L
  | [], _ => by simp
  | c :: cs, h => by
    rw [List.flatten_cons, List.length_append, flat_len cs (fun d hd => h d (List.mem_cons_of_mem _ hd)), h c List.mem_cons_self, List.length_cons, Nat.succ_mul, Nat.add_comm]
theorem withPer_len {p : List Nat} (h : IsP p) {L : Nat} (hL : 2 ≤ L) : (withPer p L).length = ((cyc p).filter fun c => decide (c.length = L)).length * L := by
  rw [← flat_len ((cyc p).filter fun c => decide (c.length = L)) fun c hc => of_decide_eq_true (List.mem_filter.mp hc).2]
  refine List.Perm.length_eq (perm_of_mem (withPer_nodup p L) ?_ fun x => ?_)
  · rw [List.nodup_iff_pairwise_ne, List.pairwise_flatten]
    refine ⟨fun c hc => ?_, List.Pairwise.imp (fun {c d} => ?_) (List.Pairwise.filter _ (cyc_pw h))⟩
    · obtain ⟨f, hf, _, _, rfl⟩ := (mem_cyc h).mp (List.mem_filter.mp hc).1
      exact List.nodup_iff_pairwise_ne.mp (orb_nodup h hf)
    · rintro ⟨f, g, hf, hg, hfg, _, sg, rfl, rfl⟩ x hx y hy e
      subst e
      exact orb_disj h hf hg hfg sg hx hy
  · rw [mem_withPer, List.mem_flatten]
    constructor
    · rintro ⟨hx, hp⟩
      obtain ⟨f, hfx, hs, m⟩ := low_ex h hx
      have hf : f < p.length := by omega
      have e := per_orb h hf m
      refine ⟨orb p f, List.mem_filter.mpr ⟨(mem_cyc h).mpr ⟨f, hf, hs, by omega, rfl⟩, decide_eq_true (by rw [orb_len h hf]; omega)⟩, m⟩
    · rintro ⟨c, hc, m⟩
      obtain ⟨h1, h2⟩ := List.mem_filter.mp hc
      obtain ⟨f, hf, hs, _, rfl⟩ := (mem_cyc h).mp h1
      have h3 := of_decide_eq_true h2
      rw [orb_len h hf] at h3
      exact ⟨orb_lt h hf m, by rw [per_orb h hf m, h3]⟩
theorem count_len (cs : List (List Nat)) (L : Nat) : (cs.map List.length).count L = (cs.filter fun c => decide (c.length = L)).length := by
  induction cs with
  | nil => rfl
  | cons c r ih =>
    rw [List.map_cons, List.count_cons, ih, List.filter_cons]
    by_cases e : c.length = L
    · simp [e]
    · simp [e]
theorem cj_lens {a b c : List Nat} (ha : IsP a) (hb : IsP b) (hc : IsP c) (l1 : b.length = a.length) (l2 : c.length = a.length) (hcj : ∀ x, x < a.length → ap c (ap b x) = ap b (ap a x)) :
    ((cyc c).map List.length).Perm ((cyc a).map List.length) := by
  rw [List.perm_iff_count]
  intro L
  rw [count_len, count_len]
  by_cases hL : 2 ≤ L
  · have e : (withPer c L).length = (withPer a L).length := by
      have p1 : (withPer c L).Perm ((withPer a L).map (ap b)) := by
        refine perm_of_mem (withPer_nodup c L) ?_ fun y => ?_
        · rw [List.nodup_iff_pairwise_ne, List.pairwise_map]
          refine List.Pairwise.imp_of_mem (fun {x y} hx hy hxy e => hxy ?_) (List.nodup_iff_pairwise_ne.mp (withPer_nodup a L))
          exact ap_inj hb (by rw [l1]; exact (mem_withPer.mp hx).1) (by rw [l1]; exact (mem_withPer.mp hy).1) e
        · rw [mem_withPer, List.mem_map]
          constructor
          · rintro ⟨hy, hp⟩
            obtain ⟨x, hx, rfl⟩ := ap_surj hb (y := y) (by rw [l1, ← l2]; exact hy)
            rw [l1] at hx
            rw [cj_per ha hb hc l1 l2 hcj hx] at hp
            exact ⟨x, mem_withPer.mpr ⟨hx, hp⟩, rfl⟩
          · rintro ⟨x, hx, rfl⟩
            obtain ⟨h1, h2⟩ := mem_withPer.mp hx
            refine ⟨by rw [l2, ← l1]; exact ap_lt hb (by rw [l1]; exact h1), ?_⟩
            rw [cj_per ha hb hc l1 l2 hcj h1, h2]
      rw [p1.length_eq, List.length_map]
    rw [withPer_len hc hL, withPer_len ha hL] at e
    exact Nat.eq_of_mul_eq_mul_right (by omega) e
  · have z : ∀ {p : List Nat}, IsP p → ((cyc p).filter fun c => decide (c.length = L)).length = 0 := fun {p} hp => by
      rw [List.length_eq_zero_iff, List.filter_eq_nil_iff]
      intro d hd
      have := cyc_len hp hd
      simp
      omega
    rw [z hc, z ha]
end Hw

/-! Further rules: enumerate(t) of a tuple, lcm(a, b), len(set(t)) of equal numbers, min(t) of a tuple of numbers. -/
namespace PySem
section
set_option maxHeartbeats 1000000 in
theorem hw_enum_meets {v : Value} {ob : Obj} {HH : Heap → Prop} (B : Begins v ob HH) :
    Meets (Builtin.«enumerate.__new__» ⟨[.type "enumerate", v], []⟩) (fun _ Res sh => HH sh.heap ∧ Res (.ok (.ret (.ref (sh.heap.push ob).objs.size)))
      { sh with heap := (sh.heap.push ob).push { cls := .type "enumerate", data := .fields #[.none, .bool false, .ref sh.heap.objs.size, rawInt 0, .none, .none] } }) :=
  .of_wp fun pr wo Ar Res sh hyp => by
    obtain ⟨hp, gg, dd, tt, oo⟩ := sh
    obtain ⟨hy1, hy2⟩ := hyp
    have sub_e := sub_enumerate
    have itr : ∀ {A2 : Around} {E2 : Value → Shared → Prop} {Q2 : Value → Shared → Prop}, Q2 (.ref hp.objs.size) ⟨hp.push ob, gg, dd, tt, oo⟩ → wpAny (model pr wo) A2 (pyIter v) Q2 E2 ⟨hp, gg, dd, tt, oo⟩ :=
      fun z => B.iter pr wo _ _ ⟨hp, gg, dd, tt, oo⟩ _ hy1 z
    wp_walk using itr
    refine wpAny_stack_any fun stk => wpAny_pure ?_
    split
    · rename_i cc _ _ _ _ _
      cases (cc == Value.type "enumerate") <;> (wp_walk using itr; exact ⟨_, rfl, hy2⟩)
    · wp_walk using itr
      exact ⟨_, rfl, hy2⟩
variable {prog : Program} {w : World} {A : Around} {E : Value → Shared → Prop} {s : Shared}
theorem hw_enum_call {v : Value} {ob : Obj} {HH : Heap → Prop} {Q : Value → Shared → Prop} (B : Begins v ob HH) (hy : HH s.heap)
    (k : ∀ h', IsEnum h' (s.heap.objs.size + 1) s.heap.objs.size 0 .none → h'.get? s.heap.objs.size = some ob → (∀ b o, s.heap.get? b = some o → h'.get? b = some o) → Q (.ref (s.heap.objs.size + 1)) { s with heap := h' }) :
    wpAny (model prog w) A (call (.type "enumerate") [v]) Q E s := by
  refine callType_new F.called_enumerate (by decide) (F.typeCall_enumerate_1 _) (F.newCall_enumerate_1 _)
    (fun x => F.args_object_init_2 x _) F.entry_enumerate_new (hw_enum_meets B) ⟨hy, ?_⟩
  have size1 : (s.heap.push ob).objs.size = s.heap.objs.size + 1 := by rw [Heap.size_push]
  show _ ∧ _
  rw [size1]
  have at2 := Heap.get?_push_size (s.heap.push ob) (o := { cls := .type "enumerate", data := .fields #[.none, .bool false, .ref s.heap.objs.size, rawInt 0, .none, .none] }) rfl
  rw [size1] at at2
  exact ⟨⟨_, at2, rfl⟩, k _ at2 (Heap.get?_push_of_some _ (Heap.get?_push_size _ B.free)) fun b o z => Heap.get?_push_of_some _ (Heap.get?_push_of_some _ z)⟩
end
end PySem
namespace Hw
open PySem PySem.Spec PyProof.Rows L2
/-! ### enumerate(t) -/
def IteT (K : PySem.W.Frag) (a : Addr) : It where
  go i H := ∃ (xs : List V) (x : V), SqT K H a xs ∧ xs[i]? = some x
  yld i H v H' := ∃ T x, v = .ref T ∧ H T = none ∧ H' = upd H T (.tup [.int (i : Nat), x]) ∧ ∀ xs, SqT K H a xs → xs[i]? = some x
  stop i H := ∃ xs : List V, SqT K H a xs ∧ xs.length = i
def TnE (a e it : Addr) (i : Nat) (h : Heap) : Prop := (∃ old, IsEnum h e it ((i : Nat) : Int) old) ∧ h.IsTupleIter it a i ∧ e ≠ it ∧ a ≠ it ∧ a ≠ e
theorem turn_enumT {P : Program} {w : World} {K : PySem.W.Frag} {elts : List Expr} {kk : Nat} {tpos : Pos} (a e it : Addr) : Turn P w K (.Tuple elts kk tpos) (IteT K a) [e, it] e (TnE a e it) where
  mem := List.mem_cons_self
  obj := by
    rintro i h ⟨⟨old, he⟩, ⟨o, ho, hc, hd⟩, _⟩ b hb
    rcases List.mem_cons.mp hb with z | hb
    · exact ⟨_, by rw [z]; exact he, fun v q => by cases q⟩
    · rw [List.mem_singleton.mp hb]
      exact ⟨o, ho, fun v q => by rw [hd] at q; cases q⟩
  keep := by
    rintro i h h' ⟨⟨old, he⟩, hi, n⟩ kp
    exact ⟨⟨old, kp e List.mem_cons_self _ he⟩, hi.at fun o q => kp it (List.mem_cons_of_mem _ List.mem_cons_self) o q, n⟩
  item := by
    rintro X rfl rfl rfl calm i pins s σ H E I free ⟨⟨old, he⟩, hit, n1, n2, n3⟩ ⟨xs, x, hq, hx⟩
    obtain ⟨its, rv, tT, szl⟩ := I.tuple hq
    obtain ⟨u, hu, ru⟩ := rv.get hx
    have lt_e : e < s.heap.objs.size := Heap.lt_size he
    have lt_i : it < s.heap.objs.size := by
      obtain ⟨_, z, _⟩ := hit
      exact Heap.lt_size z
    have lt_n : i < its.toArray.size := by
      have z := (List.getElem?_eq_some_iff.mp hu).1
      simpa using z
    refine wpAny_pyNext_enum_itemD (Draws.tuple (A := X.A.in1) (I.ok.hd calm) it a n2 its.toArray) he ⟨hit, tT⟩ lt_n n1 (fun m => ?_) fun y h2 tk hy out st2 new2 sz2 keep2 => ?_
    · rcases List.mem_cons.mp m with z | m
      · exact n1 z
      · exact n3 (List.mem_singleton.mp m).symm
    have ey : y = u := by
      have z : its[i]? = some y := by simpa using hy
      rw [hu] at z
      exact (Option.some.inj z).symm
    subst ey
    refine ⟨_, rfl, wpAny_letOwnedTupleGo_enum (s := { s with heap := h2, toks := tk + 1 }) out fun h3 he3 sb => ?_⟩
    have at3 := (sb.2 _ (Nat.ne_of_gt lt_e)).trans new2
    have made : ObjOk X.prog X.w (upd H s.heap.objs.size (.tup [.int (i : Nat), x])) h3 s.heap.objs.size (.tup [.int (i : Nat), x]) := by
      refine ⟨by show 2 ≤ sizeLine; decide, [.int i tk, y], .cons ⟨_, rfl⟩ (.cons ru .nil), ⟨_, at3, rfl, _, rfl⟩⟩
    have J := I.turnedNew (h' := h3) (t' := tk + 1) (ch := [e, it]) (fun b ob nb q => (sb.2 b (fun z => nb (by simp [z]))).trans (keep2 b ob (fun z => nb (by simp [z])) (fun z => nb (by simp [z])) q)) free (Nat.le_refl _) made
    refine ⟨.ref s.heap.objs.size, _, J, rfl, ⟨_, x, rfl, I.hok.fresh (Nat.le_refl _), rfl, fun ys hy => by rw [I.tuple_inj hy hq]; exact hx⟩, ⟨⟨y, ?_⟩, st2.1.at fun o q => (sb.2 it (Ne.symm n1)).trans q, n1, n2, n3⟩, fun b hb => ?_⟩
    · have e1 : ((i + 1 : Nat) : Int) = (i : Int) + 1 := by omega
      rw [e1]
      exact he3
    · have lt_b : b < s.heap.objs.size := by
        rcases List.mem_cons.mp hb with z | hb
        · rw [z]; exact lt_e
        · rw [List.mem_singleton.mp hb]; exact lt_i
      rw [upd_ne (Nat.ne_of_lt lt_b)]
      exact (free b hb).1
  done := by
    rintro X rfl rfl rfl calm i pins s σ H E I free ⟨⟨old, he⟩, hit, n1, n2, n3⟩ ⟨xs, hq, hx⟩
    obtain ⟨its, rv, tT, szl⟩ := I.tuple hq
    have e1 : its.toArray.size = i := by
      rw [List.size_toArray, ← rv.length, hx]
    obtain ⟨f0, f1, f2, f3, f4, f5⟩ := free it (List.mem_cons_of_mem _ List.mem_cons_self)
    refine wpAny_pyNext_enum_endD (Draws.tuple (A := X.A.in1) (I.ok.hd calm) it a n2 its.toArray) he ⟨by rw [e1]; exact hit, tT⟩ fun h2 eb => ⟨rfl, ?_⟩
    exact I.turned (t' := s.toks) (fun b o hb q => eb b o hb q) f0 f1 f3 f4 f5
  self := by
    rintro A i s Q E ⟨⟨_, he⟩, _⟩ q
    exact wpAny_pyIter_enum he q
def iEnumT (K : PySem.W.Frag) (ta : TA) : TI := fun σ H R => ta σ H fun vs H1 => ∃ a xs, vs = [.ref a] ∧ SqT K H1 a xs ∧ R (IteT K a) H1
theorem pi_enumT {X : Cx} {e : Expr} {ta : TA} {p pos tpos : Pos} {elts : List Expr} {kk : Nat} (gl : Gl X "enumerate") (nm : X.mg "enumerate" = none) (arg : PA X [e] ta)
    (st : starEach [e] X.env = [(false, eval e X.env)] := by rfl) : PI X (.Tuple elts kk tpos) (.Call (.Name "enumerate" p) [e] [] pos) (iEnumT X.K ta) := by
  constructor
  intro pins s σ H R I hyp
  refine Call_ (ld_blt I gl nm boot_enumerate (PyProof.Rows.callWith_type1 (thn (arg.run pos pins s σ H _ I hyp) ?_) st rfl))
  rintro us s1 ⟨vs, H1, I1, r1, a, xs, rfl, hq, q⟩
  rw [Vals.ref1 r1]
  obtain ⟨its, rv, tT, szl⟩ := I1.tuple hq
  refine hw_enum_call (begins_tuple a its.toArray) tT fun h' he hit keep => wpAny_pyIter_enum he ?_
  have J : Inv X pins σ H1 { s1 with heap := h' } := I1.kept (t' := s1.toks) keep
  have lt_a : a < s1.heap.objs.size := by
    obtain ⟨_, z, _⟩ := tT
    exact Heap.lt_size z
  refine ⟨s1.heap.objs.size + 1, [s1.heap.objs.size + 1, s1.heap.objs.size], _, _, H1, rfl, J, turn_enumT a (s1.heap.objs.size + 1) s1.heap.objs.size,
    ⟨⟨.none, he⟩, ⟨_, hit, rfl, rfl⟩, Nat.succ_ne_self _, Nat.ne_of_lt lt_a, Nat.ne_of_lt (Nat.lt_succ_of_lt lt_a)⟩, fun b hb => ?_, q⟩
  have le_b : s1.heap.objs.size ≤ b := by
    rcases List.mem_cons.mp hb with z | hb
    · rw [z]; exact Nat.le_succ _
    · rw [List.mem_singleton.mp hb]; exact Nat.le_refl _
  exact I1.fpOk le_b (I1.hok.fresh le_b)
theorem walk_enumT {K : PySem.W.Frag} {a : Addr} {xs : List V} : Walk (IteT K a) xs.length (fun H => SqT K H a xs) (YPair (fun i => some (.int (i : Nat))) (fun i => xs[i]?)) where
  goes i H hi q := ⟨xs, xs[i], q, by simp [hi]⟩
  stops H q := ⟨xs, q, rfl⟩
  yields := by
    rintro i H x H' hi q ⟨T, y, rfl, n, rfl, hy⟩
    exact ⟨T, _, y, rfl, n, rfl, rfl, hy xs q⟩
/-! ### lcm -/
section
variable {X : Cx}
def rLcm : List V → Hp → VK → Prop := fun vs H Q => ∃ a b : Nat, vs = [.int (a : Int), .int (b : Int)] ∧ a < 2 ^ 60 ∧ b < 2 ^ 60 ∧ Nat.lcm a b < 2 ^ 60 ∧ Q (.int ((Nat.lcm a b : Nat) : Int)) H
theorem small_log {n : Nat} (h : n < 2 ^ 60) : n.log2 < bitsLine := by
  have : n.log2 ≤ 60 := by
    by_cases z : n = 0
    · subst z; decide
    · have := (Nat.log2_lt z).mpr h
      omega
  exact Nat.lt_of_le_of_lt this (by decide)
theorem cr_lcm : CallR X (.builtin "math.lcm") rLcm := by
  rintro pins s σ H vs us Q I r ⟨a, b, rfl, ha, hb, hc, q⟩
  obtain ⟨t, u, rfl⟩ := Vals.int2 r
  refine PySem.W.mg_lcm_v (c := ((Nat.lcm a b : Nat) : Int)) (by rw [Int.natAbs_natCast]; omega) (by rw [Int.natAbs_natCast]; omega) ?_ (by rw [Int.natAbs_natCast]; exact small_log hc) ⟨.int _, H, I.tok _, ⟨_, rfl⟩, q⟩
  rw [Int.natAbs_natCast, Int.natAbs_natCast]
  congr 2
  simp [Nat.lcm]
/-! ### min(t) -/
theorem reads_ints {h : Heap} : ∀ {ns : List Int} {us : List Value}, Vals (ns.map V.int) us → ReadsAll h us (ns.map PyData.int) []
  | [], _, .nil => .nil
  | n :: ns, _, .cons r t => by
    obtain ⟨k, rfl⟩ := r
    exact .cons (as := []) (bs := []) (.int n k) (reads_ints t)
theorem depth_ints : ∀ ns : List Int, PyData.depthAll (ns.map PyData.int) = 0
  | [] => rfl
  | n :: ns => by
    show max 0 (PyData.depthAll (ns.map PyData.int)) = 0
    rw [depth_ints ns]
    rfl
def rMinT (K : PySem.W.Frag) : List V → Hp → VK → Prop := fun vs H Q => ∃ (a : Addr) (n : Int) (ns : List Int), vs = [V.ref a] ∧ SqT K H a ((n :: ns).map V.int) ∧ Q (.int (ns.foldl min n)) H
theorem cr_minT (calm : X.calm = true) (hu : X.A.units + 1 < cLine) : CallR X (.builtin "min") (rMinT X.K) := by
  rintro pins s σ H vs us Q I r ⟨a, n, ns, rfl, hs, q⟩
  obtain ⟨its, rv, tT, _⟩ := I.tuple hs
  rw [Vals.ref1 r]
  have rd : ReadsAll s.heap its.toArray.toList (PyData.int n :: ns.map PyData.int) [] := reads_ints (ns := n :: ns) rv
  refine PySem.W.min_tuple_data (I.ok.hd calm) tT rd ⟨?_, ?_⟩ ?_ fun i v h' tk bs _ rv' keep => ?_
  · intro x hx y hy
    obtain ⟨x', _, rfl⟩ := List.mem_map.mp (show x ∈ (n :: ns).map PyData.int from hx)
    obtain ⟨y', _, rfl⟩ := List.mem_map.mp (show y ∈ (n :: ns).map PyData.int from hy)
    rfl
  · intro x hx
    obtain ⟨x', _, rfl⟩ := List.mem_map.mp (show x ∈ (n :: ns).map PyData.int from hx)
    exact fun z => nomatch z
  · have z := depth_ints (n :: ns)
    rw [List.map_cons] at z
    rw [z]
    exact hu
  · rw [PySem.W.minD_ints] at rv'
    cases rv' with
    | int _ t => exact ⟨.int _, H, I.kept keep, ⟨_, rfl⟩, q⟩
/-! ### len(set(t)) where there is at most one number -/
def tLenSetT (K : PySem.W.Frag) (ta : TE) : TE := fun σ H Q => ta σ H fun x H1 => ∃ (l : Addr) (ns : List Int) (n : Int), x = .ref l ∧ SqT K H1 l (ns.map V.int) ∧ (∀ m ∈ ns, m = n) ∧ ns.length ≤ 1000 ∧ ∀ c : Nat, c ≤ 1 → Q (.int (c : Int)) H1
theorem pe_lenSetT {a : Expr} {ta : TE} {p p2 q pos : Pos} (gl : Gl X "len") (nm : X.mg "len" = none) (gl2 : Gl X "set") (nm2 : X.mg "set" = none) (arg : PE X a ta) (calm : X.calm = true := by rfl)
    (na : starEach [a] X.env = (false, eval a X.env) :: starEach [] X.env := by rfl) : PE X (.Call (.Name "len" p) [.Call (.Name "set" p2) [a] [] q] [] pos) (tLenSetT X.K ta) := by
  constructor
  intro pins s σ H Q I hyp
  refine Call_ (ld_blt I gl nm boot_len (PyProof.Rows.callWith_builtin1 (PyProof.Rows.args_cons ?_ rfl) rfl rfl))
  refine Call_ (ld_blt I gl2 nm2 boot_set (PyProof.Rows.callWith_type1 (PyProof.Rows.args_cons (thn (arg.run pins s σ H _ I hyp) ?_) na) na rfl))
  rintro v s1 ⟨x, H1, I1, r1, l, ns, n, rfl, hq, al, le, q1⟩
  obtain rfl : v = Value.ref l := r1
  refine PyProof.Rows.args_nil ?_
  obtain ⟨its, rv, tT, szl⟩ := I1.tuple hq
  refine call_set_tupI ns (I1.ok.hd calm) tT (by simpa using ints_of_vals rv) (by unfold scanBound; omega) fun h' tk c R _ keep => PyProof.Rows.args_nil ?_
  have J : Inv X pins σ H1 { s1 with heap := h', toks := tk } := I1.kept keep
  obtain ⟨o, es, ep, t, ho, hex, hd, _, nd, mem, sb, hf, hn, _⟩ := R
  have c1 : es.size ≤ 1 := by
    have sub : ∀ k ∈ es.toList.map keyOf, k = n := fun k hk => by
      have z := (mem k).mpr hk
      exact al k (of_decide_eq_true z)
    have l1 : (es.toList.map keyOf).length = es.size := by rw [List.length_map, Array.length_toList]
    rw [← l1]
    cases e1 : es.toList.map keyOf with
    | nil => simp
    | cons x r =>
      cases r with
      | nil => simp
      | cons y r =>
        exfalso
        rw [e1] at nd sub
        have ex := sub x List.mem_cons_self
        have ey := sub y (List.mem_cons_of_mem _ List.mem_cons_self)
        rw [ex, ey] at nd
        simp at nd
  exact call_len_set ho hex hd hf (by omega) ⟨.int es.size, H1, J.tok _, ⟨_, rfl⟩, q1 _ c1⟩
end
end Hw

/-! sorted(t) of a tuple of tuples of numbers that rises already -/
namespace Hw
open PySem PySem.Spec PyProof.Rows L2
theorem vals_refs : ∀ {ks : List (Addr × List Int)} {us : List Value}, Vals (ks.map fun k => V.ref k.1) us → us = ks.map fun k => Value.ref k.1
  | [], _, .nil => rfl
  | k :: ks, _, .cons r t => by
    obtain rfl : _ = Value.ref k.1 := r
    rw [vals_refs t]
    rfl
theorem refs_vals : ∀ ks : List (Addr × List Int), Vals (ks.map fun k => V.ref k.1) (ks.map fun k => Value.ref k.1)
  | [] => .nil
  | k :: ks => .cons rfl (refs_vals ks)
def encT (k : Addr × List Int) : PyData := .tuple (k.2.map PyData.int)
theorem le_encT (k l : Addr × List Int) : PySem.W.dataLe false encT k l = !decide (l.2 < k.2) := by
  show (!PySem.W.dataLt (.tuple (l.2.map PyData.int)) (.tuple (k.2.map PyData.int))) = _
  rw [PySem.W.dataLt_tuple]
  show (!PySem.W.rowLt (l.2.map PyData.int) (k.2.map PyData.int)) = _
  rw [PySem.W.dataLt_ints]
theorem each_refs {R : Value → Addr × List Int → Prop} : ∀ ks : List (Addr × List Int), (∀ k ∈ ks, R (.ref k.1) k) → PySem.W.EachIs R (ks.map fun k => Value.ref k.1) ks
  | [], _ => .nil
  | k :: ks, h => .cons (h k List.mem_cons_self) (each_refs ks fun l hl => h l (List.mem_cons_of_mem _ hl))
theorem each_out : ∀ {ks : List (Addr × List Int)} {out : List Value}, PySem.W.EachIs (fun v k => v = Value.ref k.1) out ks → out = ks.map fun k => Value.ref k.1
  | [], _, .nil => rfl
  | k :: ks, _, .cons e t => by
    rw [e, each_out t]
    rfl
section
variable {X : Cx}
def rSortTT (K : PySem.W.Frag) : List V → Hp → VK → Prop := fun vs H Q => ∃ (a : Addr) (ks : List (Addr × List Int)), vs = [V.ref a] ∧ SqT K H a (ks.map fun k => V.ref k.1) ∧ (∀ k ∈ ks, SqT K H k.1 (k.2.map V.int) ∧ k.2 ≠ []) ∧
  ks.Pairwise (fun k l => ¬ l.2 < k.2) ∧ ∀ p, H p = none → Q (.ref p) (upd H p (.lst (ks.map fun k => V.ref k.1)))
theorem cr_sortTT (hu : X.A.units + 64 < cLine) : CallR X (.builtin "sorted") (rSortTT X.K) := by
  rintro pins s σ H vs us Q I r ⟨a, ks, rfl, hs, hk, pw, q⟩
  obtain ⟨its, rv, tT, szl⟩ := I.tuple hs
  have ei := vals_refs rv
  rw [Vals.ref1 r]
  obtain ⟨o, ho, hc, n, hd⟩ := tT
  have hl : its.length ≤ sizeLine := by rw [← rv.length]; exact szl
  have hl2 : ks.length ≤ sizeLine := by rw [List.length_map] at szl; exact szl
  refine PySem.Calls.call_function_entry kind_sorted plain_sorted entry_sorted (args_sorted1 _) ?_
  unfold Builtin.«sorted»
  refine wpAny_bind (m := checkCount "sorted" 1 1 _) (wpAny_pure (wpAny_bind (wpAny_collect_seq a (.inr rfl) ho hc hd (fun h' keep => ?_) (by rw [List.size_toArray]; exact hl))))
  rw [List.toList_toArray]
  refine wpAny_bind (wpAny_newList ?_ hl)
  have J : Inv X pins σ H { s with heap := h' } := I.kept (t' := s.toks) keep
  have at1 := Heap.get?_push_size h' (o := ({ cls := .type "list", data := .seq its.toArray } : Obj)) rfl
  have rd : ∀ k ∈ ks, ∃ as, Reads (h'.push { cls := .type "list", data := .seq its.toArray }) (.ref k.1) (encT k) as ∧ h'.objs.size ∉ as := fun k m => by
    obtain ⟨us2, rv2, ⟨o2, ho2, hc2, n2, hd2⟩, _⟩ := J.tuple (hk k m).1
    have r2 := reads_ints (h := h'.push { cls := .type "list", data := .seq its.toArray }) rv2
    refine ⟨[], ?_, by simp⟩
    exact Reads.tuple (Heap.get?_push_of_some _ ho2) hc2 hd2 (by simpa using r2)
  have e1 : PySem.W.EachIs (fun v (k : Addr × List Int) => v = Value.ref k.1) its ks := by
    rw [ei]
    exact each_refs ks fun _ _ => rfl
  have e2 : PySem.W.EachIs (fun v (k : Addr × List Int) => ∃ as, Reads (h'.push { cls := .type "list", data := .seq its.toArray }) v (encT k) as ∧ h'.objs.size ∉ as) its ks := by
    conv => arg 2; rw [ei]
    exact each_refs ks rd
  have al : PySem.W.AllAlike (ks.map encT) := by
    intro d hd d' hd'
    obtain ⟨k, _, rfl⟩ := List.mem_map.mp hd
    obtain ⟨l, _, rfl⟩ := List.mem_map.mp hd'
    exact PySem.W.alike_ints k.2 l.2
  have srt : PySem.W.Sortable (ks.map encT) := .inl fun d hd => by
    obtain ⟨k, m, rfl⟩ := List.mem_map.mp hd
    have ne := (hk k m).2
    unfold encT
    cases e : k.2 with
    | nil => exact absurd e ne
    | cons x r => exact ⟨_, _, rfl⟩
  refine wpAny_bind (wpAny_holding (wpAny_mono (PySem.W.list_sort_data (s := { s with heap := h'.push { cls := .type "list", data := .seq its.toArray } }) (vs := its) (bs := ks) (enc := encT) (R := fun v k => v = Value.ref k.1)
    (E := X.xe) (Q := fun _ s' => s' = { s with heap := sortedHeap (h'.push { cls := .type "list", data := .seq its.toArray }) h'.objs.size its its.toArray }) at1 e1 e2 al srt hl2 (fun k m => ?_) (fun out _ eo => ?_)) (fun u s' es => ?_) fun _ _ z => z))
  · have : (encT k).depth = 0 + 1 := by
      show PyData.depthAll (k.2.map PyData.int) + 1 = 0 + 1
      rw [Hw.depth_ints]
    rw [this]
    show X.A.units + 1 + 1 + (0 + 1) < cLine
    omega
  · have ms : ks.mergeSort (PySem.W.dataLe false encT) = ks := by
      refine List.mergeSort_of_pairwise (List.Pairwise.imp (fun {k l} n => ?_) pw)
      rw [le_encT]
      simp [n]
    rw [ms] at eo
    have := each_out eo
    rw [this, ei]
  · subst es
    obtain ⟨c, hc2⟩ := sortedHeap_at (out := its.toArray) at1
    have old : ∀ b ob, h'.get? b = some ob → (sortedHeap (h'.push { cls := .type "list", data := .seq its.toArray }) h'.objs.size its its.toArray).get? b = some ob := fun b ob e => by
      have lt2 := Heap.lt_size e
      rw [sortedHeap_old (Nat.ne_of_lt lt2) (by rw [Heap.size_push]; exact Nat.lt_succ_of_lt lt2)]
      exact Heap.get?_push_of_some _ e
    refine wpAny_pure ⟨_, rfl, .ref h'.objs.size, upd H h'.objs.size (.lst (ks.map fun k => V.ref k.1)), J.laid (t' := s.toks) old (Nat.le_refl _) ⟨szl, its, c, rv, hc2⟩, rfl, q _ (J.hok.fresh (Nat.le_refl _))⟩
end
end Hw

namespace Hw
open PySem PySem.Spec PyProof.Rows L2
def top (i : Nat) : Stmt := PySem.Challenge.pw_handwalk_k02_whole_permutation_algebra.main.body.getD i (.Pass ⟨0, 0, 0, 0⟩)
abbrev sWhole : Stmt := top 2
abbrev sIndex : Stmt := top 3
abbrev sIsPerm : Stmt := top 9
abbrev sCheck : Stmt := top 10
abbrev sCompose : Stmt := top 11
abbrev sInverse : Stmt := top 12
abbrev sCycles : Stmt := top 13
abbrev sOrder : Stmt := top 14
abbrev sEven : Stmt := top 15
abbrev sMixed : Stmt := top 17
abbrev sFolded : Stmt := top 18
abbrev sDraw : Stmt := top 19
abbrev sBegun : Stmt := top 20
abbrev sMixedUp : Stmt := top 21
abbrev sShuffled : Stmt := top 22
abbrev sSign : Stmt := top 23
abbrev sRow : Stmt := top 24
abbrev sInvRight : Stmt := top 25
abbrev sCycRight : Stmt := top 26
abbrev sProdRight : Stmt := top 27
abbrev sLaw : Stmt := top 28
/-- what the module's names are -/
structure Txt (mg : Str → Option Value) : Prop where
  len : mg "len" = none
  isinstance : mg "isinstance" = none
  int : mg "int" = none
  bool : mg "bool" = none
  tuple : mg "tuple" = none
  list : mg "list" = none
  range : mg "range" = none
  set : mg "set" = none
  enumerate : mg "enumerate" = none
  sum : mg "sum" = none
  sorted : mg "sorted" = none
  min : mg "min" = none
  zip : mg "zip" = none
  lcm : mg "lcm" = some (.builtin "math.lcm")
end Hw

namespace Hw
open PySem PySem.Spec PyProof.Rows L2
/-- numbers as values -/
def NV (p : List Nat) : List V := p.map fun n : Nat => V.int (n : Int)
theorem NV_len (p : List Nat) : (NV p).length = p.length := by unfold NV; rw [List.length_map]
theorem NV_get {p : List Nat} {i x : Nat} (h : p[i]? = some x) : (NV p)[i]? = some (.int (x : Int)) := by
  unfold NV
  rw [List.getElem?_map, h]
  rfl
theorem NV_get' {p : List Nat} {i : Nat} {v : V} (h : (NV p)[i]? = some v) : ∃ x : Nat, p[i]? = some x ∧ v = .int (x : Int) := by
  unfold NV at h
  rw [List.getElem?_map] at h
  cases e : p[i]? with
  | none => rw [e] at h; cases h
  | some x => rw [e] at h; exact ⟨x, rfl, (Option.some.inj h).symm⟩
theorem NV_range (n : Nat) : rgV 0 (n : Int) = NV (List.range n) := by
  unfold rgV NV
  rw [show ((n : Int) - 0).toNat = n by omega]
  apply List.map_congr_left
  intro i _
  congr 1
  omega
theorem NV_snoc (p : List Nat) (x : Nat) : NV (p ++ [x]) = NV p ++ [V.int (x : Int)] := by unfold NV; rw [List.map_append]; rfl
theorem walk_rg0 {n : Nat} : Walk (Itr 0 n) n (fun _ => True) (fun i H x H' => H' = H ∧ x = .int (i : Nat)) :=
  (walk_range (lo := 0) (n := n)).mono (fun _ z => z) fun i H x H' _ _ y => ⟨y.1, by rw [y.2]; show V.int (0 + (i : Int)) = _; rw [show (0 : Int) + (i : Int) = (i : Int) by omega]⟩
/-- a tuple of numbers at a -/
abbrev Tp (H : Hp) (a : Addr) (p : List Nat) : Prop := H a = some (.tup (NV p))
theorem same_upd {H : Hp} {p : Addr} {o : HO} (h : H p = none) : Same H (upd H p o) := fun b x e => by
  rw [upd_ne (ne_of_none e h)]
  exact e
theorem sq_of {K : PySem.W.Frag} {H : Hp} {a : Addr} {xs : List V} (h : H a = some (.tup xs)) : SqT K H a xs := .inl (.inl h)
theorem sl_of {K : PySem.W.Frag} {H : Hp} {a : Addr} {xs : List V} (h : H a = some (.lst xs)) : SqL K H a xs := .inl (.inl h)
section
variable {P : Program} {w : World} {K : PySem.W.Frag} {mg : Str → Option Value} {base : Heap}
def spWhole : Sp := fun vs H Q _ => ∃ i : Int, vs = [.int i] ∧ Q (.bl true) H
theorem scWhole : FnScope ["value"] ["value"] (defScope sWhole) := ⟨rfl, rfl, rfl, by decide +kernel, rfl, by decide +kernel, by decide +kernel⟩
theorem cal_whole (T : Txt mg) (D : Df K mg "is_whole" sWhole ["value"]) : Cal P w K mg base "is_whole" 1 spWhole := by
  refine cal_of D scWhole (fun vs H Q E h => ?_) (fun f cdv A outer s H vs Q E hr h => ?_)
  · obtain ⟨i, rfl, _⟩ := h
    rfl
  · obtain ⟨i, rfl, q⟩ := h
    refine ⟨_, pss_one (ps_ret (pe_and (pe_callB call_isi (by rfl) T.isinstance (by decide +kernel) (pa_cons (pv 0) (pa_cons (pe_bltn (v := .ty "int") (by rfl) T.int (by decide +kernel) rfl) pa_nil)))
      (pe_one (pe_not (pe_callB call_isi (by rfl) T.isinstance (by decide +kernel) (pa_cons (pv 0) (pa_cons (pe_bltn (v := .ty "bool") (by rfl) T.bool (by decide +kernel) rfl) pa_nil))))))), ?_⟩
    refine ⟨_, rfl, _, _, _, _, true, rfl, .ty _, .base (.int i), kit_ty (by decide +kernel), true, rfl, iteT ?_⟩
    refine ⟨_, rfl, _, _, _, _, false, rfl, .ty _, .base (.int i), kit_ty (by decide +kernel), false, rfl, ?_⟩
    exact q
def spIndex : Sp := fun vs H Q _ => ∃ (i c : Int), vs = [.int i, .int c] ∧ Q (.bl (decide (0 ≤ i ∧ i < c))) H
theorem scIndex : FnScope ["value", "count"] ["value", "count"] (defScope sIndex) := ⟨rfl, rfl, rfl, by decide +kernel, rfl, by decide +kernel, by decide +kernel⟩
theorem cal_index (T : Txt mg) (GW : Cal P w K mg base "is_whole" 1 spWhole) (D : Df K mg "is_index" sIndex ["value", "count"]) : Cal P w K mg base "is_index" 2 spIndex := by
  refine cal_of D scIndex (fun vs H Q E h => ?_) (fun f cdv A outer s H vs Q E hr h => ?_)
  · obtain ⟨i, c, rfl, _⟩ := h
    rfl
  · obtain ⟨i, c, rfl, q⟩ := h
    refine ⟨_, pss_one (ps_ret (pe_and (pe_cal GW hr (by rfl) (pa_cons (pv 0) pa_nil)) (pe_one (pe_chain op_le op_lt pe_int (pv 0) (pv 1))))), ?_⟩
    refine ⟨_, rfl, i, rfl, true, rfl, iteT ?_⟩
    refine ⟨_, rfl, _, _, rfl, rfl, _, rfl, ite2 (fun h => ?_) (fun h => ?_)⟩
    · refine ⟨_, rfl, _, _, rfl, rfl, ?_⟩
      have h' : (0 : Int) ≤ i := of_decide_eq_true h
      have e : decide (i < c) = decide (0 ≤ i ∧ i < c) := by
        by_cases z : i < c <;> simp [z, h']
      show Q (V.bl (decide (i < c))) H
      rw [e]
      exact q
    · have h' : ¬ (0 : Int) ≤ i := fun z => h (decide_eq_true z)
      have e : false = decide (0 ≤ i ∧ i < c) := by simp [h']
      show Q (V.bl false) H
      rw [e]
      exact q
/-- is_permutation of a permutation -/
def spIsPerm : Sp := fun vs H Q _ => ∃ (a : Addr) (p : List Nat), vs = [.ref a] ∧ Tp H a p ∧ IsP p ∧ p.length ≤ 1000 ∧ ∀ H', Same H H' → Q (.bl true) H'
theorem scIsPerm : FnScope ["value", "seen", "item"] ["value"] (defScope sIsPerm) := ⟨rfl, rfl, rfl, by decide +kernel, rfl, by decide +kernel, by decide +kernel⟩
def seenL (p : List Nat) (i n : Nat) : List V := (List.range n).map fun j => V.bl (decide (j ∈ p.take i))
theorem seenL_len (p : List Nat) (i n : Nat) : (seenL p i n).length = n := by unfold seenL; simp
theorem seenL_get {p : List Nat} {i n j : Nat} (h : j < n) : (seenL p i n)[j]? = some (V.bl (decide (j ∈ p.take i))) := by
  unfold seenL
  rw [List.getElem?_map, List.getElem?_range h]
  rfl
theorem seenL_set {p : List Nat} {i n x : Nat} (h : p[i]? = some x) : (seenL p i n).set x (V.bl true) = seenL p (i + 1) n := by
  apply List.ext_getElem?
  intro j
  by_cases hj : j < n
  · rw [List.getElem?_set, seenL_get hj, seenL_get hj, seenL_len, List.take_add_one, h]
    by_cases e : x = j
    · subst e
      simp [hj]
    · rw [if_neg e]
      have e' : ¬ j = x := fun z => e z.symm
      simp [e']
  · rw [List.getElem?_eq_none (by rw [List.length_set, seenL_len]; omega), List.getElem?_eq_none (by rw [seenL_len]; omega)]
theorem fresh_of {p : List Nat} {i x : Nat} (hd : p.Nodup) (h : p[i]? = some x) : x ∉ p.take i := by
  intro z
  obtain ⟨j, hj, e⟩ := List.mem_take_iff_getElem.mp z
  obtain ⟨hi, e2⟩ := List.getElem?_eq_some_iff.mp h
  have hj' : j < p.length := by omega
  have := (List.getElem_inj (h₀ := hj') (h₁ := hi) hd).mp (by rw [e, e2])
  omega
theorem cal_isPerm (T : Txt mg) (GI : Cal P w K mg base "is_index" 2 spIndex) (D : Df K mg "is_permutation" sIsPerm ["value"]) : Cal P w K mg base "is_permutation" 3 spIsPerm := by
  refine cal_of D scIsPerm (fun vs H Q E h => ?_) (fun f cdv A outer s H vs Q E hr h => ?_)
  · obtain ⟨a, p, rfl, _⟩ := h
    rfl
  · obtain ⟨a, p, rfl, ha, ⟨hd, hb⟩, hl, q⟩ := h
    refine ⟨_, pss_cons (ps_if (pt_not (pt_val (pe_callB call_isi (by rfl) T.isinstance (by decide +kernel) (pa_cons (pv 0) (pa_cons (pe_bltn (v := .ty "tuple") (by rfl) T.tuple (by decide +kernel) rfl) pa_nil))))) (pss_one (ps_ret pe_bl)) pss_nil)
      (pss_cons (ps_set (i := 1) scIsPerm.nd rfl (.inl rfl) (pe_op op_rep (pe_lst (pa_cons pe_bl pa_nil)) (pe_callB call_len_seq (by rfl) T.len PySem.boot_len (pa_cons (pv 0) pa_nil))))
      (pss_cons (ps_for PassesOwn.never rfl (pi_tup (pv 0)) (pg_name (i := 2) scIsPerm.nd rfl (.inl rfl))
        (pss_cons (ps_if (PW.pt (pw_or (pt_not (pt_val (pe_cal GI hr (by rfl) (pa_cons (pv 2) (pa_cons (pe_callB call_len_seq (by rfl) T.len PySem.boot_len (pa_cons (pv 0) pa_nil)) pa_nil))))) (pw_or1 (pt_val (pe_ix ix_list (pv 1) (pv 2) (fun _ _ => rfl)))))) (pss_one (ps_ret pe_bl)) pss_nil)
          (pss_one (ps_asg pe_bl (pg_sub (pv 1) (pv 2) set_list)))))
      (pss_one (ps_ret pe_bl)))), ?_⟩
    refine ⟨_, rfl, _, _, _, _, true, rfl, .ty _, .base (.tup ha), kit_ty (by decide +kernel), true, rfl, iteF ?_⟩
    refine ⟨by show 1 ≤ sizeLine; decide, fun l0 n0 => ?_⟩
    have s0 := same_upd (o := .lst [V.bl false]) n0
    refine ⟨_, rfl, a, NV p, rfl, .inr (sq_of (s0 _ _ ha)), l0, _, _, rfl, rfl, upd_same, by rw [NV_len]; omega, by rw [NV_len]; omega, ?_, fun l1 n1 => ?_⟩
    · rw [NV_len]
      show 1 * _ ≤ _
      exact Nat.le_of_lt (small1000 (by omega))
    have e0 : (List.replicate (Int.toNat ((NV p).length : Int)) [V.bl false]).flatten = seenL p 0 p.length := by
      rw [NV_len]
      unfold seenL
      rw [Int.toNat_natCast]
      apply List.ext_getElem?
      intro j
      rw [List.flatten_replicate_singleton]
      by_cases hj : j < p.length
      · rw [List.getElem?_replicate, if_pos hj, List.getElem?_map, List.getElem?_range hj]
        simp
      · rw [List.getElem?_eq_none (by simp; omega), List.getElem?_eq_none (by simp; omega)]
    rw [e0]
    have s1 := same_upd (o := .lst (seenL p 0 p.length)) n1
    have s2 := s0.trans s1
    have n1' : H l1 = none := s0.free n1
    refine ⟨_, rfl, a, rfl, ⟨_, sq_of (s2 _ _ ha)⟩, for_tup (xs := NV p) (fun i σ H' => ∃ v2, σ = [some (.ref a), some (.ref l1), v2] ∧ Same H H' ∧ H' l1 = some (.lst (seenL p i p.length)))
      ⟨none, rfl, s2, upd_same⟩ (fun i σ H' _ ⟨_, _, sm, _⟩ => sq_of (sm _ _ ha)) ?_ ?_⟩
    · rintro i v σ H' hi ⟨v2, rfl, sm, hL⟩
      obtain ⟨x, hx, rfl⟩ := NV_get' hi
      have hlt : i < p.length := (List.getElem?_eq_some_iff.mp hx).1
      have hxb : x < p.length := hb x (List.mem_of_getElem? hx)
      refine ⟨_, rfl, _, rfl, a, NV p, rfl, .inr (sq_of (sm _ _ ha)), _, _, rfl, _, rfl, ?_⟩
      have e1 : decide ((0 : Int) ≤ (x : Int) ∧ (x : Int) < ((NV p).length : Int)) = true := by
        rw [NV_len]
        exact decide_eq_true ⟨by omega, by omega⟩
      rw [e1]
      refine iteF ⟨_, rfl, _, rfl, l1, _, _, _, rfl, rfl, sl_of hL, atI_nat (seenL_get hxb), decide (x ∈ p.take i), rfl, ?_⟩
      rw [decide_eq_false (fresh_of hd hx)]
      refine iteF ⟨_, rfl, _, rfl, l1, _, _, x, rfl, rfl, hL, ?_, ?_⟩
      · rw [seenL_len]
        unfold ixN
        rw [if_pos (by omega), if_pos (by omega)]
        rfl
      · rw [seenL_set hx]
        refine ⟨_, rfl, fun b o e => ?_, upd_same⟩
        rw [upd_ne (ne_of_none e n1')]
        exact sm _ _ e
    · rintro σ H' ⟨v2, rfl, sm, hL⟩
      exact q _ sm
def spCheck : Sp := fun vs H Q _ => ∃ (a : Addr) (p : List Nat), vs = [.ref a] ∧ Tp H a p ∧ IsP p ∧ p.length ≤ 1000 ∧ ∀ H', Same H H' → Q .non H'
theorem scCheck : FnScope ["value"] ["value"] (defScope sCheck) := ⟨rfl, rfl, rfl, by decide +kernel, rfl, by decide +kernel, by decide +kernel⟩
theorem cal_check (G : Cal P w K mg base "is_permutation" 3 spIsPerm) (D : Df K mg "_check" sCheck ["value"]) : Cal P w K mg base "_check" 4 spCheck := by
  refine cal_of D scCheck (fun vs H Q E h => ?_) (fun f cdv A outer s H vs Q E hr h => ?_)
  · obtain ⟨a, p, rfl, _⟩ := h
    rfl
  · obtain ⟨a, p, rfl, ha, hp, hl, q⟩ := h
    refine ⟨_, pss_one (ps_if (pt_not (pt_val (pe_cal G hr (by rfl) (pa_cons (pv 0) pa_nil)))) (pss_one ps_never) pss_nil), ?_⟩
    exact ⟨_, rfl, a, p, rfl, ha, hp, hl, fun H' sm => ⟨_, rfl, iteF (q H' sm)⟩⟩
end
end Hw

namespace Hw
open PySem PySem.Spec PyProof.Rows L2
/-- a def that takes any number of arguments -/
structure DfS (K : PySem.W.Frag) (mg : Str → Option Value) (x : Str) (st : Stmt) : Prop where
  ex : ∃ (f : Addr) (fd : FuncData), Fun K x x st f fd ∧ mg x = some (.ref f)
section
variable {P : Program} {w : World} {K : PySem.W.Frag} {mg : Str → Option Value} {base : Heap}
theorem nv_len {ps : List (Addr × List Nat)} : (ps.map fun p => V.ref p.1).length = ps.length := by rw [List.length_map]
theorem refs_get {ps : List (Addr × List Nat)} {i : Nat} {v : V} (h : (ps.map fun p => V.ref p.1)[i]? = some v) : ∃ p, ps[i]? = some p ∧ v = .ref p.1 := by
  rw [List.getElem?_map] at h
  cases e : ps[i]? with
  | none => rw [e] at h; cases h
  | some p => rw [e] at h; exact ⟨p, rfl, (Option.some.inj h).symm⟩
/-- several permutations of one size -/
def Perms (H : Hp) (n : Nat) (ps : List (Addr × List Nat)) : Prop := ∀ p ∈ ps, Tp H p.1 p.2 ∧ IsP p.2 ∧ p.2.length = n
def spCompose0 : Sp := fun vs H Q _ => ∃ (t : Addr) (ps : List (Addr × List Nat)) (n : Nat), vs = [.ref t] ∧ H t = some (.tup (ps.map fun p => .ref p.1)) ∧ Perms H n ps ∧ n ≤ 1000 ∧ ps.length ≤ 1000 ∧ (ps = [] → n = 0) ∧
  ∀ H' r, Same H H' → Tp H' r (muls n (ps.map (·.2))) → Q (.ref r) H'
def spCompose : Sp := fun vs H Q _ => ∃ (ps : List (Addr × List Nat)) (n : Nat), vs = ps.map (fun p => .ref p.1) ∧ Perms H n ps ∧ n ≤ 1000 ∧ ps.length ≤ 1000 ∧ (ps = [] → n = 0) ∧
  ∀ H' r, Same H H' → Tp H' r (muls n (ps.map (·.2))) → Q (.ref r) H'
theorem scCompose : FnScope ["permutations", "permutation", "sizes", "moved", "position"] ["permutations"] (defScope sCompose) := ⟨rfl, rfl, rfl, by decide +kernel, rfl, by decide +kernel, by decide +kernel⟩
theorem body_compose {f : Addr} {cdv : Value} {A : Around} {outer : List Env} {s : Shared} {H : Hp} {vs : List V} {Q : VK} {E : XK} (T : Txt mg) (GC : Cal P w K mg base "_check" 4 spCheck)
    (hr : Room 4 (A.deeper (envOfC "compose" (defScope sCompose) s.heap.objs.size f cdv))) (h : spCompose0 vs H Q E) :
    ∃ t, PSs (cxOf CX0 P w K mg base ["permutations", "permutation", "sizes", "moved", "position"] "compose" (defScope sCompose) f cdv A outer s H E) (defBody sCompose) t ∧ t { nx := fun _ H' => Q .non H', rt := Q } (start ["permutations", "permutation", "sizes", "moved", "position"] vs) H := by
  have nd := scCompose.nd
  obtain ⟨t, ps, n, rfl, ht, hp, hn, hz, h0, q⟩ := h
  refine ⟨_, PSs.nox (pss_cons (ps_for PassesOwn.never rfl (pi_tup (pv 0)) (pg_name (i := 1) nd rfl (.inr rfl)) (pss_one (ps_expr (pe_cal GC hr (by rfl) (pa_cons (pv 1) pa_nil)))))
    <| pss_cons (ps_set (i := 2) nd rfl (.inl rfl) (pe_callTy call_tuple_of (by rfl) T.tuple (by decide +kernel) (pa_cons (pe_lc (own := [("permutation", 1)]) (g := gName 1) (by rfl) nd (pi_tup (pv 0))
        (blkOk_by (own := [("permutation", 1)]) (N := ["permutations", "permutation", "sizes", "moved", "position"]) (sc := defScope sCompose) (by decide +kernel)) (fun _ _ _ _ _ => pg_name (i := 1) nd rfl (.inl rfl)) (fun _ _ _ _ _ => pts_nil)
        (fun _ _ _ _ _ => pe_callB (r := rLenS K) cr_len (by rfl) T.len PySem.boot_len (pa_cons (pv 1) pa_nil))) pa_nil)))
    <| pss_cons (ps_if (pt_cmpR op_gt (pe_lenSetT (by rfl) T.len (by rfl) T.set (pv 2)) pe_int (nomark _)) (pss_one ps_never) pss_nil)
    <| pss_cons (ps_if (pt_not (pt_truth (pv 0) (by intro _; rfl))) (pss_one (ps_ret (pe_tup pa_nil))) pss_nil)
    <| pss_cons (ps_set (i := 3) nd rfl (.inl rfl) (pe_listRg (by rfl) (by rfl) T.list (prg_1 (by rfl) T.range (pe_ix ix_tup (pv 2) pe_int (fun _ _ => rfl)))))
    <| pss_cons (ps_for PassesOwn.never rfl (pi_tup (pv 0)) (pg_name (i := 1) nd rfl (.inr rfl)) (pss_one (ps_setLc (i := 3) (own := [("position", 4)]) (g := gName 4) (by rfl) nd rfl rfl (sw_true rfl rfl rfl (by decide +kernel)) (pi_list (pv 3))
        (blkOk_by (own := [("position", 4)]) (N := ["permutations", "permutation", "sizes", "moved", "position"]) (sc := defScope sCompose) (by decide +kernel)) (fun _ _ _ _ _ => pg_name (i := 4) nd rfl (.inl rfl)) (fun _ _ _ _ _ => pts_nil)
        (fun _ _ _ _ _ => pe_ix (r := rIxT K) ix_tup (pv 1) (pv 4) (fun _ _ => rfl)))))
    <| pss_one (ps_ret (pe_callTy call_tuple_of (by rfl) T.tuple (by decide +kernel) (pa_cons (pv 3) pa_nil)))), ?_⟩
  have rg : ∀ {H'} (v : V) i, Same H H' → (ps.map fun p => V.ref p.1)[i]? = some v → ∃ (p : Addr × List Nat), v = .ref p.1 ∧ ps[i]? = some p ∧ Tp H' p.1 p.2 ∧ IsP p.2 ∧ p.2.length = n := fun v i sm hi => by
    obtain ⟨p, hp1, rfl⟩ := refs_get hi
    obtain ⟨h1, h2, h3⟩ := hp p (List.mem_of_getElem? hp1)
    exact ⟨p, rfl, hp1, sm _ _ h1, h2, h3⟩
  refine ⟨_, rfl, t, rfl, ⟨_, sq_of ht⟩, for_it (walk_tup (xs := ps.map fun p => V.ref p.1)) (fun i σ H' => ∃ v, σ = [some (.ref t), v, none, none, none] ∧ Same H H') ⟨none, rfl, Same.refl H⟩ (fun i σ H' _ ⟨_, _, sm⟩ => sq_of (sm _ _ ht)) ?_ ?_⟩
  · rintro i x σ H1 _ hi ⟨v, rfl, sm⟩ ⟨rfl, hx⟩
    obtain ⟨p, rfl, _, h1, h2, h3⟩ := rg x i sm hx
    exact ⟨_, rfl, p.1, p.2, rfl, h1, h2, by omega, fun H2 sm2 => ⟨_, rfl, sm.trans sm2⟩⟩
  rintro σ H1 ⟨v, rfl, sm1⟩
  refine ⟨_, rfl, t, rfl, ⟨_, sq_of (sm1 _ _ ht)⟩, fun D nD => lc_it (walk_tup (xs := ps.map fun p => V.ref p.1)) (fun i H' => Same H1 H' ∧ H' D = some (.lst (List.replicate i (V.int n)))) ⟨same_upd nD, upd_same⟩ (fun i H' _ ⟨sm, _⟩ => sq_of (sm _ _ (sm1 _ _ ht))) ?_ ?_⟩
  · rintro i x H2 _ hi ⟨sm, hD⟩ ⟨rfl, hx⟩
    obtain ⟨p, rfl, _, h1, h2, h3⟩ := rg x i (sm1.trans sm) hx
    refine ⟨rfl, _, rfl, p.1, NV p.2, rfl, .inr (sq_of h1), _, hD, ?_, ?_, ?_⟩
    · rw [List.length_replicate]
      have := (List.getElem?_eq_some_iff.mp hx).1
      rw [nv_len] at this
      exact small1000 (by omega)
    · exact fun b o e => by rw [upd_ne (ne_of_none e nD)]; exact sm _ _ e
    · rw [upd_same, NV_len, h3, List.replicate_succ']
  rintro H2 ⟨sm2, hD⟩
  rw [nv_len] at hD
  refine ⟨D, _, rfl, .inl ⟨sl_of hD, fun l nl => ?_⟩⟩
  have sm3 := sm1.trans (sm2.trans (same_upd (o := .tup (List.replicate ps.length (V.int n))) nl))
  refine ⟨_, rfl, l, List.replicate ps.length (n : Int), n, rfl, sq_of (by rw [upd_same, List.map_replicate]), fun m hm => List.eq_of_mem_replicate hm, by rw [List.length_replicate]; exact hz, fun c hc => ?_⟩
  refine ⟨_, _, rfl, rfl, _, rfl, ?_⟩
  rw [show decide ((1 : Int) < (c : Int)) = false from decide_eq_false (by omega)]
  refine iteF ⟨_, rfl, _, .inr (.inl ⟨_, sq_of (sm3 _ _ ht), rfl⟩), ?_⟩
  cases ps with
  | nil =>
    refine iteT ⟨Nat.zero_le _, fun r nr => ?_⟩
    refine q _ r (sm3.trans (same_upd nr)) ?_
    rw [h0 rfl]
    exact upd_same
  | cons p0 ps0 =>
    refine iteF ?_
    refine ⟨_, rfl, l, _, 0, V.int (n : Int), rfl, rfl, sq_of upd_same, atI_nat (j := 0) rfl, _, rfl, RgOk.of_le (by omega) (by omega) (by omega) (by omega), fun M nM => ?_⟩
    rw [NV_range]
    have sm4 := sm3.trans (same_upd (o := .lst (NV (List.range n))) nM)
    generalize eps : p0 :: ps0 = ps at *
    refine ⟨_, rfl, t, rfl, ⟨_, sq_of (sm4 _ _ ht)⟩, for_it (walk_tup (xs := ps.map fun p => V.ref p.1)) (fun i σ H' => ∃ v M, σ = [some (.ref t), v, some (.ref l), some (.ref M), none] ∧ Same H H' ∧ H' M = some (.lst (NV (muls n ((ps.take i).map (·.2)))))) ⟨_, M, rfl, sm4, upd_same⟩ (fun i σ H' _ ⟨_, _, _, sm, _⟩ => sq_of (sm _ _ ht)) ?_ ?_⟩
    · rintro i x σ _ H3 hi ⟨v, M, rfl, sm, hM⟩ ⟨rfl, hx⟩
      obtain ⟨p, rfl, hpi, h1, h2, h3⟩ := rg x i sm hx
      have rw1 : Row n (muls n ((ps.take i).map (·.2))) := row_muls fun r hr => by
        obtain ⟨p', hp', rfl⟩ := List.mem_map.mp hr
        obtain ⟨_, g2, g3⟩ := hp p' (List.mem_of_mem_take hp')
        exact row_of g2 g3
      generalize em : muls n ((ps.take i).map (·.2)) = m at *
      refine ⟨_, rfl, M, rfl, ⟨_, sl_of hM⟩, fun D2 nD2 => lc_it (walk_list (xs := NV m)) (fun j H' => Same H3 H' ∧ H' D2 = some (.lst (NV ((m.take j).map (ap p.2))))) ⟨same_upd nD2, upd_same⟩ (fun j H' _ ⟨s', _⟩ => sl_of (s' _ _ hM)) ?_ ?_⟩
      · rintro j y _ H4 hj ⟨s4, hD2⟩ ⟨rfl, hy⟩
        obtain ⟨z, hz1, rfl⟩ := NV_get' hy
        have zb : z < p.2.length := by rw [h3]; exact rw1.2 z (List.mem_of_getElem? hz1)
        refine ⟨rfl, _, rfl, _, rfl, p.1, _, _, _, rfl, rfl, sq_of (s4 _ _ h1), atI_nat (NV_get (ap_get zb)), _, hD2, ?_, ?_, ?_⟩
        · rw [NV_len, List.length_map, List.length_take]
          exact Nat.lt_of_le_of_lt (Nat.min_le_right _ _) (small1000 (by rw [rw1.1]; exact hn))
        · exact fun b o e => by rw [upd_ne (ne_of_none e nD2)]; exact s4 _ _ e
        · rw [upd_same, ← NV_snoc, List.take_add_one, hz1, List.map_append]
          rfl
      · rintro H4 ⟨s4, hD2⟩
        refine ⟨_, D2, rfl, sm.trans s4, ?_⟩
        rw [hD2, NV_len, List.take_length, List.take_add_one, hpi, List.map_append]
        show _ = some (HO.lst (NV (muls n ((ps.take i).map (·.2) ++ [p.2]))))
        rw [muls_snoc, em]
        rfl
    · rintro σ H3 ⟨v, M, rfl, sm, hM⟩
      rw [nv_len, List.take_length] at hM
      refine ⟨_, rfl, M, _, rfl, .inl ⟨sl_of hM, fun r nr => ?_⟩⟩
      exact q _ r (sm.trans (same_upd nr)) upd_same
theorem cal_compose (T : Txt mg) (GC : Cal P w K mg base "_check" 4 spCheck) (D : DfS K mg "compose" sCompose) : Cal P w K mg base "compose" 5 spCompose := by
  obtain ⟨f, fd, F, g⟩ := D.ex
  obtain ⟨oc, od, kV, doc, pm, an, cdv, ct, osl, rfl, lk, hcd⟩ := F.ex
  have G := StX.fn_star (P := P) (w := w) (K := K) (mg := mg) (base := base) (CX := CX0) (k := 4) (ps := []) (pv := "permutations") (sp := spCompose0) lk hcd scCompose StX.cxUp_none (fun us rest hl => ?_) (fun A outer s H vs Q E hr h => body_compose T GC hr h)
  · refine ⟨f, g, F.kp, G.imp ?_⟩
    rintro vs H Q E ⟨ps, n, rfl, hp, hn, hz, h0, q⟩
    refine ⟨[], _, rfl, rfl, by rw [nv_len]; exact Nat.le_of_lt (small1000 hz), fun t nt => ⟨t, ps, n, rfl, upd_same, fun p m => ?_, hn, hz, h0, fun H' r sm => q H' r ((same_upd nt).trans sm)⟩⟩
    obtain ⟨h1, h2⟩ := hp p m
    exact ⟨same_upd nt _ _ h1, h2⟩
  · cases us with
    | cons u us => cases hl
    | nil => cases rest <;> rfl
end
end Hw

namespace Hw
open PySem PySem.Spec PyProof.Rows L2
/-! ### inverse -/
def invI (p : List Nat) (i : Nat) : List Nat := (List.range p.length).map fun y => if y ∈ p.take i then p.idxOf y else 0
theorem invI_len (p : List Nat) (i : Nat) : (invI p i).length = p.length := by unfold invI; simp
theorem invI_zero (p : List Nat) : invI p 0 = List.replicate p.length 0 := by
  unfold invI
  apply List.ext_getElem?
  intro j
  by_cases hj : j < p.length
  · rw [List.getElem?_map, List.getElem?_range hj, List.getElem?_replicate, if_pos hj]
    simp
  · rw [List.getElem?_eq_none (by simp; omega), List.getElem?_eq_none (by simp; omega)]
theorem invI_set {p : List Nat} (hd : p.Nodup) {i x : Nat} (h : p[i]? = some x) : (invI p i).set x i = invI p (i + 1) := by
  obtain ⟨hi, ex⟩ := List.getElem?_eq_some_iff.mp h
  apply List.ext_getElem?
  intro j
  by_cases hj : j < p.length
  · rw [List.getElem?_set, invI_len]
    unfold invI
    rw [List.getElem?_map, List.getElem?_map, List.getElem?_range hj, List.take_add_one, h]
    by_cases e : x = j
    · subst e
      have h1 : p.idxOf x < p.length := List.idxOf_lt_length_iff.mpr (List.mem_of_getElem? h)
      have h2 : p[p.idxOf x] = x := List.getElem_idxOf h1
      have h3 : p.idxOf x = i := (List.getElem_inj (h₀ := h1) (h₁ := hi) hd).mp (h2.trans ex.symm)
      simp [hj, h3]
    · rw [if_neg e]
      have e' : ¬ j = x := fun z => e z.symm
      simp [e']
  · rw [List.getElem?_eq_none (by rw [List.length_set, invI_len]; omega), List.getElem?_eq_none (by rw [invI_len]; omega)]
theorem invI_end {p : List Nat} (hp : IsP p) : invI p p.length = inv p := by
  unfold invI inv
  apply List.map_congr_left
  intro y hy
  rw [List.take_length, if_pos (isP_mem hp (List.mem_range.mp hy))]
theorem NV_set (p : List Nat) (x v : Nat) : (NV p).set x (V.int (v : Int)) = NV (p.set x v) := by unfold NV; rw [List.map_set]
theorem NV_rep (n x : Nat) : NV (List.replicate n x) = List.replicate n (V.int (x : Int)) := by unfold NV; rw [List.map_replicate]
theorem rep_flat {v : V} (n : Nat) : (List.replicate (Int.toNat (n : Int)) [v]).flatten = List.replicate n v := by
  rw [Int.toNat_natCast, List.flatten_replicate_singleton]
section
variable {P : Program} {w : World} {K : PySem.W.Frag} {mg : Str → Option Value} {base : Heap}
def spInverse : Sp := fun vs H Q _ => ∃ (a : Addr) (p : List Nat), vs = [.ref a] ∧ Tp H a p ∧ IsP p ∧ p.length ≤ 1000 ∧ ∀ H' r, Same H H' → Tp H' r (inv p) → Q (.ref r) H'
theorem scInverse : FnScope ["permutation", "origins", "position", "target"] ["permutation"] (defScope sInverse) := ⟨rfl, rfl, rfl, by decide +kernel, rfl, by decide +kernel, by decide +kernel⟩
theorem cal_inverse (T : Txt mg) (GC : Cal P w K mg base "_check" 4 spCheck) (D : Df K mg "inverse" sInverse ["permutation"]) : Cal P w K mg base "inverse" 5 spInverse := by
  have nd := scInverse.nd
  refine cal_of D scInverse (fun vs H Q E h => ?_) (fun f cdv A outer s H vs Q E hr h => ?_)
  · obtain ⟨a, p, rfl, _⟩ := h
    rfl
  · obtain ⟨a, p, rfl, ha, hp, hl, q⟩ := h
    refine ⟨_, pss_cons (ps_expr (pe_cal GC hr (by rfl) (pa_cons (pv 0) pa_nil)))
      <| pss_cons (ps_set (i := 1) nd rfl (.inl rfl) (pe_op op_rep (pe_lst (pa_cons pe_int pa_nil)) (pe_callB cr_len (by rfl) T.len PySem.boot_len (pa_cons (pv 0) pa_nil))))
      <| pss_cons (ps_for PassesOwn.never rfl (pi_enumT (by rfl) T.enumerate (pa_cons (pv 0) pa_nil)) (pg_tup rfl (pgs_cons (pg_name (i := 2) nd rfl (.inl rfl)) (pgs_cons (pg_name (i := 3) nd rfl (.inl rfl)) pgs_nil)))
          (pss_one (ps_asg (pv 2) (pg_sub (pv 1) (pv 3) set_list))))
      <| pss_one (ps_ret (pe_callTy call_tuple_of (by rfl) T.tuple (by decide +kernel) (pa_cons (pv 1) pa_nil))), ?_⟩
    refine ⟨_, rfl, a, p, rfl, ha, hp, hl, fun H1 sm1 => ?_⟩
    refine ⟨by show 1 ≤ sizeLine; decide, fun l0 n0 => ?_⟩
    have sm2 := sm1.trans (same_upd (o := .lst [V.int 0]) n0)
    refine ⟨_, rfl, a, NV p, rfl, .inr (sq_of (sm2 _ _ ha)), l0, _, _, rfl, rfl, upd_same, by rw [NV_len]; omega, by rw [NV_len]; omega, ?_, fun l1 n1 => ?_⟩
    · rw [NV_len]
      show 1 * _ ≤ _
      exact Nat.le_of_lt (small1000 (by omega))
    rw [NV_len, rep_flat]
    have n1' : H l1 = none := sm2.free n1
    have sm3 := sm2.trans (same_upd (o := .lst (List.replicate p.length (V.int 0))) n1)
    refine ⟨_, rfl, a, NV p, rfl, sq_of (sm3 _ _ ha), for_it (walk_enumT (xs := NV p)) (fun i σ H' => ∃ v2 v3, σ = [some (.ref a), some (.ref l1), v2, v3] ∧ Same H H' ∧ H' l1 = some (.lst (NV (invI p i)))) ⟨none, none, rfl, sm3, ?_⟩ (fun i σ H' _ ⟨_, _, _, sm, _⟩ => sq_of (sm _ _ ha)) ?_ ?_⟩
    · rw [upd_same, invI_zero, NV_rep]
      rfl
    · rintro i x σ H2 H3 hi ⟨v2, v3, rfl, sm, hL⟩ ⟨T1, i', y, rfl, nT, rfl, ei, ey⟩
      obtain rfl : V.int (i : Int) = i' := Option.some.inj ei
      obtain ⟨z, hz, rfl⟩ := NV_get' ey
      have zb : z < p.length := hp.2 z (List.mem_of_getElem? hz)
      have smT := sm.trans (same_upd (o := .tup [V.int (i : Int), V.int (z : Int)]) nT)
      refine ⟨T1, _, rfl, .inl (.inl upd_same), rfl, _, _, rfl, _, _, rfl, rfl, ?_⟩
      refine ⟨_, rfl, _, rfl, _, rfl, l1, _, _, z, rfl, rfl, (by rw [upd_ne (ne_of_none hL nT)]; exact hL), ?_, ?_⟩
      · rw [NV_len, invI_len]
        unfold ixN
        rw [if_pos (by omega), if_pos (by omega)]
        rfl
      · refine ⟨_, _, rfl, fun b o e => ?_, ?_⟩
        · rw [upd_ne (ne_of_none e n1')]
          exact smT _ _ e
        · rw [upd_same, NV_set, invI_set hp.1 hz]
    · rintro σ H2 ⟨v2, v3, rfl, sm, hL⟩
      rw [NV_len, invI_end hp] at hL
      exact ⟨_, rfl, l1, _, rfl, .inl ⟨sl_of hL, fun r nr => q _ r (sm.trans (same_upd nr)) upd_same⟩⟩
end
end Hw

namespace Hw
open PySem PySem.Spec PyProof.Rows L2
theorem tp_upd {H : Hp} {b l : Addr} {c : List Nat} {xs : List V} {o : HO} (h : Tp H b c) (hl : H l = some (.lst xs)) : Tp (upd H l o) b c := by
  show upd H l o b = _
  rw [upd_ne (ne_of h hl (by intro q; cases q))]
  exact h
theorem tp_new {H : Hp} {b l : Addr} {c : List Nat} {o : HO} (h : Tp H b c) (hl : H l = none) : Tp (upd H l o) b c := same_upd hl _ _ h
theorem same_in {H H' : Hp} {l : Addr} {o : HO} (sm : Same H H') (h : H l = none) : Same H (upd H' l o) := fun b u e => by
  rw [upd_ne (ne_of_none e h)]
  exact sm _ _ e
/-! ### the seen ones while the way of i is walked -/
def snK (p : List Nat) (i k : Nat) : List V := (List.range p.length).map fun j => V.bl (sn p i j || decide (j ∈ (orb p i).take k))
def snTo (p : List Nat) (i : Nat) : Nat := if sn p i i = true then 0 else per p i
theorem snK_len (p : List Nat) (i k : Nat) : (snK p i k).length = p.length := by unfold snK; simp
theorem snK_get {p : List Nat} {i k j : Nat} (h : j < p.length) : (snK p i k)[j]? = some (V.bl (sn p i j || decide (j ∈ (orb p i).take k))) := by
  unfold snK
  rw [List.getElem?_map, List.getElem?_range h]
  rfl
theorem snK_set {p : List Nat} (hp : IsP p) {i k : Nat} (hi : i < p.length) (hk : k < per p i) : (snK p i k).set (it p k i) (V.bl true) = snK p i (k + 1) := by
  have hx := it_lt hp hi k
  apply List.ext_getElem?
  intro j
  by_cases hj : j < p.length
  · rw [List.getElem?_set, snK_get hj, snK_get hj, snK_len, List.take_add_one, orb_get hp hi hk]
    by_cases e : it p k i = j
    · subst e
      simp [hj]
    · rw [if_neg e]
      have e' : ¬ j = it p k i := fun z => e z.symm
      simp [e']
  · rw [List.getElem?_eq_none (by rw [List.length_set, snK_len]; omega), List.getElem?_eq_none (by rw [snK_len]; omega)]
theorem snK_at {p : List Nat} (hp : IsP p) {i k : Nat} (hi : i < p.length) (hk : k ≤ snTo p i) : (snK p i k)[it p k i]? = some (V.bl (decide (k = snTo p i))) := by
  rw [snK_get (it_lt hp hi k)]
  congr 2
  unfold snTo at hk ⊢
  cases hs : sn p i i with
  | true =>
    rw [hs] at hk
    have : k = 0 := by simpa using hk
    subst this
    show (sn p i i || _) = _
    rw [hs]
    simp
  | false =>
    rw [hs] at hk
    simp only [Bool.false_eq_true, if_false] at hk ⊢
    have ps := per_spec hp hi
    by_cases z : k = per p i
    · subst z
      have m : i ∈ (orb p i).take (per p i) := by
        rw [← orb_len hp hi, List.take_length]
        exact self_orb hp hi
      rw [ps.2.2.1]
      simp [m]
    · have hlt : k < per p i := by omega
      have h1 := sn_fresh hp hi hs ((mem_orb hp hi).mpr ⟨k, rfl⟩)
      have h2 : it p k i ∉ (orb p i).take k := fresh_of (orb_nodup hp hi) (orb_get hp hi hlt)
      rw [h1]
      simp [h2, z]
theorem snK_zero (p : List Nat) (i : Nat) : snK p i 0 = (List.range p.length).map fun j => V.bl (sn p i j) := by
  unfold snK
  apply List.map_congr_left
  intro j _
  simp
theorem snK_to {p : List Nat} (hp : IsP p) {i : Nat} (hi : i < p.length) : snK p i (snTo p i) = snK p (i + 1) 0 := by
  rw [snK_zero]
  unfold snK
  apply List.map_congr_left
  intro j _
  congr 1
  unfold snTo
  cases hs : sn p i i with
  | true =>
    rw [sn_seen hp hi hs]
    simp
  | false =>
    rw [sn_succ]
    simp only [Bool.false_eq_true, if_false]
    rw [← orb_len hp hi, List.take_length]
theorem cycF_to {p : List Nat} (hp : IsP p) {i : Nat} (hi : i < p.length) : cycF p (i + 1) = cycF p i ++ if 1 < snTo p i then [(orb p i).take (snTo p i)] else [] := by
  rw [cycF_succ]
  congr 1
  unfold snTo
  cases hs : sn p i i with
  | true => simp
  | false =>
    simp only [Bool.false_eq_true, if_false, Bool.not_false, Bool.true_and, decide_eq_true_eq]
    have e : (orb p i).take (per p i) = orb p i := by rw [← orb_len hp hi, List.take_length]
    rw [e]
theorem snTo_le {p : List Nat} (hp : IsP p) {i : Nat} (hi : i < p.length) : snTo p i ≤ per p i := by
  unfold snTo
  split <;> omega
section
variable {P : Program} {w : World} {K : PySem.W.Frag} {mg : Str → Option Value} {base : Heap}
/-- what cycles hands back -/
def CycAt (H : Hp) (r : Addr) (p : List Nat) : Prop := ∃ ks : List (Addr × List Nat), H r = some (.tup (ks.map fun k => .ref k.1)) ∧ ks.map (·.2) = cyc p ∧ ∀ k ∈ ks, Tp H k.1 k.2
def spCycles : Sp := fun vs H Q _ => ∃ (a : Addr) (p : List Nat), vs = [.ref a] ∧ Tp H a p ∧ IsP p ∧ p.length ≤ 1000 ∧ ∀ H' r, Same H H' → CycAt H' r p → Q (.ref r) H'
theorem scCycles : FnScope ["permutation", "seen", "found", "first", "cycle", "position"] ["permutation"] (defScope sCycles) := ⟨rfl, rfl, rfl, by decide +kernel, rfl, by decide +kernel, by decide +kernel⟩
theorem cal_cycles (T : Txt mg) (GC : Cal P w K mg base "_check" 4 spCheck) (D : Df K mg "cycles" sCycles ["permutation"]) : Cal P w K mg base "cycles" 5 spCycles := by
  have nd := scCycles.nd
  refine cal_of D scCycles (fun vs H Q E h => ?_) (fun f cdv A outer s H vs Q E hr h => ?_)
  · obtain ⟨a, p, rfl, _⟩ := h
    rfl
  · obtain ⟨a, p, rfl, ha, hp, hl, q⟩ := h
    refine ⟨_, pss_cons (ps_expr (pe_cal GC hr (by rfl) (pa_cons (pv 0) pa_nil)))
      <| pss_cons (ps_set (i := 1) nd rfl (.inl rfl) (pe_op op_rep (pe_lst (pa_cons pe_bl pa_nil)) (pe_callB cr_len (by rfl) T.len PySem.boot_len (pa_cons (pv 0) pa_nil))))
      <| pss_cons (ps_set (i := 2) nd rfl (.inl rfl) (pe_lst pa_nil))
      <| pss_cons (ps_for PassesOwn.never rfl (pi_range1 (by rfl) T.range (pa_cons (pe_callB cr_len (by rfl) T.len PySem.boot_len (pa_cons (pv 0) pa_nil)) pa_nil)) (pg_name (i := 3) nd rfl (.inl rfl))
          (pss_cons (ps_set (i := 4) nd rfl (.inl rfl) (pe_lst pa_nil))
          <| pss_cons (ps_set (i := 5) nd rfl (.inl rfl) (pv 3))
          <| pss_cons (ps_while PassesOwn.never (pt_not (pt_val (pe_ix ix_list (pv 1) (pv 5) (fun _ _ => rfl))))
              (pss_cons (ps_asg pe_bl (pg_sub (pv 1) (pv 5) set_list))
              <| pss_cons (ps_expr (pe_bm PySem.F.plainAttrs_list PySem.F.slot_list_append PySem.F.type_list_append mt_append (pv 4) (pa_cons (pv 5) pa_nil)))
              <| pss_one (ps_set (i := 5) nd rfl (.inl rfl) (pe_ix ix_tup (pv 0) (pv 5) (fun _ _ => rfl)))))
          <| pss_one (ps_if (pt_cmpR op_gt (pe_callB cr_len (by rfl) T.len PySem.boot_len (pa_cons (pv 4) pa_nil)) pe_int (nomark _))
              (pss_one (ps_expr (pe_bm PySem.F.plainAttrs_list PySem.F.slot_list_append PySem.F.type_list_append mt_append (pv 2) (pa_cons (pe_callTy call_tuple_of (by rfl) T.tuple (by decide +kernel) (pa_cons (pv 4) pa_nil)) pa_nil)))) pss_nil)))
      <| pss_one (ps_ret (pe_callTy call_tuple_of (by rfl) T.tuple (by decide +kernel) (pa_cons (pv 2) pa_nil))), ?_⟩
    refine ⟨_, rfl, a, p, rfl, ha, hp, hl, fun H1 sm1 => ?_⟩
    refine ⟨by show 1 ≤ sizeLine; decide, fun l0 n0 => ?_⟩
    have sm2 := sm1.trans (same_upd (o := .lst [V.bl false]) n0)
    refine ⟨_, rfl, a, NV p, rfl, .inr (sq_of (sm2 _ _ ha)), l0, _, _, rfl, rfl, upd_same, by rw [NV_len]; omega, by rw [NV_len]; omega, ?_, fun l1 n1 => ?_⟩
    · rw [NV_len]
      show 1 * _ ≤ _
      exact Nat.le_of_lt (small1000 (by omega))
    rw [NV_len, rep_flat]
    have n1' : H l1 = none := sm2.free n1
    have e0 : List.replicate p.length (V.bl false) = snK p 0 0 := by
      rw [snK_zero]
      apply List.ext_getElem?
      intro j
      by_cases hj : j < p.length
      · rw [List.getElem?_map, List.getElem?_range hj, List.getElem?_replicate, if_pos hj]
        rfl
      · rw [List.getElem?_eq_none (by simp; omega), List.getElem?_eq_none (by simp; omega)]
    rw [e0]
    have sm3 := sm2.trans (same_upd (o := .lst (snK p 0 0)) n1)
    refine ⟨Nat.zero_le _, fun l2 n2 => ?_⟩
    have n2' : H l2 = none := sm3.free n2
    have n12 : l1 ≠ l2 := ne_of_none upd_same n2
    have sm4 := sm3.trans (same_upd (o := .lst []) n2)
    refine ⟨_, rfl, a, NV p, rfl, .inr (sq_of (sm4 _ _ ha)), _, rfl, by rw [NV_len]; omega, by rw [NV_len]; omega, ?_⟩
    rw [NV_len, Int.toNat_natCast]
    refine for_it walk_rg0 (fun i σ H' => ∃ v3 v4 v5 ks, σ = [some (.ref a), some (.ref l1), some (.ref l2), v3, v4, v5] ∧ Same H H' ∧ H' l1 = some (.lst (snK p i 0)) ∧ H' l2 = some (.lst (ks.map fun k => .ref k.1)) ∧ ks.map (·.2) = cycF p i ∧ ks.length ≤ i ∧ ∀ k ∈ ks, Tp H' k.1 k.2)
      ⟨none, none, none, ([] : List (Addr × List Nat)), rfl, sm4, by rw [upd_ne n12, upd_same], upd_same, rfl, Nat.le_refl _, fun k hk => nomatch hk⟩ (fun _ _ _ _ _ => trivial) ?_ ?_
    · rintro i x σ _ H2 hi ⟨v3, v4, v5, ks, rfl, sm, hL1, hL2, hks, hkl, hkt⟩ ⟨rfl, rfl⟩
      refine ⟨Nat.zero_le _, fun l3 n3 => ?_⟩
      have n3' : H l3 = none := sm.free n3
      have n13 : l1 ≠ l3 := ne_of_none hL1 n3
      have n23 : l2 ≠ l3 := ne_of_none hL2 n3
      refine ⟨_, rfl, ?_⟩
      refine ⟨fun m σ H' => ∃ k, k + m = snTo p i ∧ σ = [some (.ref a), some (.ref l1), some (.ref l2), some (.int (i : Int)), some (.ref l3), some (.int (it p k i : Nat))] ∧ Same H H' ∧ H' l1 = some (.lst (snK p i k)) ∧ H' l2 = some (.lst (ks.map fun k => .ref k.1)) ∧ H' l3 = some (.lst (NV ((orb p i).take k))) ∧ ∀ k ∈ ks, Tp H' k.1 k.2,
        ⟨snTo p i, 0, by omega, rfl, same_in sm n3', by rw [upd_ne n13]; exact hL1, by rw [upd_ne n23]; exact hL2, upd_same, fun k hk => tp_new (hkt k hk) n3⟩, ?_⟩
      rintro m σ H3 ⟨k, hk, rfl, sm3, h1, h2, h3, h4⟩
      have at_ := snK_at hp hi (k := k) (by omega)
      refine ⟨_, rfl, _, rfl, l1, _, _, _, rfl, rfl, sl_of h1, atI_nat at_, _, rfl, ?_⟩
      by_cases z : k = snTo p i
      · rw [decide_eq_true z]
        refine iteF ?_
        -- the way is closed
        subst z
        have el : ((orb p i).take (snTo p i)).length = snTo p i := by
          rw [List.length_take, orb_len hp hi]
          have := snTo_le hp hi
          omega
        refine ⟨_, rfl, l3, _, rfl, .inl (sl_of h3), _, _, rfl, rfl, _, rfl, ?_⟩
        rw [NV_len, el]
        have hcy := cycF_to hp hi
        rw [snK_to hp hi] at h1
        refine ite2 (fun z => ?_) (fun z => ?_)
        · have z' : 1 < snTo p i := by
            have := of_decide_eq_true z
            omega
          rw [if_pos z'] at hcy
          refine ⟨_, rfl, .inl ⟨rfl, _, sl_of h2⟩, _, rfl, l3, _, rfl, .inl ⟨sl_of h3, fun T0 nT => ?_⟩⟩
          have nT2 : l2 ≠ T0 := ne_of_none h2 nT
          refine ⟨l2, _, _, rfl, rfl, (by rw [upd_ne nT2]; exact h2), ?_, ?_⟩
          · rw [nv_len]
            exact small1000 (by omega)
          · refine ⟨_, _, _, ks ++ [(T0, (orb p i).take (snTo p i))], rfl, ?_, ?_, ?_, ?_, ?_, ?_⟩
            · exact same_in (sm3.trans (same_upd nT)) n2'
            · rw [upd_ne n12, upd_ne (ne_of_none h1 nT)]
              exact h1
            · rw [upd_same, List.map_append]
              rfl
            · rw [List.map_append, hks, hcy]
              rfl
            · rw [List.length_append, List.length_singleton]
              omega
            · intro k hk
              have hl2 : upd H3 T0 (.tup (NV ((orb p i).take (snTo p i)))) l2 = some (.lst (ks.map fun k => .ref k.1)) := by
                rw [upd_ne nT2]
                exact h2
              rcases List.mem_append.mp hk with hk | hk
              · exact tp_upd (tp_new (h4 k hk) nT) hl2
              · rw [List.mem_singleton.mp hk]
                exact tp_upd upd_same hl2
        · have z' : ¬ 1 < snTo p i := fun y => z (decide_eq_true (by omega))
          rw [if_neg z', List.append_nil] at hcy
          exact ⟨_, _, _, ks, rfl, sm3, h1, h2, by rw [hks, hcy], by omega, h4⟩
      · rw [decide_eq_false z]
        refine iteT ⟨fun σ' H' => ∃ σ0, σ0 = σ' ∧ (k + 1) + (m - 1) = snTo p i ∧ σ' = [some (.ref a), some (.ref l1), some (.ref l2), some (.int (i : Int)), some (.ref l3), some (.int (it p (k + 1) i : Nat))] ∧ Same H H' ∧ H' l1 = some (.lst (snK p i (k + 1))) ∧ H' l2 = some (.lst (ks.map fun k => .ref k.1)) ∧ H' l3 = some (.lst (NV ((orb p i).take (k + 1)))) ∧ ∀ k ∈ ks, Tp H' k.1 k.2, ?_, ?_⟩
        · rintro σ' H' ⟨_, _, e, r⟩
          exact ⟨m - 1, by omega, k + 1, e, r⟩
        · have hs : sn p i i = false := by
            cases e : sn p i i with
            | false => rfl
            | true =>
              unfold snTo at hk z
              rw [if_pos e] at hk z
              omega
          have hkp : k < per p i := by
            unfold snTo at hk z
            rw [hs] at hk z
            simp only [Bool.false_eq_true, if_false] at hk z
            omega
          have ib := it_lt hp hi k
          refine ⟨_, rfl, _, rfl, l1, _, _, it p k i, rfl, rfl, h1, ?_, ?_⟩
          · rw [snK_len]
            unfold ixN
            rw [if_pos (by omega), if_pos (by omega)]
            rfl
          rw [snK_set hp hi hkp]
          have n31 : l3 ≠ l1 := n13.symm
          refine ⟨_, rfl, .inl ⟨rfl, _, sl_of (show upd H3 l1 _ l3 = _ by rw [upd_ne n31]; exact h3)⟩, _, rfl, l3, _, _, rfl, rfl, (by rw [upd_ne n31]; exact h3), ?_, ?_⟩
          · rw [NV_len, List.length_take]
            exact Nat.lt_of_le_of_lt (Nat.min_le_right _ _) (small1000 (by rw [orb_len hp hi]; exact Nat.le_trans (per_spec hp hi).2.1 hl))
          have smA : Same H (upd (upd H3 l1 (.lst (snK p i (k + 1)))) l3 (.lst (NV ((orb p i).take k) ++ [V.int (it p k i : Nat)]))) := same_in (same_in sm3 n1') n3'
          refine ⟨_, rfl, _, rfl, a, _, _, _, rfl, rfl, sq_of (smA _ _ ha), atI_nat (NV_get (ap_get ib)), ?_⟩
          refine ⟨_, rfl, by omega, rfl, smA, ?_, ?_, ?_, ?_⟩
          · rw [upd_ne n13, upd_same]
          · rw [upd_ne n23, upd_ne n12.symm]
            exact h2
          · rw [upd_same, ← NV_snoc, List.take_add_one, orb_get hp hi hkp]
            rfl
          · exact fun c hc => tp_upd (tp_upd (h4 c hc) h1) (show upd H3 l1 _ l3 = _ by rw [upd_ne n31]; exact h3)
    · rintro σ H2 ⟨v3, v4, v5, ks, rfl, sm, hL1, hL2, hks, hkl, hkt⟩
      refine ⟨_, rfl, l2, _, rfl, .inl ⟨sl_of hL2, fun r nr => ?_⟩⟩
      exact q _ r (sm.trans (same_upd nr)) ⟨ks, upd_same, hks, fun k hk => tp_new (hkt k hk) nr⟩
end
end Hw

namespace Hw
open PySem PySem.Spec PyProof.Rows L2
section
variable {P : Program} {w : World} {K : PySem.W.Frag} {mg : Str → Option Value} {base : Heap}
theorem lcm_dvd_M {M : Nat} : ∀ (cs : List (List Nat)) (r : Nat), r ∣ M → (∀ c ∈ cs, c.length ∣ M) → cs.foldl (fun r c => Nat.lcm r c.length) r ∣ M
  | [], _, h, _ => h
  | c :: cs, r, h, hc => lcm_dvd_M cs _ (Nat.lcm_dvd h (hc c List.mem_cons_self)) fun d hd => hc d (List.mem_cons_of_mem _ hd)
def spOrder : Sp := fun vs H Q _ => ∃ (a : Addr) (p : List Nat) (M : Nat), vs = [.ref a] ∧ Tp H a p ∧ IsP p ∧ p.length ≤ 1000 ∧ 0 < M ∧ M < 2 ^ 60 ∧ (∀ c ∈ cyc p, c.length ∣ M) ∧ ∀ H', Same H H' → Q (.int (ord p : Nat)) H'
theorem scOrder : FnScope ["permutation", "repetitions", "cycle"] ["permutation"] (defScope sOrder) := ⟨rfl, rfl, rfl, by decide +kernel, rfl, by decide +kernel, by decide +kernel⟩
theorem cal_order (T : Txt mg) (GC : Cal P w K mg base "cycles" 5 spCycles) (D : Df K mg "order" sOrder ["permutation"]) : Cal P w K mg base "order" 6 spOrder := by
  have nd := scOrder.nd
  refine cal_of D scOrder (fun vs H Q E h => ?_) (fun f cdv A outer s H vs Q E hr h => ?_)
  · obtain ⟨a, p, M, rfl, _⟩ := h
    rfl
  · obtain ⟨a, p, M, rfl, ha, hp, hl, hM0, hM, hc, q⟩ := h
    refine ⟨_, pss_cons (ps_set (i := 1) nd rfl (.inl rfl) pe_int)
      <| pss_cons (ps_for PassesOwn.never rfl (pi_tup (pe_cal GC hr (by rfl) (pa_cons (pv 0) pa_nil))) (pg_name (i := 2) nd rfl (.inl rfl))
          (pss_one (ps_set (i := 1) nd rfl (.inl rfl) (pe_callBfun cr_lcm (by rfl) T.lcm (pa_cons (pv 1) (pa_cons (pe_callB cr_len (by rfl) T.len PySem.boot_len (pa_cons (pv 2) pa_nil)) pa_nil))))))
      <| pss_one (ps_ret (pv 1)), ?_⟩
    refine ⟨_, rfl, a, p, rfl, ha, hp, hl, fun H1 r sm1 cy => ?_⟩
    obtain ⟨ks, hr1, hk1, hk2⟩ := cy
    have hcs : ∀ i, ∀ c ∈ (ks.map (·.2)).take i, c.length ∣ M := fun i c hc' => hc c (by rw [← hk1]; exact List.mem_of_mem_take hc')
    have small : ∀ i, ((ks.map (·.2)).take i).foldl (fun r c => Nat.lcm r c.length) 1 < 2 ^ 60 := fun i =>
      Nat.lt_of_le_of_lt (Nat.le_of_dvd hM0 (lcm_dvd_M _ 1 (Nat.one_dvd _) (hcs i))) hM
    refine ⟨r, rfl, ⟨_, sq_of hr1⟩, for_it (walk_tup (xs := ks.map fun k => V.ref k.1)) (fun i σ H' => ∃ v, σ = [some (.ref a), some (.int ((((ks.map (·.2)).take i).foldl (fun r c => Nat.lcm r c.length) 1 : Nat) : Int)), v] ∧ H' = H1) ⟨none, rfl, rfl⟩ (fun i σ H' _ ⟨_, _, e⟩ => by rw [e]; exact sq_of hr1) ?_ ?_⟩
    · rintro i x σ _ H2 hi ⟨v, rfl, rfl⟩ ⟨rfl, hx⟩
      obtain ⟨k, hk, rfl⟩ := refs_get hx
      have tk := hk2 k (List.mem_of_getElem? hk)
      have sm1 := small i
      have sm2 := small (i + 1)
      have e1 : (ks.map (·.2)).take (i + 1) = (ks.map (·.2)).take i ++ [k.2] := by
        rw [List.take_add_one, List.getElem?_map, hk]
        rfl
      rw [e1, List.foldl_append] at sm2
      have dk : k.2.length ∣ M := hc k.2 (by rw [← hk1]; exact List.mem_map.mpr ⟨k, List.mem_of_getElem? hk, rfl⟩)
      refine ⟨_, rfl, _, rfl, k.1, _, rfl, .inr (sq_of tk), _, _, rfl, sm1, ?_, ?_, ?_⟩
      · rw [NV_len]
        exact Nat.lt_of_le_of_lt (Nat.le_of_dvd hM0 dk) hM
      · rw [NV_len]
        exact sm2
      · refine ⟨some (V.ref k.1), ?_, rfl⟩
        rw [NV_len, e1, List.foldl_append]
        rfl
    · rintro σ H2 ⟨v, rfl, rfl⟩
      refine ⟨_, rfl, ?_⟩
      rw [nv_len, show (ks.map (·.2)).take ks.length = ks.map (·.2) from List.take_of_length_le (by rw [List.length_map]; exact Nat.le_refl _), hk1]
      exact q _ sm1
def spEven : Sp := fun vs H Q _ => ∃ (a : Addr) (p : List Nat), vs = [.ref a] ∧ Tp H a p ∧ IsP p ∧ p.length ≤ 1000 ∧ ∀ H', Same H H' → Q (.bl (evenP p)) H'
theorem scEven : FnScope ["permutation", "exchanges", "cycle"] ["permutation"] (defScope sEven) := ⟨rfl, rfl, rfl, by decide +kernel, rfl, by decide +kernel, by decide +kernel⟩
theorem cyc_length (p : List Nat) : (cyc p).length ≤ p.length := by
  unfold cyc cycF
  rw [List.length_map]
  exact Nat.le_trans (List.length_filter_le _ _) (by rw [List.length_range]; exact Nat.le_refl _)
theorem cal_even (T : Txt mg) (GC : Cal P w K mg base "cycles" 5 spCycles) (D : Df K mg "is_even" sEven ["permutation"]) : Cal P w K mg base "is_even" 6 spEven := by
  have nd := scEven.nd
  refine cal_of D scEven (fun vs H Q E h => ?_) (fun f cdv A outer s H vs Q E hr h => ?_)
  · obtain ⟨a, p, rfl, _⟩ := h
    rfl
  · obtain ⟨a, p, rfl, ha, hp, hl, q⟩ := h
    refine ⟨_, pss_cons (ps_set (i := 1) nd rfl (.inl rfl) (pe_callB (cr_sum rfl) (by rfl) T.sum (by decide +kernel) (pa_cons (pe_lc (own := [("cycle", 2)]) (g := gName 2) (by rfl) nd (pi_tup (pe_cal GC hr (by rfl) (pa_cons (pv 0) pa_nil)))
        (blkOk_by (own := [("cycle", 2)]) (N := ["permutation", "exchanges", "cycle"]) (sc := defScope sEven) (by decide +kernel)) (fun _ _ _ _ _ => pg_name (i := 2) nd rfl (.inl rfl)) (fun _ _ _ _ _ => pts_nil)
        (fun _ _ _ _ _ => pe_op op_sub (pe_callB (r := rLenS K) cr_len (by rfl) T.len PySem.boot_len (pa_cons (pv 2) pa_nil)) pe_int)) pa_nil)))
      <| pss_one (ps_ret (pe_cmpR op_eq (pe_op op_mod (pv 1) pe_int) pe_int (nomark _))), ?_⟩
    refine ⟨_, rfl, a, p, rfl, ha, hp, hl, fun H1 r sm1 cy => ?_⟩
    obtain ⟨ks, hr1, hk1, hk2⟩ := cy
    have kl : ks.length ≤ 1000 := by
      have := cyc_length p
      rw [← hk1, List.length_map] at this
      omega
    refine ⟨r, rfl, ⟨_, sq_of hr1⟩, fun D nD => lc_it (walk_tup (xs := ks.map fun k => V.ref k.1)) (fun i H' => Same H1 H' ∧ H' D = some (.lst (((ks.take i).map fun k => ((k.2.length : Int) - 1)).map V.int))) ⟨same_upd nD, upd_same⟩ (fun i H' _ ⟨sm, _⟩ => sq_of (sm _ _ hr1)) ?_ ?_⟩
    · rintro i x _ H2 hi ⟨sm, hD⟩ ⟨rfl, hx⟩
      obtain ⟨k, hk, rfl⟩ := refs_get hx
      have tk := hk2 k (List.mem_of_getElem? hk)
      refine ⟨rfl, _, rfl, k.1, NV k.2, rfl, .inr (sq_of (sm _ _ tk)), _, _, rfl, rfl, _, hD, ?_, ?_, ?_⟩
      · rw [List.length_map, List.length_map, List.length_take]
        exact Nat.lt_of_le_of_lt (Nat.min_le_right _ _) (small1000 kl)
      · exact fun b o e => by rw [upd_ne (ne_of_none e nD)]; exact sm _ _ e
      · rw [upd_same, List.take_add_one, hk, List.map_append, List.map_append, NV_len]
        rfl
    · rintro H2 ⟨sm2, hD⟩
      rw [nv_len, List.take_length] at hD
      refine ⟨D, _, rfl, sl_of hD, ?_⟩
      refine ⟨_, rfl, _, _, rfl, rfl, (by show (0 : Int) < 2; decide), rfl, ?_⟩
      have e1 : (ks.map fun k => ((k.2.length : Int) - 1)).sum = ((cyc p).map fun c => (c.length : Int) - 1).sum := by
        rw [← hk1, List.map_map]
        rfl
      have e2 : decide (V.int ((ks.map fun k => ((k.2.length : Int) - 1)).sum % 2) = V.int 0) = evenP p := by
        rw [e1]
        unfold evenP
        congr 1
        simp
      rw [← e2] at q
      exact q _ (sm1.trans sm2)
end
end Hw

namespace Hw
open PySem PySem.Spec PyProof.Rows L2
section
variable {P : Program} {w : World} {K : PySem.W.Frag} {mg : Str → Option Value} {base : Heap}
theorem mixed_ok (x : Int) : 0 ≤ x % 2147483629 / 7 ∧ x % 2147483629 / 7 < 2 ^ 31 := by omega
def spMixed : Sp := fun vs H Q _ => ∃ (c n : Int), vs = [.int c, .int n] ∧ 0 ≤ c ∧ c < 2 ^ 40 ∧ 0 ≤ n ∧ n < 2 ^ 20 ∧ ∀ v : Int, 0 ≤ v → v < 2 ^ 31 → Q (.int v) H
theorem scMixed : FnScope ["_law_cell", "_law_n", "_law_turned"] ["_law_cell", "_law_n"] (defScope sMixed) := ⟨rfl, rfl, rfl, by decide +kernel, rfl, by decide +kernel, by decide +kernel⟩
theorem cal_mixed (D : Df K mg "_law_mixed" sMixed ["_law_cell", "_law_n"]) : Cal P w K mg base "_law_mixed" 1 spMixed := by
  have nd := scMixed.nd
  refine cal_of D scMixed (fun vs H Q E h => ?_) (fun f cdv A outer s H vs Q E hr h => ?_)
  · obtain ⟨c, n, rfl, _⟩ := h
    rfl
  · obtain ⟨c, n, rfl, c0, c1, n0, n1, q⟩ := h
    refine ⟨_, pss_cons (ps_set (i := 2) nd rfl (.inl rfl) (pe_op op_add (pe_op op_add (pe_op op_mod (pe_op op_mul (pe_op op_mul (pv 0) (pe_op op_add pe_int (pe_op op_mul pe_int (pv 1)))) pe_int) pe_int) (pe_op op_mul (pe_op op_mul pe_int (pv 1)) (pv 1))) (pe_op op_mul pe_int (pv 1))))
      <| pss_one (ps_ret (pe_op op_fdiv (pe_op op_mod (pe_op op_mul (pv 2) pe_int) pe_int) pe_int)), ?_⟩
    refine ⟨_, rfl, _, rfl, _, _, rfl, rfl, .inl ⟨by decide, by decide⟩, _, _, rfl, rfl, _, _, rfl, rfl, .inl ⟨by omega, by omega⟩, _, _, rfl, rfl, .inr ⟨by decide, by decide⟩, _, _, rfl, rfl, (by show (0 : Int) < _; decide), ?_⟩
    refine ⟨_, rfl, _, _, rfl, rfl, .inl ⟨by decide, by decide⟩, _, rfl, _, _, rfl, rfl, .inr ⟨by omega, by omega⟩, _, _, rfl, rfl, _, rfl, _, _, rfl, rfl, .inl ⟨by decide, by decide⟩, _, _, rfl, rfl, ?_⟩
    refine ⟨_, rfl, _, _, rfl, rfl, .inr ⟨by decide, by decide⟩, _, _, rfl, rfl, (by show (0 : Int) < _; decide), _, _, rfl, rfl, ⟨by decide, by decide⟩, ?_⟩
    exact q _ (mixed_ok _).1 (mixed_ok _).2
/-! ### the cells -/
def Cells (cs : List Int) : Prop := cs.length = 64 ∧ ∀ c ∈ cs, 0 ≤ c ∧ c < 2 ^ 31
theorem cells_set {cs : List Int} (h : Cells cs) (i : Nat) (x : Int) : Cells (cs.set i (x % 2147483647)) := by
  refine ⟨by rw [List.length_set]; exact h.1, fun c hc => ?_⟩
  rcases List.mem_or_eq_of_mem_set hc with z | z
  · exact h.2 c z
  · rw [z]; omega
theorem cells_get {cs : List Int} (h : Cells cs) {i : Nat} (hi : i < 64) : ∃ c, cs[i]? = some c ∧ 0 ≤ c ∧ c < 2 ^ 31 := by
  have hl : i < cs.length := by rw [h.1]; exact hi
  exact ⟨cs[i], List.getElem?_eq_getElem hl, h.2 _ (List.getElem_mem hl)⟩
theorem at_int {cs : List Int} {i : Nat} {c x : Int} (h : cs[i]? = some c) (e : x = (i : Int)) : atI (cs.map V.int) x = some (.int c) := by
  rw [e]
  refine atI_nat ?_
  rw [List.getElem?_map, h]
  rfl
theorem ix_at {n i : Nat} {x : Int} (h : i < n) (e : x = (i : Int)) : ixN n x = some i := by
  rw [e]
  unfold ixN
  rw [if_pos (by omega), if_pos (by omega)]
  rfl
theorem set_int (cs : List Int) (i : Nat) (x : Int) : (cs.map V.int).set i (V.int x) = (cs.set i x).map V.int := by rw [List.map_set]
def spFolded (K : PySem.W.Frag) : Sp := fun vs H Q _ => ∃ (a : Addr) (ns : List Int), vs = [.ref a] ∧ SqL K H a (ns.map V.int) ∧ ns.length ≤ 63 ∧ ∀ H' r cs, Same H H' → H r = none → H' r = some (.lst (cs.map V.int)) → Cells cs → Q (.ref r) H'
theorem scFolded : FnScope ["_law_script", "_law_n", "_law_found", "_law_cell"] ["_law_script"] (defScope sFolded) := ⟨rfl, rfl, rfl, by decide +kernel, rfl, by decide +kernel, by decide +kernel⟩
theorem cal_folded (T : Txt mg) (D : Df K mg "_law_folded" sFolded ["_law_script"]) : Cal P w K mg base "_law_folded" 1 (spFolded K) := by
  have nd := scFolded.nd
  refine cal_of D scFolded (fun vs H Q E h => ?_) (fun f cdv A outer s H vs Q E hr h => ?_)
  · obtain ⟨a, ns, rfl, _⟩ := h
    rfl
  · obtain ⟨a, ns, rfl, ha, hl, q⟩ := h
    refine ⟨_, pss_cons (ps_setLc (i := 2) (own := [("_law_n", 1)]) (g := gName 1) (by rfl) nd rfl rfl (sw_true rfl rfl rfl (by decide +kernel)) (pi_range1 (by rfl) T.range (pa_cons pe_int pa_nil))
        (blkOk_by (own := [("_law_n", 1)]) (N := ["_law_script", "_law_n", "_law_found", "_law_cell"]) (sc := defScope sFolded) (by decide +kernel)) (fun _ _ _ _ _ => pg_name (i := 1) nd rfl (.inl rfl)) (fun _ _ _ _ _ => pts_nil)
        (fun _ _ _ _ _ => pe_op op_add pe_int (pv 1)))
      <| pss_cons (ps_for PassesOwn.never rfl (pi_enum (by rfl) T.enumerate (pa_cons (pv 0) pa_nil)) (pg_tup rfl (pgs_cons (pg_name (i := 1) nd rfl (.inl rfl)) (pgs_cons (pg_name (i := 3) nd rfl (.inl rfl)) pgs_nil)))
          (pss_one (ps_asg (pe_op op_mod (pe_op op_add (pe_op op_mul (pe_ix ix_list (pv 2) (pe_op op_mod (pv 1) pe_int) (fun _ _ => rfl)) pe_int) (pv 3)) pe_int) (pg_sub (pv 2) (pe_op op_mod (pv 1) pe_int) set_list))))
      <| pss_cons (ps_for PassesOwn.never rfl (pi_range2 (by rfl) T.range (pa_cons pe_int (pa_cons pe_int pa_nil))) (pg_name (i := 1) nd rfl (.inl rfl))
          (pss_one (ps_asg (pe_op op_mod (pe_op op_add (pe_ix ix_list (pv 2) (pv 1) (fun _ _ => rfl)) (pe_op op_mul (pe_ix ix_list (pv 2) (pe_op op_sub (pv 1) pe_int) (fun _ _ => rfl)) pe_int)) pe_int) (pg_sub (pv 2) (pv 1) set_list))))
      <| pss_one (ps_ret (pv 2)), ?_⟩
    refine ⟨_, rfl, by decide, by decide, fun D nD => lc_it (walk_rg0 (n := 64)) (fun i H' => Same H H' ∧ H' D = some (.lst (((List.range i).map fun j : Nat => (17 + (j : Int))).map V.int))) ⟨same_upd nD, upd_same⟩ (fun _ _ _ _ => trivial) ?_ ?_⟩
    · rintro i x _ H2 hi ⟨sm, hD⟩ ⟨rfl, rfl⟩
      refine ⟨rfl, _, rfl, _, _, rfl, rfl, _, hD, ?_, ?_, ?_⟩
      · rw [List.length_map, List.length_map, List.length_range]
        exact small1000 (by omega)
      · exact fun b o e => by rw [upd_ne (ne_of_none e nD)]; exact sm _ _ e
      · rw [upd_same, List.range_succ, List.map_append, List.map_append]
        rfl
    · rintro H2 ⟨sm2, hD⟩
      have c0 : Cells ((List.range 64).map fun j : Nat => (17 + (j : Int))) := by
        refine ⟨by rw [List.length_map, List.length_range], fun c hc => ?_⟩
        obtain ⟨j, hj, rfl⟩ := List.mem_map.mp hc
        rw [List.mem_range] at hj
        omega
      refine ⟨_, rfl, a, _, rfl, sm2.seq ha, for_it (walk_enum (xs := ns.map V.int)) (fun i σ H' => ∃ v1 v3 cs, σ = [some (.ref a), v1, some (.ref D), v3] ∧ Same H H' ∧ H' D = some (.lst (cs.map V.int)) ∧ Cells cs) ⟨_, _, _, rfl, sm2, hD, c0⟩ (fun i σ H' _ ⟨_, _, _, _, sm, _⟩ => sm.seq ha) ?_ ?_⟩
      · rintro i x σ H3 H4 hi ⟨v1, v3, cs, rfl, sm, hL, hc⟩ ⟨T1, i', y, rfl, nT, rfl, ei, ey⟩
        obtain rfl : V.int (i : Int) = i' := Option.some.inj ei
        have ey : (ns.map V.int)[i]? = some y := ey
        rw [List.getElem?_map] at ey
        obtain ⟨c, hc1, rfl⟩ : ∃ c, ns[i]? = some c ∧ y = V.int c := by
          cases e : ns[i]? with
          | none => rw [e] at ey; cases ey
          | some c => rw [e] at ey; exact ⟨c, rfl, (Option.some.inj ey).symm⟩
        rw [List.length_map] at hi
        have i64 : i < 64 := by omega
        obtain ⟨z, hz, z0, z1⟩ := cells_get hc i64
        have hL' : upd H3 T1 (.tup [V.int (i : Int), V.int c]) D = some (.lst (cs.map V.int)) := by
          rw [upd_ne (ne_of_none hL nT)]
          exact hL
        have smT := sm.trans (same_upd (o := .tup [V.int (i : Int), V.int c]) nT)
        refine ⟨T1, _, rfl, .inl (.inl upd_same), rfl, _, _, rfl, _, _, rfl, rfl, ?_⟩
        refine ⟨_, rfl, _, rfl, _, _, rfl, rfl, (by show (0 : Int) < 64; decide), D, _, _, _, rfl, rfl, sl_of hL', at_int hz (by omega), ?_⟩
        refine ⟨_, _, rfl, rfl, .inl ⟨by omega, by omega⟩, _, rfl, _, _, rfl, rfl, _, _, rfl, rfl, (by show (0 : Int) < 2147483647; decide), ?_⟩
        refine ⟨_, rfl, _, rfl, _, _, rfl, rfl, (by show (0 : Int) < 64; decide), D, _, _, i, rfl, rfl, hL', ix_at (by rw [List.length_map, hc.1]; exact i64) (by omega), ?_⟩
        refine ⟨_, _, cs.set i ((z * 48271 + c) % 2147483647), rfl, same_in smT nD, ?_, cells_set hc i _⟩
        rw [upd_same, set_int]
      · rintro σ H3 ⟨v1, v3, cs, rfl, sm, hL, hc⟩
        refine ⟨_, _, rfl, by decide, ?_⟩
        refine for_it (walk_range (lo := 1) (n := 63)) (fun i σ H' => ∃ v1 cs, σ = [some (.ref a), v1, some (.ref D), v3] ∧ Same H H' ∧ H' D = some (.lst (cs.map V.int)) ∧ Cells cs) ⟨_, _, rfl, sm, hL, hc⟩ (fun _ _ _ _ _ => trivial) ?_ ?_
        · rintro i x σ _ H4 hi ⟨v1, cs, rfl, sm, hL, hc⟩ ⟨rfl, rfl⟩
          obtain ⟨z, hz, z0, z1⟩ := cells_get hc (i := i + 1) (by omega)
          obtain ⟨y, hy, y0, y1⟩ := cells_get hc (i := i) (by omega)
          refine ⟨_, rfl, _, rfl, D, _, _, _, rfl, rfl, sl_of hL, at_int hz (by omega), ?_⟩
          refine ⟨_, rfl, _, rfl, _, _, rfl, rfl, D, _, _, _, rfl, rfl, sl_of hL, at_int hy (by omega), ?_⟩
          refine ⟨_, _, rfl, rfl, .inl ⟨by omega, by omega⟩, _, _, rfl, rfl, _, _, rfl, rfl, (by show (0 : Int) < 2147483647; decide), ?_⟩
          refine ⟨_, rfl, _, rfl, D, _, _, i + 1, rfl, rfl, hL, ix_at (by rw [List.length_map, hc.1]; omega) (by omega), ?_⟩
          refine ⟨_, cs.set (i + 1) ((z + y * 16807) % 2147483647), rfl, same_in sm nD, ?_, cells_set hc (i + 1) _⟩
          rw [upd_same, set_int]
        · rintro σ H4 ⟨v1, cs, rfl, sm, hL, hc⟩
          exact ⟨_, rfl, q H4 D cs sm nD hL hc⟩
end
end Hw

namespace Hw
open PySem PySem.Spec PyProof.Rows L2
/-! ### what is compared -/
theorem lay_ints : ∀ ns : List Int, PyData.canLayAll0 (ns.map PyData.int) = true
  | [] => rfl
  | n :: ns => by
    show (PyData.canLay0 (.int n) && PyData.canLayAll0 (ns.map PyData.int)) = true
    rw [lay_ints ns]
    rfl
theorem shaped_li (ns : List Int) : SeqAt.shaped (.list (ns.map PyData.int)) = true := by
  unfold SeqAt.shaped
  have e : (PyData.list (ns.map PyData.int)).depth = 0 + 1 := by
    show PyData.depthAll (ns.map PyData.int) + 1 = 0 + 1
    rw [depth_ints]
  rw [e]
  show (PyData.canLayAll0 (ns.map PyData.int) && _) = true
  rw [lay_ints]
  rfl
theorem shaped_ti (ns : List Int) : SeqAt.shaped (.tuple (ns.map PyData.int)) = true := by
  unfold SeqAt.shaped
  have e : (PyData.tuple (ns.map PyData.int)).depth = 0 + 1 := by
    show PyData.depthAll (ns.map PyData.int) + 1 = 0 + 1
    rw [depth_ints]
  rw [e]
  show (PyData.canLayAll0 (ns.map PyData.int) && _) = true
  rw [lay_ints]
  rfl
theorem eqv_ints : ∀ ns ms : List Int, PyData.eqvAll (ns.map PyData.int) (ms.map PyData.int) = decide (ns = ms)
  | [], [] => by simp [PyData.eqvAll]
  | [], m :: ms => by simp [PyData.eqvAll]
  | n :: ns, [] => by simp [PyData.eqvAll]
  | n :: ns, m :: ms => by
    show (PyData.eqv (.int n) (.int m) && PyData.eqvAll (ns.map PyData.int) (ms.map PyData.int)) = _
    rw [eqv_ints ns ms]
    by_cases e : n = m
    · by_cases e2 : ns = ms <;> simp [PyData.eqv, e, e2]
    · simp [PyData.eqv, e]
theorem eqv_li (ns ms : List Int) : PyData.eqv (.list (ns.map PyData.int)) (.list (ms.map PyData.int)) = decide (ns = ms) := eqv_ints ns ms
theorem eqv_ti (ns ms : List Int) : PyData.eqv (.tuple (ns.map PyData.int)) (.tuple (ms.map PyData.int)) = decide (ns = ms) := eqv_ints ns ms
theorem dpa_ints {K : PySem.W.Frag} {H : Hp} : ∀ ns : List Int, DpAll K H (ns.map V.int) (ns.map PyData.int)
  | [] => .nil
  | n :: ns => .cons (.int n) (dpa_ints ns)
theorem dp_li {K : PySem.W.Frag} {H : Hp} {a : Addr} {ns : List Int} (h : SqL K H a (ns.map V.int)) : Dp K H (.ref a) (.list (ns.map PyData.int)) := .lst h (dpa_ints ns)
theorem dp_ti {K : PySem.W.Frag} {H : Hp} {a : Addr} {ns : List Int} (h : SqT K H a (ns.map V.int)) : Dp K H (.ref a) (.tuple (ns.map PyData.int)) := .tup h (dpa_ints ns)
/-! ### the law's source of numbers -/
def dV (lc lg : Addr) (s : Int) : List (Key × V) := [(.inr "cells", .ref lc), (.inr "great", .ref lg), (.inr "spot", .int s)]
theorem dV_cells (lc lg : Addr) (s : Int) : valV (dV lc lg s) (.inr "cells") = some (.ref lc) := by rfl
theorem dV_great (lc lg : Addr) (s : Int) : valV (dV lc lg s) (.inr "great") = some (.ref lg) := by rfl
theorem dV_spot (lc lg : Addr) (s : Int) : valV (dV lc lg s) (.inr "spot") = some (.int s) := by rfl
theorem dV_put (lc lg : Addr) (s t : Int) : putK (dV lc lg s) (.inr "spot") (.int t) = dV lc lg t := by rfl
/-- at m the source stands, its great numbers at lg; s draws were made -/
def MOk (H : Hp) (m lg lc : Addr) (s : Nat) : Prop := ∃ (cs gs : List Int), H m = some (.dK (dV lc lg (s : Int))) ∧ H lc = some (.lst (cs.map V.int)) ∧ H lg = some (.lst (gs.map V.int)) ∧ Cells cs ∧ gs.length ≤ 63 ∧ lc ≠ lg
/-- all but the source is as it was -/
def Kp (m lg : Addr) (H H' : Hp) : Prop := ∀ b o, b ≠ m → b ≠ lg → H b = some o → H' b = some o
theorem Kp.refl (m lg : Addr) (H : Hp) : Kp m lg H H := fun _ _ _ _ h => h
theorem Kp.trans {m lg : Addr} {H H1 H2 : Hp} (a : Kp m lg H H1) (b : Kp m lg H1 H2) : Kp m lg H H2 := fun c o h1 h2 h => b c o h1 h2 (a c o h1 h2 h)
theorem Kp.same {m lg : Addr} {H H' : Hp} (a : Same H H') : Kp m lg H H' := fun b o _ _ h => a b o h
/-- a tuple stays -/
theorem Kp.tup {m lg lc : Addr} {H H' : Hp} {s : Nat} (k : Kp m lg H H') (M : MOk H m lg lc s) {b : Addr} {xs : List V} (h : H b = some (.tup xs)) : H' b = some (.tup xs) := by
  obtain ⟨cs, gs, h1, h2, h3, _⟩ := M
  exact k b _ (ne_of h h1 (by intro q; cases q)) (ne_of h h3 (by intro q; cases q)) h
/-- a list other than the source's stays -/
theorem Kp.lst {m lg lc : Addr} {H H' : Hp} {s : Nat} (k : Kp m lg H H') (M : MOk H m lg lc s) {b : Addr} {xs : List V} (n : b ≠ lg) (h : H b = some (.lst xs)) : H' b = some (.lst xs) := by
  obtain ⟨cs, gs, h1, h2, h3, _⟩ := M
  exact k b _ (ne_of h h1 (by intro q; cases q)) n h
theorem MOk.same {m lg lc : Addr} {H H' : Hp} {s : Nat} (M : MOk H m lg lc s) (sm : Same H H') : MOk H' m lg lc s := by
  obtain ⟨cs, gs, h1, h2, h3, r⟩ := M
  exact ⟨cs, gs, sm _ _ h1, sm _ _ h2, sm _ _ h3, r⟩
theorem MOk.new {m lg lc l : Addr} {H : Hp} {s : Nat} (M : MOk H m lg lc s) (h : H l = none) : l ≠ lg ∧ l ≠ m ∧ l ≠ lc := by
  obtain ⟨cs, gs, h1, h2, h3, r⟩ := M
  exact ⟨fun e => (ne_of_none h3 h) e.symm, fun e => (ne_of_none h1 h) e.symm, fun e => (ne_of_none h2 h) e.symm⟩
theorem MOk.upd {m lg lc l : Addr} {H : Hp} {o : HO} {s : Nat} (M : MOk H m lg lc s) (n : l ≠ lg ∧ l ≠ m ∧ l ≠ lc) : MOk (upd H l o) m lg lc s := by
  obtain ⟨cs, gs, h1, h2, h3, r⟩ := M
  exact ⟨cs, gs, by rw [upd_ne n.2.1.symm]; exact h1, by rw [upd_ne n.2.2.symm]; exact h2, by rw [upd_ne n.1.symm]; exact h3, r⟩
theorem Kp.free {m lg lc r : Addr} {H H' : Hp} {s : Nat} (k : Kp m lg H H') (M : MOk H' m lg lc s) (nr : H' r = none) : H r = none := by
  cases e : H r with
  | none => rfl
  | some o =>
    obtain ⟨n1, n2, _⟩ := M.new nr
    rw [k r o n2 n1 e] at nr
    cases nr
section
variable {P : Program} {w : World} {K : PySem.W.Frag} {mg : Str → Option Value} {base : Heap}
def spDraw : Sp := fun vs H Q _ => ∃ (m lg lc : Addr) (s t : Nat), vs = [.ref m, .int (t : Int)] ∧ MOk H m lg lc s ∧ s ≤ 100000 ∧ 1 ≤ t ∧ t ≤ 100000 ∧ ∀ (H' : Hp) (d : Nat), d < t → Kp m lg H H' → MOk H' m lg lc (s + 1) → Q (.int (d : Int)) H'
theorem scDraw : FnScope ["_law_m", "_law_top", "_law_n", "_law_at", "_law_cell"] ["_law_m", "_law_top"] (defScope sDraw) := ⟨rfl, rfl, rfl, by decide +kernel, rfl, by decide +kernel, by decide +kernel⟩
theorem cal_draw (T : Txt mg) (GM : Cal P w K mg base "_law_mixed" 1 spMixed) (D : Df K mg "_law_draw" sDraw ["_law_m", "_law_top"]) : Cal P w K mg base "_law_draw" 2 spDraw := by
  have nd := scDraw.nd
  refine cal_of D scDraw (fun vs H Q E h => ?_) (fun f cdv A outer s0 H vs Q E hr h => ?_)
  · obtain ⟨m, lg, lc, s, t, rfl, _⟩ := h
    rfl
  · obtain ⟨m, lg, lc, s, t, rfl, ⟨cs, gs, h1, h2, h3, hc, hg, hne⟩, hs, t1, t2, q⟩ := h
    have hu := hu_of hr
    refine ⟨_, pss_cons (ps_set (i := 2) nd rfl (.inl rfl) (pe_dget hu (pv 0) pe_str (fun _ _ => rfl)))
      <| pss_cons (ps_dput hu (pv 0) pe_str (pe_op op_add (pv 2) pe_int) rfl)
      <| pss_cons (ps_if (pt_cmpR (op_neD hr.units) (pe_dget hu (pv 0) pe_str (fun _ _ => rfl)) (pe_lst pa_nil) (nomark _))
          (pss_cons (ps_set (i := 3) nd rfl (.inl rfl) (pe_op op_mod (pv 2) (pe_callB cr_len (by rfl) T.len PySem.boot_len (pa_cons (pe_dget hu (pv 0) pe_str (fun _ _ => rfl)) pa_nil))))
          <| pss_cons (ps_set (i := 4) nd rfl (.inl rfl) (pe_ix ix_list (pe_dget hu (pv 0) pe_str (fun _ _ => rfl)) (pv 3) (fun _ _ => rfl)))
          <| pss_one (ps_if (pt_cmpR op_gt (pv 4) pe_int (nomark _))
              (pss_cons (ps_asg (pe_op op_fdiv (pv 4) (pv 1)) (pg_sub (pe_dget hu (pv 0) pe_str (fun _ _ => rfl)) (pv 3) set_list))
              <| pss_one (ps_ret (pe_op op_mod (pv 4) (pv 1)))) pss_nil)) pss_nil)
      <| pss_one (ps_ret (pe_op op_mod (pe_cal GM hr (by rfl) (pa_cons (pe_cal GM hr (by rfl) (pa_cons (pe_op op_add (pe_ix ix_list (pe_dget hu (pv 0) pe_str (fun _ _ => rfl)) (pe_op op_mod (pv 2) pe_int) (fun _ _ => rfl)) (pe_op op_mul pe_int (pe_op op_fdiv (pv 2) pe_int))) (pa_cons (pv 2) pa_nil)))
          (pa_cons (pe_op op_add (pv 2) pe_int) pa_nil))) (pv 1))), ?_⟩
    refine ⟨_, rfl, m, _, rfl, by rw [← dV_spot lc lg (s : Int)]; exact DGet.k (k := Sum.inr "spot") h1, ?_⟩
    refine ⟨_, rfl, _, _, rfl, rfl, _, rfl, m, _, rfl, DPut.k (k := Sum.inr "spot") h1 (by show 3 < sizeLine; decide), ?_⟩
    rw [dV_put]
    have nlm : lc ≠ m := ne_of h2 h1 (by intro q; cases q)
    have ngm : lg ≠ m := ne_of h3 h1 (by intro q; cases q)
    generalize eH : upd H m (.dK (dV lc lg ((s : Int) + 1))) = H1
    have g1 : H1 m = some (.dK (dV lc lg ((s : Int) + 1))) := by rw [← eH, upd_same]
    have g2 : H1 lc = some (.lst (cs.map V.int)) := by rw [← eH, upd_ne nlm]; exact h2
    have g3 : H1 lg = some (.lst (gs.map V.int)) := by rw [← eH, upd_ne ngm]; exact h3
    have k1 : Kp m lg H H1 := fun b o n1 n2 e => by rw [← eH, upd_ne n1]; exact e
    refine ⟨_, rfl, m, _, rfl, by rw [← dV_great lc lg ((s : Int) + 1)]; exact DGet.k (k := Sum.inr "great") g1, Nat.zero_le _, fun l0 n0 => ?_⟩
    have sm := same_upd (o := .lst []) n0
    generalize eH2 : upd H1 l0 (.lst []) = H2 at *
    have f1 := sm _ _ g1
    have f2 := sm _ _ g2
    have f3 := sm _ _ g3
    have k2 : Kp m lg H H2 := k1.trans (Kp.same sm)
    have MH : ∀ (H3 : Hp) (gs' : List Int), H3 m = some (.dK (dV lc lg ((s : Int) + 1))) → H3 lc = some (.lst (cs.map V.int)) → H3 lg = some (.lst (gs'.map V.int)) → gs'.length ≤ 63 → MOk H3 m lg lc (s + 1) := fun H3 gs' a1 a2 a3 a4 =>
      ⟨cs, gs', by rw [a1]; rfl, a2, a3, hc, a4, hne⟩
    have G1 := DGet.k (k := Sum.inr "great") f1
    have G2 := DGet.k (k := Sum.inr "cells") f1
    rw [dV_great] at G1
    rw [dV_cells] at G2
    have fin : ∀ (H3 : Hp) (gs' : List Int) (x : Int), Kp m lg H H3 → H3 m = some (.dK (dV lc lg ((s : Int) + 1))) → H3 lc = some (.lst (cs.map V.int)) → H3 lg = some (.lst (gs'.map V.int)) → gs'.length ≤ 63 → Q (.int (x % (t : Int))) H3 := fun H3 gs' x a0 a1 a2 a3 a4 => by
      have t0 : (0 : Int) < (t : Int) := by omega
      have b1 := Int.emod_nonneg x (show (t : Int) ≠ 0 by omega)
      have b2 := Int.emod_lt_of_pos x t0
      obtain ⟨d, hd⟩ : ∃ d : Nat, (d : Int) = x % (t : Int) := ⟨(x % (t : Int)).toNat, by omega⟩
      rw [← hd]
      exact q H3 d (by omega) a0 (MH H3 gs' a1 a2 a3 a4)
    refine ⟨_, _, dp_li (sl_of f3), dp_li (ns := []) (sl_of (by rw [← eH2]; exact upd_same)), shaped_li _, shaped_li _, _, rfl, ?_⟩
    rw [eqv_li]
    have fin0 := fun x => fin H2 gs x k2 f1 f2 f3 hg
    by_cases z : gs = []
    case' pos =>
      rw [decide_eq_true z]
      refine iteF ?_
    case' neg =>
      rw [decide_eq_false z]
      have gl : 0 < gs.length := List.length_pos_iff.mpr z
      refine iteT ?_
      refine ⟨_, rfl, _, rfl, _, _, rfl, G1, lg, _, rfl, .inl (sl_of f3), _, _, rfl, rfl, (by rw [List.length_map]; omega), ?_⟩
      rw [List.length_map]
      obtain ⟨j, hj⟩ : ∃ j : Nat, (j : Int) = (s : Int) % (gs.length : Int) := ⟨s % gs.length, by omega⟩
      have jl : j < gs.length := by
        have := Int.emod_lt_of_pos (s : Int) (show (0 : Int) < (gs.length : Int) by omega)
        omega
      obtain ⟨c, hc1⟩ : ∃ c, gs[j]? = some c := ⟨gs[j], List.getElem?_eq_getElem jl⟩
      refine ⟨_, rfl, _, _, rfl, G1, _, rfl, lg, _, _, _, rfl, rfl, sl_of f3, at_int hc1 hj.symm, ?_⟩
      refine ⟨_, rfl, _, _, rfl, rfl, _, rfl, ite2 (fun z2 => ?hit) (fun z2 => ?_)⟩
      case hit =>
        refine ⟨_, rfl, _, rfl, _, _, rfl, rfl, ⟨by omega, by omega⟩, _, rfl, _, _, rfl, G1, _, rfl, lg, _, _, j, rfl, rfl, f3, ix_at (by rw [List.length_map]; exact jl) hj.symm, ?_⟩
        rw [set_int]
        refine ⟨_, rfl, _, rfl, _, _, rfl, rfl, by omega, ?_⟩
        refine fin _ (gs.set j (c / (t : Int))) c (fun b o n1 n2 e => by rw [upd_ne n2]; exact k2 b o n1 n2 e) ?_ ?_ upd_same (by rw [List.length_set]; exact hg)
        · rw [upd_ne ngm.symm]
          exact f1
        · rw [upd_ne hne]
          exact f2
    all_goals
      obtain ⟨y, hy, y0, y1⟩ := cells_get hc (i := s % 64) (by omega)
      refine ⟨_, rfl, _, _, rfl, G2, _, rfl, _, _, rfl, rfl, (by show (0 : Int) < 64; decide), lc, _, _, _, rfl, rfl, sl_of f2, at_int hy (by omega), ?_⟩
      refine ⟨_, rfl, _, _, rfl, rfl, ⟨by decide, by decide⟩, _, _, rfl, rfl, .inl ⟨by decide, by decide⟩, _, _, rfl, rfl, _, rfl, _, _, rfl, by omega, by omega, by omega, by omega, fun v v0 v1 => ?_⟩
      refine ⟨_, rfl, _, _, rfl, rfl, _, _, rfl, by omega, by omega, by omega, by omega, fun v' v0' v1' => ?_⟩
      exact ⟨_, rfl, _, _, rfl, rfl, by omega, fin0 v'⟩
end
end Hw

namespace Hw
open PySem PySem.Spec PyProof.Rows L2
section
variable {P : Program} {w : World} {K : PySem.W.Frag} {mg : Str → Option Value} {base : Heap}
def spBegun (K : PySem.W.Frag) : Sp := fun vs H Q _ => ∃ (a : Addr) (ns : List Int), vs = [.ref a] ∧ SqL K H a (ns.map V.int) ∧ ns.length ≤ 63 ∧ ∀ H' m lg lc, Same H H' → MOk H' m lg lc 0 → Q (.ref m) H'
theorem scBegun : FnScope ["_law_script", "_law_m", "_law_cell"] ["_law_script"] (defScope sBegun) := ⟨rfl, rfl, rfl, by decide +kernel, rfl, by decide +kernel, by decide +kernel⟩
theorem cal_begun (T : Txt mg) (GF : Cal P w K mg base "_law_folded" 1 (spFolded K)) (D : Df K mg "_law_begun" sBegun ["_law_script"]) : Cal P w K mg base "_law_begun" 2 (spBegun K) := by
  have nd := scBegun.nd
  refine cal_of D scBegun (fun vs H Q E h => ?_) (fun f cdv A outer s0 H vs Q E hr h => ?_)
  · obtain ⟨a, ns, rfl, _⟩ := h
    rfl
  · obtain ⟨a, ns, rfl, ha, hl, q⟩ := h
    have hu := hu_of hr
    refine ⟨_, pss_cons (ps_set (i := 1) nd rfl (.inl rfl) (pe_disp (pps_cons pe_str (pe_cal GF hr (by rfl) (pa_cons (pv 0) pa_nil)) (pps_cons pe_str (pe_lst pa_nil) (pps_cons pe_str pe_int pps_nil))) (by rfl) (by rfl) (fun z => by cases z) (by decide)))
      <| pss_cons (ps_dput hu (pv 1) pe_str (pe_lc (own := [("_law_cell", 2)]) (g := gName 2) (by rfl) nd (pi_list (pv 0))
          (blkOk_by (own := [("_law_cell", 2)]) (N := ["_law_script", "_law_m", "_law_cell"]) (sc := defScope sBegun) (by decide +kernel)) (fun _ _ _ _ _ => pg_name (i := 2) nd rfl (.inl rfl)) (fun _ _ _ _ _ => pts_nil)
          (fun _ _ _ _ _ => pe_ifExp (pt_cmpR op_ge (pv 2) (pe_op op_pow pe_int pe_int) (nomark _)) (pv 2) pe_int)) rfl)
      <| pss_one (ps_ret (pv 1)), ?_⟩
    intro m nm
    have sm0 := same_upd (o := .dK []) nm
    refine ⟨_, rfl, a, ns, rfl, sm0.seq ha, hl, fun H1 lc cs sm1 nlc hlc hcs => ?_⟩
    have h1m : H1 m = some (.dK []) := sm1 _ _ upd_same
    refine ⟨Nat.zero_le _, fun l0 n0 => ?_⟩
    have sm2 := sm1.trans (same_upd (o := .lst []) n0)
    have h2m : upd H1 l0 (.lst []) m = some (.dK []) := sm2 _ _ upd_same
    have h2c : upd H1 l0 (.lst []) lc = some (.lst (cs.map V.int)) := same_upd n0 _ _ hlc
    refine ⟨h2m, [(.inr "cells", .ref lc), (.inr "great", .ref l0), (.inr "spot", .int 0)], rfl, by show 3 ≤ 15; decide, ?_⟩
    have em : mergeK [] [(Sum.inr "cells", V.ref lc), (Sum.inr "great", V.ref l0), (Sum.inr "spot", V.int 0)] = dV lc l0 0 := rfl
    rw [em]
    have smA : Same H (upd (upd H1 l0 (.lst [])) m (.dK (dV lc l0 0))) := fun b o e => by
      rw [upd_ne (ne_of_none e nm)]
      exact sm2 _ _ (sm0 _ _ e)
    generalize eH2 : upd (upd H1 l0 (.lst [])) m (.dK (dV lc l0 0)) = H2 at *
    have g1 : H2 m = some (.dK (dV lc l0 0)) := by rw [← eH2, upd_same]
    have g2 : H2 lc = some (.lst (cs.map V.int)) := by
      rw [← eH2, upd_ne (ne_of h2c h2m (by intro q; cases q))]
      exact h2c
    refine ⟨_, rfl, a, rfl, ⟨_, smA.seq ha⟩, fun D nD => lc_it (walk_list (xs := ns.map V.int)) (fun i H' => Same H2 H' ∧ ∃ gs : List Int, gs.length = i ∧ H' D = some (.lst (gs.map V.int))) ⟨same_upd nD, [], rfl, upd_same⟩ (fun i H' _ ⟨sm, _⟩ => (smA.trans sm).seq ha) ?_ ?_⟩
    · rintro i x _ H3 hi ⟨sm, gs, hgl, hD⟩ ⟨rfl, hx⟩
      rw [List.length_map] at hi
      rw [List.getElem?_map] at hx
      obtain ⟨c, hc1, rfl⟩ : ∃ c, ns[i]? = some c ∧ x = V.int c := by
        cases e : ns[i]? with
        | none => rw [e] at hx; cases hx
        | some c => rw [e] at hx; exact ⟨c, rfl, (Option.some.inj hx).symm⟩
      have fin : ∀ y : Int, ∃ acc, H3 D = some (.lst acc) ∧ acc.length < sizeLine ∧ (Same H2 (upd H3 D (.lst (acc ++ [V.int y]))) ∧ ∃ gs : List Int, gs.length = i + 1 ∧ upd H3 D (.lst (acc ++ [V.int y])) D = some (.lst (gs.map V.int))) := fun y => by
        refine ⟨_, hD, by rw [List.length_map]; exact small1000 (by omega), fun b o e => ?_, gs ++ [y], by rw [List.length_append, hgl]; rfl, by rw [upd_same, List.map_append]; rfl⟩
        rw [upd_ne (ne_of_none e nD)]
        exact sm _ _ e
      refine ⟨rfl, _, rfl, _, _, rfl, rfl, ⟨by decide, by decide, by decide⟩, _, _, rfl, rfl, _, rfl, ite2 (fun _ => ?_) (fun _ => ?_)⟩
      · exact ⟨_, rfl, fin c⟩
      · exact fin 0
    · rintro H3 ⟨sm, gs, hgl, hD⟩
      rw [List.length_map] at hgl
      have f1 := sm _ _ g1
      refine ⟨_, rfl, m, _, rfl, DPut.k (k := Sum.inr "great") f1 (by show 3 < sizeLine; decide), ?_⟩
      have ep : putK (dV lc l0 0) (.inr "great") (V.ref D) = dV lc D 0 := rfl
      rw [ep]
      refine ⟨_, rfl, q _ m D lc (fun b o e => ?_) ⟨cs, gs, upd_same, ?_, ?_, hcs, by omega, ?_⟩⟩
      · rw [upd_ne (ne_of_none e nm)]
        exact sm _ _ (smA _ _ e)
      · rw [upd_ne (ne_of (sm _ _ g2) f1 (by intro q; cases q))]
        exact sm _ _ g2
      · rw [upd_ne (ne_of hD f1 (by intro q; cases q))]
        exact hD
      · exact ne_of_none g2 nD
end
end Hw

namespace Hw
open PySem PySem.Spec PyProof.Rows L2
theorem perm_out {α : Type} {xs : List α} {d : Nat} {y : α} (h : xs[d]? = some y) : (y :: xs.eraseIdx d).Perm xs := by
  obtain ⟨hd, e⟩ := List.getElem?_eq_some_iff.mp h
  rw [List.eraseIdx_eq_take_drop_succ]
  have e2 : xs = xs.take d ++ y :: xs.drop (d + 1) := by
    rw [← e, List.getElem_cons_drop, List.take_append_drop]
  have p := (List.perm_middle (a := y) (l₁ := xs.take d) (l₂ := xs.drop (d + 1))).symm
  rw [← e2] at p
  exact p
theorem seq_ix {d n : Nat} (h : d < n) : seqIndex? (d : Int) n = some d := by
  unfold seqIndex?
  have h1 : ¬ ((d : Int) < 0) := by omega
  have h2 : (0 : Int) ≤ (d : Int) := by omega
  have h3 : (d : Int) < (n : Int) := by omega
  simp [h1, h2, h3]
section
variable {P : Program} {w : World} {K : PySem.W.Frag} {mg : Str → Option Value} {base : Heap}
def spMixedUp (K : PySem.W.Frag) : Sp := fun vs H Q _ => ∃ (m lg lc a : Addr) (s : Nat) (xs : List V), vs = [.ref m, .ref a] ∧ MOk H m lg lc s ∧ (SqL K H a xs ∨ SqT K H a xs) ∧ xs.length ≤ 1000 ∧ s + xs.length ≤ 100000 ∧
  ∀ H' r ys, ys.Perm xs → Kp m lg H H' → H r = none → H' r = some (.lst ys) → MOk H' m lg lc (s + xs.length) → Q (.ref r) H'
theorem scMixedUp : FnScope ["_law_m", "_law_things", "_law_stock", "_law_found", "_law_n"] ["_law_m", "_law_things"] (defScope sMixedUp) := ⟨rfl, rfl, rfl, by decide +kernel, rfl, by decide +kernel, by decide +kernel⟩
theorem cal_mixedUp (T : Txt mg) (GD : Cal P w K mg base "_law_draw" 2 spDraw) (D : Df K mg "_law_mixed_up" sMixedUp ["_law_m", "_law_things"]) : Cal P w K mg base "_law_mixed_up" 3 (spMixedUp K) := by
  have nd := scMixedUp.nd
  refine cal_of D scMixedUp (fun vs H Q E h => ?_) (fun f cdv A outer s0 H vs Q E hr h => ?_)
  · obtain ⟨m, lg, lc, a, s, xs, rfl, _⟩ := h
    rfl
  · obtain ⟨m, lg, lc, a, s, xs, rfl, M0, ha, hl, hs, q⟩ := h
    refine ⟨_, pss_cons (ps_par (i := 2) (j := 3) (by rfl) nd rfl rfl (by decide) rfl rfl (pa_cons (pe_callTy call_list_of (by rfl) T.list (by decide +kernel) (pa_cons (pv 1) pa_nil)) (pa_cons (pe_lst pa_nil) pa_nil)) (by rfl))
      <| pss_cons (ps_for PassesOwn.never rfl (pi_range1 (by rfl) T.range (pa_cons (pe_callB cr_len (by rfl) T.len PySem.boot_len (pa_cons (pv 2) pa_nil)) pa_nil)) (pg_name (i := 4) nd rfl (.inl rfl))
          (pss_one (ps_expr (pe_bm PySem.F.plainAttrs_list PySem.F.slot_list_append PySem.F.type_list_append mt_append (pv 3)
            (pa_cons (pe_bm PySem.F.plainAttrs_list PySem.F.slot_list_pop PySem.F.type_list_pop mt_popAt (pv 2) (pa_cons (pe_cal GD hr (by rfl) (pa_cons (pv 0) (pa_cons (pe_callB cr_len (by rfl) T.len PySem.boot_len (pa_cons (pv 2) pa_nil)) pa_nil))) pa_nil)) pa_nil)))))
      <| pss_one (ps_ret (pv 3)), ?_⟩
    refine ⟨_, rfl, a, xs, rfl, ha, fun l1 n1 => ?_⟩
    have sm1 := same_upd (o := .lst xs) n1
    refine ⟨Nat.zero_le _, fun l2 n2 => ?_⟩
    have sm2 := sm1.trans (same_upd (o := .lst []) n2)
    have n12 : l1 ≠ l2 := ne_of_none upd_same n2
    have n2' : H l2 = none := sm1.free n2
    refine ⟨_, _, rfl, ?_⟩
    have h1 : upd (upd H l1 (.lst xs)) l2 (.lst []) l1 = some (.lst xs) := by rw [upd_ne n12, upd_same]
    have a1 := M0.new n1
    have a2 := M0.new n2'
    refine ⟨_, rfl, l1, xs, rfl, .inl (sl_of h1), _, rfl, by omega, by omega, ?_⟩
    rw [Int.toNat_natCast]
    refine for_it walk_rg0 (fun i σ H' => ∃ v4 rest got, σ = [some (.ref m), some (.ref a), some (.ref l1), some (.ref l2), v4] ∧ Kp m lg H H' ∧ MOk H' m lg lc (s + i) ∧ H' l1 = some (.lst rest) ∧ H' l2 = some (.lst got) ∧ rest.length + i = xs.length ∧ got.length = i ∧ (got ++ rest).Perm xs)
      ⟨none, xs, [], rfl, Kp.same sm2, M0.same sm2, h1, upd_same, by omega, rfl, .refl _⟩ (fun _ _ _ _ _ => trivial) ?_ ?_
    · rintro i x σ _ H2 hi ⟨v4, rest, got, rfl, kp, M, g1, g2, hlen, hgot, hp⟩ ⟨rfl, rfl⟩
      refine ⟨_, rfl, .inl ⟨rfl, _, sl_of g2⟩, _, rfl, .inl ⟨rfl, _, sl_of g1⟩, _, rfl, _, rfl, l1, rest, rfl, .inl (sl_of g1), ?_⟩
      refine ⟨m, lg, lc, s + i, rest.length, rfl, M, by omega, by omega, by omega, fun H3 d hd kp3 M3 => ?_⟩
      have f1 := kp3.lst M a1.1 g1
      have f2 := kp3.lst M a2.1 g2
      have hy : rest[d]? = some rest[d] := List.getElem?_eq_getElem hd
      refine ⟨l1, rest, _, d, rest[d], rfl, rfl, f1, by omega, by omega, seq_ix hd, hy, ?_⟩
      have n21 := n12.symm
      refine ⟨l2, got, _, rfl, rfl, (by rw [upd_ne n21]; exact f2), by rw [hgot]; exact small1000 (by omega), ?_⟩
      refine ⟨_, rest.eraseIdx d, got ++ [rest[d]], rfl, fun b o e1 e2 e => ?_, ?_, ?_, upd_same, ?_, ?_, ?_⟩
      · rw [upd_ne (ne_of_none e n2'), upd_ne (ne_of_none e n1)]
        exact kp3 b o e1 e2 (kp b o e1 e2 e)
      · exact (M3.upd a1).upd a2
      · rw [upd_ne n12, upd_same]
      · rw [List.length_eraseIdx_of_lt hd]
        omega
      · rw [List.length_append, hgot]
        rfl
      · refine List.Perm.trans ?_ hp
        rw [List.append_assoc]
        exact List.Perm.append_left got (perm_out hy)
    · rintro σ H2 ⟨v4, rest, got, rfl, kp, M, g1, g2, hlen, hgot, hp⟩
      have : rest = [] := List.length_eq_zero_iff.mp (by omega)
      subst this
      rw [List.append_nil] at hp
      exact ⟨_, rfl, q H2 l2 got hp kp n2' g2 M⟩
end
end Hw

namespace Hw
open PySem PySem.Spec PyProof.Rows L2
section
variable {P : Program} {w : World} {K : PySem.W.Frag} {mg : Str → Option Value} {base : Heap}
def spShuffled (K : PySem.W.Frag) : Sp := fun vs H Q _ => ∃ (m lg lc a : Addr) (s k : Nat) (xs : List V), vs = [.ref m, .ref a, .int (k : Int)] ∧ MOk H m lg lc s ∧ (SqL K H a xs ∨ SqT K H a xs) ∧ 1 ≤ xs.length ∧ xs.length ≤ 1000 ∧ k ≤ 1000 ∧ s + 2 * k ≤ 100000 ∧
  ∀ H' r ys, ys.Perm xs → Kp m lg H H' → H r = none → H' r = some (.tup ys) → MOk H' m lg lc (s + 2 * k) → Q (.ref r) H'
theorem scShuffled : FnScope ["_law_m", "_law_things", "_law_many", "_law_row_here", "_law_n", "_law_at", "_law_far"] ["_law_m", "_law_things", "_law_many"] (defScope sShuffled) := ⟨rfl, rfl, rfl, by decide +kernel, rfl, by decide +kernel, by decide +kernel⟩
theorem cal_shuffled (T : Txt mg) (GD : Cal P w K mg base "_law_draw" 2 spDraw) (D : Df K mg "_law_shuffled" sShuffled ["_law_m", "_law_things", "_law_many"]) : Cal P w K mg base "_law_shuffled" 3 (spShuffled K) := by
  have nd := scShuffled.nd
  refine cal_of D scShuffled (fun vs H Q E h => ?_) (fun f cdv A outer s0 H vs Q E hr h => ?_)
  · obtain ⟨m, lg, lc, a, s, k, xs, rfl, _⟩ := h
    rfl
  · obtain ⟨m, lg, lc, a, s, k, xs, rfl, M0, ha, hl1, hl, hk, hs, q⟩ := h
    refine ⟨_, pss_cons (ps_set (i := 3) nd rfl (.inl rfl) (pe_callTy call_list_of (by rfl) T.list (by decide +kernel) (pa_cons (pv 1) pa_nil)))
      <| pss_cons (ps_for PassesOwn.never rfl (pi_range1 (by rfl) T.range (pa_cons (pv 2) pa_nil)) (pg_name (i := 4) nd rfl (.inl rfl))
          (pss_cons (ps_par (i := 5) (j := 6) (by rfl) nd rfl rfl (by decide) rfl rfl (pa_cons (pe_cal GD hr (by rfl) (pa_cons (pv 0) (pa_cons (pe_callB cr_len (by rfl) T.len PySem.boot_len (pa_cons (pv 3) pa_nil)) pa_nil)))
              (pa_cons (pe_cal GD hr (by rfl) (pa_cons (pv 0) (pa_cons (pe_callB cr_len (by rfl) T.len PySem.boot_len (pa_cons (pv 3) pa_nil)) pa_nil))) pa_nil)) (by rfl))
          <| pss_one (ps_asg (pe_tup (pa_cons (pe_ix ix_list (pv 3) (pv 6) (fun _ _ => rfl)) (pa_cons (pe_ix ix_list (pv 3) (pv 5) (fun _ _ => rfl)) pa_nil)))
              (pg_tup rfl (pgs_cons (pg_sub (pv 3) (pv 5) set_list) (pgs_cons (pg_sub (pv 3) (pv 6) set_list) pgs_nil))))))
      <| pss_one (ps_ret (pe_callTy call_tuple_of (by rfl) T.tuple (by decide +kernel) (pa_cons (pv 3) pa_nil))), ?_⟩
    refine ⟨_, rfl, a, xs, rfl, ha, fun l1 n1 => ?_⟩
    have sm1 := same_upd (o := .lst xs) n1
    have a1 := M0.new n1
    refine ⟨_, rfl, _, rfl, by omega, by omega, ?_⟩
    rw [Int.toNat_natCast]
    refine for_it walk_rg0 (fun i σ H' => ∃ v4 v5 v6 ys, σ = [some (.ref m), some (.ref a), some (.int (k : Int)), some (.ref l1), v4, v5, v6] ∧ Kp m lg H H' ∧ MOk H' m lg lc (s + 2 * i) ∧ H' l1 = some (.lst ys) ∧ ys.Perm xs)
      ⟨none, none, none, xs, rfl, Kp.same sm1, M0.same sm1, upd_same, .refl _⟩ (fun _ _ _ _ _ => trivial) ?_ ?_
    · rintro i x σ _ H2 hi ⟨v4, v5, v6, ys, rfl, kp, M, g1, hp⟩ ⟨rfl, rfl⟩
      have hyl : ys.length = xs.length := hp.length_eq
      refine ⟨_, rfl, _, rfl, l1, ys, rfl, .inl (sl_of g1), m, lg, lc, s + 2 * i, ys.length, rfl, M, by omega, by omega, by omega, fun H3 d hd kp3 M3 => ?_⟩
      have f1 := kp3.lst M a1.1 g1
      refine ⟨_, rfl, _, rfl, l1, ys, rfl, .inl (sl_of f1), m, lg, lc, s + 2 * i + 1, ys.length, rfl, M3, by omega, by omega, by omega, fun H4 e he kp4 M4 => ?_⟩
      have e1 := kp4.lst M3 a1.1 f1
      have k4 := (kp.trans kp3).trans kp4
      refine ⟨_, _, rfl, ?_⟩
      have hy1 : ys[d]? = some ys[d] := List.getElem?_eq_getElem hd
      have hy2 : ys[e]? = some ys[e] := List.getElem?_eq_getElem he
      refine ⟨_, rfl, _, rfl, l1, _, _, _, rfl, rfl, sl_of e1, atI_nat hy2, _, rfl, _, rfl, l1, _, _, _, rfl, rfl, sl_of e1, atI_nat hy1, by show 2 ≤ sizeLine; decide, fun t nt => ?_⟩
      have st := same_upd (o := .tup [ys[e], ys[d]]) nt
      have nt1 : t ≠ l1 := fun z => by rw [z, e1] at nt; cases nt
      have e2 := st _ _ e1
      refine ⟨t, _, rfl, .inl (.inl upd_same), rfl, _, _, rfl, _, rfl, _, rfl, l1, _, _, d, rfl, rfl, e2, ix_at hd rfl, ?_⟩
      refine ⟨_, _, rfl, _, rfl, _, rfl, l1, _, _, e, rfl, rfl, upd_same, ix_at (by rw [List.length_set]; exact he) rfl, rfl, ?_⟩
      refine ⟨_, _, _, (ys.set d ys[e]).set e ys[d], rfl, fun b o n2 n3 h => ?_, ?_, upd_same, (List.set_set_perm hd he).trans hp⟩
      · rw [upd_ne (ne_of_none h n1), upd_ne (ne_of_none h n1)]
        exact st _ _ (k4 b o n2 n3 h)
      · have := ((M4.same st).upd a1 (o := .lst (ys.set d ys[e]))).upd a1 (o := .lst ((ys.set d ys[e]).set e ys[d]))
        exact this
    · rintro σ H2 ⟨v4, v5, v6, ys, rfl, kp, M, g1, hp⟩
      refine ⟨_, rfl, l1, ys, rfl, .inl ⟨sl_of g1, fun r nr => ?_⟩⟩
      exact q _ r ys hp (kp.trans (Kp.same (same_upd nr))) (kp.free M nr) upd_same (M.same (same_upd nr))
end
end Hw

namespace Hw
open PySem PySem.Spec PyProof.Rows L2
section
variable {P : Program} {w : World} {K : PySem.W.Frag} {mg : Str → Option Value} {base : Heap}
theorem cut_to (xs : List V) (k : Nat) : cutV xs none (some (k : Int)) = xs.take k := by
  unfold cutV
  rw [show HT.sIx xs.length 0 none = 0 from HT.sIx_none _ _, show HT.sIx xs.length xs.length (some (k : Int)) = min k xs.length from HT.sIx_nat _ _ _, List.drop_zero, Nat.sub_zero]
  rcases Nat.le_total k xs.length with h | h
  · rw [Nat.min_eq_left h]
  · rw [Nat.min_eq_right h, List.take_length, List.take_of_length_le h]
theorem cut_from (xs : List V) (k : Nat) : cutV xs (some (k : Int)) none = xs.drop k := by
  unfold cutV
  rw [show HT.sIx xs.length 0 (some (k : Int)) = min k xs.length from HT.sIx_nat _ _ _, show HT.sIx xs.length xs.length none = xs.length from HT.sIx_none _ _]
  rcases Nat.le_total k xs.length with h | h
  · rw [Nat.min_eq_left h]
    exact List.take_of_length_le (by rw [List.length_drop]; exact Nat.le_refl _)
  · rw [Nat.min_eq_right h, Nat.sub_self, List.drop_of_length_le h]
    rfl
theorem NV_take (p : List Nat) (k : Nat) : (NV p).take k = NV (p.take k) := by unfold NV; rw [List.map_take]
theorem NV_drop (p : List Nat) (k : Nat) : (NV p).drop k = NV (p.drop k) := by unfold NV; rw [List.map_drop]
def spSign : Sp := fun vs H Q _ => ∃ (a : Addr) (p : List Nat), vs = [.ref a] ∧ Tp H a p ∧ p.length ≤ 1000 ∧ ∀ H', Same H H' → Q (.int ((invs p : Int) % 2)) H'
theorem scSign : FnScope ["_law_row_here", "_law_at", "_law_one"] ["_law_row_here"] (defScope sSign) := ⟨rfl, rfl, rfl, by decide +kernel, rfl, by decide +kernel, by decide +kernel⟩
theorem cal_sign (T : Txt mg) (D : Df K mg "_law_sign" sSign ["_law_row_here"]) : Cal P w K mg base "_law_sign" 1 spSign := by
  have nd := scSign.nd
  refine cal_of D scSign (fun vs H Q E h => ?_) (fun f cdv A outer s0 H vs Q E hr h => ?_)
  · obtain ⟨a, p, rfl, _⟩ := h
    rfl
  · obtain ⟨a, p, rfl, ha, hl, q⟩ := h
    refine ⟨_, pss_one (ps_ret (pe_op op_mod (pe_callB (cr_sum rfl) (by rfl) T.sum (by decide +kernel) (pa_cons (pe_lc (own := [("_law_at", 1)]) (g := gName 1) (by rfl) nd (pi_range1 (by rfl) T.range (pa_cons (pe_callB cr_len (by rfl) T.len PySem.boot_len (pa_cons (pv 0) pa_nil)) pa_nil))
        (blkOk_by (own := [("_law_at", 1)]) (N := ["_law_row_here", "_law_at", "_law_one"]) (sc := defScope sSign) (by decide +kernel)) (fun _ _ _ _ _ => pg_name (i := 1) nd rfl (.inr rfl)) (fun _ _ _ _ _ => pts_nil)
        (fun _ _ _ _ _ => pe_callB (r := rLenS K) cr_len (by rfl) T.len PySem.boot_len (pa_cons
          (pe_lc (own := [("_law_one", 2)]) (wi := iTup K (tSl (rSlT K) (tVar 0) tNoPart (tPart (tVar 1)))) (g := gName 2) (by rfl) nd (pi_tup (pe_slice sl_tup (pv 0) po_none (po_some (pv 1))))
            (blkOk_by (own := [("_law_one", 2)]) (N := ["_law_row_here", "_law_at", "_law_one"]) (by rfl)) (fun _ _ _ _ _ => pg_name (i := 2) nd rfl (.inl rfl)) (fun _ _ _ _ _ => pts_one (pt_cmpR op_gt (pv 2) (pe_ix (r := rIxT K) ix_tup (pv 0) (pv 1) (fun _ _ => rfl)) (nomark _)))
            (fun _ _ _ _ _ => pv 2)) pa_nil))) pa_nil)) pe_int)), ?_⟩
    refine ⟨_, rfl, a, NV p, rfl, .inr (sq_of ha), _, rfl, by rw [NV_len]; omega, by rw [NV_len]; omega, ?_⟩
    rw [NV_len, Int.toNat_natCast]
    refine fun D nD => lc_it walk_rg0 (fun i H' => Same H H' ∧ H' D = some (.lst (((List.range i).map fun j => ((invAt p j : Nat) : Int)).map V.int))) ⟨same_upd nD, upd_same⟩ (fun _ _ _ _ => trivial) ?_ ?_
    · rintro i x _ H2 hi ⟨sm, hD⟩ ⟨rfl, rfl⟩
      refine ⟨rfl, _, rfl, _, rfl, _, rfl, a, _, rfl, sq_of (sm _ _ ha), ?_, fun t nt => ?_⟩
      · rintro ⟨_, e⟩
        rw [show HT.sIx (NV p).length (NV p).length (some (i : Int)) = min i (NV p).length from HT.sIx_nat _ _ _, NV_len] at e
        omega
      rw [cut_to, NV_take]
      have st := same_upd (o := .tup (NV (p.take i))) nt
      have smt := sm.trans st
      refine ⟨t, rfl, ⟨_, sq_of upd_same⟩, fun D2 nD2 => ?_⟩
      refine lc_it (walk_tup (xs := NV (p.take i))) (fun j H' => Same (upd H2 t (.tup (NV (p.take i)))) H' ∧ H' D2 = some (.lst (NV (((p.take i).take j).filter fun x => decide (ap p i < x))))) ⟨same_upd nD2, upd_same⟩ (fun j H' _ ⟨sj, _⟩ => sq_of (sj _ _ upd_same)) ?_ ?_
      · rintro j y _ H4 hj ⟨sj, hD2⟩ ⟨rfl, hy⟩
        obtain ⟨z, hz, rfl⟩ := NV_get' hy
        refine ⟨rfl, _, rfl, _, rfl, _, rfl, a, _, _, _, rfl, rfl, sq_of (sj _ _ (smt _ _ ha)), atI_nat (NV_get (ap_get hi)), _, _, rfl, rfl, _, rfl, ?_⟩
        have e1 : ((p.take i).take (j + 1)) = (p.take i).take j ++ [z] := by rw [List.take_add_one, hz]; rfl
        refine ite2 (fun c => ?_) (fun c => ?_)
        · have c' : ap p i < z := by
            have := of_decide_eq_true c
            omega
          refine ⟨_, rfl, _, hD2, ?_, fun b o e => ?_, ?_⟩
          · rw [NV_len]
            refine Nat.lt_of_le_of_lt (List.length_filter_le _ _) ?_
            rw [List.length_take, List.length_take]
            exact Nat.lt_of_le_of_lt (Nat.min_le_right _ _) (small1000 (by omega))
          · rw [upd_ne (ne_of_none e nD2)]
            exact sj _ _ e
          · rw [upd_same, ← NV_snoc, e1, List.filter_append]
            simp [c']
        · have c' : ¬ ap p i < z := fun h => c (decide_eq_true (by omega))
          refine ⟨sj, ?_⟩
          rw [hD2, e1, List.filter_append]
          simp [c']
      · rintro H4 ⟨sj, hD2⟩
        rw [NV_len, List.take_length] at hD2
        refine ⟨D2, _, rfl, .inl (sl_of hD2), _, sj _ _ (st _ _ hD), ?_, fun b o e => ?_, ?_⟩
        · rw [List.length_map, List.length_map, List.length_range]
          exact small1000 (by omega)
        · rw [upd_ne (ne_of_none e nD)]
          exact sj _ _ (smt _ _ e)
        · rw [upd_same, List.range_succ, List.map_append, List.map_append, NV_len]
          rfl
    · rintro H2 ⟨sm, hD⟩
      refine ⟨D, _, rfl, sl_of hD, _, _, rfl, rfl, (by show (0 : Int) < 2; decide), ?_⟩
      have e1 : ((List.range p.length).map fun j => ((invAt p j : Nat) : Int)).sum = ((invs p : Nat) : Int) := by
        unfold invs
        generalize List.range p.length = l
        induction l with
        | nil => rfl
        | cons x r ih =>
          rw [List.map_cons, List.map_cons, List.sum_cons, List.sum_cons, ih]
          omega
      show Q (V.int (((List.range p.length).map fun j => ((invAt p j : Nat) : Int)).sum % 2)) H2
      rw [e1]
      exact q H2 sm
end
end Hw

namespace Hw
open PySem PySem.Spec PyProof.Rows L2
def numOf : V → Nat
  | .int i => i.toNat
  | _ => 0
theorem numOf_NV (p : List Nat) : (NV p).map numOf = p := by
  unfold NV
  rw [List.map_map]
  have : (numOf ∘ fun n : Nat => V.int (n : Int)) = id := by
    funext n
    show ((n : Int)).toNat = n
    omega
  rw [this, List.map_id]
theorem perm_NV {ys : List V} {l : List Nat} (h : ys.Perm (NV l)) : ∃ p, ys = NV p ∧ p.Perm l := by
  refine ⟨ys.map numOf, ?_, ?_⟩
  · unfold NV
    rw [List.map_map]
    conv => lhs; rw [← List.map_id ys]
    apply List.map_congr_left
    intro v hv
    obtain ⟨n, _, rfl⟩ := List.mem_map.mp (h.mem_iff.mp hv)
    show V.int (n : Int) = V.int ((((n : Int)).toNat : Nat) : Int)
    rw [Int.toNat_natCast]
  · have := h.map numOf
    rw [numOf_NV] at this
    exact this
theorem isP_perm {p : List Nat} {n : Nat} (h : p.Perm (List.range n)) : IsP p ∧ p.length = n := by
  have hl : p.length = n := by rw [h.length_eq, List.length_range]
  refine ⟨⟨h.nodup_iff.mpr List.nodup_range, fun x hx => ?_⟩, hl⟩
  rw [hl]
  exact List.mem_range.mp (h.mem_iff.mp hx)
section
variable {P : Program} {w : World} {K : PySem.W.Frag} {mg : Str → Option Value} {base : Heap}
def spRow : Sp := fun vs H Q _ => ∃ (m lg lc : Addr) (s n : Nat), vs = [.ref m, .int (n : Int)] ∧ MOk H m lg lc s ∧ 1 ≤ n ∧ n ≤ 1000 ∧ s ≤ 90000 ∧
  ∀ H' r p s', IsP p → p.length = n → Kp m lg H H' → Tp H' r p → s' ≤ s + n + 5 → MOk H' m lg lc s' → Q (.ref r) H'
theorem scRow : FnScope ["_law_m", "_law_size", "_law_way", "_law_row_here", "_law_turn"] ["_law_m", "_law_size"] (defScope sRow) := ⟨rfl, rfl, rfl, by decide +kernel, rfl, by decide +kernel, by decide +kernel⟩
theorem cal_row (T : Txt mg) (GD : Cal P w K mg base "_law_draw" 2 spDraw) (GS : Cal P w K mg base "_law_shuffled" 3 (spShuffled K)) (GM : Cal P w K mg base "_law_mixed_up" 3 (spMixedUp K)) (D : Df K mg "_law_row" sRow ["_law_m", "_law_size"]) : Cal P w K mg base "_law_row" 4 spRow := by
  have nd := scRow.nd
  refine cal_of D scRow (fun vs H Q E h => ?_) (fun f cdv A outer s0 H vs Q E hr h => ?_)
  · obtain ⟨m, lg, lc, s, n, rfl, _⟩ := h
    rfl
  · obtain ⟨m, lg, lc, s, n, rfl, M0, h1, hn, hs, q⟩ := h
    have hr2 := hr.mono (show 2 ≤ 3 by decide)
    refine ⟨_, pss_cons (ps_par (i := 2) (j := 3) (by rfl) nd rfl rfl (by decide) rfl rfl (pa_cons (pe_cal GD hr2 (by rfl) (pa_cons (pv 0) (pa_cons pe_int pa_nil)))
        (pa_cons (pe_listRg (by rfl) (by rfl) T.list (prg_1 (by rfl) T.range (pv 1))) pa_nil)) (by rfl))
      <| pss_cons (ps_if (pt_cmpR op_eq (pv 2) pe_int (nomark _))
          (pss_cons (ps_set (i := 4) nd rfl (.inl rfl) (pe_cal GD hr2 (by rfl) (pa_cons (pv 0) (pa_cons (pv 1) pa_nil))))
          <| pss_one (ps_ret (pe_callTy call_tuple_of (by rfl) T.tuple (by decide +kernel) (pa_cons (pe_op op_cat (pe_slice sl_list (pv 3) (po_some (pv 4)) po_none) (pe_slice sl_list (pv 3) po_none (po_some (pv 4)))) pa_nil)))) pss_nil)
      <| pss_cons (ps_if (pt_cmpR op_eq (pv 2) pe_int (nomark _)) (pss_one (ps_ret (pe_cal GS hr (by rfl) (pa_cons (pv 0) (pa_cons (pv 3) (pa_cons pe_int pa_nil)))))) pss_nil)
      <| pss_one (ps_ret (pe_ifExp (pt_cmpR op_eq (pv 2) pe_int (nomark _)) (pe_cal GS hr (by rfl) (pa_cons (pv 0) (pa_cons (pv 3) (pa_cons pe_int pa_nil))))
          (pe_callTy call_tuple_of (by rfl) T.tuple (by decide +kernel) (pa_cons (pe_cal GM hr (by rfl) (pa_cons (pv 0) (pa_cons (pv 3) pa_nil))) pa_nil)))), ?_⟩
    refine ⟨_, rfl, m, lg, lc, s, 4, rfl, M0, by omega, by omega, by omega, fun H1 d hd kp1 M1 => ?_⟩
    refine ⟨_, rfl, _, rfl, RgOk.of_le (by omega) (by omega) (by omega) (by omega), fun l nl => ?_⟩
    rw [NV_range]
    have sl := same_upd (o := .lst (NV (List.range n))) nl
    generalize eH : upd H1 l (.lst (NV (List.range n))) = H2 at *
    have hl2 : H2 l = some (.lst (NV (List.range n))) := by rw [← eH, upd_same]
    have kp2 := kp1.trans (Kp.same sl)
    have M2 := M1.same sl
    have al := M1.new nl
    have len : (NV (List.range n)).length = n := by rw [NV_len, List.length_range]
    refine ⟨_, _, rfl, ?_⟩
    refine ⟨_, rfl, rfl, _, rfl, ite2 (fun _ => ?_) (fun _ => ?_)⟩
    · refine ⟨_, rfl, _, rfl, m, lg, lc, s + 1, n, rfl, M2, by omega, by omega, by omega, fun H3 t ht kp3 M3 => ?_⟩
      have g3 := kp3.lst M2 al.1 hl2
      refine ⟨_, rfl, _, rfl, _, rfl, l, _, rfl, sl_of g3, fun b nb => ?_⟩
      have sb := same_upd (o := .lst (cutV (NV (List.range n)) (some (t : Int)) none)) nb
      refine ⟨_, rfl, _, rfl, _, rfl, l, _, rfl, sl_of (sb _ _ g3), fun c nc => ?_⟩
      have nbc := ne_of_none (upd_same (H := H3) (a := b) (o := .lst (cutV (NV (List.range n)) (some (t : Int)) none))) nc
      refine ⟨b, c, _, _, rfl, rfl, (by rw [upd_ne nbc, upd_same]), upd_same, ?_, fun e ne => ?_⟩
      · refine Nat.le_trans (Nat.add_le_add (cutV_length _ _ _) (cutV_length _ _ _)) ?_
        rw [len]
        exact Nat.le_of_lt (Nat.lt_of_le_of_lt (show n + n ≤ 2000 by omega) (by decide))
      have e3 : cutV (NV (List.range n)) (some (t : Int)) none ++ cutV (NV (List.range n)) none (some (t : Int)) = NV ((List.range n).drop t ++ (List.range n).take t) := by
        rw [cut_to, cut_from, NV_take, NV_drop]
        unfold NV
        rw [List.map_append]
      refine ⟨e, _, rfl, .inl ⟨sl_of upd_same, fun r nr => ?_⟩⟩
      have pp : ((List.range n).drop t ++ (List.range n).take t).Perm (List.range n) := by
        refine List.perm_append_comm.trans ?_
        rw [List.take_append_drop]
      obtain ⟨i1, i2⟩ := isP_perm pp
      have sall := ((same_upd (o := .lst (cutV (NV (List.range n)) (some (t : Int)) none)) nb).trans (same_upd nc)).trans ((same_upd ne).trans (same_upd (o := .tup (cutV (NV (List.range n)) (some (t : Int)) none ++ cutV (NV (List.range n)) none (some (t : Int)))) nr))
      refine q _ r _ (s + 2) i1 i2 ((kp2.trans kp3).trans (Kp.same sall)) ?_ (by omega) (M3.same sall)
      show upd _ r _ r = _
      rw [upd_same, e3]
    · refine ⟨_, rfl, rfl, _, rfl, ite2 (fun _ => ?_) (fun _ => ?_)⟩
      · refine ⟨_, rfl, _, rfl, m, lg, lc, l, s + 1, 1, _, rfl, M2, .inl (sl_of hl2), by rw [len]; exact h1, by rw [len]; exact hn, by omega, by omega, fun H3 r ys hp kp3 nr hr3 M3 => ?_⟩
        obtain ⟨p, rfl, hp2⟩ := perm_NV hp
        obtain ⟨i1, i2⟩ := isP_perm hp2
        exact q H3 r p _ i1 i2 (kp2.trans kp3) hr3 (by omega) M3
      · refine ⟨_, rfl, rfl, _, rfl, ite2 (fun _ => ?_) (fun _ => ?_)⟩
        · refine ⟨_, rfl, _, rfl, m, lg, lc, l, s + 1, 2, _, rfl, M2, .inl (sl_of hl2), by rw [len]; exact h1, by rw [len]; exact hn, by omega, by omega, fun H3 r ys hp kp3 nr hr3 M3 => ?_⟩
          obtain ⟨p, rfl, hp2⟩ := perm_NV hp
          obtain ⟨i1, i2⟩ := isP_perm hp2
          exact q H3 r p _ i1 i2 (kp2.trans kp3) hr3 (by omega) M3
        · refine ⟨_, rfl, _, rfl, m, lg, lc, l, s + 1, _, rfl, M2, .inl (sl_of hl2), by rw [len]; exact hn, by rw [len]; omega, fun H3 r ys hp kp3 nr hr3 M3 => ?_⟩
          obtain ⟨p, rfl, hp2⟩ := perm_NV hp
          obtain ⟨i1, i2⟩ := isP_perm hp2
          refine ⟨r, _, rfl, .inl ⟨sl_of hr3, fun t nt => ?_⟩⟩
          have st := same_upd (o := .tup (NV p)) nt
          exact q _ t p _ i1 i2 ((kp2.trans kp3).trans (Kp.same st)) upd_same (by rw [len]; omega) (M3.same st)
end
end Hw

namespace Hw
open PySem PySem.Spec PyProof.Rows L2
def NI (p : List Nat) : List Int := p.map fun n : Nat => (n : Int)
theorem NV_NI (p : List Nat) : NV p = (NI p).map V.int := by
  unfold NV NI
  rw [List.map_map]
  rfl
theorem NI_inj : ∀ {p q : List Nat}, NI p = NI q → p = q
  | [], [], _ => rfl
  | [], _ :: _, h => by cases h
  | _ :: _, [], h => by cases h
  | x :: p, y :: q, h => by
    have h' : ((x : Int) :: NI p) = (y : Int) :: NI q := h
    injection h' with h1 h2
    rw [NI_inj h2, Int.ofNat.inj h1]
theorem dp_tp {K : PySem.W.Frag} {H : Hp} {a : Addr} {p : List Nat} (h : Tp H a p) : Dp K H (.ref a) (.tuple ((NI p).map PyData.int)) :=
  dp_ti (sq_of (by rw [← NV_NI]; exact h))
theorem eqv_tp (p q : List Nat) : PyData.eqv (.tuple ((NI p).map PyData.int)) (.tuple ((NI q).map PyData.int)) = decide (p = q) := by
  rw [eqv_ti]
  by_cases e : p = q
  · rw [decide_eq_true e, e]
    exact decide_eq_true rfl
  · rw [decide_eq_false e]
    exact decide_eq_false fun z => e (NI_inj z)
theorem muls2 {n : Nat} {p q : List Nat} (h : p.length = n) : muls n [p, q] = mul p q := by
  show mul (mul (List.range n) p) q = _
  rw [mul_range_left h]
theorem muls3 {n : Nat} {p q r : List Nat} (h : p.length = n) : muls n [p, q, r] = mul (mul p q) r := by
  show mul (mul (mul (List.range n) p) q) r = _
  rw [mul_range_left h]
theorem ord_le {p : List Nat} (h : IsP p) (hl : p.length ≤ 12) : ord p ≤ 27720 := by
  refine Nat.le_of_dvd (by decide) ?_
  unfold ord
  rw [lcm_fold h]
  exact ⟨Nat.one_dvd _, fun c hc => cyc_dvd h hl hc⟩
section
variable {P : Program} {w : World} {K : PySem.W.Frag} {mg : Str → Option Value} {base : Heap}
/-- the defs that the law's parts call -/
structure Pr (P : Program) (w : World) (K : PySem.W.Frag) (mg : Str → Option Value) (base : Heap) : Prop where
  co : Cal P w K mg base "compose" 6 spCompose
  iv : Cal P w K mg base "inverse" 6 spInverse
  cy : Cal P w K mg base "cycles" 6 spCycles
  od : Cal P w K mg base "order" 6 spOrder
  ev : Cal P w K mg base "is_even" 6 spEven
  sg : Cal P w K mg base "_law_sign" 6 spSign
theorem two_perms {H : Hp} {a b : Addr} {p q : List Nat} (h1 : Tp H a p) (h2 : Tp H b q) (i1 : IsP p) (i2 : IsP q) (e : q.length = p.length) : Perms H p.length [(a, p), (b, q)] := by
  intro k hk
  rcases List.mem_cons.mp hk with rfl | hk
  · exact ⟨h1, i1, rfl⟩
  · rw [List.mem_singleton.mp hk]
    exact ⟨h2, i2, e⟩
def spRight : Sp := fun vs H Q _ => ∃ (a : Addr) (p : List Nat), vs = [.ref a] ∧ Tp H a p ∧ IsP p ∧ p.length ≤ 12 ∧ ∀ H', Same H H' → Q (.bl true) H'
theorem scInvRight : FnScope ["_law_row_here", "_law_idle", "_law_turned", "_law_n"] ["_law_row_here"] (defScope sInvRight) := ⟨rfl, rfl, rfl, by decide +kernel, rfl, by decide +kernel, by decide +kernel⟩
theorem cal_invRight (T : Txt mg) (C : Pr P w K mg base) (D : Df K mg "_law_inverse_right" sInvRight ["_law_row_here"]) : Cal P w K mg base "_law_inverse_right" 7 spRight := by
  have nd := scInvRight.nd
  refine cal_of D scInvRight (fun vs H Q E h => ?_) (fun f cdv A outer s0 H vs Q E hr h => ?_)
  · obtain ⟨a, p, rfl, _⟩ := h
    rfl
  · obtain ⟨a, p, rfl, ha, hp, hl, q⟩ := h
    refine ⟨_, pss_cons (ps_par (i := 1) (j := 2) (by rfl) nd rfl rfl (by decide) rfl rfl (pa_cons (pe_tupRg (by rfl) (by rfl) T.tuple (prg_1 (by rfl) T.range (pe_callB cr_len (by rfl) T.len PySem.boot_len (pa_cons (pv 0) pa_nil)))) (pa_cons (pv 0) pa_nil)) (by rfl))
      <| pss_cons (ps_if (PW.pt (pw_or (pt_cmpR (op_neD hr.units) (pe_cal C.co hr (by rfl) (pa_cons (pv 0) (pa_cons (pe_cal C.iv hr (by rfl) (pa_cons (pv 0) pa_nil)) pa_nil))) (pv 1) (nomark _))
          (pw_or (pt_cmpR (op_neD hr.units) (pe_cal C.co hr (by rfl) (pa_cons (pe_cal C.iv hr (by rfl) (pa_cons (pv 0) pa_nil)) (pa_cons (pv 0) pa_nil))) (pv 1) (nomark _))
          (pw_or1 (pt_cmpR (op_neD hr.units) (pe_cal C.iv hr (by rfl) (pa_cons (pe_cal C.iv hr (by rfl) (pa_cons (pv 0) pa_nil)) pa_nil)) (pv 0) (nomark _)))))) (pss_one (ps_ret pe_bl)) pss_nil)
      <| pss_cons (ps_for PassesOwn.never rfl (pi_range1 (by rfl) T.range (pa_cons (pe_op op_sub (pe_cal C.od hr (by rfl) (pa_cons (pv 0) pa_nil)) pe_int) pa_nil)) (pg_name (i := 3) nd rfl (.inl rfl))
          (pss_cons (ps_if (pt_cmpR (op_eqD hr.units) (pv 2) (pv 1) (nomark _)) (pss_one (ps_ret pe_bl)) pss_nil)
          <| pss_one (ps_set (i := 2) nd rfl (.inl rfl) (pe_cal C.co hr (by rfl) (pa_cons (pv 2) (pa_cons (pv 0) pa_nil))))))
      <| pss_cons (ps_if (PW.pt (pw_or (pt_cmpR (op_neD hr.units) (pv 2) (pv 1) (nomark _)) (pw_or1 (pt_cmpR op_ne (pe_cal C.od hr (by rfl) (pa_cons (pe_cal C.iv hr (by rfl) (pa_cons (pv 0) pa_nil)) pa_nil)) (pe_cal C.od hr (by rfl) (pa_cons (pv 0) pa_nil)) (nomark _))))) (pss_one (ps_ret pe_bl)) pss_nil)
      <| pss_one (ps_ret (pe_and (pe_cmpR op_eq (pe_cal C.ev hr (by rfl) (pa_cons (pv 0) pa_nil)) (pe_cmpR op_eq (pe_cal C.sg hr (by rfl) (pa_cons (pv 0) pa_nil)) pe_int (nomark _)) (nomark _))
          (pe_one (pe_cmpR op_eq (pe_cal C.ev hr (by rfl) (pa_cons (pv 0) pa_nil)) (pe_cal C.ev hr (by rfl) (pa_cons (pe_cal C.iv hr (by rfl) (pa_cons (pv 0) pa_nil)) pa_nil)) (nomark _))))), ?_⟩
    have hq := isP_inv hp
    have l1000 : p.length ≤ 1000 := by omega
    have il := inv_len p
    refine ⟨_, rfl, a, NV p, rfl, .inr (sq_of ha), _, rfl, by rw [NV_len]; exact RgOk.of_le (by omega) (by omega) (by omega) (by omega), fun d nd0 => ?_⟩
    rw [NV_len, NV_range]
    have s1 := same_upd (o := .tup (NV (List.range p.length))) nd0
    refine ⟨_, rfl, _, _, rfl, ?_⟩
    have hd1 : Tp (upd H d (.tup (NV (List.range p.length)))) d (List.range p.length) := upd_same
    generalize upd H d (.tup (NV (List.range p.length))) = H1 at *
    -- compose(row, inverse(row)) != idle
    refine ⟨_, rfl, _, rfl, a, p, rfl, s1 _ _ ha, hp, l1000, fun H2 r s2 hr2 => ?_⟩
    have sa := s1.trans s2
    refine ⟨[(a, p), (r, inv p)], p.length, rfl, two_perms (sa _ _ ha) hr2 hp hq il, l1000, (by show 2 ≤ 1000; decide), (fun z => nomatch z), fun H3 t s3 ht => ?_⟩
    have ht : Tp H3 t (muls p.length [p, inv p]) := ht
    rw [muls2 rfl, mul_inv hp] at ht
    have hd3 : Tp H3 d (List.range p.length) := s3 _ _ (s2 _ _ hd1)
    refine ⟨_, rfl, _, _, dp_tp ht, dp_tp hd3, shaped_ti _, shaped_ti _, _, rfl, ?_⟩
    rw [eqv_tp, decide_eq_true rfl]
    refine iteF ?_
    have sb := sa.trans s3
    have hd3 : Tp H3 d (List.range p.length) := hd3
    -- compose(inverse(row), row) != idle
    refine ⟨_, rfl, a, p, rfl, sb _ _ ha, hp, l1000, fun H4 r2 s4 hr4 => ?_⟩
    have sc := sb.trans s4
    refine ⟨_, rfl, [(r2, inv p), (a, p)], p.length, rfl, ?_, l1000, (by show 2 ≤ 1000; decide), (fun z => nomatch z), fun H5 t2 s5 ht2 => ?_⟩
    · have := two_perms hr4 (sc _ _ ha) hq hp il.symm
      rw [il] at this
      exact this
    have ht2 : Tp H5 t2 (muls p.length [inv p, p]) := ht2
    rw [muls2 il, inv_mul hp] at ht2
    have hd5 : Tp H5 d (List.range p.length) := s5 _ _ (s4 _ _ hd3)
    refine ⟨_, rfl, _, _, dp_tp ht2, dp_tp hd5, shaped_ti _, shaped_ti _, _, rfl, ?_⟩
    rw [eqv_tp, decide_eq_true rfl]
    refine iteF ?_
    have sd := sc.trans s5
    -- inverse(inverse(row)) != row
    refine ⟨_, rfl, a, p, rfl, sd _ _ ha, hp, l1000, fun H6 r3 s6 hr6 => ?_⟩
    refine ⟨r3, inv p, rfl, hr6, hq, by rw [il]; exact l1000, fun H7 r4 s7 hr7 => ?_⟩
    rw [inv_inv' hp] at hr7
    have se := (sd.trans s6).trans s7
    refine ⟨_, rfl, _, _, dp_tp hr7, dp_tp (se _ _ ha), shaped_ti _, shaped_ti _, _, rfl, ?_⟩
    rw [eqv_tp, decide_eq_true rfl]
    refine iteF ?_
    -- order
    have op := ord_pos hp
    have ole := ord_le hp hl
    refine ⟨_, rfl, a, p, 27720, rfl, se _ _ ha, hp, l1000, by decide, by decide, fun c hc => cyc_dvd hp hl hc, fun H8 s8 => ?_⟩
    have sf := se.trans s8
    have hd8 : Tp H8 d (List.range p.length) := s8 _ _ (s7 _ _ (s6 _ _ hd5))
    refine ⟨_, _, rfl, rfl, _, rfl, by omega, by omega, ?_⟩
    rw [show ((ord p : Int) - 1).toNat = ord p - 1 by omega]
    refine for_it walk_rg0 (fun i σ H' => ∃ t v, σ = [some (.ref a), some (.ref d), some (.ref t), v] ∧ Same H8 H' ∧ Tp H' t (tn p i)) ⟨a, none, rfl, Same.refl _, by rw [tn_zero]; exact sf _ _ ha⟩ (fun _ _ _ _ _ => trivial) ?_ ?_
    · rintro i x σ _ H9 hi ⟨t3, v, rfl, s9, ht3⟩ ⟨rfl, rfl⟩
      refine ⟨_, rfl, _, rfl, _, _, dp_tp ht3, dp_tp (s9 _ _ hd8), shaped_ti _, shaped_ti _, _, rfl, ?_⟩
      rw [eqv_tp]
      have ne : tn p i ≠ List.range p.length := fun e => by
        have := Nat.le_of_dvd (by omega) ((tn_idle hp i).mp e)
        omega
      rw [decide_eq_false ne]
      refine iteF ⟨_, rfl, _, rfl, [(t3, tn p i), (a, p)], p.length, rfl, ?_, l1000, (by show 2 ≤ 1000; decide), (fun z => nomatch z), fun H10 t4 s10 ht4 => ?_⟩
      · have := two_perms ht3 (s9 _ _ (sf _ _ ha)) (isP_tn hp i) hp (tn_len i).symm
        rw [tn_len] at this
        exact this
      have ht4 : Tp H10 t4 (muls p.length [tn p i, p]) := ht4
      rw [muls2 (tn_len i), tn_succ hp] at ht4
      exact ⟨t4, _, rfl, s9.trans s10, ht4⟩
    · rintro σ H9 ⟨t3, v, rfl, s9, ht3⟩
      have sg := sf.trans s9
      have e1 : tn p (ord p - 1) = List.range p.length := (tn_idle hp _).mpr (by rw [show ord p - 1 + 1 = ord p by omega]; exact Nat.dvd_refl _)
      rw [e1] at ht3
      refine ⟨_, rfl, _, rfl, _, _, dp_tp ht3, dp_tp (s9 _ _ hd8), shaped_ti _, shaped_ti _, _, rfl, ?_⟩
      rw [eqv_tp, decide_eq_true rfl]
      refine iteF ?_
      refine ⟨_, rfl, a, p, rfl, sg _ _ ha, hp, l1000, fun H10 r5 s10 hr10 => ?_⟩
      have sh := sg.trans s10
      have ilq : (inv p).length ≤ 12 := by rw [il]; exact hl
      refine ⟨r5, inv p, 27720, rfl, hr10, hq, by omega, by decide, by decide, fun c hc => cyc_dvd hq ilq hc, fun H11 s11 => ?_⟩
      have si := sh.trans s11
      refine ⟨_, rfl, a, p, 27720, rfl, si _ _ ha, hp, l1000, by decide, by decide, fun c hc => cyc_dvd hp hl hc, fun H12 s12 => ?_⟩
      have sj := si.trans s12
      rw [ord_inv hp]
      refine ⟨rfl, _, rfl, ?_⟩
      rw [decide_eq_true rfl]
      refine iteF ?_
      -- the end
      refine ⟨_, rfl, a, p, rfl, sj _ _ ha, hp, l1000, fun H13 s13 => ?_⟩
      have sk := sj.trans s13
      refine ⟨_, rfl, a, p, rfl, sk _ _ ha, l1000, fun H14 s14 => ?_⟩
      have sl := sk.trans s14
      refine ⟨rfl, rfl, ?_⟩
      have e2 : decide (V.int ((invs p : Int) % 2) = V.int 0) = evenP p := by
        rw [even_sgn hp hl]
        congr 1
        simp
      rw [e2]
      refine ⟨true, by rw [decide_eq_true rfl], iteT ?_⟩
      refine ⟨_, rfl, a, p, rfl, sl _ _ ha, hp, l1000, fun H15 s15 => ?_⟩
      have sm := sl.trans s15
      refine ⟨_, rfl, a, p, rfl, sm _ _ ha, hp, l1000, fun H16 r6 s16 hr16 => ?_⟩
      have sn := sm.trans s16
      refine ⟨r6, inv p, rfl, hr16, hq, by omega, fun H17 s17 => ?_⟩
      have so := sn.trans s17
      rw [even_inv hp hl]
      refine ⟨rfl, ?_⟩
      rw [decide_eq_true rfl]
      exact q _ so
end
end Hw

namespace Hw
open PySem PySem.Spec PyProof.Rows L2
/-! ### tuples of tuples as data -/
def dC (cs : List (List Nat)) : PyData := .list (cs.map fun c => .tuple ((NI c).map PyData.int))
theorem lay_cs : ∀ cs : List (List Nat), PyData.canLayAll0 (cs.map fun c => PyData.tuple ((NI c).map PyData.int)) = true
  | [] => rfl
  | c :: cs => by
    show (PyData.canLayAll0 ((NI c).map PyData.int) && PyData.canLayAll0 (cs.map fun c => PyData.tuple ((NI c).map PyData.int))) = true
    rw [lay_ints, lay_cs cs]
    rfl
theorem depth_cs : ∀ cs : List (List Nat), PyData.depthAll (cs.map fun c => PyData.tuple ((NI c).map PyData.int)) ≤ 1
  | [] => Nat.zero_le _
  | c :: cs => by
    show max (PyData.depthAll ((NI c).map PyData.int) + 1) (PyData.depthAll (cs.map fun c => PyData.tuple ((NI c).map PyData.int))) ≤ 1
    rw [depth_ints]
    exact Nat.max_le.mpr ⟨Nat.le_refl _, depth_cs cs⟩
theorem shaped_cs (cs : List (List Nat)) : SeqAt.shaped (dC cs) = true := by
  unfold SeqAt.shaped
  have e : (dC cs).depth ≤ 64 := by
    show PyData.depthAll (cs.map fun c => PyData.tuple ((NI c).map PyData.int)) + 1 ≤ 64
    have := depth_cs cs
    omega
  show (PyData.canLayAll0 (cs.map fun c => PyData.tuple ((NI c).map PyData.int)) && _) = true
  rw [lay_cs, decide_eq_true e]
  rfl
theorem eqv_cs (cs : List (List Nat)) : PyData.eqv (dC cs) (dC cs) = true := SeqAt.eqv_refl _ (lay_cs cs)
theorem dpa_cs {K : PySem.W.Frag} {H : Hp} : ∀ ks : List (Addr × List Nat), (∀ k ∈ ks, Tp H k.1 k.2) → DpAll K H (ks.map fun k => V.ref k.1) ((ks.map (·.2)).map fun c => PyData.tuple ((NI c).map PyData.int))
  | [], _ => .nil
  | k :: ks, h => .cons (dp_tp (h k List.mem_cons_self)) (dpa_cs ks fun l hl => h l (List.mem_cons_of_mem _ hl))
theorem dp_cs {K : PySem.W.Frag} {H : Hp} {a : Addr} {ks : List (Addr × List Nat)} {cs : List (List Nat)} (h : SqL K H a (ks.map fun k => V.ref k.1)) (hk : ∀ k ∈ ks, Tp H k.1 k.2) (e : ks.map (·.2) = cs) : Dp K H (.ref a) (dC cs) := by
  have := Dp.lst h (dpa_cs (K := K) ks hk)
  rw [e] at this
  exact this
theorem foldl_min : ∀ (ns : List Int) (n : Int), (∀ y ∈ ns, n ≤ y) → ns.foldl min n = n
  | [], _, _ => rfl
  | m :: ns, n, h => by
    have h1 := h m List.mem_cons_self
    show ns.foldl min (min n m) = n
    rw [show min n m = n from Int.min_eq_left h1]
    exact foldl_min ns n fun y hy => h y (List.mem_cons_of_mem _ hy)
theorem NI_nodup {l : List Nat} (h : l.Nodup) : (NI l).Nodup := by
  unfold NI
  rw [List.nodup_iff_pairwise_ne, List.pairwise_map]
  exact List.Pairwise.imp (fun {x y} h e => h (Int.ofNat.inj e)) (List.nodup_iff_pairwise_ne.mp h)
theorem NI_len (l : List Nat) : (NI l).length = l.length := by unfold NI; rw [List.length_map]
theorem mem_NI {l : List Nat} {y : Int} (h : y ∈ NI l) : ∃ x, x ∈ l ∧ y = (x : Int) := by
  obtain ⟨x, hx, rfl⟩ := List.mem_map.mp h
  exact ⟨x, hx, rfl⟩
/-- the same numbers, both rising -/
theorem sorted_is {ns : List Int} {l m : List Nat} (h1 : ns.Perm (NI l)) (h2 : ns.Pairwise (· ≤ ·)) (h3 : m.Perm l) (h4 : m.Pairwise (· ≤ ·)) : ns = NI m := by
  refine List.Perm.eq_of_pairwise (fun a b _ _ x y => Int.le_antisymm x y) h2 ?_ (h1.trans (h3.symm.map _))
  unfold NI
  rw [List.pairwise_map]
  exact List.Pairwise.imp (fun h => by omega) h4
section
variable {P : Program} {w : World} {K : PySem.W.Frag} {mg : Str → Option Value} {base : Heap}
theorem rot_cut (c : List Nat) : cutV (NV c) (some 1) none ++ cutV (NV c) none (some 1) = NV (c.drop 1 ++ c.take 1) := by
  have e1 := cut_from (NV c) 1
  have e2 := cut_to (NV c) 1
  rw [NV_drop] at e1
  rw [NV_take] at e2
  have e1' : cutV (NV c) (some 1) none = NV (c.drop 1) := e1
  have e2' : cutV (NV c) none (some 1) = NV (c.take 1) := e2
  rw [e1', e2']
  unfold NV
  rw [List.map_append]
theorem flat_take_len {p : List Nat} (h : IsP p) (i : Nat) : ((cyc p).take i).flatten.length ≤ p.length := by
  have e : (cyc p).flatten = ((cyc p).take i).flatten ++ ((cyc p).drop i).flatten := by
    rw [← List.flatten_append, List.take_append_drop]
  have l := len_le p.length _ (flat_nodup h) fun x m => flat_lt h m
  rw [e, List.length_append] at l
  omega
theorem cyc_rise {p : List Nat} (h : IsP p) {ks : List (Addr × List Nat)} (e : ks.map (·.2) = cyc p) : (ks.map fun k => (k.1, NI k.2)).Pairwise fun k l => ¬ l.2 < k.2 := by
  rw [List.pairwise_map]
  have pw := cyc_pw h
  rw [← e, List.pairwise_map] at pw
  refine List.Pairwise.imp (fun {k l} => ?_) pw
  rintro ⟨f, g, hf, hg, hfg, _, _, ec, ed⟩
  obtain ⟨r1, e1⟩ := orb_head h hf
  obtain ⟨r2, e2⟩ := orb_head h hg
  show ¬ NI l.2 < NI k.2
  rw [ec, ed, e1, e2]
  show ¬ ((g : Int) :: NI r2) < ((f : Int) :: NI r1)
  rw [List.cons_lt_cons_iff]
  omega
abbrev nCyc : List Str := ["_law_row_here", "_law_built", "_law_seen", "_law_turn", "_law_moved", "_law_here", "_law_far", "_law_away", "_law_at"]
theorem scCycRight : FnScope nCyc ["_law_row_here"] (defScope sCycRight) := ⟨rfl, rfl, rfl, by decide +kernel, rfl, by decide +kernel, by decide +kernel⟩
theorem cal_cycRight (T : Txt mg) (C : Pr P w K mg base) (D : Df K mg "_law_cycles_right" sCycRight ["_law_row_here"]) : Cal P w K mg base "_law_cycles_right" 7 spRight := by
  have nd := scCycRight.nd
  refine cal_of D scCycRight (fun vs H Q E h => ?_) (fun f cdv A outer s0 H vs Q E hr h => ?_)
  · obtain ⟨a, p, rfl, _⟩ := h
    rfl
  · obtain ⟨a, p, rfl, ha, hp, hl, q⟩ := h
    have hu := hu_of hr
    refine ⟨_, pss_cons (ps_par (i := 1) (j := 2) (by rfl) nd rfl rfl (by decide) rfl rfl (pa_cons (pe_tupRg (by rfl) (by rfl) T.tuple (prg_1 (by rfl) T.range (pe_callB cr_len (by rfl) T.len PySem.boot_len (pa_cons (pv 0) pa_nil)))) (pa_cons (pe_lst pa_nil) pa_nil)) (by rfl))
      <| pss_cons (ps_for PassesOwn.never rfl (pi_tup (pe_cal C.cy hr (by rfl) (pa_cons (pv 0) pa_nil))) (pg_name (i := 3) nd rfl (.inl rfl))
          (pss_cons (ps_set (i := 4) nd rfl (.inl rfl) (pe_listRg (by rfl) (by rfl) T.list (prg_1 (by rfl) T.range (pe_callB cr_len (by rfl) T.len PySem.boot_len (pa_cons (pv 0) pa_nil)))))
          <| pss_cons (ps_for PassesOwn.never rfl (RZ.pi_zipA (by rfl) T.zip (pa_cons (pv 3) (pa_cons (pe_op op_catT (pe_slice sl_tup (pv 3) (po_some pe_int) po_none) (pe_slice sl_tup (pv 3) po_none (po_some pe_int))) pa_nil)))
              (pg_tup rfl (pgs_cons (pg_name (i := 5) nd rfl (.inl rfl)) (pgs_cons (pg_name (i := 6) nd rfl (.inl rfl)) pgs_nil)))
              (pss_one (ps_asg (pv 6) (pg_sub (pv 4) (pv 5) set_list))))
          <| pss_cons (ps_set (i := 1) nd rfl (.inl rfl) (pe_cal C.co hr (by rfl) (pa_cons (pv 1) (pa_cons (pe_callTy call_tuple_of (by rfl) T.tuple (by decide +kernel) (pa_cons (pv 4) pa_nil)) pa_nil))))
          <| pss_cons (ps_set (i := 2) nd rfl (.inl rfl) (pe_op op_cat (pv 2) (pe_callTy call_list_of (by rfl) T.list (by decide +kernel) (pa_cons (pv 3) pa_nil))))
          <| pss_one (ps_if (PW.pt (pw_or (pt_cmpR op_lt (pe_callB cr_len (by rfl) T.len PySem.boot_len (pa_cons (pv 3) pa_nil)) pe_int (nomark _))
              (pw_or (pt_cmpR op_ne (pe_callB (cr_minT (by rfl) hu) (by rfl) T.min (by decide +kernel) (pa_cons (pv 3) pa_nil)) (pe_ix ix_tup (pv 3) pe_int (fun _ _ => rfl)) (nomark _))
              (pw_or1 (pt_cmpR op_ne (pe_cal C.od hr (by rfl) (pa_cons (pe_callTy call_tuple_of (by rfl) T.tuple (by decide +kernel) (pa_cons (pv 4) pa_nil)) pa_nil)) (pe_callB cr_len (by rfl) T.len PySem.boot_len (pa_cons (pv 3) pa_nil)) (nomark _)))))) (pss_one (ps_ret pe_bl)) pss_nil)))
      <| pss_cons (ps_if (PW.pt (pw_or (pt_cmpR op_ne (pe_callB cr_len (by rfl) T.len PySem.boot_len (pa_cons (pv 2) pa_nil)) (RZ.pe_lenSetI (by rfl) T.len (by rfl) T.set (pv 2)) (nomark _))
          (pw_or1 (pt_cmpR (op_neD hr.units) (pe_callTy call_list_of (by rfl) T.list (by decide +kernel) (pa_cons (pe_cal C.cy hr (by rfl) (pa_cons (pv 0) pa_nil)) pa_nil))
            (pe_callB (cr_sortTT hr.units) (by rfl) T.sorted (by decide +kernel) (pa_cons (pe_cal C.cy hr (by rfl) (pa_cons (pv 0) pa_nil)) pa_nil)) (nomark _))))) (pss_one (ps_ret pe_bl)) pss_nil)
      <| pss_cons (ps_setLc (i := 7) (own := [("_law_at", 8)]) (g := gName 8) (by rfl) nd rfl rfl (sw_true rfl rfl rfl (by decide +kernel)) (pi_range1 (by rfl) T.range (pa_cons (pe_callB cr_len (by rfl) T.len PySem.boot_len (pa_cons (pv 0) pa_nil)) pa_nil))
          (blkOk_by (own := [("_law_at", 8)]) (N := nCyc) (sc := defScope sCycRight) (by decide +kernel)) (fun _ _ _ _ _ => pg_name (i := 8) nd rfl (.inl rfl)) (fun _ _ _ _ _ => pts_one (pt_cmpR op_ne (pe_ix (r := rIxT K) ix_tup (pv 0) (pv 8) (fun _ _ => rfl)) (pv 8) (nomark _)))
          (fun _ _ _ _ _ => pv 8))
      <| pss_one (ps_ret (pe_and (pe_cmpR (op_eqD hr.units) (pv 1) (pv 0) (nomark _)) (pe_one (pe_cmpR (op_eqD hr.units) (pe_callB cr_sorted (by rfl) T.sorted (by decide +kernel) (pa_cons (pv 2) pa_nil)) (pv 7) (nomark _))))), ?_⟩
    have l1000 : p.length ≤ 1000 := by omega
    refine ⟨_, rfl, a, NV p, rfl, .inr (sq_of ha), _, rfl, by rw [NV_len]; exact RgOk.of_le (by omega) (by omega) (by omega) (by omega), fun d nd0 => ?_⟩
    rw [NV_len, NV_range]
    have s1 := same_upd (o := .tup (NV (List.range p.length))) nd0
    refine ⟨Nat.zero_le _, fun sl0 nsl => ?_⟩
    have s2 := s1.trans (same_upd (o := .lst []) nsl)
    have hd2 : Tp (upd (upd H d (.tup (NV (List.range p.length)))) sl0 (.lst [])) d (List.range p.length) := same_upd nsl _ _ upd_same
    have hs2 : (upd (upd H d (.tup (NV (List.range p.length)))) sl0 (.lst [])) sl0 = some (.lst []) := upd_same
    generalize upd (upd H d (.tup (NV (List.range p.length)))) sl0 (.lst []) = H2 at *
    refine ⟨_, _, rfl, ?_⟩
    refine ⟨_, rfl, a, p, rfl, s2 _ _ ha, hp, l1000, fun H3 r s3 cy => ?_⟩
    obtain ⟨ks, hr1, hk1, hk2⟩ := cy
    have s03 := s2.trans s3
    have ha3 : Tp H3 a p := s03 _ _ ha
    have kl : ks.length = (cyc p).length := by rw [← hk1, List.length_map]
    refine ⟨r, rfl, ⟨_, sq_of hr1⟩, for_it (walk_tup (xs := ks.map fun k => V.ref k.1)) (fun i σ H' => ∃ b sl v3 v4 v5 v6, σ = [some (.ref a), some (.ref b), some (.ref sl), v3, v4, v5, v6, none, none] ∧ Same H3 H' ∧ Tp H' b (mv p ((cyc p).take i).flatten) ∧ H' sl = some (.lst (NV ((cyc p).take i).flatten)))
      ⟨d, sl0, none, none, none, none, rfl, Same.refl _, ?_, ?_⟩ (fun i σ H' _ ⟨_, _, _, _, _, _, _, sm, _⟩ => sq_of (sm _ _ hr1)) ?_ ?_⟩
    · have e : ((cyc p).take 0).flatten = [] := by simp
      rw [e, mv_nil hp]
      exact s3 _ _ hd2
    · have e : ((cyc p).take 0).flatten = [] := by simp
      rw [e]
      exact s3 _ _ hs2
    · rintro i x σ _ Hs hi ⟨b, sl, v3, v4, v5, v6, rfl, sm, hb, hsl⟩ ⟨rfl, hx⟩
      obtain ⟨k, hk, rfl⟩ := refs_get hx
      have tk : Tp Hs k.1 k.2 := sm _ _ (hk2 k (List.mem_of_getElem? hk))
      have hci : (cyc p)[i]? = some k.2 := by
        rw [← hk1, List.getElem?_map, hk]
        rfl
      have hcm := List.mem_of_getElem? hci
      obtain ⟨f0, hf, hlow, hper, ec⟩ := (mem_cyc hp).mp hcm
      have cl := cyc_len hp hcm
      have hlen : k.2.length = per p f0 := by rw [ec, orb_len hp hf]
      generalize k.2 = c at *
      -- moved = list(range(len(row)))
      refine ⟨_, rfl, a, NV p, rfl, .inr (sq_of (sm _ _ ha3)), _, rfl, by rw [NV_len]; exact RgOk.of_le (by omega) (by omega) (by omega) (by omega), fun ml nml => ?_⟩
      rw [NV_len, NV_range]
      have t1 := same_upd (o := .lst (NV (List.range p.length))) nml
      have hml1 : upd Hs ml (.lst (NV (List.range p.length))) ml = some (.lst (NV (List.range p.length))) := upd_same
      generalize upd Hs ml (.lst (NV (List.range p.length))) = Ha at *
      -- zip(turn, turn[1:] + turn[:1])
      have nv2 : (NV c).length = c.length := NV_len c
      refine ⟨_, rfl, _, rfl, 1, rfl, k.1, _, rfl, sq_of (t1 _ _ tk), ?_, fun x1 nx1 => ?_⟩
      · rintro ⟨z, _⟩
        rw [show HT.sIx (NV c).length 0 (some (1 : Int)) = min 1 (NV c).length from HT.sIx_nat _ _ 1, nv2] at z
        omega
      have t2 := t1.trans (same_upd (o := .tup (cutV (NV c) (some 1) none)) nx1)
      have hx1 : upd Ha x1 (.tup (cutV (NV c) (some 1) none)) x1 = some (.tup (cutV (NV c) (some 1) none)) := upd_same
      have hml2 : upd Ha x1 (.tup (cutV (NV c) (some 1) none)) ml = some (.lst (NV (List.range p.length))) := same_upd nx1 _ _ hml1
      generalize upd Ha x1 (.tup (cutV (NV c) (some 1) none)) = Hb at *
      refine ⟨_, rfl, 1, rfl, k.1, _, rfl, sq_of (t2 _ _ tk), ?_, fun x2 nx2 => ?_⟩
      · rintro ⟨_, z⟩
        rw [show HT.sIx (NV c).length (NV c).length (some (1 : Int)) = min 1 (NV c).length from HT.sIx_nat _ _ 1, nv2] at z
        omega
      have t3 := t2.trans (same_upd (o := .tup (cutV (NV c) none (some 1))) nx2)
      have hx2 : upd Hb x2 (.tup (cutV (NV c) none (some 1))) x2 = some (.tup (cutV (NV c) none (some 1))) := upd_same
      have hx1' := same_upd (o := .tup (cutV (NV c) none (some 1))) nx2 _ _ hx1
      have hml3 := same_upd (o := .tup (cutV (NV c) none (some 1))) nx2 _ _ hml2
      generalize upd Hb x2 (.tup (cutV (NV c) none (some 1))) = Hc at *
      have rc := rot_cut c
      have lcat : (cutV (NV c) (some 1) none ++ cutV (NV c) none (some 1)).length = c.length := by
        rw [rc, NV_len, List.length_append, List.length_drop, List.length_take]
        omega
      have lc1 : (cutV (NV c) (some 1) none).length = c.length - 1 := by
        have : cutV (NV c) (some 1) none = (NV c).drop 1 := cut_from (NV c) 1
        rw [this, List.length_drop, nv2]
      have lc2 : (cutV (NV c) none (some 1)).length = 1 := by
        have : cutV (NV c) none (some 1) = (NV c).take 1 := cut_to (NV c) 1
        rw [this, List.length_take, nv2]
        omega
      refine ⟨x1, x2, _, _, rfl, rfl, sq_of hx1', sq_of hx2, (fun z => by rw [z] at lc1; simp at lc1; omega), ?_, (fun z => by rw [z] at lc2; simp at lc2), fun _ x3 nx3 => ?_⟩
      · rw [lc1, lc2]
        exact Nat.le_of_lt (small1000 (by omega))
      rw [rc]
      have t4 := t3.trans (same_upd (o := .tup (NV (c.drop 1 ++ c.take 1))) nx3)
      have hx3 : upd Hc x3 (.tup (NV (c.drop 1 ++ c.take 1))) x3 = some (.tup (NV (c.drop 1 ++ c.take 1))) := upd_same
      have hml4 := same_upd (o := .tup (NV (c.drop 1 ++ c.take 1))) nx3 _ _ hml3
      generalize upd Hc x3 (.tup (NV (c.drop 1 ++ c.take 1))) = Hd at *
      have nmt : ∀ b xs, Hd b = some (.tup xs) → b ≠ ml := fun b xs e => ne_of e hml4 (by intro q; cases q)
      refine ⟨k.1, x3, _, _, rfl, .inr ⟨sq_of (t4 _ _ tk), sq_of hx3, RZ.for_zipT (by rw [NV_len, NV_len, List.length_append, List.length_drop, List.length_take]; omega)
        (fun j σ H' => ∃ v5 v6, σ = [some (.ref a), some (.ref b), some (.ref sl), some (.ref k.1), some (.ref ml), v5, v6, none, none] ∧ (∀ b o, b ≠ ml → Hd b = some o → H' b = some o) ∧ H' ml = some (.lst (NV (mv p (c.take j))))) ⟨_, _, rfl, fun _ _ _ e => e, ?_⟩
        (fun j σ H' ⟨_, _, _, kb, _⟩ => ⟨sq_of (kb _ _ (nmt _ _ (t4 _ _ tk)) (t4 _ _ tk)), sq_of (kb _ _ (nmt _ _ hx3) hx3)⟩) ?_ ?_⟩⟩
      · rw [List.take_zero, mv_nil hp]
        exact hml4
      · rintro j x y T1 σ H' hxj hyj ⟨v5, v6, rfl, kb, hm⟩ nT
        obtain ⟨z, hz, rfl⟩ := NV_get' hxj
        obtain ⟨z2, hz2, rfl⟩ := NV_get' hyj
        have hj : j < per p f0 := by
          have := (List.getElem?_eq_some_iff.mp hz).1
          omega
        have ez : z = it p j f0 := by
          rw [ec, orb_get hp hf hj] at hz
          exact (Option.some.inj hz).symm
        have ez2 : z2 = it p (j + 1) f0 := by
          rw [ec, rot_get hp hf hj] at hz2
          exact (Option.some.inj hz2).symm
        have zb := it_lt hp hf j
        have nTm : ml ≠ T1 := ne_of_none hm nT
        refine ⟨T1, _, rfl, .inl (.inl upd_same), rfl, _, _, rfl, _, _, rfl, rfl, ?_⟩
        refine ⟨_, rfl, _, rfl, _, rfl, ml, _, _, z, rfl, rfl, (by rw [upd_ne nTm]; exact hm), ix_at (by rw [NV_len, mv_len, ez]; exact zb) rfl, ?_⟩
        rw [NV_set, ez, ez2, ec, mv_set hp hf hj, ← ec]
        refine ⟨_, _, rfl, fun b o nb e => ?_, upd_same⟩
        rw [upd_ne nb]
        exact same_upd nT _ _ (kb b o nb e)
      · rintro σ He ⟨v5, v6, rfl, kb, hm⟩
        rw [NV_len, List.take_length] at hm
        have t5 : Same Hs He := fun b o e => kb b o (ne_of_none e nml) (t4 _ _ e)
        have hmp := isP_cyc hp hcm
        -- built = compose(built, tuple(moved))
        refine ⟨_, rfl, _, rfl, ml, _, rfl, .inl ⟨sl_of hm, fun x4 nx4 => ?_⟩⟩
        have t6 := t5.trans (same_upd (o := .tup (NV (mv p c))) nx4)
        have hm6 := same_upd (o := .tup (NV (mv p c))) nx4 _ _ hm
        have hx4 : upd He x4 (.tup (NV (mv p c))) x4 = some (.tup (NV (mv p c))) := upd_same
        generalize upd He x4 (.tup (NV (mv p c))) = Hf at *
        refine ⟨[(b, mv p ((cyc p).take i).flatten), (x4, mv p c)], p.length, rfl, ?_, l1000, (by show 2 ≤ 1000; decide), (fun z => nomatch z), fun Hg b2 s7 hb2 => ?_⟩
        · have := two_perms (t6 _ _ hb) hx4 (isP_take hp i) hmp (by rw [mv_len, mv_len])
          rw [mv_len] at this
          exact this
        have hb2 : Tp Hg b2 (muls p.length [mv p ((cyc p).take i).flatten, mv p c]) := hb2
        rw [muls2 (mv_len _ _), mv_next hp hci] at hb2
        have t7 := t6.trans s7
        -- seen = seen + list(turn)
        refine ⟨_, rfl, _, rfl, k.1, _, rfl, .inr (sq_of (t7 _ _ tk)), fun x5 nx5 => ?_⟩
        have t8 := t7.trans (same_upd (o := .lst (NV c)) nx5)
        have hx5 : upd Hg x5 (.lst (NV c)) x5 = some (.lst (NV c)) := upd_same
        have hb8 : Tp (upd Hg x5 (.lst (NV c))) b2 _ := same_upd nx5 _ _ hb2
        have hm8 := same_upd (o := .lst (NV c)) nx5 _ _ (s7 _ _ hm6)
        generalize upd Hg x5 (.lst (NV c)) = Hh at *
        have fl := flat_take_len hp i
        refine ⟨sl, x5, _, _, rfl, rfl, t8 _ _ hsl, hx5, (by rw [NV_len, NV_len]; exact Nat.le_of_lt (small1000 (by omega))), fun sl2 nsl2 => ?_⟩
        have e1 : ((cyc p).take (i + 1)).flatten = ((cyc p).take i).flatten ++ c := by
          rw [List.take_add_one, hci, List.flatten_append]
          simp
        have e2 : NV ((cyc p).take i).flatten ++ NV c = NV ((cyc p).take (i + 1)).flatten := by
          rw [e1]
          unfold NV
          rw [List.map_append]
        rw [e2]
        have t9 := t8.trans (same_upd (o := .lst (NV ((cyc p).take (i + 1)).flatten)) nsl2)
        have hs9 : upd Hh sl2 (.lst (NV ((cyc p).take (i + 1)).flatten)) sl2 = some (.lst (NV ((cyc p).take (i + 1)).flatten)) := upd_same
        have hb9 : Tp (upd Hh sl2 (.lst (NV ((cyc p).take (i + 1)).flatten))) b2 _ := same_upd nsl2 _ _ hb8
        have hm9 := same_upd (o := .lst (NV ((cyc p).take (i + 1)).flatten)) nsl2 _ _ hm8
        generalize upd Hh sl2 (.lst (NV ((cyc p).take (i + 1)).flatten)) = Hi at *
        -- the tests
        refine ⟨_, rfl, k.1, _, rfl, .inr (sq_of (t9 _ _ tk)), _, _, rfl, rfl, _, rfl, ?_⟩
        rw [show decide (((NV c).length : Int) < 2) = false from decide_eq_false (by rw [nv2]; omega)]
        refine iteF ?_
        obtain ⟨rest, hrest⟩ := orb_head hp hf
        have hmin : ∀ y ∈ NI rest, (f0 : Int) ≤ y := fun y hy => by
          obtain ⟨z, hz, rfl⟩ := mem_NI hy
          have := low_min hp hf hlow (y := z) (by rw [hrest]; exact List.mem_cons_of_mem _ hz)
          omega
        have ecf : NV c = ((f0 : Int) :: NI rest).map V.int := by rw [ec, hrest, NV_NI]; rfl
        refine ⟨_, rfl, k.1, (f0 : Int), NI rest, rfl, sq_of (by rw [← ecf]; exact t9 _ _ tk), ?_⟩
        rw [foldl_min _ _ hmin]
        refine ⟨_, rfl, k.1, _, _, V.int (f0 : Int), rfl, rfl, sq_of (t9 _ _ tk), atI_nat (j := 0) (by rw [ecf]; rfl), rfl, _, rfl, ?_⟩
        rw [decide_eq_true rfl]
        refine iteF ?_
        refine ⟨_, rfl, ml, _, rfl, .inl ⟨sl_of hm9, fun x6 nx6 => ?_⟩⟩
        have t10 := t9.trans (same_upd (o := .tup (NV (mv p c))) nx6)
        have hx6 : Tp (upd Hi x6 (.tup (NV (mv p c)))) x6 (mv p c) := upd_same
        have hb10 : Tp (upd Hi x6 (.tup (NV (mv p c)))) b2 _ := same_upd nx6 _ _ hb9
        have hs10 := same_upd (o := .tup (NV (mv p c))) nx6 _ _ hs9
        generalize upd Hi x6 (.tup (NV (mv p c))) = Hj at *
        have ml12 : (mv p c).length ≤ 12 := by rw [mv_len]; exact hl
        refine ⟨x6, mv p c, 27720, rfl, hx6, hmp, by omega, by decide, by decide, fun c2 hc2 => cyc_dvd hmp ml12 hc2, fun Hk s11 => ?_⟩
        have t11 := t10.trans s11
        refine ⟨_, rfl, k.1, _, rfl, .inr (sq_of (t11 _ _ tk)), rfl, _, rfl, ?_⟩
        have e3 : decide (V.int (ord (mv p c) : Nat) = V.int ((NV c).length : Nat)) = true := by
          rw [nv2, hlen, ec, ord_mv hp hf]
          exact decide_eq_true rfl
        rw [e3]
        exact iteF ⟨b2, sl2, _, _, _, _, rfl, sm.trans t11, s11 _ _ hb10, s11 _ _ hs10⟩
    · rintro σ Hs ⟨b, sl, v3, v4, v5, v6, rfl, sm, hb, hsl⟩
      have eall : (cyc p).take (ks.map fun k => V.ref k.1).length = cyc p := by
        rw [nv_len, kl, List.take_length]
      rw [eall] at hsl
      rw [eall, mv_flat hp] at hb
      have fl := flat_take_len hp (cyc p).length
      rw [List.take_length] at fl
      have hsl2 : Hs sl = some (.lst ((NI (cyc p).flatten).map V.int)) := by rw [hsl, NV_NI]
      -- len(seen) != len(set(seen))
      refine ⟨_, rfl, sl, _, rfl, .inl (sl_of hsl), _, rfl, sl, NI (cyc p).flatten, rfl, sl_of hsl2, NI_nodup (flat_nodup hp), by rw [NI_len]; omega, rfl, _, rfl, ?_⟩
      rw [show decide (V.int ((NV (cyc p).flatten).length : Nat) = V.int ((NI (cyc p).flatten).length : Nat)) = true from decide_eq_true (by rw [NV_len, NI_len])]
      refine iteF ?_
      -- list(cycles(row)) != sorted(cycles(row))
      have haS : Tp Hs a p := sm _ _ ha3
      refine ⟨_, rfl, a, p, rfl, haS, hp, l1000, fun H4 r2 s4 cy2 => ?_⟩
      obtain ⟨ks2, k21, k22, k23⟩ := cy2
      refine ⟨r2, _, rfl, .inr (sq_of k21), fun l4 nl4 => ?_⟩
      have s5 := s4.trans (same_upd (o := .lst (ks2.map fun k => V.ref k.1)) nl4)
      have hl4 : upd H4 l4 (.lst (ks2.map fun k => V.ref k.1)) l4 = some (.lst (ks2.map fun k => V.ref k.1)) := upd_same
      have k23' : ∀ k ∈ ks2, Tp (upd H4 l4 (.lst (ks2.map fun k => V.ref k.1))) k.1 k.2 := fun k hk => same_upd nl4 _ _ (k23 k hk)
      generalize upd H4 l4 (.lst (ks2.map fun k => V.ref k.1)) = H5 at *
      refine ⟨_, rfl, a, p, rfl, s5 _ _ haS, hp, l1000, fun H6 r3 s6 cy3 => ?_⟩
      obtain ⟨ks3, k31, k32, k33⟩ := cy3
      have er : (ks3.map fun k => (k.1, NI k.2)).map (fun k => V.ref k.1) = ks3.map fun k => V.ref k.1 := by
        rw [List.map_map]
        rfl
      have s56 := s5.trans s6
      refine ⟨r3, ks3.map fun k => (k.1, NI k.2), rfl, sq_of (by rw [er]; exact k31), fun k hk => ?_, cyc_rise hp k32, fun x7 nx7 => ?_⟩
      · obtain ⟨k', hk', rfl⟩ := List.mem_map.mp hk
        refine ⟨sq_of (by rw [← NV_NI]; exact k33 k' hk'), fun z => ?_⟩
        have hm : k'.2 ∈ cyc p := by
          rw [← k32]
          exact List.mem_map.mpr ⟨k', hk', rfl⟩
        have := cyc_len hp hm
        have z2 := congrArg List.length z
        rw [NI_len] at z2
        simp at z2
        rw [z2] at this
        simp at this
      rw [er]
      have s7 := s56.trans (same_upd (o := .lst (ks3.map fun k => V.ref k.1)) nx7)
      have hl4' := same_upd (o := .lst (ks3.map fun k => V.ref k.1)) nx7 _ _ (s6 _ _ hl4)
      have hx7 : upd H6 x7 (.lst (ks3.map fun k => V.ref k.1)) x7 = some (.lst (ks3.map fun k => V.ref k.1)) := upd_same
      have k2' : ∀ k ∈ ks2, Tp (upd H6 x7 (.lst (ks3.map fun k => V.ref k.1))) k.1 k.2 := fun k hk => same_upd nx7 _ _ (s6 _ _ (k23' k hk))
      have k3' : ∀ k ∈ ks3, Tp (upd H6 x7 (.lst (ks3.map fun k => V.ref k.1))) k.1 k.2 := fun k hk => same_upd nx7 _ _ (k33 k hk)
      generalize upd H6 x7 (.lst (ks3.map fun k => V.ref k.1)) = H7 at *
      refine ⟨_, _, dp_cs (sl_of hl4') k2' k22, dp_cs (sl_of hx7) k3' k32, shaped_cs _, shaped_cs _, _, rfl, ?_⟩
      rw [eqv_cs]
      refine iteF ?_
      -- away
      refine ⟨_, rfl, a, NV p, rfl, .inr (sq_of (s7 _ _ haS)), _, rfl, by rw [NV_len]; omega, by rw [NV_len]; omega, ?_⟩
      rw [NV_len, Int.toNat_natCast]
      refine fun D nD => lc_it walk_rg0 (fun i H' => Same H7 H' ∧ H' D = some (.lst (NV ((List.range i).filter fun x => decide (ap p x ≠ x))))) ⟨same_upd nD, upd_same⟩ (fun _ _ _ _ => trivial) ?_ ?_
      · rintro i x _ H8 hi ⟨sj, hD⟩ ⟨rfl, rfl⟩
        refine ⟨rfl, _, rfl, _, rfl, a, _, _, _, rfl, rfl, sq_of (sj _ _ (s7 _ _ haS)), atI_nat (NV_get (ap_get hi)), _, rfl, rfl, _, rfl, ?_⟩
        have e1 : ((List.range (i + 1)).filter fun x => decide (ap p x ≠ x)) = ((List.range i).filter fun x => decide (ap p x ≠ x)) ++ if ap p i ≠ i then [i] else [] := by
          rw [List.range_succ, List.filter_append]
          by_cases z : ap p i = i <;> simp [z]
        by_cases z : ap p i = i
        · rw [show decide (V.int (ap p i : Nat) = V.int (i : Nat)) = true from decide_eq_true (by rw [z])]
          refine iteF ⟨sj, ?_⟩
          rw [hD, e1, if_neg (by simp [z]), List.append_nil]
        · have z' : ¬ V.int ((ap p i : Nat) : Int) = V.int ((i : Nat) : Int) := fun q => z (by
            injection q with q
            omega)
          rw [decide_eq_false z']
          refine iteT ⟨_, rfl, _, hD, ?_, fun b o e => ?_, ?_⟩
          · rw [NV_len]
            refine Nat.lt_of_le_of_lt (List.length_filter_le _ _) ?_
            rw [List.length_range]
            exact small1000 (by omega)
          · rw [upd_ne (ne_of_none e nD)]
            exact sj _ _ e
          · rw [upd_same, ← NV_snoc, e1, if_pos z]
      · rintro H8 ⟨sj, hD⟩
        have s8 := s7.trans sj
        -- built == row
        refine ⟨_, rfl, _, rfl, _, _, dp_tp (s8 _ _ hb), dp_tp (s8 _ _ haS), shaped_ti _, shaped_ti _, true, by rw [eqv_tp, decide_eq_true rfl], iteT ?_⟩
        -- sorted(seen) == away
        refine ⟨_, rfl, sl, NI (cyc p).flatten, rfl, sl_of (s8 _ _ hsl2), by rw [NI_len]; omega, fun ns x8 pm pw nx8 => ?_⟩
        have e4 := sorted_is pm pw (away_perm hp) (away_pw hp)
        have s9 := s8.trans (same_upd (o := .lst (ns.map V.int)) nx8)
        have hD9 : upd H8 x8 (.lst (ns.map V.int)) D = some (.lst ((NI ((List.range p.length).filter fun x => decide (ap p x ≠ x))).map V.int)) := by
          rw [← NV_NI]
          exact same_upd nx8 _ _ hD
        refine ⟨_, rfl, _, _, dp_li (sl_of upd_same), dp_li (sl_of hD9), shaped_li _, shaped_li _, ?_⟩
        rw [eqv_li, decide_eq_true e4]
        exact q _ (s03.trans (sm.trans s9))
end
end Hw

namespace Hw
open PySem PySem.Spec PyProof.Rows L2
section
variable {P : Program} {w : World} {K : PySem.W.Frag} {mg : Str → Option Value} {base : Heap}
theorem pm2 {H : Hp} {a b : Addr} {p q : List Nat} {n : Nat} (h1 : Tp H a p) (h2 : Tp H b q) (i1 : IsP p) (i2 : IsP q) (e1 : p.length = n) (e2 : q.length = n) : Perms H n [(a, p), (b, q)] := by
  have := two_perms h1 h2 i1 i2 (by rw [e1, e2])
  rw [e1] at this
  exact this
theorem res2 {H : Hp} {r a b : Addr} {p q : List Nat} {n : Nat} (e1 : p.length = n) (h : Tp H r (muls n ([(a, p), (b, q)].map (·.2)))) : Tp H r (mul p q) := by
  have hr : Tp H r (muls n [p, q]) := h
  rw [muls2 e1] at hr
  exact hr
theorem pm3 {H : Hp} {a b c : Addr} {p q r0 : List Nat} {n : Nat} (h1 : Tp H a p) (h2 : Tp H b q) (h3 : Tp H c r0) (i1 : IsP p) (i2 : IsP q) (i3 : IsP r0) (e1 : p.length = n) (e2 : q.length = n) (e3 : r0.length = n) : Perms H n [(a, p), (b, q), (c, r0)] := by
  intro x hx
  rcases List.mem_cons.mp hx with rfl | hx
  · exact ⟨h1, i1, e1⟩
  rcases List.mem_cons.mp hx with rfl | hx
  · exact ⟨h2, i2, e2⟩
  rw [List.mem_singleton.mp hx]
  exact ⟨h3, i3, e3⟩
theorem res3 {H : Hp} {r a b c : Addr} {p q r0 : List Nat} {n : Nat} (e1 : p.length = n) (h : Tp H r (muls n ([(a, p), (b, q), (c, r0)].map (·.2)))) : Tp H r (mul (mul p q) r0) := by
  have hr : Tp H r (muls n [p, q, r0]) := h
  rw [muls3 e1] at hr
  exact hr
theorem inv_prod {p q r : List Nat} {n : Nat} (hp : IsP p) (hq : IsP q) (hr : IsP r) (e1 : p.length = n) (e2 : q.length = n) (e3 : r.length = n) :
    inv (mul (mul p q) r) = mul (mul (inv r) (inv q)) (inv p) := by
  have hpq := isP_mul hp hq (by rw [e1, e2])
  have hpqr := isP_mul hpq hr (by rw [mul_len, e1, e3])
  refine (inv_of hpqr (by rw [mul_len, mul_len, mul_len, mul_len, inv_len, e1, e3]) fun x hx => ?_).symm
  rw [mul_len, mul_len] at hx
  have b1 := ap_lt hp hx
  have b2 := ap_lt hq (x := ap p x) (by rw [e2, ← e1]; exact b1)
  have b3 := ap_lt hr (x := ap q (ap p x)) (by rw [e3, ← e2]; exact b2)
  have z1 : ap (mul (mul p q) r) x = ap r (ap q (ap p x)) := by rw [ap_mul (by rw [mul_len]; exact hx), ap_mul hx]
  rw [z1, ap_mul (by rw [mul_len, inv_len]; exact b3), ap_mul (by rw [inv_len]; exact b3), ap_inv hr (by rw [e3, ← e2]; exact b2), ap_inv hq (by rw [e2, ← e1]; exact b1), ap_inv hp hx]
theorem conj_is {a b : List Nat} {n : Nat} (ha : IsP a) (hb : IsP b) (e1 : a.length = n) (e2 : b.length = n) : ∀ x, x < a.length → ap (mul (mul (inv b) a) b) (ap b x) = ap b (ap a x) := fun x hx => by
  have hx' : x < b.length := by omega
  have b1 := ap_lt hb hx'
  rw [ap_mul (by rw [mul_len, inv_len]; exact b1), ap_mul (by rw [inv_len]; exact b1), ap_inv hb hx']
abbrev nProd : List Str := ["_law_one", "_law_two", "_law_three", "_law_renamed", "_law_lengths", "_law_row_here", "_law_turn", "_law_here"]
def spProd : Sp := fun vs H Q _ => ∃ (x y z : Addr) (a b c : List Nat) (n : Nat), vs = [.ref x, .ref y, .ref z] ∧ Tp H x a ∧ Tp H y b ∧ Tp H z c ∧ IsP a ∧ IsP b ∧ IsP c ∧ a.length = n ∧ b.length = n ∧ c.length = n ∧ n ≤ 12 ∧ ∀ H', Same H H' → Q (.bl true) H'
theorem scProd : FnScope nProd ["_law_one", "_law_two", "_law_three"] (defScope sProdRight) := ⟨rfl, rfl, rfl, by decide +kernel, rfl, by decide +kernel, by decide +kernel⟩
theorem cal_prodRight (T : Txt mg) (C : Pr P w K mg base) (D : Df K mg "_law_products_right" sProdRight ["_law_one", "_law_two", "_law_three"]) : Cal P w K mg base "_law_products_right" 7 spProd := by
  have nd := scProd.nd
  refine cal_of D scProd (fun vs H Q E h => ?_) (fun f cdv A outer s0 H vs Q E hr h => ?_)
  · obtain ⟨x, y, z, a, b, c, n, rfl, _⟩ := h
    rfl
  · obtain ⟨x, y, z, a, b, c, n, rfl, hx, hy, hz, ia, ib, ic, la, lb, lc, hn, q⟩ := h
    refine ⟨_, pss_cons (ps_if (pt_cmpR (op_neD hr.units) (pe_cal C.co hr (by rfl) (pa_cons (pe_cal C.co hr (by rfl) (pa_cons (pv 0) (pa_cons (pv 1) pa_nil))) (pa_cons (pv 2) pa_nil))) (pe_cal C.co hr (by rfl) (pa_cons (pv 0) (pa_cons (pe_cal C.co hr (by rfl) (pa_cons (pv 1) (pa_cons (pv 2) pa_nil))) pa_nil))) (nomark _)) (pss_one (ps_ret pe_bl)) pss_nil)
      <| pss_cons (ps_if (pt_cmpR (op_neD hr.units) (pe_cal C.co hr (by rfl) (pa_cons (pv 0) (pa_cons (pv 1) (pa_cons (pv 2) pa_nil)))) (pe_cal C.co hr (by rfl) (pa_cons (pe_cal C.co hr (by rfl) (pa_cons (pv 0) (pa_cons (pv 1) pa_nil))) (pa_cons (pv 2) pa_nil))) (nomark _)) (pss_one (ps_ret pe_bl)) pss_nil)
      <| pss_cons (ps_if (pt_cmpR (op_neD hr.units) (pe_cal C.iv hr (by rfl) (pa_cons (pe_cal C.co hr (by rfl) (pa_cons (pv 0) (pa_cons (pv 1) (pa_cons (pv 2) pa_nil)))) pa_nil))
          (pe_cal C.co hr (by rfl) (pa_cons (pe_cal C.iv hr (by rfl) (pa_cons (pv 2) pa_nil)) (pa_cons (pe_cal C.iv hr (by rfl) (pa_cons (pv 1) pa_nil)) (pa_cons (pe_cal C.iv hr (by rfl) (pa_cons (pv 0) pa_nil)) pa_nil)))) (nomark _)) (pss_one (ps_ret pe_bl)) pss_nil)
      <| pss_cons (ps_if (pt_cmpR op_ne (pe_cal C.ev hr (by rfl) (pa_cons (pe_cal C.co hr (by rfl) (pa_cons (pv 0) (pa_cons (pv 1) pa_nil))) pa_nil)) (pe_cmpR op_eq (pe_cal C.ev hr (by rfl) (pa_cons (pv 0) pa_nil)) (pe_cal C.ev hr (by rfl) (pa_cons (pv 1) pa_nil)) (nomark _)) (nomark _)) (pss_one (ps_ret pe_bl)) pss_nil)
      <| pss_cons (ps_set (i := 3) nd rfl (.inl rfl) (pe_cal C.co hr (by rfl) (pa_cons (pe_cal C.iv hr (by rfl) (pa_cons (pv 1) pa_nil)) (pa_cons (pv 0) (pa_cons (pv 1) pa_nil)))))
      <| pss_cons (ps_setLc (i := 4) (own := [("_law_row_here", 5)]) (g := gName 5) (by rfl) nd rfl rfl (sw_true rfl rfl rfl (by decide +kernel)) (pi_tup (pe_tup (pa_cons (pv 0) (pa_cons (pv 3) pa_nil))))
          (blkOk_by (own := [("_law_row_here", 5)]) (N := nProd) (sc := defScope sProdRight) (by decide +kernel)) (fun _ _ _ _ _ => pg_name (i := 5) nd rfl (.inl rfl)) (fun _ _ _ _ _ => pts_nil)
          (fun _ _ _ _ _ => pe_callB (r := rSorted K) cr_sorted (by rfl) T.sorted (by decide +kernel) (pa_cons (pe_lc (own := [("_law_turn", 6)]) (wi := iTup K (fun σ H Q => tCons (tVar 5) tNil σ H fun vs H1 => spCycles vs H1 Q E0)) (g := gName 6) (by rfl) nd (pi_tup (pe_cal C.cy (by exact hr) (by rfl) (pa_cons (pv 5) pa_nil)))
            (blkOk_by (own := [("_law_turn", 6)]) (N := nProd) (by rfl)) (fun _ _ _ _ _ => pg_name (i := 6) nd rfl (.inl rfl)) (fun _ _ _ _ _ => pts_nil) (fun _ _ _ _ _ => pe_callB (r := rLenS K) cr_len (by rfl) T.len PySem.boot_len (pa_cons (pv 6) pa_nil))) pa_nil)))
      <| pss_cons (ps_if (PW.pt (pw_or (pt_cmpR (op_neD hr.units) (pe_ix ix_list (pv 4) pe_int (fun _ _ => rfl)) (pe_ix ix_list (pv 4) pe_int (fun _ _ => rfl)) (nomark _))
          (pw_or (pt_cmpR op_ne (pe_cal C.od hr (by rfl) (pa_cons (pv 3) pa_nil)) (pe_cal C.od hr (by rfl) (pa_cons (pv 0) pa_nil)) (nomark _))
          (pw_or1 (pt_cmpR op_ne (pe_cal C.ev hr (by rfl) (pa_cons (pv 3) pa_nil)) (pe_cal C.ev hr (by rfl) (pa_cons (pv 0) pa_nil)) (nomark _)))))) (pss_one (ps_ret pe_bl)) pss_nil)
      <| pss_one (ps_ret (pe_cmpR (op_eqD hr.units) (pe_cal C.co hr (by rfl) (pa_cons (pv 0) (pa_cons (pv 1) pa_nil))) (pe_callTy call_tuple_of (by rfl) T.tuple (by decide +kernel) (pa_cons (pe_lc (own := [("_law_here", 7)]) (g := gName 7) (by rfl) nd (pi_tup (pv 0))
          (blkOk_by (own := [("_law_here", 7)]) (N := nProd) (sc := defScope sProdRight) (by decide +kernel)) (fun _ _ _ _ _ => pg_name (i := 7) nd rfl (.inl rfl)) (fun _ _ _ _ _ => pts_nil) (fun _ _ _ _ _ => pe_ix (r := rIxT K) ix_tup (pv 1) (pv 7) (fun _ _ => rfl))) pa_nil)) (nomark _))), ?_⟩
    have n1000 : n ≤ 1000 := by omega
    have iab := isP_mul ia ib (by rw [la, lb])
    have ibc := isP_mul ib ic (by rw [lb, lc])
    have lab : (mul a b).length = n := by rw [mul_len, la]
    have lbc : (mul b c).length = n := by rw [mul_len, lb]
    have iabc := isP_mul iab ic (by rw [lab, lc])
    have labc : (mul (mul a b) c).length = n := by rw [mul_len, lab]
    -- associativity
    refine ⟨_, rfl, _, rfl, ?_⟩
    refine ⟨[(_, _), (_, _)], n, rfl, pm2 hx hy ia ib la lb, n1000, (by show 2 ≤ 1000; decide), (fun z => nomatch z), fun H1 r1 s1 g1 => ?_⟩
    replace g1 := res2 la g1
    refine ⟨_, rfl, ?_⟩
    refine ⟨[(_, _), (_, _)], n, rfl, pm2 g1 (s1 _ _ hz) iab ic lab lc, n1000, (by show 2 ≤ 1000; decide), (fun z => nomatch z), fun H2 r2 s2 g2 => ?_⟩
    replace g2 := res2 lab g2
    have t2 := s1.trans s2
    refine ⟨_, rfl, _, rfl, _, rfl, ?_⟩
    refine ⟨[(_, _), (_, _)], n, rfl, pm2 (t2 _ _ hy) (t2 _ _ hz) ib ic lb lc, n1000, (by show 2 ≤ 1000; decide), (fun z => nomatch z), fun H3 r3 s3 g3 => ?_⟩
    replace g3 := res2 lb g3
    have t3 := t2.trans s3
    refine ⟨[(_, _), (_, _)], n, rfl, pm2 (t3 _ _ hx) g3 ia ibc la lbc, n1000, (by show 2 ≤ 1000; decide), (fun z => nomatch z), fun H4 r4 s4 g4 => ?_⟩
    replace g4 := res2 la g4
    rw [← mul_assoc' ia (by rw [la, lb])] at g4
    have t4 := t3.trans s4
    refine ⟨_, _, dp_tp (s4 _ _ (s3 _ _ g2)), dp_tp g4, shaped_ti _, shaped_ti _, _, rfl, ?_⟩
    rw [eqv_tp, decide_eq_true rfl]
    refine iteF ?_
    -- three at once
    refine ⟨_, rfl, _, rfl, _, rfl, ?_⟩
    refine ⟨[(_, _), (_, _), (_, _)], n, rfl, pm3 (t4 _ _ hx) (t4 _ _ hy) (t4 _ _ hz) ia ib ic la lb lc, n1000, (by show 3 ≤ 1000; decide), (fun z => nomatch z), fun H5 r5 s5 g5 => ?_⟩
    replace g5 := res3 la g5
    have t5 := t4.trans s5
    refine ⟨_, rfl, _, rfl, ?_⟩
    refine ⟨[(_, _), (_, _)], n, rfl, pm2 (t5 _ _ hx) (t5 _ _ hy) ia ib la lb, n1000, (by show 2 ≤ 1000; decide), (fun z => nomatch z), fun H6 r6 s6 g6 => ?_⟩
    replace g6 := res2 la g6
    have t6 := t5.trans s6
    refine ⟨_, rfl, ?_⟩
    refine ⟨[(_, _), (_, _)], n, rfl, pm2 g6 (t6 _ _ hz) iab ic lab lc, n1000, (by show 2 ≤ 1000; decide), (fun z => nomatch z), fun H7 r7 s7 g7 => ?_⟩
    replace g7 := res2 lab g7
    have t7 := t6.trans s7
    refine ⟨_, _, dp_tp (s7 _ _ (s6 _ _ g5)), dp_tp g7, shaped_ti _, shaped_ti _, _, rfl, ?_⟩
    rw [eqv_tp, decide_eq_true rfl]
    refine iteF ?_
    -- the inverse of a product
    refine ⟨_, rfl, _, rfl, _, rfl, ?_⟩
    refine ⟨[(_, _), (_, _), (_, _)], n, rfl, pm3 (t7 _ _ hx) (t7 _ _ hy) (t7 _ _ hz) ia ib ic la lb lc, n1000, (by show 3 ≤ 1000; decide), (fun z => nomatch z), fun H8 r8 s8 g8 => ?_⟩
    replace g8 := res3 la g8
    have t8 := t7.trans s8
    refine ⟨_, _, rfl, g8, iabc, by omega, fun H9 r9 s9 g9 => ?_⟩
    have t9 := t8.trans s9
    refine ⟨_, rfl, ?_⟩
    refine ⟨_, _, rfl, (t9 _ _ hz), ic, by omega, fun H10 r10 s10 g10 => ?_⟩
    have t10 := t9.trans s10
    refine ⟨_, rfl, ?_⟩
    refine ⟨_, _, rfl, (t10 _ _ hy), ib, by omega, fun H11 r11 s11 g11 => ?_⟩
    have t11 := t10.trans s11
    refine ⟨_, rfl, ?_⟩
    refine ⟨_, _, rfl, (t11 _ _ hx), ia, by omega, fun H12 r12 s12 g12 => ?_⟩
    have t12 := t11.trans s12
    refine ⟨[(_, _), (_, _), (_, _)], n, rfl, pm3 (s12 _ _ (s11 _ _ g10)) (s12 _ _ g11) g12 (isP_inv ic) (isP_inv ib) (isP_inv ia) (by rw [inv_len, lc]) (by rw [inv_len, lb]) (by rw [inv_len, la]), n1000, (by show 3 ≤ 1000; decide), (fun z => nomatch z), fun H13 r13 s13 g13 => ?_⟩
    replace g13 := res3 (by rw [inv_len, lc]) g13
    rw [← inv_prod ia ib ic la lb lc] at g13
    have t13 := t12.trans s13
    refine ⟨_, _, dp_tp (s13 _ _ (s12 _ _ (s11 _ _ (s10 _ _ g9)))), dp_tp g13, shaped_ti _, shaped_ti _, _, rfl, ?_⟩
    rw [eqv_tp, decide_eq_true rfl]
    refine iteF ?_
    -- parity of a product
    refine ⟨_, rfl, _, rfl, ?_⟩
    refine ⟨[(_, _), (_, _)], n, rfl, pm2 (t13 _ _ hx) (t13 _ _ hy) ia ib la lb, n1000, (by show 2 ≤ 1000; decide), (fun z => nomatch z), fun H14 r14 s14 g14 => ?_⟩
    replace g14 := res2 la g14
    have t14 := t13.trans s14
    refine ⟨_, _, rfl, g14, iab, by omega, fun H15 s15 => ?_⟩
    have t15 := t14.trans s15
    refine ⟨_, rfl, ?_⟩
    refine ⟨_, _, rfl, (t15 _ _ hx), ia, by omega, fun H16 s16 => ?_⟩
    have t16 := t15.trans s16
    refine ⟨_, rfl, ?_⟩
    refine ⟨_, _, rfl, (t16 _ _ hy), ib, by omega, fun H17 s17 => ?_⟩
    have t17 := t16.trans s17
    refine ⟨rfl, rfl, _, rfl, ?_⟩
    have ep : evenP (mul a b) = decide (V.bl (evenP a) = V.bl (evenP b)) := by
      rw [even_mul ia ib (by rw [la, lb]) (by omega)]
      cases evenP a <;> cases evenP b <;> rfl
    rw [ep, decide_eq_true rfl]
    refine iteF ?_
    -- renamed
    refine ⟨_, rfl, ?_⟩
    refine ⟨_, _, rfl, (t17 _ _ hy), ib, by omega, fun H18 r18 s18 g18 => ?_⟩
    have t18 := t17.trans s18
    refine ⟨_, rfl, _, rfl, ?_⟩
    refine ⟨[(_, _), (_, _), (_, _)], n, rfl, pm3 g18 (t18 _ _ hx) (t18 _ _ hy) (isP_inv ib) ia ib (by rw [inv_len, lb]) la lb, n1000, (by show 3 ≤ 1000; decide), (fun z => nomatch z), fun H19 r19 s19 g19 => ?_⟩
    replace g19 := res3 (by rw [inv_len, lb]) g19
    have t19 := t18.trans s19
    have lib : (inv b).length = n := by rw [inv_len, lb]
    have iba := isP_mul (isP_inv ib) ia (by rw [lib, la])
    have icj := isP_mul iba ib (by rw [mul_len, lib, lb])
    have lcj : (mul (mul (inv b) a) b).length = n := by rw [mul_len, mul_len, lib]
    have hcj := conj_is ia ib la lb
    have oc := cj_ord ia ib icj (by rw [la, lb]) (by rw [lcj, la]) hcj
    have ll := cj_lens ia ib icj (by rw [la, lb]) (by rw [lcj, la]) hcj
    have ec : evenP (mul (mul (inv b) a) b) = evenP a := by
      rw [even_mul iba ib (by rw [mul_len, lib, lb]) (by rw [mul_len, lib]; exact hn), even_mul (isP_inv ib) ia (by rw [lib, la]) (by rw [lib]; exact hn), even_inv ib (by rw [lb]; exact hn)]
      cases evenP a <;> cases evenP b <;> rfl
    generalize mul (mul (inv b) a) b = r0 at *
    -- the lengths
    refine ⟨_, rfl, _, rfl, (by show 2 ≤ sizeLine; decide), fun u nu => ?_⟩
    have s20 := same_upd (o := .tup [V.ref x, V.ref r19]) nu
    have t20 := t19.trans s20
    have hu20 : upd H19 u (.tup [V.ref x, V.ref r19]) u = some (.tup [V.ref x, V.ref r19]) := upd_same
    have hx20 := t20 _ _ hx
    have hr20 : Tp (upd H19 u (.tup [V.ref x, V.ref r19])) r19 r0 := s20 _ _ g19
    generalize upd H19 u (.tup [V.ref x, V.ref r19]) = H20 at *
    refine ⟨u, rfl, ⟨_, sq_of hu20⟩, fun D nD => lc_it (walk_tup (xs := [V.ref x, V.ref r19])) (fun i H' => Same H20 H' ∧ ∃ ss : List (Addr × List Int), ss.length = i ∧ H' D = some (.lst (ss.map fun s => V.ref s.1)) ∧ ∀ s ∈ ss, s.1 ≠ D ∧ H' s.1 = some (.lst (s.2.map V.int)) ∧ s.2.Perm (NI ((cyc a).map List.length)) ∧ s.2.Pairwise (· ≤ ·))
      ⟨same_upd nD, [], rfl, upd_same, fun s hs => nomatch hs⟩ (fun i H' _ ⟨sm, _⟩ => sq_of (sm _ _ hu20)) ?_ ?_⟩
    · rintro i v _ H21 hi ⟨sm, ss, hsl, hD, hss⟩ ⟨rfl, hv⟩
      obtain ⟨g, p0, rfl, hg, ig, lg, lperm⟩ : ∃ g p0, v = V.ref g ∧ Tp H20 g p0 ∧ IsP p0 ∧ p0.length = n ∧ ((cyc p0).map List.length).Perm ((cyc a).map List.length) := by
        match i, hv with
        | 0, hv => exact ⟨x, a, (Option.some.inj hv).symm, hx20, ia, la, .refl _⟩
        | 1, hv => exact ⟨r19, r0, (Option.some.inj hv).symm, hr20, icj, lcj, ll⟩
        | i + 2, hv => simp at hv
      refine ⟨rfl, ?_⟩
      refine ⟨_, rfl, g, p0, rfl, sm _ _ hg, ig, by omega, fun H22 rc s22 cy => ?_⟩
      obtain ⟨ks, k1, k2, k3⟩ := cy
      have kl : ks.length ≤ 1000 := by
        have := cyc_length p0
        rw [← k2, List.length_map] at this
        omega
      have hD22 := s22 _ _ hD
      refine ⟨rc, rfl, ⟨_, sq_of k1⟩, fun D2 nD2 => lc_it (walk_tup (xs := ks.map fun k => V.ref k.1)) (fun j H' => Same H22 H' ∧ H' D2 = some (.lst ((NI (((ks.map (·.2)).take j).map List.length)).map V.int))) ⟨same_upd nD2, upd_same⟩ (fun j H' _ ⟨sj, _⟩ => sq_of (sj _ _ k1)) ?_ ?_⟩
      · rintro j v2 _ H23 hj ⟨sj, hD2⟩ ⟨rfl, hv2⟩
        obtain ⟨k, hk, rfl⟩ := refs_get hv2
        have tk := k3 k (List.mem_of_getElem? hk)
        rw [nv_len] at hj
        refine ⟨rfl, _, rfl, k.1, NV k.2, rfl, .inr (sq_of (sj _ _ tk)), _, hD2, ?_, fun b o e => ?_, ?_⟩
        · rw [List.length_map, NI_len, List.length_map, List.length_take]
          exact Nat.lt_of_le_of_lt (Nat.min_le_left _ _) (small1000 (by omega))
        · rw [upd_ne (ne_of_none e nD2)]
          exact sj _ _ e
        · rw [upd_same, List.take_add_one, List.getElem?_map, hk, NV_len]
          unfold NI
          rw [List.map_append, List.map_append, List.map_append]
          rfl
      · rintro H23 ⟨sj, hD2⟩
        have eT : (ks.map (·.2)).take (ks.map fun k => V.ref k.1).length = cyc p0 := by
          rw [nv_len, ← k2, List.take_of_length_le (by rw [List.length_map]; exact Nat.le_refl _)]
        rw [eT] at hD2
        refine ⟨D2, _, rfl, sl_of hD2, ?_, fun ns e1 pm pw ne1 => ?_⟩
        · rw [NI_len, List.length_map]
          have := cyc_length p0
          omega
        have nD1 : e1 ≠ D := fun z => by rw [z, sj _ _ hD22] at ne1; cases ne1
        refine ⟨_, same_upd ne1 _ _ (sj _ _ hD22), ?_, fun b o e => ?_, ss ++ [(e1, ns)], ?_, ?_, ?_⟩
        · rw [List.length_map, hsl]
          exact small1000 (by simp at hi; omega)
        · rw [upd_ne (ne_of_none e nD)]
          exact same_upd ne1 _ _ (sj _ _ (s22 _ _ (sm _ _ e)))
        · rw [List.length_append, hsl]
          rfl
        · rw [upd_same, List.map_append]
          rfl
        · intro s hs
          rcases List.mem_append.mp hs with hs | hs
          · obtain ⟨b1, b2, b3, b4⟩ := hss s hs
            refine ⟨b1, ?_, b3, b4⟩
            rw [upd_ne b1]
            exact same_upd ne1 _ _ (sj _ _ (s22 _ _ b2))
          · rw [List.mem_singleton.mp hs]
            refine ⟨nD1, ?_, pm.trans (lperm.map _), pw⟩
            rw [upd_ne nD1, upd_same]
    · rintro H21 ⟨sm, ss, hsl, hD, hss⟩
      have t21 := t20.trans sm
      obtain ⟨s1', s2', rfl⟩ : ∃ s1 s2, ss = [s1, s2] := by
        match ss, hsl with
        | [s1, s2], _ => exact ⟨s1, s2, rfl⟩
      obtain ⟨_, b2, b3, b4⟩ := hss s1' List.mem_cons_self
      obtain ⟨_, c2, c3, c4⟩ := hss s2' (List.mem_cons_of_mem _ List.mem_cons_self)
      have es : s1'.2 = s2'.2 := List.Perm.eq_of_pairwise (fun a b _ _ x y => Int.le_antisymm x y) b4 c4 (b3.trans c3.symm)
      refine ⟨_, rfl, D, _, _, V.ref s1'.1, rfl, rfl, sl_of hD, atI_nat (j := 0) rfl, ?_⟩
      refine ⟨_, rfl, D, _, _, V.ref s2'.1, rfl, rfl, sl_of hD, atI_nat (j := 1) rfl, ?_⟩
      refine ⟨_, _, dp_li (sl_of b2), dp_li (sl_of c2), shaped_li _, shaped_li _, _, rfl, ?_⟩
      rw [eqv_li, decide_eq_true es]
      refine iteF ?_
      refine ⟨_, rfl, ?_⟩
      refine ⟨_, _, 27720, rfl, (sm _ _ hr20), icj, by omega, by decide, by decide, fun c hc => cyc_dvd icj (by omega) hc, fun H22 s22 => ?_⟩
      have t22 := t21.trans s22
      refine ⟨_, rfl, ?_⟩
      refine ⟨_, _, 27720, rfl, (t22 _ _ hx), ia, by omega, by decide, by decide, fun c hc => cyc_dvd ia (by omega) hc, fun H23 s23 => ?_⟩
      have t23 := t22.trans s23
      refine ⟨rfl, _, rfl, ?_⟩
      rw [oc, decide_eq_true rfl]
      refine iteF ?_
      refine ⟨_, rfl, ?_⟩
      refine ⟨_, _, rfl, (s23 _ _ (s22 _ _ (sm _ _ hr20))), icj, by omega, fun H24 s24 => ?_⟩
      have t24 := t23.trans s24
      refine ⟨_, rfl, ?_⟩
      refine ⟨_, _, rfl, (t24 _ _ hx), ia, by omega, fun H25 s25 => ?_⟩
      have t25 := t24.trans s25
      refine ⟨rfl, _, rfl, ?_⟩
      rw [ec, decide_eq_true rfl]
      refine iteF ?_
      -- the last
      refine ⟨_, rfl, _, rfl, ?_⟩
      refine ⟨[(_, _), (_, _)], n, rfl, pm2 (t25 _ _ hx) (t25 _ _ hy) ia ib la lb, n1000, (by show 2 ≤ 1000; decide), (fun z => nomatch z), fun H26 r26 s26 g26 => ?_⟩
      replace g26 := res2 la g26
      have t26 := t25.trans s26
      refine ⟨_, rfl, x, rfl, ⟨_, sq_of (t26 _ _ hx)⟩, fun D3 nD3 => lc_it (walk_tup (xs := NV a)) (fun j H' => Same H26 H' ∧ H' D3 = some (.lst (NV ((a.take j).map (ap b))))) ⟨same_upd nD3, upd_same⟩ (fun j H' _ ⟨sj, _⟩ => sq_of (sj _ _ (t26 _ _ hx))) ?_ ?_⟩
      · rintro j v2 _ H27 hj ⟨sj, hD3⟩ ⟨rfl, hv2⟩
        obtain ⟨z0, hz0, rfl⟩ := NV_get' hv2
        have zb : z0 < b.length := by
          rw [lb, ← la]
          exact ia.2 z0 (List.mem_of_getElem? hz0)
        refine ⟨rfl, _, rfl, _, rfl, y, _, _, _, rfl, rfl, sq_of (sj _ _ (t26 _ _ hy)), atI_nat (NV_get (ap_get zb)), _, hD3, ?_, fun b o e => ?_, ?_⟩
        · rw [NV_len, List.length_map, List.length_take]
          exact Nat.lt_of_le_of_lt (Nat.min_le_right _ _) (small1000 (by omega))
        · rw [upd_ne (ne_of_none e nD3)]
          exact sj _ _ e
        · rw [upd_same, ← NV_snoc, List.take_add_one, hz0, List.map_append]
          rfl
      · rintro H27 ⟨sj, hD3⟩
        rw [NV_len, List.take_length] at hD3
        refine ⟨D3, _, rfl, .inl ⟨sl_of hD3, fun w0 nw => ?_⟩⟩
        have s28 := same_upd (o := .tup (NV (a.map (ap b)))) nw
        refine ⟨_, _, dp_tp (s28 _ _ (sj _ _ g26)), dp_tp (p := a.map (ap b)) upd_same, shaped_ti _, shaped_ti _, ?_⟩
        rw [eqv_tp, show decide (mul a b = a.map (ap b)) = true from decide_eq_true rfl]
        exact q _ ((t26.trans sj).trans s28)
end
end Hw

namespace Hw
open PySem PySem.Spec PyProof.Rows L2
theorem set_sw {n i j : Nat} (hi : i < n) (hj : j < n) : ((List.range n).set i j).set j i = sw n i j := by
  apply List.ext_getElem?
  intro x
  by_cases hx : x < n
  · unfold sw
    rw [List.getElem?_set, List.length_set, List.length_range, List.getElem?_set, List.length_range, List.getElem?_range hx, List.getElem?_map, List.getElem?_range hx]
    show _ = some (swF i j x)
    unfold swF
    by_cases a : j = x
    · subst a
      rw [if_pos rfl, if_pos hx]
      by_cases b : j = i
      · rw [if_pos b, b]
      · rw [if_neg b, if_pos rfl]
    · rw [if_neg a]
      have a' : ¬ x = j := fun z => a z.symm
      by_cases b : i = x
      · subst b
        rw [if_pos rfl, if_pos hx, if_pos rfl]
      · have b' : ¬ x = i := fun z => b z.symm
        rw [if_neg b, if_neg b', if_neg a']
  · rw [List.getElem?_eq_none (by rw [List.length_set, List.length_set, List.length_range]; omega), List.getElem?_eq_none (by rw [sw_len]; omega)]
section
variable {P : Program} {w : World} {K : PySem.W.Frag} {mg : Str → Option Value} {base : Heap}
structure Lw (P : Program) (w : World) (K : PySem.W.Frag) (mg : Str → Option Value) (base : Heap) : Prop where
  C : Pr P w K mg base
  bg : Cal P w K mg base "_law_begun" 7 (spBegun K)
  dr : Cal P w K mg base "_law_draw" 7 spDraw
  rw : Cal P w K mg base "_law_row" 7 spRow
  ir : Cal P w K mg base "_law_inverse_right" 7 spRight
  cr : Cal P w K mg base "_law_cycles_right" 7 spRight
  pr : Cal P w K mg base "_law_products_right" 7 spProd
abbrev nLaw : List Str := ["_law_script", "_law_m", "_law_again", "_law_size", "_law_one", "_law_two", "_law_three", "_law_row_here", "_law_at", "_law_far"]
def spLaw (K : PySem.W.Frag) : Sp := fun vs H Q _ => ∃ (a : Addr) (ns : List Int), vs = [.ref a] ∧ SqL K H a (ns.map V.int) ∧ ns.length ≤ 63 ∧ ∀ H', Q (.bl true) H'
theorem scLaw : FnScope nLaw ["_law_script"] (defScope sLaw) := ⟨rfl, rfl, rfl, by decide +kernel, rfl, by decide +kernel, by decide +kernel⟩
theorem ok_law (T : Txt mg) (L : Lw P w K mg base) {f : Addr} {fd : FuncData} (F : Fun K "law" "law" sLaw f fd) : FnOk P w K mg base CX0 8 f fd ["_law_script"] (spLaw K) := by
  have nd := scLaw.nd
  refine F.ok scLaw (fun vs H Q E h => ?_) (fun cdv A outer s0 H vs Q E hr h => ?_)
  · obtain ⟨a, ns, rfl, _⟩ := h
    rfl
  · obtain ⟨a, ns, rfl, ha, hl, q⟩ := h
    have hr6 := hr.mono (show 6 ≤ 7 by decide)
    refine ⟨_, pss_cons (ps_set (i := 1) nd rfl (.inl rfl) (pe_cal L.bg hr (by rfl) (pa_cons (pv 0) pa_nil)))
      <| pss_cons (ps_for PassesOwn.never rfl (pi_range1 (by rfl) T.range (pa_cons pe_int pa_nil)) (pg_name (i := 2) nd rfl (.inl rfl))
          (pss_cons (ps_set (i := 3) nd rfl (.inl rfl) (pe_op op_add pe_int (pe_op op_mod (pe_op op_add (pv 2) (pe_cal L.dr hr (by rfl) (pa_cons (pv 1) (pa_cons pe_int pa_nil)))) pe_int)))
          <| pss_cons (ps_par3 (i := 4) (j := 5) (l := 6) (by rfl) nd rfl rfl rfl (by decide) (by decide) (by decide) rfl rfl rfl (pa_cons (pe_cal L.rw hr (by rfl) (pa_cons (pv 1) (pa_cons (pv 3) pa_nil))) (pa_cons (pe_cal L.rw hr (by rfl) (pa_cons (pv 1) (pa_cons (pv 3) pa_nil))) (pa_cons (pe_cal L.rw hr (by rfl) (pa_cons (pv 1) (pa_cons (pv 3) pa_nil))) pa_nil))) (by rfl))
          <| pss_cons (ps_if (pt_cmpR (op_neD hr.units) (pe_lc (own := [("_law_row_here", 7)]) (g := gName 7) (by rfl) nd (pi_tup (pe_tup (pa_cons (pv 4) (pa_cons (pv 5) (pa_cons (pv 6) pa_nil)))))
              (blkOk_by (own := [("_law_row_here", 7)]) (N := nLaw) (sc := defScope sLaw) (by decide +kernel)) (fun _ _ _ _ _ => pg_name (i := 7) nd rfl (.inl rfl))
              (fun _ _ _ _ _ => pts_one (PW.pt (pw_or (pt_not (pt_val (pe_cal L.ir (by exact hr) (by rfl) (pa_cons (pv 7) pa_nil)))) (pw_or1 (pt_not (pt_val (pe_cal L.cr (by exact hr) (by rfl) (pa_cons (pv 7) pa_nil)))))))) (fun _ _ _ _ _ => pe_int)) (pe_lst pa_nil) (nomark _)) (pss_one (ps_ret pe_bl)) pss_nil)
          <| pss_cons (ps_if (pt_not (pt_val (pe_cal L.pr hr (by rfl) (pa_cons (pv 4) (pa_cons (pv 5) (pa_cons (pv 6) pa_nil)))))) (pss_one (ps_ret pe_bl)) pss_nil)
          <| pss_cons (ps_par (i := 8) (j := 9) (by rfl) nd rfl rfl (by decide) rfl rfl (pa_cons (pe_cal L.dr hr (by rfl) (pa_cons (pv 1) (pa_cons (pv 3) pa_nil))) (pa_cons (pe_cal L.dr hr (by rfl) (pa_cons (pv 1) (pa_cons (pv 3) pa_nil))) pa_nil)) (by rfl))
          <| pss_cons (ps_set (i := 7) nd rfl (.inl rfl) (pe_listRg (by rfl) (by rfl) T.list (prg_1 (by rfl) T.range (pv 3))))
          <| pss_cons (ps_asg (pe_tup (pa_cons (pe_ix ix_list (pv 7) (pv 9) (fun _ _ => rfl)) (pa_cons (pe_ix ix_list (pv 7) (pv 8) (fun _ _ => rfl)) pa_nil)))
              (pg_tup rfl (pgs_cons (pg_sub (pv 7) (pv 8) set_list) (pgs_cons (pg_sub (pv 7) (pv 9) set_list) pgs_nil))))
          <| pss_one (ps_if (pt_cmpR op_ne (pe_cal L.C.ev hr6 (by rfl) (pa_cons (pe_callTy call_tuple_of (by rfl) T.tuple (by decide +kernel) (pa_cons (pv 7) pa_nil)) pa_nil)) (pe_cmpR op_eq (pv 8) (pv 9) (nomark _)) (nomark _)) (pss_one (ps_ret pe_bl)) pss_nil)))
      <| pss_one (ps_ret (pe_and (pe_cmpR (op_eqD hr.units) (pe_cal0 L.C.co hr6 (by rfl)) (pe_tup pa_nil) (nomark _))
          (pe_and (pe_cmpR op_eq (pe_cal L.C.od hr6 (by rfl) (pa_cons (pe_tup pa_nil) pa_nil)) pe_int (nomark _))
          (pe_and (pe_cmpR op_isBl (pe_cal L.C.ev hr6 (by rfl) (pa_cons (pe_tup pa_nil) pa_nil)) pe_bl (nomark _))
          (pe_one (pe_cmpR (op_eqD hr.units) (pe_cal L.C.cy hr6 (by rfl) (pa_cons (pe_tup (pa_cons pe_int (pa_cons pe_int pa_nil))) pa_nil)) (pe_tup pa_nil) (nomark _))))))), ?_⟩
    refine ⟨_, rfl, a, ns, rfl, ha, hl, fun H1 m lg lc sm1 M1 => ?_⟩
    refine ⟨_, rfl, by decide, by decide, ?_⟩
    refine for_it (walk_rg0 (n := 8)) (fun i σ H' => ∃ v2 v3 v4 v5 v6 v7 v8 v9 s, σ = [some (.ref a), some (.ref m), v2, v3, v4, v5, v6, v7, v8, v9] ∧ MOk H' m lg lc s ∧ s ≤ 100 * i)
      ⟨none, none, none, none, none, none, none, none, 0, rfl, M1, by omega⟩ (fun _ _ _ _ _ => trivial) ?_ ?_
    · rintro i x σ _ H2 hi ⟨v2, v3, v4, v5, v6, v7, v8, v9, s, rfl, M2, hs⟩ ⟨rfl, rfl⟩
      refine ⟨_, rfl, _, rfl, m, lg, lc, s, 12, rfl, M2, by omega, by omega, by omega, fun H3 d hd kp3 M3 => ?_⟩
      obtain ⟨n, hn1, hn2, en⟩ : ∃ n : Nat, 1 ≤ n ∧ n ≤ 12 ∧ (1 + ((i : Int) + (d : Int)) % 12) = (n : Int) := ⟨1 + (i + d) % 12, by omega, by omega, by omega⟩
      have n1000 : n ≤ 1000 := by omega
      refine ⟨_, _, rfl, rfl, _, _, rfl, rfl, (by show (0 : Int) < 12; decide), _, _, rfl, rfl, ?_⟩
      dsimp only
      rw [en]
      -- three rows
      refine ⟨_, rfl, _, rfl, m, lg, lc, s + 1, n, rfl, M3, hn1, n1000, by omega, fun H4 r1 p1 s4 i1 l1 kp4 g1 hs4 M4 => ?_⟩
      refine ⟨_, rfl, _, rfl, m, lg, lc, s4, n, rfl, M4, hn1, n1000, by omega, fun H5 r2 p2 s5 i2 l2 kp5 g2 hs5 M5 => ?_⟩
      refine ⟨_, rfl, _, rfl, m, lg, lc, s5, n, rfl, M5, hn1, n1000, by omega, fun H6 r3 p3 s6 i3 l3 kp6 g3 hs6 M6 => ?_⟩
      refine ⟨_, _, _, rfl, ?_⟩
      have g1' : Tp H6 r1 p1 := kp6.tup M5 (kp5.tup M4 g1)
      have g2' : Tp H6 r2 p2 := kp6.tup M5 g2
      -- all of them are right
      refine ⟨_, rfl, _, rfl, _, rfl, (by show 3 ≤ sizeLine; decide), fun u nu => ?_⟩
      have s7 := same_upd (o := .tup [V.ref r1, V.ref r2, V.ref r3]) nu
      have hu7 : upd H6 u (.tup [V.ref r1, V.ref r2, V.ref r3]) u = some (.tup [V.ref r1, V.ref r2, V.ref r3]) := upd_same
      have M7 := M6.same s7
      have k1 : Tp (upd H6 u (.tup [V.ref r1, V.ref r2, V.ref r3])) r1 p1 := s7 _ _ g1'
      have k2 : Tp (upd H6 u (.tup [V.ref r1, V.ref r2, V.ref r3])) r2 p2 := s7 _ _ g2'
      have k3 : Tp (upd H6 u (.tup [V.ref r1, V.ref r2, V.ref r3])) r3 p3 := s7 _ _ g3
      generalize upd H6 u (.tup [V.ref r1, V.ref r2, V.ref r3]) = H7 at *
      refine ⟨u, rfl, ⟨_, sq_of hu7⟩, fun D nD => lc_it (walk_tup (xs := [V.ref r1, V.ref r2, V.ref r3])) (fun j H' => Same H7 H' ∧ H' D = some (.lst [])) ⟨same_upd nD, upd_same⟩ (fun j H' _ ⟨sj, _⟩ => sq_of (sj _ _ hu7)) ?_ ?_⟩
      · rintro j v _ H8 hj ⟨sj, hD⟩ ⟨rfl, hv⟩
        obtain ⟨g, p0, rfl, hg, ig, lg0⟩ : ∃ g p0, v = V.ref g ∧ Tp H7 g p0 ∧ IsP p0 ∧ p0.length = n := by
          match j, hv with
          | 0, hv => exact ⟨r1, p1, (Option.some.inj hv).symm, k1, i1, l1⟩
          | 1, hv => exact ⟨r2, p2, (Option.some.inj hv).symm, k2, i2, l2⟩
          | 2, hv => exact ⟨r3, p3, (Option.some.inj hv).symm, k3, i3, l3⟩
          | j + 3, hv => simp at hv
        refine ⟨rfl, _, rfl, g, p0, rfl, sj _ _ hg, ig, by omega, fun H9 s9 => ⟨true, rfl, iteF ?_⟩⟩
        refine ⟨_, rfl, g, p0, rfl, s9 _ _ (sj _ _ hg), ig, by omega, fun H10 s10 => ⟨true, rfl, iteF ?_⟩⟩
        exact ⟨(sj.trans s9).trans s10, s10 _ _ (s9 _ _ hD)⟩
      · rintro H8 ⟨sj, hD⟩
        have M8 := M7.same sj
        refine ⟨Nat.zero_le _, fun e0 ne0 => ?_⟩
        have s9 := same_upd (o := .lst []) ne0
        refine ⟨_, _, dp_li (ns := []) (sl_of (s9 _ _ hD)), dp_li (ns := []) (sl_of upd_same), shaped_li _, shaped_li _, _, rfl, ?_⟩
        rw [eqv_li, decide_eq_true rfl]
        refine iteF ?_
        have M9 := M8.same s9
        have t9 := sj.trans s9
        have hM : ∀ H', Same H8 H' → Same H7 H' := fun H' s => sj.trans s
        generalize upd H8 e0 (.lst []) = H9 at *
        -- the products
        refine ⟨_, rfl, _, rfl, _, rfl, r1, r2, r3, p1, p2, p3, n, rfl, t9 _ _ k1, t9 _ _ k2, t9 _ _ k3, i1, i2, i3, l1, l2, l3, hn2, fun H10 s10 => ⟨true, rfl, iteF ?_⟩⟩
        have M10 := M9.same s10
        -- an exchange
        refine ⟨_, rfl, _, rfl, m, lg, lc, s6, n, rfl, M10, by omega, hn1, by omega, fun H11 e he kp11 M11 => ?_⟩
        refine ⟨_, rfl, _, rfl, m, lg, lc, s6 + 1, n, rfl, M11, by omega, hn1, by omega, fun H12 g hg kp12 M12 => ?_⟩
        refine ⟨_, _, rfl, ?_⟩
        refine ⟨_, rfl, _, rfl, RgOk.of_le (by omega) (by omega) (by omega) (by omega), fun l nl => ?_⟩
        rw [NV_range]
        have s13 := same_upd (o := .lst (NV (List.range n))) nl
        have hl13 : upd H12 l (.lst (NV (List.range n))) l = some (.lst (NV (List.range n))) := upd_same
        have M13 := M12.same s13
        generalize upd H12 l (.lst (NV (List.range n))) = H13 at *
        have al := M12.new nl
        have y1 : (NV (List.range n))[e]? = some (.int (e : Int)) := NV_get (List.getElem?_range he)
        have y2 : (NV (List.range n))[g]? = some (.int (g : Int)) := NV_get (List.getElem?_range hg)
        refine ⟨_, rfl, _, rfl, l, _, _, _, rfl, rfl, sl_of hl13, atI_nat y2, _, rfl, _, rfl, l, _, _, _, rfl, rfl, sl_of hl13, atI_nat y1, by show 2 ≤ sizeLine; decide, fun t nt => ?_⟩
        have s14 := same_upd (o := .tup [V.int (g : Int), V.int (e : Int)]) nt
        have hl14 := s14 _ _ hl13
        refine ⟨t, _, rfl, .inl (.inl upd_same), rfl, _, _, rfl, _, rfl, _, rfl, l, _, _, e, rfl, rfl, hl14, ix_at (by rw [NV_len, List.length_range]; exact he) rfl, ?_⟩
        refine ⟨_, _, rfl, _, rfl, _, rfl, l, _, _, g, rfl, rfl, upd_same, ix_at (by rw [List.length_set, NV_len, List.length_range]; exact hg) rfl, rfl, ?_⟩
        rw [NV_set, NV_set, set_sw he hg]
        have M15 := ((M13.same s14).upd al (o := .lst (NV ((List.range n).set e g)))).upd al (o := .lst (NV (sw n e g)))
        have hl15 : upd (upd (upd H13 t (.tup [V.int (g : Int), V.int (e : Int)])) l (.lst (NV ((List.range n).set e g)))) l (.lst (NV (sw n e g))) l = some (.lst (NV (sw n e g))) := upd_same
        generalize upd (upd (upd H13 t (.tup [V.int (g : Int), V.int (e : Int)])) l (.lst (NV ((List.range n).set e g)))) l (.lst (NV (sw n e g))) = H15 at *
        refine ⟨_, rfl, l, _, rfl, .inl ⟨sl_of hl15, fun z nz => ?_⟩⟩
        have s16 := same_upd (o := .tup (NV (sw n e g))) nz
        have M16 := M15.same s16
        refine ⟨z, sw n e g, rfl, upd_same, isP_sw he hg, by rw [sw_len]; omega, fun H17 s17 => ?_⟩
        have M17 := M16.same s17
        rw [even_sw hn2 he hg]
        refine ⟨_, rfl, _, rfl, rfl, rfl, _, rfl, ?_⟩
        have e5 : decide (V.bl (decide (e = g)) = V.bl (decide (V.int (e : Int) = V.int (g : Int)))) = true := by
          refine decide_eq_true ?_
          congr 1
          by_cases q : e = g
          · simp [q]
          · have q' : ¬ V.int (e : Int) = V.int (g : Int) := fun z => q (by
              injection z with z
              omega)
            simp [q, q']
        rw [e5]
        exact iteF ⟨_, _, _, _, _, _, _, _, s6 + 2, rfl, M17, by omega⟩
    · rintro σ H2 ⟨v2, v3, v4, v5, v6, v7, v8, v9, s, rfl, M2, hs⟩
      have ip0 : IsP ([] : List Nat) := ⟨.nil, fun x hx => nomatch hx⟩
      -- compose() == ()
      refine ⟨[], 0, rfl, (fun p hp => nomatch hp), by omega, by decide, (fun _ => rfl), fun H3 r s3 hr3 => ?_⟩
      have hr3 : Tp H3 r [] := hr3
      refine ⟨Nat.zero_le _, fun t nt => ?_⟩
      have s4 := same_upd (o := .tup []) nt
      refine ⟨_, _, dp_tp (s4 _ _ hr3), dp_tp (p := []) upd_same, shaped_ti _, shaped_ti _, true, by rw [eqv_tp, decide_eq_true rfl], iteT ?_⟩
      -- order(()) == 1
      refine ⟨Nat.zero_le _, fun t2 nt2 => ?_⟩
      refine ⟨t2, [], 27720, rfl, upd_same, ip0, by decide, by decide, by decide, (fun c hc => nomatch hc), fun H5 s5 => ?_⟩
      refine ⟨rfl, true, rfl, iteT ?_⟩
      -- is_even(()) is True
      refine ⟨Nat.zero_le _, fun t3 nt3 => ?_⟩
      refine ⟨t3, [], rfl, upd_same, ip0, by decide, fun H6 s6 => ?_⟩
      refine ⟨_, _, rfl, rfl, true, rfl, iteT ?_⟩
      -- cycles((0, 1)) == ()
      refine ⟨by show 2 ≤ sizeLine; decide, fun t4 nt4 => ?_⟩
      refine ⟨t4, [0, 1], rfl, upd_same, ⟨by decide, by decide⟩, by decide, fun H7 r7 s7 cy => ?_⟩
      obtain ⟨ks, c1, c2, c3⟩ := cy
      have ek : ks = [] := by
        have : ks.map (·.2) = [] := c2
        exact List.map_eq_nil_iff.mp this
      subst ek
      refine ⟨Nat.zero_le _, fun t5 nt5 => ?_⟩
      have s8 := same_upd (o := .tup []) nt5
      refine ⟨_, _, dp_tp (p := []) (s8 _ _ c1), dp_tp (p := []) upd_same, shaped_ti _, shaped_ti _, ?_⟩
      rw [eqv_tp, decide_eq_true rfl]
      exact q _
end
end Hw

namespace Hw
open PySem PySem.Spec PyProof.Rows L2
theorem df_mk {K : PySem.W.Frag} {h : Heap} {mg : Str → Option Value} (X : K.In h) (G : h.Ns mainGlobals mg) {x : Str} {st : Stmt} {ps : List Str} {f : Addr} {oc : Value} {od an : Option Addr} {osl : Array (Option Value)} {kV doc pm cdv ct : Value}
    (a : PySem.W.nsIn K mainGlobals x = some (some (.ref f))) (l : K.lookup f = some ⟨oc, od, .func (PySem.W.fnOf x x (defArgs st) (defBody st) (defScope st) .none kV doc pm an cdv ct), osl⟩) (c : PySem.W.codeIn K cdv x = true) (k : PySem.W.keepIn K (.ref f) = true)
    (hb : ∀ (kV doc pm : Value) (an : Option Addr) (cdv ct : Value) (us : List Value), us.length = ps.length → bindArgs (PySem.W.fnOf x x (defArgs st) (defBody st) (defScope st) .none kV doc pm an cdv ct) ⟨us, []⟩ = pure (ps.zip us)) : Df K mg x st ps := by
  have F := fun_mk (st := st) l c k
  exact ⟨f, _, F, F.binds hb, PySem.W.mg_of X G a⟩
theorem dfs_mk {K : PySem.W.Frag} {h : Heap} {mg : Str → Option Value} (X : K.In h) (G : h.Ns mainGlobals mg) {x : Str} {st : Stmt} {f : Addr} {oc : Value} {od an : Option Addr} {osl : Array (Option Value)} {kV doc pm cdv ct : Value}
    (a : PySem.W.nsIn K mainGlobals x = some (some (.ref f))) (l : K.lookup f = some ⟨oc, od, .func (PySem.W.fnOf x x (defArgs st) (defBody st) (defScope st) .none kV doc pm an cdv ct), osl⟩) (c : PySem.W.codeIn K cdv x = true) (k : PySem.W.keepIn K (.ref f) = true) : DfS K mg x st :=
  ⟨f, _, fun_mk (st := st) l c k, PySem.W.mg_of X G a⟩
/-- all the defs of the text -/
structure Ds (K : PySem.W.Frag) (mg : Str → Option Value) : Prop where
  whole : Df K mg "is_whole" sWhole ["value"]
  index : Df K mg "is_index" sIndex ["value", "count"]
  isPerm : Df K mg "is_permutation" sIsPerm ["value"]
  check : Df K mg "_check" sCheck ["value"]
  compose : DfS K mg "compose" sCompose
  inverse : Df K mg "inverse" sInverse ["permutation"]
  cycles : Df K mg "cycles" sCycles ["permutation"]
  order : Df K mg "order" sOrder ["permutation"]
  even : Df K mg "is_even" sEven ["permutation"]
  mixed : Df K mg "_law_mixed" sMixed ["_law_cell", "_law_n"]
  folded : Df K mg "_law_folded" sFolded ["_law_script"]
  draw : Df K mg "_law_draw" sDraw ["_law_m", "_law_top"]
  begun : Df K mg "_law_begun" sBegun ["_law_script"]
  mixedUp : Df K mg "_law_mixed_up" sMixedUp ["_law_m", "_law_things"]
  shuffled : Df K mg "_law_shuffled" sShuffled ["_law_m", "_law_things", "_law_many"]
  sign : Df K mg "_law_sign" sSign ["_law_row_here"]
  row : Df K mg "_law_row" sRow ["_law_m", "_law_size"]
  invR : Df K mg "_law_inverse_right" sInvRight ["_law_row_here"]
  cycR : Df K mg "_law_cycles_right" sCycRight ["_law_row_here"]
  prodR : Df K mg "_law_products_right" sProdRight ["_law_one", "_law_two", "_law_three"]
theorem lw_of {P : Program} {w : World} {K : PySem.W.Frag} {mg : Str → Option Value} {base : Heap} (T : Txt mg) (D : Ds K mg) : Lw P w K mg base := by
  have c1 : Cal P w K mg base "is_whole" 1 spWhole := cal_whole T D.whole
  have c2 : Cal P w K mg base "is_index" 2 spIndex := cal_index T c1 D.index
  have c3 : Cal P w K mg base "is_permutation" 3 spIsPerm := cal_isPerm T c2 D.isPerm
  have c4 : Cal P w K mg base "_check" 4 spCheck := cal_check c3 D.check
  have co : Cal P w K mg base "compose" 5 spCompose := cal_compose T c4 D.compose
  have iv : Cal P w K mg base "inverse" 5 spInverse := cal_inverse T c4 D.inverse
  have cy : Cal P w K mg base "cycles" 5 spCycles := cal_cycles T c4 D.cycles
  have od : Cal P w K mg base "order" 6 spOrder := cal_order T cy D.order
  have ev : Cal P w K mg base "is_even" 6 spEven := cal_even T cy D.even
  have sg : Cal P w K mg base "_law_sign" 1 spSign := cal_sign T D.sign
  have mx : Cal P w K mg base "_law_mixed" 1 spMixed := cal_mixed D.mixed
  have fo : Cal P w K mg base "_law_folded" 1 (spFolded K) := cal_folded T D.folded
  have dr : Cal P w K mg base "_law_draw" 2 spDraw := cal_draw T mx D.draw
  have bg : Cal P w K mg base "_law_begun" 2 (spBegun K) := cal_begun T fo D.begun
  have mu : Cal P w K mg base "_law_mixed_up" 3 (spMixedUp K) := cal_mixedUp T dr D.mixedUp
  have sh : Cal P w K mg base "_law_shuffled" 3 (spShuffled K) := cal_shuffled T dr D.shuffled
  have ro : Cal P w K mg base "_law_row" 4 spRow := cal_row T dr sh mu D.row
  have C : Pr P w K mg base := ⟨co.mono (by decide), iv.mono (by decide), cy.mono (by decide), od, ev, sg.mono (by decide)⟩
  exact ⟨C, bg.mono (by decide), dr.mono (by decide), ro.mono (by decide), cal_invRight T C D.invR, cal_cycRight T C D.cycR, cal_prodRight T C D.prodR⟩
theorem law_mk {l : PySem.W.OpenLaw} {w : World} {K : PySem.W.Frag} {h : Heap} {mg : Str → Option Value} {fa f : Addr} (X : K.In h) (G : h.Ns mainGlobals mg) (hfa : mg "law" = some (.ref fa)) {oc : Value} {od an : Option Addr} {osl : Array (Option Value)} {kV doc pm cdv ct : Value}
    (a : PySem.W.nsIn K mainGlobals "law" = some (some (.ref f))) (l1 : K.lookup f = some ⟨oc, od, .func (PySem.W.fnOf "law" "law" (defArgs sLaw) (defBody sLaw) (defScope sLaw) .none kV doc pm an cdv ct), osl⟩) (c : PySem.W.codeIn K cdv "law" = true) (k : PySem.W.keepIn K (.ref f) = true)
    (T : Txt mg) (D : Ds K mg) :
    ∃ fd : FuncData, (∀ (s : Shared) (v : Value), BindsTo s fd ⟨[v], []⟩ [("_law_script", v)]) ∧ ∀ base : Heap, K.In base → base.Ns mainGlobals mg → FnOk l.prog w K mg base CX0 8 fa fd ["_law_script"] (spLaw K) := by
  have e := hfa.symm.trans (PySem.W.mg_of X G a)
  cases e
  exact ⟨_, fun s v => .of_eq rfl, fun base _ _ => ok_law T (lw_of T D) (fun_mk (st := sLaw) l1 c k)⟩
end Hw

open PySem PySem.W PyProof.Rows
set_option maxHeartbeats 0 in
theorem PySem.Challenge.cw_handwalk_k02_whole_permutation_algebra_holds : PySem.Challenge.rw_handwalk_k02_whole_permutation_algebra.Holds := by
  w_on; o_law; k_head; (case hw => w_witness2)
  k_fill
  refine L2.walk_of (l := PySem.Challenge.rw_handwalk_k02_whole_permutation_algebra) (n := 63) (k := 8) (x := "_law_script") (CX := fun _ => L2.CX0) (sp := fun w => Hw.spLaw _) rfl (by decide) rfl ⟨rfl, by decide, by decide⟩ (fun w h Y => PySem.W.kIn_of Y) ?F (fun _ _ a ns hl _ hS => ⟨a, ns, rfl, hS, hl, fun _ => rfl⟩) (fun _ _ _ _ _ h => h)
  case F =>
    intro w mg fa h KX G hmg
    refine' Hw.law_mk KX G hmg ?a1 ?l1 ?c1 ?k1 ?T ?D
    (case a1 => k_is); (case l1 => k_is); (case c1 => k_is); (case k1 => k_is)
    case T =>
      refine' ⟨PySem.W.mg_none_of KX G ?z1, PySem.W.mg_none_of KX G ?z2, PySem.W.mg_none_of KX G ?z3, PySem.W.mg_none_of KX G ?z4, PySem.W.mg_none_of KX G ?z5, PySem.W.mg_none_of KX G ?z6, PySem.W.mg_none_of KX G ?z7, PySem.W.mg_none_of KX G ?z8, PySem.W.mg_none_of KX G ?z9, PySem.W.mg_none_of KX G ?z10, PySem.W.mg_none_of KX G ?z11, PySem.W.mg_none_of KX G ?z12, PySem.W.mg_none_of KX G ?z13, PySem.W.mg_of KX G ?z14⟩
      all_goals k_is
    case D =>
      refine' ⟨Hw.df_mk KX G ?a2 ?l2 ?c2 ?k2 ?b2, Hw.df_mk KX G ?a3 ?l3 ?c3 ?k3 ?b3, Hw.df_mk KX G ?a4 ?l4 ?c4 ?k4 ?b4, Hw.df_mk KX G ?a5 ?l5 ?c5 ?k5 ?b5, Hw.dfs_mk KX G ?a6 ?l6 ?c6 ?k6,
        Hw.df_mk KX G ?a7 ?l7 ?c7 ?k7 ?b7, Hw.df_mk KX G ?a8 ?l8 ?c8 ?k8 ?b8, Hw.df_mk KX G ?a9 ?l9 ?c9 ?k9 ?b9, Hw.df_mk KX G ?a10 ?l10 ?c10 ?k10 ?b10, Hw.df_mk KX G ?a11 ?l11 ?c11 ?k11 ?b11,
        Hw.df_mk KX G ?a12 ?l12 ?c12 ?k12 ?b12, Hw.df_mk KX G ?a13 ?l13 ?c13 ?k13 ?b13, Hw.df_mk KX G ?a14 ?l14 ?c14 ?k14 ?b14, Hw.df_mk KX G ?a15 ?l15 ?c15 ?k15 ?b15, Hw.df_mk KX G ?a16 ?l16 ?c16 ?k16 ?b16,
        Hw.df_mk KX G ?a17 ?l17 ?c17 ?k17 ?b17, Hw.df_mk KX G ?a18 ?l18 ?c18 ?k18 ?b18, Hw.df_mk KX G ?a19 ?l19 ?c19 ?k19 ?b19, Hw.df_mk KX G ?a20 ?l20 ?c20 ?k20 ?b20, Hw.df_mk KX G ?a21 ?l21 ?c21 ?k21 ?b21⟩
      (case a2 => k_is); (case l2 => k_is); (case c2 => k_is); (case k2 => k_is); (case b2 => exact fun _ _ _ _ _ _ us hl => match us, hl with | [_], _ => rfl)
      (case a3 => k_is); (case l3 => k_is); (case c3 => k_is); (case k3 => k_is); (case b3 => exact fun _ _ _ _ _ _ us hl => match us, hl with | [_, _], _ => rfl)
      (case a4 => k_is); (case l4 => k_is); (case c4 => k_is); (case k4 => k_is); (case b4 => exact fun _ _ _ _ _ _ us hl => match us, hl with | [_], _ => rfl)
      (case a5 => k_is); (case l5 => k_is); (case c5 => k_is); (case k5 => k_is); (case b5 => exact fun _ _ _ _ _ _ us hl => match us, hl with | [_], _ => rfl)
      (case a6 => k_is); (case l6 => k_is); (case c6 => k_is); (case k6 => k_is)
      (case a7 => k_is); (case l7 => k_is); (case c7 => k_is); (case k7 => k_is); (case b7 => exact fun _ _ _ _ _ _ us hl => match us, hl with | [_], _ => rfl)
      (case a8 => k_is); (case l8 => k_is); (case c8 => k_is); (case k8 => k_is); (case b8 => exact fun _ _ _ _ _ _ us hl => match us, hl with | [_], _ => rfl)
      (case a9 => k_is); (case l9 => k_is); (case c9 => k_is); (case k9 => k_is); (case b9 => exact fun _ _ _ _ _ _ us hl => match us, hl with | [_], _ => rfl)
      (case a10 => k_is); (case l10 => k_is); (case c10 => k_is); (case k10 => k_is); (case b10 => exact fun _ _ _ _ _ _ us hl => match us, hl with | [_], _ => rfl)
      (case a11 => k_is); (case l11 => k_is); (case c11 => k_is); (case k11 => k_is); (case b11 => exact fun _ _ _ _ _ _ us hl => match us, hl with | [_, _], _ => rfl)
      (case a12 => k_is); (case l12 => k_is); (case c12 => k_is); (case k12 => k_is); (case b12 => exact fun _ _ _ _ _ _ us hl => match us, hl with | [_], _ => rfl)
      (case a13 => k_is); (case l13 => k_is); (case c13 => k_is); (case k13 => k_is); (case b13 => exact fun _ _ _ _ _ _ us hl => match us, hl with | [_, _], _ => rfl)
      (case a14 => k_is); (case l14 => k_is); (case c14 => k_is); (case k14 => k_is); (case b14 => exact fun _ _ _ _ _ _ us hl => match us, hl with | [_], _ => rfl)
      (case a15 => k_is); (case l15 => k_is); (case c15 => k_is); (case k15 => k_is); (case b15 => exact fun _ _ _ _ _ _ us hl => match us, hl with | [_, _], _ => rfl)
      (case a16 => k_is); (case l16 => k_is); (case c16 => k_is); (case k16 => k_is); (case b16 => exact fun _ _ _ _ _ _ us hl => match us, hl with | [_, _, _], _ => rfl)
      (case a17 => k_is); (case l17 => k_is); (case c17 => k_is); (case k17 => k_is); (case b17 => exact fun _ _ _ _ _ _ us hl => match us, hl with | [_], _ => rfl)
      (case a18 => k_is); (case l18 => k_is); (case c18 => k_is); (case k18 => k_is); (case b18 => exact fun _ _ _ _ _ _ us hl => match us, hl with | [_, _], _ => rfl)
      (case a19 => k_is); (case l19 => k_is); (case c19 => k_is); (case k19 => k_is); (case b19 => exact fun _ _ _ _ _ _ us hl => match us, hl with | [_], _ => rfl)
      (case a20 => k_is); (case l20 => k_is); (case c20 => k_is); (case k20 => k_is); (case b20 => exact fun _ _ _ _ _ _ us hl => match us, hl with | [_], _ => rfl)
      (case a21 => k_is); (case l21 => k_is); (case c21 => k_is); (case k21 => k_is); (case b21 => exact fun _ _ _ _ _ _ us hl => match us, hl with | [_, _, _], _ => rfl)
