import PyProof.Rows.All
import Wide.All
import OpenK.AllK
import Wide.FinOn
import HandS.ForMost
import HandS.IsInst
import HandS.Star
import HandS.Walk
import HandS.Zip
import HandS.TupSets
import HandS.Gcd
import HandS.Conv
import HandS.SetFor
import HandS.Strs
import KE.DataMinMax
import KE.GoesMore
import KE.SortData
import PyProof.ReprReads
import PyProof.StrHeap
import PyProof.ReprRoads
import PyProof.Rows.RegFStrParts
import PyProof.Rows.StrJoinMade
import HandS.Ends
import HandS.Style
import HandS.TupAny
import HandS.ClsMeth
import HandS.SetKeys
import HandS.More
import HandS.Property
import KE.KTupSum
import PySem.Challenge.RW_handwalk_k06_bridges_and_cells
set_option Elab.async false
set_option linter.all false
set_option maxRecDepth 100000
set_option maxHeartbeats 8000000
namespace Hw
open PySem PySem.Spec PyProof.Rows L2

/-- a def of the text, where it stands, how it binds -/
structure Df (K : PySem.W.Frag) (mg : Str → Option Value) (x : Str) (st : Stmt) (ps : List Str) : Prop where
  ex : ∃ (f : Addr) (fd : FuncData), Fun K x x st f fd ∧ Binds K fd ps [] ∧ mg x = some (.ref f)

/-- a def that can be called by its name, with its promise -/
structure Cal (P : Program) (w : World) (K : PySem.W.Frag) (mg : Str → Option Value) (base : Heap) (x : Str) (k : Nat) (sp : Sp) : Prop where
  ex : ∃ f : Addr, mg x = some (.ref f) ∧ PySem.W.keepIn K (.ref f) = true ∧ L2.FnR P w K mg base CX0 k f sp

section
variable {P : Program} {w : World} {K : PySem.W.Frag} {mg : Str → Option Value} {base : Heap} {x : Str}
theorem Cal.mono {j k : Nat} {sp : Sp} (c : Cal P w K mg base x j sp) (h : j ≤ k) : Cal P w K mg base x k sp := by
  obtain ⟨f, a, b, F⟩ := c.ex
  exact ⟨f, a, b, F.mono h⟩
theorem cal_of {st : Stmt} {N ps : List Str} {k : Nat} {sp : Sp} (D : Df K mg x st ps) (S : FnScope N ps (defScope st)) (len : ∀ vs H Q E, sp vs H Q E → vs.length = ps.length)
    (hbody : ∀ (f : Addr) (cdv : Value) (A : Around) (outer : List Env) (s : Shared) (H : Hp) (vs : List V) (Q : VK) (E : XK), Room k (A.deeper (envOfC x (defScope st) s.heap.objs.size f cdv)) → sp vs H Q E →
      ∃ t, PSs (cxOf CX0 P w K mg base N x (defScope st) f cdv A outer s H E).nox (defBody st) t ∧ t { nx := fun _ H' => Q .non H', rt := Q } (start N vs) H) : Cal P w K mg base x (k + 1) sp := by
  obtain ⟨f, fd, F, b, g⟩ := D.ex
  have G : FnOk P w K mg base CX0 (k + 1) f fd ps sp := F.ok S len (fun cdv A outer s H vs Q E hr h => hbody f cdv A outer s H vs Q E hr h)
  refine ⟨f, g, F.kp, ?_⟩
  have R := G.raw b (dvs := []) .nil
  exact R.imp fun vs H Q E h => by
    show sp (vs ++ []) H Q E
    rw [List.append_nil]
    exact h
end
section
variable {X : Cx} {k : Nat} {sp : Sp} {x : Str} {p pos : Pos} {e : Expr} {es : List Expr} {t : TA}
theorem pe_cal (c : Cal X.prog X.w X.K X.mg X.base x k sp) (hr : Room k X.A) (hg : Gl X x) (ha : PA X (e :: es) t) (hdb : (x == ("__debug__" : Str)) = false := by decide)
    (he : starEach (e :: es) X.env = (false, eval e X.env) :: starEach es X.env := by rfl) (hpl : (backTo pos (starEach es X.env)).any (·.1) = false := by rfl) :
    PE X (.Call (.Name x p) (e :: es) [] pos) (fun σ H Q => t σ H fun vs H1 => sp vs H1 Q E0) := by
  obtain ⟨f, hm, hk, F⟩ := c.ex
  refine ⟨fun pins s σ H Q I h => ?_⟩
  refine wpAny_Call_Name_kw (ld_glob I hg hm ?_ hdb)
  refine PySem.W.callWith_K (h₀ := X.base) I.ok.mod.kin hk (thn (ha.run pos pins s σ H _ I h) fun us s1 ⟨vs, H1, I1, r, q⟩ => ⟨I1.kIn, ?_⟩) he hpl
  exact wpAny_call (L2.run_fnR F hr pass0 I1 r q)
theorem pe_cal0 (c : Cal X.prog X.w X.K X.mg X.base x k sp) (hr : Room k X.A) (hg : Gl X x) (hdb : (x == ("__debug__" : Str)) = false := by decide) :
    PE X (.Call (.Name x p) [] [] pos) (fun σ H Q => sp [] H Q E0) := by
  obtain ⟨f, hm, hk, F⟩ := c.ex
  refine ⟨fun pins s σ H Q I h => ?_⟩
  refine wpAny_Call_Name_kw (ld_glob I hg hm ?_ hdb)
  exact PySem.W.callWith_K0 I.kIn hk (wpAny_call (L2.run_fnR F hr pass0 I .nil h))
end
/-- len of a list or a tuple -/
def rLenS (K : PySem.W.Frag) : List V → Hp → VK → Prop := fun xs H Q => ∃ p ys, xs = [.ref p] ∧ (SqL K H p ys ∨ SqT K H p ys) ∧ Q (.int (ys.length : Int)) H
theorem cr_len {X : Cx} : CallR X (.builtin "len") (rLenS X.K) := call_len_seq
end Hw

/-! Permutations as lists of numbers: what the program's functions compute. No Python here. -/
namespace Hw
/-- item x of p (0 beyond) -/
def ap (p : List Nat) (x : Nat) : Nat := p.getD x 0
def IsP (p : List Nat) : Prop := p.Nodup ∧ ∀ x ∈ p, x < p.length
/-- first p, then q -/
def mul (p q : List Nat) : List Nat := p.map (ap q)
def inv (p : List Nat) : List Nat := (List.range p.length).map fun y => p.idxOf y
/-- all of ps, one after the other, on n positions -/
def muls (n : Nat) (ps : List (List Nat)) : List Nat := ps.foldl mul (List.range n)
/-- k steps from x -/
def it (p : List Nat) : Nat → Nat → Nat
  | 0, x => x
  | k + 1, x => ap p (it p k x)
/-- x comes back first after so many steps: the least k from 1 on, sought up to n -/
def perF (p : List Nat) (x : Nat) : Nat → Nat → Nat
  | 0, k => k
  | m + 1, k => if it p k x = x then k else perF p x m (k + 1)
def per (p : List Nat) (x : Nat) : Nat := perF p x p.length 1
/-- the way of x until it is back -/
def orb (p : List Nat) (x : Nat) : List Nat := (List.range (per p x)).map fun k => it p k x
/-- j lies on the way of one below i -/
def sn (p : List Nat) (i j : Nat) : Bool := (List.range i).any fun f => decide (j ∈ orb p f)
/-- the cycles that begin below i -/
def cycF (p : List Nat) (i : Nat) : List (List Nat) := ((List.range i).filter fun f => !sn p f f && decide (1 < per p f)).map (orb p)
def cyc (p : List Nat) : List (List Nat) := cycF p p.length
def ord (p : List Nat) : Nat := (cyc p).foldl (fun r c => Nat.lcm r c.length) 1
def evenP (p : List Nat) : Bool := decide (((cyc p).map fun c => (c.length : Int) - 1).sum % 2 = 0)
/-- how many ahead of place i are greater than what stands there -/
def invAt (p : List Nat) (i : Nat) : Nat := ((p.take i).filter fun x => decide (ap p i < x)).length
def invs (p : List Nat) : Nat := ((List.range p.length).map (invAt p)).sum
theorem ap_get {p : List Nat} {x : Nat} (h : x < p.length) : p[x]? = some (ap p x) := by
  unfold ap
  rw [List.getD_eq_getElem?_getD, List.getElem?_eq_getElem h]
  rfl
theorem ap_mem {p : List Nat} {x : Nat} (h : x < p.length) : ap p x ∈ p := List.mem_of_getElem? (ap_get h)
theorem ap_lt {p : List Nat} {x : Nat} (hp : IsP p) (h : x < p.length) : ap p x < p.length := hp.2 _ (ap_mem h)
theorem mul_len (p q : List Nat) : (mul p q).length = p.length := by unfold mul; rw [List.length_map]
/-- a row of n numbers below n -/
def Row (n : Nat) (m : List Nat) : Prop := m.length = n ∧ ∀ x ∈ m, x < n
theorem row_range (n : Nat) : Row n (List.range n) := ⟨List.length_range, fun x hx => List.mem_range.mp hx⟩
theorem row_of {p : List Nat} {n : Nat} (h : IsP p) (e : p.length = n) : Row n p := ⟨e, fun x hx => by rw [← e]; exact h.2 x hx⟩
theorem row_mul {n : Nat} {m p : List Nat} (hm : Row n m) (hp : Row n p) : Row n (mul m p) := by
  refine ⟨by rw [mul_len]; exact hm.1, fun x hx => ?_⟩
  obtain ⟨y, hy, rfl⟩ := List.mem_map.mp hx
  exact hp.2 _ (ap_mem (by rw [hp.1]; exact hm.2 y hy))
theorem row_foldl {n : Nat} : ∀ (ps : List (List Nat)) (m : List Nat), Row n m → (∀ p ∈ ps, Row n p) → Row n (ps.foldl mul m)
  | [], _, h, _ => h
  | p :: ps, m, h, hp => row_foldl ps (mul m p) (row_mul h (hp p List.mem_cons_self)) fun q hq => hp q (List.mem_cons_of_mem _ hq)
theorem row_muls {n : Nat} {ps : List (List Nat)} (hp : ∀ p ∈ ps, Row n p) : Row n (muls n ps) := row_foldl ps _ (row_range n) hp
theorem muls_snoc (n : Nat) (ps : List (List Nat)) (p : List Nat) : muls n (ps ++ [p]) = mul (muls n ps) p := by
  unfold muls
  rw [List.foldl_append]
  rfl
end Hw

namespace Hw
/-! ### numbers below n -/
theorem len_le : ∀ (n : Nat) (l : List Nat), l.Nodup → (∀ x ∈ l, x < n) → l.length ≤ n
  | 0, l, _, h => by
    cases l with
    | nil => exact Nat.le_refl _
    | cons x r => exact absurd (h x List.mem_cons_self) (Nat.not_lt_zero _)
  | n + 1, l, nd, h => by
    have h1 := len_le n (l.erase n) (nd.erase n) fun x hx => by
      have e1 := (List.Nodup.mem_erase_iff nd).mp hx
      have := h x e1.2
      have := e1.1
      omega
    by_cases z : n ∈ l
    · rw [List.length_erase_of_mem z] at h1
      omega
    · rw [List.erase_of_not_mem z] at h1
      omega
theorem isP_mem {p : List Nat} (h : IsP p) {y : Nat} (hy : y < p.length) : y ∈ p := by
  by_cases z : y ∈ p
  · exact z
  · exfalso
    have := len_le p.length (y :: p) (List.nodup_cons.mpr ⟨z, h.1⟩) fun x hx => by
      rcases List.mem_cons.mp hx with e | m
      · rw [e]; exact hy
      · exact h.2 x m
    rw [List.length_cons] at this
    omega
theorem ap_inj {p : List Nat} (h : IsP p) {x y : Nat} (hx : x < p.length) (hy : y < p.length) (e : ap p x = ap p y) : x = y := by
  have h1 := ap_get hx
  have h2 := ap_get hy
  rw [e] at h1
  obtain ⟨_, e1⟩ := List.getElem?_eq_some_iff.mp h1
  obtain ⟨_, e2⟩ := List.getElem?_eq_some_iff.mp h2
  exact (List.getElem_inj (h₀ := hx) (h₁ := hy) h.1).mp (e1.trans e2.symm)
/-! ### steps -/
theorem it_lt {p : List Nat} (h : IsP p) {x : Nat} (hx : x < p.length) : ∀ k, it p k x < p.length
  | 0 => hx
  | k + 1 => ap_lt h (it_lt h hx k)
theorem it_add (p : List Nat) (x j : Nat) : ∀ k, it p (j + k) x = it p k (it p j x)
  | 0 => rfl
  | k + 1 => by
    show ap p (it p (j + k) x) = ap p (it p k (it p j x))
    rw [it_add p x j k]
theorem it_inj {p : List Nat} (h : IsP p) {x y : Nat} (hx : x < p.length) (hy : y < p.length) : ∀ k, it p k x = it p k y → x = y
  | 0, e => e
  | k + 1, e => it_inj h hx hy k (ap_inj h (it_lt h hx k) (it_lt h hy k) e)
theorem back_ex {p : List Nat} (h : IsP p) {x : Nat} (hx : x < p.length) : ∃ k, 1 ≤ k ∧ k ≤ p.length ∧ it p k x = x := by
  by_cases z : ∃ k, 1 ≤ k ∧ k ≤ p.length ∧ it p k x = x
  · exact z
  · exfalso
    have nd : ((List.range (p.length + 1)).map fun k => it p k x).Nodup := by
      rw [List.nodup_iff_pairwise_ne, List.pairwise_map]
      refine List.Pairwise.imp_of_mem (fun {i j} hi hj hij e => ?_) (List.pairwise_lt_range (n := p.length + 1))
      rw [List.mem_range] at hi hj
      apply z
      refine ⟨j - i, by omega, by omega, ?_⟩
      have e2 : j = i + (j - i) := by omega
      rw [e2, Nat.add_comm, it_add] at e
      exact (it_inj h hx (it_lt h hx _) i (by
        rw [e])).symm
    have := len_le p.length _ nd fun y hy => by
      obtain ⟨k, _, rfl⟩ := List.mem_map.mp hy
      exact it_lt h hx k
    rw [List.length_map, List.length_range] at this
    omega
theorem perF_spec (p : List Nat) (x : Nat) : ∀ m k, (∃ j, k ≤ j ∧ j < k + m ∧ it p j x = x) → k ≤ perF p x m k ∧ perF p x m k < k + m ∧ it p (perF p x m k) x = x ∧ ∀ j, k ≤ j → j < perF p x m k → it p j x ≠ x
  | 0, k, ⟨j, h1, h2, _⟩ => by omega
  | m + 1, k, ⟨j, h1, h2, h3⟩ => by
    unfold perF
    by_cases z : it p k x = x
    · rw [if_pos z]
      exact ⟨Nat.le_refl _, by omega, z, fun j a b => by omega⟩
    · rw [if_neg z]
      have hj : k + 1 ≤ j := by
        rcases Nat.lt_or_ge k j with q | q
        · exact q
        · have : j = k := by omega
          subst this
          exact absurd h3 z
      obtain ⟨a, b, c, d⟩ := perF_spec p x m (k + 1) ⟨j, hj, by omega, h3⟩
      refine ⟨by omega, by omega, c, fun i hi hi2 => ?_⟩
      rcases Nat.lt_or_ge k i with q | q
      · exact d i q hi2
      · have : i = k := by omega
        subst this
        exact z
section
variable {p : List Nat} (h : IsP p) {x y : Nat} (hx : x < p.length)
include h hx
theorem per_spec : 1 ≤ per p x ∧ per p x ≤ p.length ∧ it p (per p x) x = x ∧ ∀ j, 1 ≤ j → j < per p x → it p j x ≠ x := by
  obtain ⟨k, h1, h2, h3⟩ := back_ex h hx
  obtain ⟨a, b, c, d⟩ := perF_spec p x p.length 1 ⟨k, h1, by omega, h3⟩
  exact ⟨a, by unfold per; omega, c, d⟩
theorem it_mul (k : Nat) : it p (per p x * k) x = x := by
  induction k with
  | zero => rfl
  | succ k ih => rw [Nat.mul_succ, it_add, ih, (per_spec h hx).2.2.1]
theorem it_mod (k : Nat) : it p k x = it p (k % per p x) x := by
  have e := Nat.div_add_mod k (per p x)
  calc it p k x = it p (per p x * (k / per p x) + k % per p x) x := by rw [e]
    _ = it p (k % per p x) x := by rw [it_add, it_mul h hx]
theorem it_back_iff (k : Nat) : it p k x = x ↔ per p x ∣ k := by
  have hp := (per_spec h hx)
  constructor
  · intro e
    rw [it_mod h hx] at e
    have lt := Nat.mod_lt k (show 0 < per p x from hp.1)
    rcases Nat.eq_zero_or_pos (k % per p x) with z | z
    · exact Nat.dvd_of_mod_eq_zero z
    · exact absurd e (hp.2.2.2 _ z lt)
  · rintro ⟨c, rfl⟩
    exact it_mul h hx c
theorem it_eq_iff {i j : Nat} (hi : i < per p x) (hj : j < per p x) (e : it p i x = it p j x) : i = j := by
  have main : ∀ i j, i < j → j < per p x → it p i x = it p j x → False := fun i j hij hj e => by
    have e2 : j = (j - i) + i := by omega
    rw [e2, it_add] at e
    have e3 := it_inj h hx (it_lt h hx (j - i)) i e
    exact (per_spec h hx).2.2.2 (j - i) (by omega) (by omega) e3.symm
  rcases Nat.lt_trichotomy i j with z | z | z
  · exact (main i j z hj e).elim
  · exact z
  · exact (main j i z hi e.symm).elim
theorem orb_len : (orb p x).length = per p x := by unfold orb; rw [List.length_map, List.length_range]
theorem orb_get {k : Nat} (hk : k < per p x) : (orb p x)[k]? = some (it p k x) := by
  unfold orb
  rw [List.getElem?_map, List.getElem?_range hk]
  rfl
theorem orb_nodup : (orb p x).Nodup := by
  unfold orb
  rw [List.nodup_iff_pairwise_ne, List.pairwise_map]
  refine List.Pairwise.imp_of_mem (fun {i j} hi hj hij e => ?_) (List.pairwise_lt_range (n := per p x))
  rw [List.mem_range] at hi hj
  have := it_eq_iff h hx hi hj e
  omega
theorem mem_orb : y ∈ orb p x ↔ ∃ k, it p k x = y := by
  constructor
  · intro z
    obtain ⟨k, _, e⟩ := List.mem_map.mp z
    exact ⟨k, e⟩
  · rintro ⟨k, rfl⟩
    rw [it_mod h hx]
    exact List.mem_map.mpr ⟨_, List.mem_range.mpr (Nat.mod_lt _ (per_spec h hx).1), rfl⟩
theorem orb_lt (z : y ∈ orb p x) : y < p.length := by
  obtain ⟨k, rfl⟩ := (mem_orb h hx).mp z
  exact it_lt h hx k
theorem self_orb : x ∈ orb p x := (mem_orb h hx).mpr ⟨0, rfl⟩
theorem orb_symm (z : y ∈ orb p x) : x ∈ orb p y := by
  have hy := orb_lt h hx z
  obtain ⟨k, rfl⟩ := (mem_orb h hx).mp z
  refine (mem_orb h hy).mpr ⟨per p x * k - k, ?_⟩
  have hk : k ≤ per p x * k := Nat.le_mul_of_pos_left k (per_spec h hx).1
  rw [← it_add, Nat.add_sub_cancel' hk, it_mul h hx]
theorem orb_trans {z : Nat} (a : y ∈ orb p x) (b : z ∈ orb p y) : z ∈ orb p x := by
  have hy := orb_lt h hx a
  obtain ⟨k, rfl⟩ := (mem_orb h hx).mp a
  obtain ⟨j, rfl⟩ := (mem_orb h hy).mp b
  exact (mem_orb h hx).mpr ⟨k + j, it_add p x k j⟩
end
/-! ### what is seen -/
theorem sn_iff {p : List Nat} {i j : Nat} : sn p i j = true ↔ ∃ f, f < i ∧ j ∈ orb p f := by
  unfold sn
  simp only [List.any_eq_true, List.mem_range, decide_eq_true_eq]
theorem sn_succ (p : List Nat) (i j : Nat) : sn p (i + 1) j = (sn p i j || decide (j ∈ orb p i)) := by
  unfold sn
  rw [List.range_succ, List.any_append]
  simp
theorem sn_seen {p : List Nat} (h : IsP p) {i : Nat} (hi : i < p.length) (s : sn p i i = true) (j : Nat) : sn p (i + 1) j = sn p i j := by
  rw [sn_succ]
  by_cases z : j ∈ orb p i
  · obtain ⟨f, hf, hm⟩ := sn_iff.mp s
    have hfl : f < p.length := by omega
    have : sn p i j = true := sn_iff.mpr ⟨f, hf, orb_trans h hfl hm z⟩
    rw [this]
    rfl
  · simp [z]
theorem sn_fresh {p : List Nat} (h : IsP p) {i : Nat} (hi : i < p.length) (s : sn p i i = false) {j : Nat} (z : j ∈ orb p i) : sn p i j = false := by
  cases e : sn p i j with
  | false => rfl
  | true =>
    obtain ⟨f, hf, hm⟩ := sn_iff.mp e
    have hfl : f < p.length := by omega
    have : sn p i i = true := sn_iff.mpr ⟨f, hf, orb_trans h hfl hm (orb_symm h hi z)⟩
    rw [s] at this
    cases this
theorem cycF_succ (p : List Nat) (i : Nat) : cycF p (i + 1) = cycF p i ++ if (!sn p i i && decide (1 < per p i)) = true then [orb p i] else [] := by
  unfold cycF
  rw [List.range_succ, List.filter_append, List.map_append]
  congr 1
  simp only [List.filter_cons, List.filter_nil]
  split <;> rfl
end Hw

namespace Hw
/-! ### products -/
theorem isP_range (n : Nat) : IsP (List.range n) := ⟨List.nodup_range, fun x hx => by rw [List.length_range]; exact List.mem_range.mp hx⟩
theorem ext_ap {p q : List Nat} (hl : p.length = q.length) (h : ∀ x, x < p.length → ap p x = ap q x) : p = q := by
  apply List.ext_getElem?
  intro x
  by_cases hx : x < p.length
  · rw [ap_get hx, ap_get (by rw [← hl]; exact hx), h x hx]
  · rw [List.getElem?_eq_none (by omega), List.getElem?_eq_none (by omega)]
theorem ap_map {n x : Nat} (f : Nat → Nat) (h : x < n) : ap ((List.range n).map f) x = f x := by
  unfold ap
  rw [List.getD_eq_getElem?_getD, List.getElem?_map, List.getElem?_range h]
  rfl
theorem ap_range {n x : Nat} (h : x < n) : ap (List.range n) x = x := by
  unfold ap
  rw [List.getD_eq_getElem?_getD, List.getElem?_range h]
  rfl
theorem ap_mul {p q : List Nat} {x : Nat} (h : x < p.length) : ap (mul p q) x = ap q (ap p x) := by
  unfold mul
  conv => lhs; unfold ap
  rw [List.getD_eq_getElem?_getD, List.getElem?_map, ap_get h]
  rfl
theorem isP_of_inj {p : List Nat} (h1 : ∀ x, x < p.length → ap p x < p.length) (h2 : ∀ x y, x < p.length → y < p.length → ap p x = ap p y → x = y) : IsP p := by
  refine ⟨?_, fun x hx => ?_⟩
  · rw [List.nodup_iff_pairwise_ne, List.pairwise_iff_getElem]
    intro i j hi hj hij e
    have a1 := ap_get hi
    have a2 := ap_get hj
    rw [List.getElem?_eq_getElem hi] at a1
    rw [List.getElem?_eq_getElem hj] at a2
    have := h2 i j hi hj (by rw [← Option.some.inj a1, ← Option.some.inj a2, e])
    omega
  · obtain ⟨i, hi, e⟩ := List.getElem_of_mem hx
    have a1 := ap_get hi
    rw [List.getElem?_eq_getElem hi] at a1
    rw [← e, Option.some.inj a1]
    exact h1 i hi
theorem isP_mul {p q : List Nat} (hp : IsP p) (hq : IsP q) (hl : p.length = q.length) : IsP (mul p q) := by
  have lt : ∀ x, x < p.length → ap p x < q.length := fun x hx => by rw [← hl]; exact ap_lt hp hx
  refine isP_of_inj (fun x hx => ?_) (fun x y hx hy e => ?_)
  · rw [mul_len] at hx ⊢
    rw [ap_mul hx, hl]
    exact ap_lt hq (lt x hx)
  · rw [mul_len] at hx hy
    rw [ap_mul hx, ap_mul hy] at e
    exact ap_inj hp hx hy (ap_inj hq (lt x hx) (lt y hy) e)
theorem mul_range_left {p : List Nat} {n : Nat} (h : p.length = n) : mul (List.range n) p = p := by
  refine ext_ap (by rw [mul_len, List.length_range, h]) fun x hx => ?_
  rw [mul_len] at hx
  have hx' : x < n := by rw [List.length_range] at hx; exact hx
  rw [ap_mul hx, ap_range hx']
theorem mul_range_right {p : List Nat} {n : Nat} (hp : IsP p) (h : p.length = n) : mul p (List.range n) = p := by
  refine ext_ap (by rw [mul_len]) fun x hx => ?_
  rw [mul_len] at hx
  rw [ap_mul hx, ap_range (by rw [← h]; exact ap_lt hp hx)]
theorem mul_assoc' {p q r : List Nat} (hp : IsP p) (h : p.length = q.length) : mul (mul p q) r = mul p (mul q r) := by
  refine ext_ap (by rw [mul_len, mul_len, mul_len]) fun x hx => ?_
  rw [mul_len, mul_len] at hx
  rw [ap_mul (by rw [mul_len]; exact hx), ap_mul hx, ap_mul hx, ap_mul (by rw [← h]; exact ap_lt hp hx)]
theorem inv_len (p : List Nat) : (inv p).length = p.length := by unfold inv; rw [List.length_map, List.length_range]
theorem ap_inv {p : List Nat} (hp : IsP p) {x : Nat} (hx : x < p.length) : ap (inv p) (ap p x) = x := by
  have hy := ap_lt hp hx
  unfold inv
  rw [ap_map _ hy]
  have h1 : p.idxOf (ap p x) < p.length := List.idxOf_lt_length_iff.mpr (ap_mem hx)
  have h2 : p[p.idxOf (ap p x)] = ap p x := List.getElem_idxOf h1
  have h3 := ap_get hx
  rw [List.getElem?_eq_getElem hx] at h3
  exact (List.getElem_inj (h₀ := h1) (h₁ := hx) hp.1).mp (by rw [h2, Option.some.inj h3])
theorem ap_surj {p : List Nat} (hp : IsP p) {y : Nat} (hy : y < p.length) : ∃ x, x < p.length ∧ ap p x = y := by
  obtain ⟨i, hi, e⟩ := List.getElem_of_mem (isP_mem hp hy)
  have h3 := ap_get hi
  rw [List.getElem?_eq_getElem hi] at h3
  exact ⟨i, hi, by rw [← Option.some.inj h3, e]⟩
theorem ap_inv' {p : List Nat} (hp : IsP p) {y : Nat} (hy : y < p.length) : ap p (ap (inv p) y) = y := by
  obtain ⟨x, hx, rfl⟩ := ap_surj hp hy
  rw [ap_inv hp hx]
theorem isP_inv {p : List Nat} (hp : IsP p) : IsP (inv p) := by
  refine isP_of_inj (fun x hx => ?_) (fun x y hx hy e => ?_)
  · rw [inv_len] at hx ⊢
    obtain ⟨z, hz, rfl⟩ := ap_surj hp hx
    rw [ap_inv hp hz]
    exact hz
  · rw [inv_len] at hx hy
    rw [← ap_inv' hp hx, ← ap_inv' hp hy, e]
theorem mul_inv {p : List Nat} (hp : IsP p) : mul p (inv p) = List.range p.length := by
  refine ext_ap (by rw [mul_len, List.length_range]) fun x hx => ?_
  rw [mul_len] at hx
  rw [ap_mul hx, ap_inv hp hx, ap_range hx]
theorem inv_mul {p : List Nat} (hp : IsP p) : mul (inv p) p = List.range p.length := by
  refine ext_ap (by rw [mul_len, inv_len, List.length_range]) fun x hx => ?_
  rw [mul_len] at hx
  have hx' := hx
  rw [inv_len] at hx'
  rw [ap_mul hx, ap_inv' hp hx', ap_range hx']
theorem inv_inv' {p : List Nat} (hp : IsP p) : inv (inv p) = p := by
  refine ext_ap (by rw [inv_len, inv_len]) fun x hx => ?_
  rw [inv_len, inv_len] at hx
  have h1 := ap_inv (isP_inv hp) (x := ap p x) (by rw [inv_len]; exact ap_lt hp hx)
  rw [ap_inv hp hx] at h1
  exact h1
/-- an inverse is known by its product -/
theorem inv_of {p q : List Nat} (hp : IsP p) (hl : q.length = p.length) (h : ∀ x, x < p.length → ap q (ap p x) = x) : q = inv p := by
  refine ext_ap (by rw [inv_len, hl]) fun y hy => ?_
  rw [hl] at hy
  obtain ⟨x, hx, rfl⟩ := ap_surj hp hy
  rw [h x hx, ap_inv hp hx]
/-! ### powers, order -/
theorem it_succ' (p : List Nat) (k x : Nat) : it p (k + 1) x = it p k (ap p x) := by
  rw [Nat.add_comm, it_add]
  rfl
section
variable {p : List Nat} (h : IsP p)
include h
theorem per_orb {f x : Nat} (hf : f < p.length) (hx : x ∈ orb p f) : per p x = per p f := by
  have hxl := orb_lt h hf hx
  obtain ⟨j, rfl⟩ := (mem_orb h hf).mp hx
  have key : ∀ k, per p (it p j f) ∣ k ↔ per p f ∣ k := fun k => by
    rw [← it_back_iff h hxl, ← it_back_iff h hf, ← it_add, Nat.add_comm, it_add]
    exact ⟨fun e => it_inj h (it_lt h hf k) hf j e, fun e => by rw [e]⟩
  exact Nat.dvd_antisymm ((key _).mpr (Nat.dvd_refl _)) ((key _).mp (Nat.dvd_refl _))
/-- everyone lies on the way of a least one -/
theorem low_ex {x : Nat} (hx : x < p.length) : ∃ f, f ≤ x ∧ sn p f f = false ∧ x ∈ orb p f := by
  have main : ∀ m f, f ≤ m → f ≤ x → x ∈ orb p f → ∃ f, f ≤ x ∧ sn p f f = false ∧ x ∈ orb p f := by
    intro m
    induction m with
    | zero =>
      intro f hf hfx hm
      have : f = 0 := by omega
      subst this
      exact ⟨0, by omega, rfl, hm⟩
    | succ m ih =>
      intro f hf hfx hm
      cases e : sn p f f with
      | false => exact ⟨f, hfx, e, hm⟩
      | true =>
        obtain ⟨g, hg, hgm⟩ := sn_iff.mp e
        exact ih g (by omega) (by omega) (orb_trans h (by omega) hgm hm)
  exact main x x (Nat.le_refl _) (Nat.le_refl _) (self_orb h hx)
theorem mem_cyc {c : List Nat} : c ∈ cyc p ↔ ∃ f, f < p.length ∧ sn p f f = false ∧ 1 < per p f ∧ c = orb p f := by
  unfold cyc cycF
  simp only [List.mem_map, List.mem_filter, List.mem_range, Bool.and_eq_true, Bool.not_eq_true', decide_eq_true_eq]
  constructor
  · rintro ⟨f, ⟨hf, h1, h2⟩, rfl⟩
    exact ⟨f, hf, h1, h2, rfl⟩
  · rintro ⟨f, hf, h1, h2, rfl⟩
    exact ⟨f, ⟨hf, h1, h2⟩, rfl⟩
theorem lcm_fold (k : Nat) : ∀ (cs : List (List Nat)) (r : Nat), cs.foldl (fun r c => Nat.lcm r c.length) r ∣ k ↔ r ∣ k ∧ ∀ c ∈ cs, c.length ∣ k
  | [], r => by simp
  | c :: cs, r => by
    rw [List.foldl_cons, lcm_fold k cs, Nat.lcm_dvd_iff]
    simp only [List.mem_cons, forall_eq_or_imp]
    exact ⟨fun ⟨⟨a, b⟩, c⟩ => ⟨a, b, c⟩, fun ⟨a, b, c⟩ => ⟨⟨a, b⟩, c⟩⟩
theorem ord_dvd (k : Nat) : ord p ∣ k ↔ ∀ x, x < p.length → it p k x = x := by
  unfold ord
  rw [lcm_fold h]
  constructor
  · rintro ⟨_, hc⟩ x hx
    obtain ⟨f, hfx, hs, hm⟩ := low_ex h hx
    have hf : f < p.length := by omega
    rw [it_back_iff h hx, per_orb h hf hm]
    by_cases z : 1 < per p f
    · have := hc (orb p f) ((mem_cyc h).mpr ⟨f, hf, hs, z, rfl⟩)
      rw [orb_len h hf] at this
      exact this
    · have := (per_spec h hf).1
      have e : per p f = 1 := by omega
      rw [e]
      exact Nat.one_dvd _
  · intro hk
    refine ⟨Nat.one_dvd _, fun c hc => ?_⟩
    obtain ⟨f, hf, _, _, rfl⟩ := (mem_cyc h).mp hc
    rw [orb_len h hf, ← it_back_iff h hf]
    exact hk f hf
theorem fold_pos : ∀ (cs : List (List Nat)) (r : Nat), 0 < r → (∀ c ∈ cs, 0 < c.length) → 0 < cs.foldl (fun r c => Nat.lcm r c.length) r
  | [], _, hr, _ => hr
  | c :: cs, r, hr, hc => fold_pos cs _ (Nat.lcm_pos hr (hc c List.mem_cons_self)) fun d hd => hc d (List.mem_cons_of_mem _ hd)
theorem cyc_len {c : List Nat} (hc : c ∈ cyc p) : 2 ≤ c.length ∧ c.length ≤ p.length := by
  obtain ⟨f, hf, _, h1, rfl⟩ := (mem_cyc h).mp hc
  rw [orb_len h hf]
  exact ⟨h1, (per_spec h hf).2.1⟩
theorem ord_pos : 0 < ord p := by
  unfold ord
  refine fold_pos h _ 1 (by omega) fun c hc => ?_
  have := cyc_len h hc
  omega
theorem cyc_dvd (hl : p.length ≤ 12) {c : List Nat} (hc : c ∈ cyc p) : c.length ∣ 27720 := by
  have h1 := cyc_len h hc
  have h2 : ∀ k, k ≤ 12 → 2 ≤ k → k ∣ 27720 := by decide
  exact h2 _ (by omega) h1.1
/-- p done j + 1 times -/
def tn (p : List Nat) (j : Nat) : List Nat := (List.range p.length).map fun x => it p (j + 1) x
omit h in
theorem tn_len (j : Nat) : (tn p j).length = p.length := by unfold tn; rw [List.length_map, List.length_range]
omit h in
theorem tn_zero : tn p 0 = p := by
  refine ext_ap (tn_len 0) fun x hx => ?_
  rw [tn_len] at hx
  unfold tn
  rw [ap_map _ hx]
  rfl
theorem tn_succ (j : Nat) : mul (tn p j) p = tn p (j + 1) := by
  refine ext_ap (by rw [mul_len, tn_len, tn_len]) fun x hx => ?_
  rw [mul_len, tn_len] at hx
  rw [ap_mul (by rw [tn_len]; exact hx)]
  unfold tn
  rw [ap_map _ hx, ap_map _ hx]
  rfl
theorem isP_tn : ∀ j, IsP (tn p j)
  | 0 => by rw [tn_zero]; exact h
  | j + 1 => by
    rw [← tn_succ h]
    exact isP_mul (isP_tn j) h (tn_len j)
theorem tn_idle (j : Nat) : tn p j = List.range p.length ↔ ord p ∣ j + 1 := by
  rw [ord_dvd h]
  constructor
  · intro e x hx
    have := congrArg (fun l => ap l x) e
    have this : ap (tn p j) x = ap (List.range p.length) x := this
    unfold tn at this
    rw [ap_map _ hx, ap_range hx] at this
    exact this
  · intro hk
    refine ext_ap (by rw [tn_len, List.length_range]) fun x hx => ?_
    rw [tn_len] at hx
    unfold tn
    rw [ap_map _ hx, ap_range hx, hk x hx]
theorem it_inv {x : Nat} (hx : x < p.length) : ∀ k, it p k (it (inv p) k x) = x
  | 0 => rfl
  | k + 1 => by
    have hq := isP_inv h
    have hlt := it_lt hq (x := x) (by rw [inv_len]; exact hx) k
    rw [inv_len] at hlt
    rw [it_succ']
    show it p k (ap p (ap (inv p) (it (inv p) k x))) = x
    rw [ap_inv' h hlt]
    exact it_inv hx k
theorem ord_inv : ord (inv p) = ord p := by
  have hq := isP_inv h
  have one : ∀ p : List Nat, IsP p → ∀ k, ord p ∣ k → ord (inv p) ∣ k := fun p h k hk => by
    rw [ord_dvd h] at hk
    rw [ord_dvd (isP_inv h), inv_len]
    intro x hx
    have hlt := it_lt (isP_inv h) (x := x) (by rw [inv_len]; exact hx) k
    rw [inv_len] at hlt
    have e1 := hk _ hlt
    rw [it_inv h hx k] at e1
    exact e1.symm
  refine Nat.dvd_antisymm (one p h _ (Nat.dvd_refl _)) ?_
  have := one (inv p) hq (ord (inv p)) (Nat.dvd_refl _)
  rw [inv_inv' h] at this
  exact this
end
/-- the same powers, the same order -/
theorem ord_eq {p q : List Nat} (hp : IsP p) (hq : IsP q) (h : ∀ k, (∀ x, x < p.length → it p k x = x) ↔ ∀ x, x < q.length → it q k x = x) : ord p = ord q := by
  refine Nat.dvd_antisymm ?_ ?_
  · rw [ord_dvd hp, h, ← ord_dvd hq]
    exact Nat.dvd_refl _
  · rw [ord_dvd hq, ← h, ← ord_dvd hp]
    exact Nat.dvd_refl _
/-! ### one cycle alone -/
def mvF (p : List Nat) (s : List Nat) (x : Nat) : Nat := if x ∈ s then ap p x else x
/-- only those of s are moved -/
def mv (p : List Nat) (s : List Nat) : List Nat := (List.range p.length).map (mvF p s)
theorem mv_len (p s : List Nat) : (mv p s).length = p.length := by unfold mv; rw [List.length_map, List.length_range]
theorem ap_mv {p s : List Nat} {x : Nat} (hx : x < p.length) : ap (mv p s) x = mvF p s x := by unfold mv; rw [ap_map _ hx]
section
variable {p : List Nat} (h : IsP p) {s : List Nat} (hs : ∀ x, x < p.length → (x ∈ s ↔ ap p x ∈ s))
include h hs
theorem isP_mv : IsP (mv p s) := by
  refine isP_of_inj (fun x hx => ?_) (fun x y hx hy e => ?_)
  · rw [mv_len] at hx ⊢
    rw [ap_mv hx]
    unfold mvF
    split
    · exact ap_lt h hx
    · exact hx
  · rw [mv_len] at hx hy
    rw [ap_mv hx, ap_mv hy] at e
    unfold mvF at e
    by_cases a : x ∈ s
    · by_cases b : y ∈ s
      · rw [if_pos a, if_pos b] at e
        exact ap_inj h hx hy e
      · rw [if_pos a, if_neg b] at e
        have := (hs x hx).mp a
        rw [e] at this
        exact absurd this b
    · by_cases b : y ∈ s
      · rw [if_neg a, if_pos b] at e
        have := (hs y hy).mp b
        rw [← e] at this
        exact absurd this a
      · rw [if_neg a, if_neg b] at e
        exact e
theorem it_mv {x : Nat} (hx : x < p.length) : ∀ k, it (mv p s) k x = if x ∈ s then it p k x else x
  | 0 => by split <;> rfl
  | k + 1 => by
    have ih := it_mv hx k
    show ap (mv p s) (it (mv p s) k x) = _
    rw [ih]
    by_cases a : x ∈ s
    · rw [if_pos a, if_pos a]
      have hlt := it_lt h hx k
      have inS : ∀ k, it p k x ∈ s := fun k => by
        induction k with
        | zero => exact a
        | succ k ih2 => exact (hs _ (it_lt h hx k)).mp ih2
      rw [ap_mv hlt]
      unfold mvF
      rw [if_pos (inS k)]
      rfl
    · rw [if_neg a, if_neg a, ap_mv hx]
      unfold mvF
      rw [if_neg a]
end
theorem orb_step {p : List Nat} (h : IsP p) {f : Nat} (hf : f < p.length) {x : Nat} (hx : x < p.length) : x ∈ orb p f ↔ ap p x ∈ orb p f := by
  constructor
  · intro m
    obtain ⟨k, rfl⟩ := (mem_orb h hf).mp m
    exact (mem_orb h hf).mpr ⟨k + 1, rfl⟩
  · intro m
    have hy := ap_lt h hx
    have m1 : ap p x ∈ orb p x := (mem_orb h hx).mpr ⟨1, rfl⟩
    exact orb_trans h hf m (orb_symm h hx m1)
theorem ord_mv {p : List Nat} (h : IsP p) {f : Nat} (hf : f < p.length) : ord (mv p (orb p f)) = per p f := by
  have hs : ∀ x, x < p.length → (x ∈ orb p f ↔ ap p x ∈ orb p f) := fun x hx => orb_step h hf hx
  have key : ∀ k, ord (mv p (orb p f)) ∣ k ↔ per p f ∣ k := fun k => by
    rw [ord_dvd (isP_mv h hs), mv_len, ← it_back_iff h hf]
    constructor
    · intro hk
      have := hk f hf
      rw [it_mv h hs hf, if_pos (self_orb h hf)] at this
      exact this
    · intro e x hx
      rw [it_mv h hs hx]
      split
      · rename_i m
        rw [it_back_iff h hx, per_orb h hf m, ← it_back_iff h hf]
        exact e
      · rfl
  exact Nat.dvd_antisymm ((key _).mpr (Nat.dvd_refl _)) ((key _).mp (Nat.dvd_refl _))
end Hw

namespace Hw
/-! ### sums -/
def sm (n : Nat) (F : Nat → Int) : Int := ((List.range n).map F).sum
theorem sm_zero (F : Nat → Int) : sm 0 F = 0 := rfl
theorem sm_succ (n : Nat) (F : Nat → Int) : sm (n + 1) F = sm n F + F n := by
  unfold sm
  rw [List.range_succ, List.map_append, List.sum_append]
  simp
theorem sm_congr {n : Nat} {F G : Nat → Int} (h : ∀ i, i < n → F i = G i) : sm n F = sm n G := by
  unfold sm
  congr 1
  exact List.map_congr_left fun i hi => h i (List.mem_range.mp hi)
theorem sm_add (F G : Nat → Int) : ∀ n, sm n (fun i => F i + G i) = sm n F + sm n G
  | 0 => rfl
  | n + 1 => by
    rw [sm_succ, sm_succ, sm_succ, sm_add F G n]
    omega
theorem sm_comb (F G T : Nat → Int) : ∀ n, sm n (fun i => F i + G i - 2 * T i) = sm n F + sm n G - 2 * sm n T
  | 0 => rfl
  | n + 1 => by
    rw [sm_succ, sm_succ, sm_succ, sm_succ, sm_comb F G T n]
    omega
def dd (n : Nat) (y : Nat → Nat → Int) : Int := sm n fun i => sm n fun j => y i j
theorem dd_sym {y : Nat → Nat → Int} (hs : ∀ i j, y i j = y j i) (h0 : ∀ i, y i i = 0) : ∀ n, dd n y = 2 * sm n fun j => sm j fun i => y i j
  | 0 => rfl
  | n + 1 => by
    have ih := dd_sym hs h0 n
    unfold dd at ih ⊢
    rw [sm_succ, sm_succ, sm_succ, h0]
    have e1 : (sm n fun i => sm (n + 1) fun j => y i j) = (sm n fun i => sm n fun j => y i j) + sm n fun i => y i n := by
      rw [← sm_add]
      exact sm_congr fun i _ => sm_succ n _
    have e2 : (sm n fun j => y n j) = sm n fun i => y i n := sm_congr fun i _ => hs n i
    rw [e1, e2, ih]
    omega
theorem perm_sum {l m : List Int} (h : l.Perm m) : l.sum = m.sum := by
  induction h with
  | nil => rfl
  | cons x _ ih => rw [List.sum_cons, List.sum_cons, ih]
  | swap x y l => simp only [List.sum_cons]; omega
  | trans _ _ a b => rw [a, b]
theorem nodup_count {l : List Nat} (h : l.Nodup) (a : Nat) : l.count a = if a ∈ l then 1 else 0 := by
  induction l with
  | nil => rfl
  | cons x r ih =>
    obtain ⟨h1, h2⟩ := List.nodup_cons.mp h
    rw [List.count_cons, ih h2]
    by_cases e : x = a
    · subst e
      simp [h1]
    · have e' : ¬ a = x := fun z => e z.symm
      simp [e, e']
theorem perm_of_mem {l m : List Nat} (hl : l.Nodup) (hm : m.Nodup) (h : ∀ x, x ∈ l ↔ x ∈ m) : l.Perm m := by
  rw [List.perm_iff_count]
  intro a
  rw [nodup_count hl, nodup_count hm]
  simp only [h a]
theorem perm_range {p : List Nat} (hp : IsP p) : p.Perm (List.range p.length) :=
  perm_of_mem hp.1 List.nodup_range fun x => ⟨fun m => List.mem_range.mpr (hp.2 x m), fun m => isP_mem hp (List.mem_range.mp m)⟩
theorem map_ap (p : List Nat) : (List.range p.length).map (ap p) = p := by
  refine ext_ap (by rw [List.length_map, List.length_range]) fun x hx => ?_
  rw [List.length_map, List.length_range] at hx
  rw [ap_map _ hx]
theorem sm_perm {p : List Nat} (hp : IsP p) (F : Nat → Int) : (sm p.length fun i => F (ap p i)) = sm p.length F := by
  unfold sm
  have e : (List.range p.length).map (fun i => F (ap p i)) = p.map F := by
    conv => rhs; rw [← map_ap p]
    rw [List.map_map]
    rfl
  rw [e]
  exact perm_sum ((perm_range hp).map F)
/-! ### pairs that stand the other way -/
def xx (p : List Nat) (i j : Nat) : Int := if decide (i < j) = decide (ap p i < ap p j) then 0 else 1
theorem xx_self (p : List Nat) (i : Nat) : xx p i i = 0 := by unfold xx; simp
theorem xx_sym {p : List Nat} (hp : IsP p) {i j : Nat} (hi : i < p.length) (hj : j < p.length) : xx p i j = xx p j i := by
  unfold xx
  by_cases e : i = j
  · subst e; rfl
  · have ne : ap p i ≠ ap p j := fun z => e (ap_inj hp hi hj z)
    have a : decide (i < j) = !decide (j < i) := by
      by_cases q : i < j
      · have : ¬ j < i := by omega
        simp [q, this]
      · have : j < i := by omega
        simp [q, this]
    have b : decide (ap p i < ap p j) = !decide (ap p j < ap p i) := by
      by_cases q : ap p i < ap p j
      · have : ¬ ap p j < ap p i := by omega
        simp [q, this]
      · have : ap p j < ap p i := by omega
        simp [q, this]
    rw [a, b]
    cases decide (j < i) <;> cases decide (ap p j < ap p i) <;> rfl
/-- xx within n, else nothing: symmetric everywhere -/
def xn (n : Nat) (y : Nat → Nat → Int) (i j : Nat) : Int := if i < n ∧ j < n then y i j else 0
theorem dd_xn (n : Nat) (y : Nat → Nat → Int) : dd n (xn n y) = dd n y := by
  unfold dd
  refine sm_congr fun i hi => sm_congr fun j hj => ?_
  unfold xn
  rw [if_pos ⟨hi, hj⟩]
theorem dd_half {n : Nat} {y : Nat → Nat → Int} (hs : ∀ i j, i < n → j < n → y i j = y j i) (h0 : ∀ i, y i i = 0) : dd n y = 2 * sm n fun j => sm j fun i => y i j := by
  rw [← dd_xn, dd_sym (y := xn n y)]
  · congr 1
    refine sm_congr fun j hj => sm_congr fun i hi => ?_
    unfold xn
    rw [if_pos ⟨by omega, hj⟩]
  · intro i j
    unfold xn
    by_cases q : i < n ∧ j < n
    · rw [if_pos q, if_pos ⟨q.2, q.1⟩]
      exact hs i j q.1 q.2
    · rw [if_neg q, if_neg (fun z => q ⟨z.2, z.1⟩)]
  · intro i
    unfold xn
    split
    · exact h0 i
    · rfl
theorem len_filter (P : Nat → Bool) : ∀ l : List Nat, ((l.filter P).length : Int) = (l.map fun x => if P x = true then (1 : Int) else 0).sum
  | [] => rfl
  | x :: r => by
    rw [List.map_cons, List.sum_cons, ← len_filter P r, List.filter_cons]
    by_cases e : P x = true
    · rw [if_pos e, if_pos e, List.length_cons]
      omega
    · rw [if_neg e, if_neg e]
      omega
theorem take_ap {p : List Nat} {j : Nat} (hj : j ≤ p.length) : p.take j = (List.range j).map (ap p) := by
  conv => lhs; rw [← map_ap p]
  rw [← List.map_take, List.take_range, Nat.min_eq_left hj]
theorem invs_sm {p : List Nat} (hp : IsP p) : (invs p : Int) = sm p.length fun j => sm j fun i => xx p i j := by
  unfold invs
  have e : ∀ l : List Nat, (((l.map (invAt p)).sum : Nat) : Int) = (l.map fun j => (invAt p j : Int)).sum := by
    intro l
    induction l with
    | nil => rfl
    | cons x r ih =>
      rw [List.map_cons, List.map_cons, List.sum_cons, List.sum_cons, ← ih]
      omega
  rw [e]
  refine sm_congr fun j hj => ?_
  unfold invAt
  rw [len_filter, take_ap (by omega), List.map_map]
  refine sm_congr fun i hi => ?_
  show (if decide (ap p j < ap p i) = true then (1 : Int) else 0) = xx p i j
  unfold xx
  have ne : ap p i ≠ ap p j := fun z => by
    have := ap_inj hp (by omega) hj z
    omega
  by_cases q : ap p j < ap p i
  · have q2 : ¬ ap p i < ap p j := by omega
    simp [q, q2, hi]
  · have q2 : ap p i < ap p j := by omega
    simp [q, q2, hi]
theorem dd_invs {p : List Nat} (hp : IsP p) : dd p.length (xx p) = 2 * (invs p : Int) := by
  rw [invs_sm hp]
  exact dd_half (fun i j hi hj => xx_sym hp hi hj) (xx_self p)
theorem bool3 (a b c : Bool) : (if a = c then (0 : Int) else 1) = (if a = b then (0 : Int) else 1) + (if b = c then (0 : Int) else 1) - 2 * ((if a = b then (0 : Int) else 1) * (if b = c then (0 : Int) else 1)) := by
  cases a <;> cases b <;> cases c <;> decide
theorem invs_mul {p q : List Nat} (hp : IsP p) (hq : IsP q) (hl : p.length = q.length) : ∃ t : Int, (invs (mul p q) : Int) = invs p + invs q - 2 * t := by
  have hpq := isP_mul hp hq hl
  have lt : ∀ i, i < p.length → ap p i < q.length := fun i hi => by rw [← hl]; exact ap_lt hp hi
  have e1 := dd_invs hpq
  rw [mul_len] at e1
  have e2 : dd p.length (xx (mul p q)) = dd p.length (xx p) + dd p.length (fun i j => xx q (ap p i) (ap p j)) - 2 * dd p.length (fun i j => xx p i j * xx q (ap p i) (ap p j)) := by
    unfold dd
    rw [← sm_comb]
    refine sm_congr fun i hi => ?_
    rw [← sm_comb]
    refine sm_congr fun j hj => ?_
    unfold xx
    rw [ap_mul hi, ap_mul hj]
    exact bool3 _ _ _
  have e3 : dd p.length (fun i j => xx q (ap p i) (ap p j)) = dd q.length (xx q) := by
    unfold dd
    have a : (sm p.length fun i => sm p.length fun j => xx q (ap p i) (ap p j)) = sm p.length fun i => sm p.length fun j => xx q (ap p i) j :=
      sm_congr fun i _ => sm_perm hp fun j => xx q (ap p i) j
    rw [a, sm_perm hp (fun i => sm p.length fun j => xx q i j), hl]
  have e4 := dd_half (n := p.length) (y := fun i j => xx p i j * xx q (ap p i) (ap p j)) (fun i j hi hj => by
    rw [xx_sym hp hi hj, xx_sym hq (lt i hi) (lt j hj)]) (fun i => by rw [xx_self]; simp)
  rw [dd_invs hp, e3, dd_invs hq, e4, e1] at e2
  exact ⟨sm p.length fun j => sm j fun i => xx p i j * xx q (ap p i) (ap p j), by omega⟩
theorem sgn_mul {p q : List Nat} (hp : IsP p) (hq : IsP q) (hl : p.length = q.length) : (invs (mul p q) : Int) % 2 = ((invs p : Int) + invs q) % 2 := by
  obtain ⟨t, e⟩ := invs_mul hp hq hl
  omega
end Hw

namespace Hw
/-! ### exchanges of two -/
def swF (i j x : Nat) : Nat := if x = i then j else if x = j then i else x
def sw (n i j : Nat) : List Nat := (List.range n).map (swF i j)
theorem sw_len (n i j : Nat) : (sw n i j).length = n := by unfold sw; rw [List.length_map, List.length_range]
theorem ap_sw {n i j x : Nat} (h : x < n) : ap (sw n i j) x = swF i j x := by unfold sw; rw [ap_map _ h]
theorem isP_sw {n i j : Nat} (hi : i < n) (hj : j < n) : IsP (sw n i j) := by
  refine isP_of_inj (fun x hx => ?_) (fun x y hx hy e => ?_)
  · rw [sw_len] at hx ⊢
    rw [ap_sw hx]
    unfold swF
    split
    · exact hj
    · split
      · exact hi
      · exact hx
  · rw [sw_len] at hx hy
    rw [ap_sw hx, ap_sw hy] at e
    unfold swF at e
    repeat (first | omega | split at e)
theorem sw_all : ∀ n, n ≤ 12 → ∀ i, i < n → ∀ j, j < n → i ≠ j → invs (sw n i j) % 2 = 1 := by decide +kernel
theorem sgn_sw {n i j : Nat} (hn : n ≤ 12) (hi : i < n) (hj : j < n) (h : i ≠ j) : (invs (sw n i j) : Int) % 2 = 1 := by
  have := sw_all n hn i hi j hj h
  omega
theorem invs_range_all : ∀ n, n ≤ 12 → invs (List.range n) = 0 := by decide +kernel
/-! ### a cycle, exchange by exchange -/
def ptF (p : List Nat) (f k x : Nat) : Nat := if x ∈ (orb p f).take k then (if x = it p (k - 1) f then f else ap p x) else x
def pt (p : List Nat) (f k : Nat) : List Nat := (List.range p.length).map (ptF p f k)
theorem pt_len (p : List Nat) (f k : Nat) : (pt p f k).length = p.length := by unfold pt; rw [List.length_map, List.length_range]
theorem ap_pt {p : List Nat} {f k x : Nat} (hx : x < p.length) : ap (pt p f k) x = ptF p f k x := by unfold pt; rw [ap_map _ hx]
section
variable {p : List Nat} (h : IsP p) {f : Nat} (hf : f < p.length)
include h hf
theorem mem_orb_take {k x : Nat} (hk : k ≤ per p f) : x ∈ (orb p f).take k ↔ ∃ i, i < k ∧ it p i f = x := by
  rw [List.mem_take_iff_getElem]
  constructor
  · rintro ⟨j, hj, e⟩
    have h1 := orb_get h hf (k := j) (by omega)
    have h2 := List.getElem?_eq_getElem (l := orb p f) (i := j) (by omega)
    rw [h1] at h2
    exact ⟨j, by omega, by rw [Option.some.inj h2, e]⟩
  · rintro ⟨i, hi, rfl⟩
    have hl := orb_len h hf
    refine ⟨i, by omega, ?_⟩
    have h1 := orb_get h hf (k := i) (by omega)
    have h2 := List.getElem?_eq_getElem (l := orb p f) (i := i) (by omega)
    rw [h1] at h2
    exact (Option.some.inj h2).symm
theorem pt_one : pt p f 1 = List.range p.length := by
  have ps := per_spec h hf
  refine ext_ap (by rw [pt_len, List.length_range]) fun x hx => ?_
  rw [pt_len] at hx
  rw [ap_pt hx, ap_range hx]
  unfold ptF
  by_cases m : x ∈ (orb p f).take 1
  · rw [if_pos m]
    obtain ⟨i, hi, e⟩ := (mem_orb_take h hf ps.1).mp m
    have : i = 0 := by omega
    subst this
    have e' : f = x := e
    show (if x = f then f else ap p x) = x
    rw [if_pos e'.symm]
    exact e'
  · rw [if_neg m]
theorem pt_succ {k : Nat} (h1 : 1 ≤ k) (h2 : k < per p f) : pt p f (k + 1) = mul (pt p f k) (sw p.length f (it p k f)) := by
  have hk := it_lt h hf k
  have ptlt : ∀ x, x < p.length → ptF p f k x < p.length := fun x hx => by
    unfold ptF
    repeat (first | exact ap_lt h hx | exact hf | exact hx | split)
  refine ext_ap (by rw [pt_len, mul_len, pt_len]) fun x hx => ?_
  rw [pt_len] at hx
  rw [ap_pt hx, ap_mul (by rw [pt_len]; exact hx), ap_pt hx, ap_sw (ptlt x hx)]
  have inj : ∀ {i j}, i < per p f → j < per p f → it p i f = it p j f → i = j := fun hi hj e => it_eq_iff h hf hi hj e
  by_cases m : x ∈ (orb p f).take k
  · obtain ⟨i, hi, rfl⟩ := (mem_orb_take h hf (by omega)).mp m
    have m2 : it p i f ∈ (orb p f).take (k + 1) := (mem_orb_take h hf (by omega)).mpr ⟨i, by omega, rfl⟩
    have nk : it p i f ≠ it p k f := fun e => by
      have := inj (by omega) h2 e
      omega
    have a1 : ptF p f (k + 1) (it p i f) = it p (i + 1) f := by
      unfold ptF
      rw [if_pos m2, Nat.add_sub_cancel, if_neg nk]
      rfl
    rw [a1]
    by_cases e : i = k - 1
    · have a2 : ptF p f k (it p i f) = f := by
        unfold ptF
        rw [if_pos m, e, if_pos rfl]
      rw [a2]
      unfold swF
      rw [if_pos rfl]
      have : i + 1 = k := by omega
      rw [this]
    · have ne : it p i f ≠ it p (k - 1) f := fun z => e (inj (by omega) (by omega) z)
      have a2 : ptF p f k (it p i f) = it p (i + 1) f := by
        unfold ptF
        rw [if_pos m, if_neg ne]
        rfl
      rw [a2]
      unfold swF
      rw [if_neg (fun z => by
        have := inj (i := i + 1) (j := 0) (by omega) (by omega) z
        omega), if_neg (fun z => by
        have := inj (i := i + 1) (j := k) (by omega) (by omega) z
        omega)]
  · have a2 : ptF p f k x = x := by
      unfold ptF
      rw [if_neg m]
    rw [a2]
    have nf : x ≠ f := fun e => m ((mem_orb_take h hf (by omega)).mpr ⟨0, by omega, e.symm⟩)
    by_cases e : x = it p k f
    · have m2 : x ∈ (orb p f).take (k + 1) := (mem_orb_take h hf (by omega)).mpr ⟨k, by omega, e.symm⟩
      unfold ptF swF
      rw [if_pos m2, Nat.add_sub_cancel, if_pos e, if_neg nf, if_pos e]
    · have m2 : x ∉ (orb p f).take (k + 1) := fun z => by
        obtain ⟨i, hi, e2⟩ := (mem_orb_take h hf (by omega)).mp z
        by_cases q : i = k
        · exact e (by rw [← e2, q])
        · exact m ((mem_orb_take h hf (by omega)).mpr ⟨i, by omega, e2⟩)
      unfold ptF swF
      rw [if_neg m2, if_neg nf, if_neg e]
theorem pt_all : pt p f (per p f) = mv p (orb p f) := by
  have ps := per_spec h hf
  refine ext_ap (by rw [pt_len, mv_len]) fun x hx => ?_
  rw [pt_len] at hx
  rw [ap_pt hx, ap_mv hx]
  unfold ptF mvF
  have e1 : (orb p f).take (per p f) = orb p f := by rw [← orb_len h hf, List.take_length]
  rw [e1]
  by_cases m : x ∈ orb p f
  · rw [if_pos m, if_pos m]
    by_cases e : x = it p (per p f - 1) f
    · rw [if_pos e, e]
      have : per p f = (per p f - 1) + 1 := by omega
      have e2 := ps.2.2.1
      rw [this] at e2
      exact e2.symm
    · rw [if_neg e]
  · rw [if_neg m, if_neg m]
theorem pt_sgn (hn : p.length ≤ 12) : ∀ k, k + 1 ≤ per p f → IsP (pt p f (k + 1)) ∧ (invs (pt p f (k + 1)) : Int) % 2 = (k : Int) % 2
  | 0, _ => by
    rw [pt_one h hf]
    refine ⟨isP_range _, ?_⟩
    rw [invs_range_all _ hn]
  | k + 1, hk => by
    obtain ⟨i1, i2⟩ := pt_sgn hn k (by omega)
    have hs := isP_sw hf (it_lt h hf (k + 1))
    have hl : (pt p f (k + 1)).length = (sw p.length f (it p (k + 1) f)).length := by rw [pt_len, sw_len]
    rw [pt_succ h hf (by omega) (by omega)]
    refine ⟨isP_mul i1 hs hl, ?_⟩
    rw [sgn_mul i1 hs hl]
    have ne : f ≠ it p (k + 1) f := fun e => by
      have := it_eq_iff h hf (i := 0) (j := k + 1) (by omega) (by omega) e
      omega
    have := sgn_sw hn hf (it_lt h hf (k + 1)) ne
    omega
theorem sgn_mv (hn : p.length ≤ 12) : (invs (mv p (orb p f)) : Int) % 2 = ((per p f : Int) - 1) % 2 := by
  have ps := per_spec h hf
  have := (pt_sgn h hf hn (per p f - 1) (by omega)).2
  rw [show per p f - 1 + 1 = per p f by omega, pt_all h hf] at this
  omega
end
end Hw

namespace Hw
/-! ### all cycles -/
section
variable {p : List Nat} (h : IsP p)
include h
theorem orb_disj {f g : Nat} (hf : f < p.length) (hg : g < p.length) (hfg : f < g) (sg : sn p g g = false) {x : Nat} (a : x ∈ orb p f) : x ∉ orb p g := fun b => by
  have : sn p g g = true := sn_iff.mpr ⟨f, hfg, orb_trans h hf a (orb_symm h hg b)⟩
  rw [sg] at this
  cases this
theorem cyc_pw : (cyc p).Pairwise fun c d => ∃ f g, f < p.length ∧ g < p.length ∧ f < g ∧ sn p f f = false ∧ sn p g g = false ∧ c = orb p f ∧ d = orb p g := by
  unfold cyc cycF
  rw [List.pairwise_map]
  refine List.Pairwise.imp_of_mem (fun {f g} hf hg hfg => ?_) (List.Pairwise.filter _ (List.pairwise_lt_range (n := p.length)))
  obtain ⟨a1, a2⟩ := List.mem_filter.mp hf
  obtain ⟨b1, b2⟩ := List.mem_filter.mp hg
  rw [List.mem_range] at a1 b1
  simp only [Bool.and_eq_true, Bool.not_eq_true'] at a2 b2
  exact ⟨f, g, a1, b1, hfg, a2.1, b2.1, rfl, rfl⟩
theorem cyc_disj {i j : Nat} {c d : List Nat} (hij : i < j) (hc : (cyc p)[i]? = some c) (hd : (cyc p)[j]? = some d) {x : Nat} (a : x ∈ c) : x ∉ d := by
  obtain ⟨hi, e1⟩ := List.getElem?_eq_some_iff.mp hc
  obtain ⟨hj, e2⟩ := List.getElem?_eq_some_iff.mp hd
  obtain ⟨f, g, hf, hg, hfg, _, sg, ec, ed⟩ := List.pairwise_iff_getElem.mp (cyc_pw h) i j hi hj hij
  rw [e1] at ec
  rw [e2] at ed
  rw [ec] at a
  rw [ed]
  exact orb_disj h hf hg hfg sg a
theorem flat_nodup : (cyc p).flatten.Nodup := by
  rw [List.nodup_iff_pairwise_ne, List.pairwise_flatten]
  refine ⟨fun c hc => ?_, List.Pairwise.imp (fun {c d} => ?_) (cyc_pw h)⟩
  · obtain ⟨f, hf, _, _, rfl⟩ := (mem_cyc h).mp hc
    exact List.nodup_iff_pairwise_ne.mp (orb_nodup h hf)
  · rintro ⟨f, g, hf, hg, hfg, _, sg, rfl, rfl⟩ x hx y hy e
    subst e
    exact orb_disj h hf hg hfg sg hx hy
theorem mem_flat {x : Nat} (hx : x < p.length) : x ∈ (cyc p).flatten ↔ ap p x ≠ x := by
  rw [List.mem_flatten]
  constructor
  · rintro ⟨c, hc, m⟩
    obtain ⟨f, hf, _, h1, rfl⟩ := (mem_cyc h).mp hc
    intro e
    have : per p x ∣ 1 := (it_back_iff h hx 1).mp e
    rw [per_orb h hf m] at this
    have := Nat.le_of_dvd (by omega) this
    omega
  · intro ne
    obtain ⟨f, hfx, hs, m⟩ := low_ex h hx
    have hf : f < p.length := by omega
    refine ⟨orb p f, (mem_cyc h).mpr ⟨f, hf, hs, ?_, rfl⟩, m⟩
    have ps := per_spec h hf
    rcases Nat.lt_or_ge 1 (per p f) with z | z
    · exact z
    · exfalso
      have e : per p f = 1 := by omega
      apply ne
      exact (it_back_iff h hx 1).mpr (by rw [per_orb h hf m, e]; exact Nat.dvd_refl _)
theorem flat_lt {x : Nat} (m : x ∈ (cyc p).flatten) : x < p.length := by
  obtain ⟨c, hc, m⟩ := List.mem_flatten.mp m
  obtain ⟨f, hf, _, _, rfl⟩ := (mem_cyc h).mp hc
  exact orb_lt h hf m
theorem take_closed (i : Nat) {x : Nat} (hx : x < p.length) : x ∈ ((cyc p).take i).flatten ↔ ap p x ∈ ((cyc p).take i).flatten := by
  rw [List.mem_flatten, List.mem_flatten]
  constructor
  · rintro ⟨c, hc, m⟩
    obtain ⟨f, hf, _, _, rfl⟩ := (mem_cyc h).mp (List.mem_of_mem_take hc)
    exact ⟨_, hc, (orb_step h hf hx).mp m⟩
  · rintro ⟨c, hc, m⟩
    obtain ⟨f, hf, _, _, rfl⟩ := (mem_cyc h).mp (List.mem_of_mem_take hc)
    exact ⟨_, hc, (orb_step h hf hx).mpr m⟩
theorem isP_take (i : Nat) : IsP (mv p ((cyc p).take i).flatten) := isP_mv h fun x hx => take_closed h i hx
theorem isP_cyc {c : List Nat} (hc : c ∈ cyc p) : IsP (mv p c) := by
  obtain ⟨f, hf, _, _, rfl⟩ := (mem_cyc h).mp hc
  exact isP_mv h fun x hx => orb_step h hf hx
theorem mv_next {i : Nat} {c : List Nat} (hc : (cyc p)[i]? = some c) : mul (mv p ((cyc p).take i).flatten) (mv p c) = mv p ((cyc p).take (i + 1)).flatten := by
  have hm := List.mem_of_getElem? hc
  obtain ⟨f, hf, _, _, ec⟩ := (mem_cyc h).mp hm
  have stp : ∀ x, x < p.length → (x ∈ c ↔ ap p x ∈ c) := fun x hx => by rw [ec]; exact orb_step h hf hx
  have dis : ∀ x, x ∈ ((cyc p).take i).flatten → x ∉ c := fun x m => by
    obtain ⟨d, hd, md⟩ := List.mem_flatten.mp m
    obtain ⟨j, hj, e⟩ := List.mem_take_iff_getElem.mp hd
    exact cyc_disj h (by omega) (List.getElem?_eq_some_iff.mpr ⟨by omega, e⟩) hc md
  refine ext_ap (by rw [mul_len, mv_len, mv_len]) fun x hx => ?_
  rw [mul_len, mv_len] at hx
  rw [ap_mul (by rw [mv_len]; exact hx), ap_mv hx, ap_mv hx]
  have e1 : ((cyc p).take (i + 1)).flatten = ((cyc p).take i).flatten ++ c := by
    rw [List.take_add_one, hc, List.flatten_append]
    simp
  rw [e1]
  unfold mvF
  by_cases m : x ∈ ((cyc p).take i).flatten
  · have m2 := (take_closed h i hx).mp m
    rw [if_pos m, ap_mv (ap_lt h hx), if_pos (List.mem_append_left _ m)]
    unfold mvF
    rw [if_neg (dis _ m2)]
  · rw [if_neg m, ap_mv hx]
    unfold mvF
    by_cases m3 : x ∈ c
    · rw [if_pos m3, if_pos (List.mem_append_right _ m3)]
    · rw [if_neg m3, if_neg (fun z => (List.mem_append.mp z).elim m m3)]
theorem mv_nil : mv p [] = List.range p.length := by
  refine ext_ap (by rw [mv_len, List.length_range]) fun x hx => ?_
  rw [mv_len] at hx
  rw [ap_mv hx, ap_range hx]
  unfold mvF
  rw [if_neg (by simp)]
theorem mv_flat : mv p (cyc p).flatten = p := by
  refine ext_ap (mv_len _ _) fun x hx => ?_
  rw [mv_len] at hx
  rw [ap_mv hx]
  unfold mvF
  by_cases m : x ∈ (cyc p).flatten
  · rw [if_pos m]
  · rw [if_neg m]
    exact (Classical.not_not.mp fun z => m ((mem_flat h hx).mpr z)).symm
theorem sgn_take (hn : p.length ≤ 12) : ∀ i, i ≤ (cyc p).length → (invs (mv p ((cyc p).take i).flatten) : Int) % 2 = (((cyc p).take i).map fun c => (c.length : Int) - 1).sum % 2
  | 0, _ => by
    have e : ((cyc p).take 0).flatten = [] := by simp
    rw [e, mv_nil h, invs_range_all _ hn]
    rfl
  | i + 1, hi => by
    have ih := sgn_take hn i (by omega)
    obtain ⟨c, hc⟩ : ∃ c, (cyc p)[i]? = some c := ⟨_, List.getElem?_eq_getElem (by omega)⟩
    have hm := List.mem_of_getElem? hc
    rw [← mv_next h hc, sgn_mul (isP_take h i) (isP_cyc h hm) (by rw [mv_len, mv_len])]
    obtain ⟨f, hf, _, _, ec⟩ := (mem_cyc h).mp hm
    have h1 := sgn_mv h hf hn
    have e1 : (cyc p).take (i + 1) = (cyc p).take i ++ [c] := by
      rw [List.take_add_one, hc]
      rfl
    rw [e1, List.map_append, List.sum_append]
    have hl : (c.length : Int) = per p f := by rw [ec, orb_len h hf]
    rw [← ec] at h1
    simp only [List.map_cons, List.map_nil, List.sum_cons, List.sum_nil]
    omega
theorem even_sgn (hn : p.length ≤ 12) : evenP p = decide ((invs p : Int) % 2 = 0) := by
  have := sgn_take h hn (cyc p).length (Nat.le_refl _)
  rw [List.take_length, mv_flat h] at this
  unfold evenP
  rw [← this]
theorem even_mul {q : List Nat} (hq : IsP q) (hl : p.length = q.length) (hn : p.length ≤ 12) : evenP (mul p q) = (evenP p == evenP q) := by
  rw [even_sgn (isP_mul h hq hl) (by rw [mul_len]; exact hn), even_sgn h hn, even_sgn hq (by rw [← hl]; exact hn), sgn_mul h hq hl]
  have h1 : (invs p : Int) % 2 = 0 ∨ (invs p : Int) % 2 = 1 := by omega
  have h2 : (invs q : Int) % 2 = 0 ∨ (invs q : Int) % 2 = 1 := by omega
  rcases h1 with a | a <;> rcases h2 with b | b
  · have : ((invs p : Int) + invs q) % 2 = 0 := by omega
    simp [a, b, this]
  · have : ((invs p : Int) + invs q) % 2 = 1 := by omega
    simp [a, b, this]
  · have : ((invs p : Int) + invs q) % 2 = 1 := by omega
    simp [a, b, this]
  · have : ((invs p : Int) + invs q) % 2 = 0 := by omega
    simp [a, b, this]
theorem even_inv (hn : p.length ≤ 12) : evenP (inv p) = evenP p := by
  have e := even_mul h (isP_inv h) (inv_len p).symm hn
  rw [mul_inv h, even_sgn (isP_range _) (by rw [List.length_range]; exact hn), invs_range_all _ hn] at e
  have e' : true = (evenP p == evenP (inv p)) := e
  revert e'
  cases evenP p <;> cases evenP (inv p) <;> decide
end
theorem even_sw {n i j : Nat} (hn : n ≤ 12) (hi : i < n) (hj : j < n) : evenP (sw n i j) = decide (i = j) := by
  rw [even_sgn (isP_sw hi hj) (by rw [sw_len]; exact hn)]
  by_cases e : i = j
  · subst e
    have : sw n i i = List.range n := by
      refine ext_ap (by rw [sw_len, List.length_range]) fun x hx => ?_
      rw [sw_len] at hx
      rw [ap_sw hx, ap_range hx]
      unfold swF
      by_cases z : x = i
      · rw [if_pos z, z]
      · rw [if_neg z, if_neg z]
    rw [this, invs_range_all _ hn]
    simp
  · have := sgn_sw hn hi hj e
    simp [e, this]
end Hw

/-! Further rules: enumerate(t) of a tuple, lcm(a, b), len(set(t)) of equal numbers, min(t) of a tuple of numbers. -/
namespace PySem
section
set_option maxHeartbeats 1000000 in
theorem hw_enum_meets {v : Value} {ob : Obj} {HH : Heap → Prop} (B : Begins v ob HH) :
    Meets (Builtin.«enumerate.__new__» ⟨[.type "enumerate", v], []⟩) (fun _ Res sh => HH sh.heap ∧ Res (.ok (.ret (.ref (sh.heap.push ob).objs.size)))
      { sh with heap := (sh.heap.push ob).push { cls := .type "enumerate", data := .fields #[.none, .bool false, .ref sh.heap.objs.size, rawInt 0, .none, .none] } }) :=
  .of_wp fun pr wo Ar Res sh hyp => by
    obtain ⟨hp, gg, dd, tt, oo⟩ := sh
    obtain ⟨hy1, hy2⟩ := hyp
    have sub_e := sub_enumerate
    have itr : ∀ {A2 : Around} {E2 : Value → Shared → Prop} {Q2 : Value → Shared → Prop}, Q2 (.ref hp.objs.size) ⟨hp.push ob, gg, dd, tt, oo⟩ → wpAny (model pr wo) A2 (pyIter v) Q2 E2 ⟨hp, gg, dd, tt, oo⟩ :=
      fun z => B.iter pr wo _ _ ⟨hp, gg, dd, tt, oo⟩ _ hy1 z
    wp_walk using itr
    refine wpAny_stack_any fun stk => wpAny_pure ?_
    split
    · rename_i cc _ _ _ _ _
      cases (cc == Value.type "enumerate") <;> (wp_walk using itr; exact ⟨_, rfl, hy2⟩)
    · wp_walk using itr
      exact ⟨_, rfl, hy2⟩
variable {prog : Program} {w : World} {A : Around} {E : Value → Shared → Prop} {s : Shared}
theorem hw_enum_call {v : Value} {ob : Obj} {HH : Heap → Prop} {Q : Value → Shared → Prop} (B : Begins v ob HH) (hy : HH s.heap)
    (k : ∀ h', IsEnum h' (s.heap.objs.size + 1) s.heap.objs.size 0 .none → h'.get? s.heap.objs.size = some ob → (∀ b o, s.heap.get? b = some o → h'.get? b = some o) → Q (.ref (s.heap.objs.size + 1)) { s with heap := h' }) :
    wpAny (model prog w) A (call (.type "enumerate") [v]) Q E s := by
  refine callType_new F.called_enumerate (by decide) (F.typeCall_enumerate_1 _) (F.newCall_enumerate_1 _)
    (fun x => F.args_object_init_2 x _) F.entry_enumerate_new (hw_enum_meets B) ⟨hy, ?_⟩
  have size1 : (s.heap.push ob).objs.size = s.heap.objs.size + 1 := by rw [Heap.size_push]
  show _ ∧ _
  rw [size1]
  have at2 := Heap.get?_push_size (s.heap.push ob) (o := { cls := .type "enumerate", data := .fields #[.none, .bool false, .ref s.heap.objs.size, rawInt 0, .none, .none] }) rfl
  rw [size1] at at2
  exact ⟨⟨_, at2, rfl⟩, k _ at2 (Heap.get?_push_of_some _ (Heap.get?_push_size _ B.free)) fun b o z => Heap.get?_push_of_some _ (Heap.get?_push_of_some _ z)⟩
end
end PySem
namespace Hw
open PySem PySem.Spec PyProof.Rows L2
/-! ### enumerate(t) -/
def IteT (K : PySem.W.Frag) (a : Addr) : It where
  go i H := ∃ (xs : List V) (x : V), SqT K H a xs ∧ xs[i]? = some x
  yld i H v H' := ∃ T x, v = .ref T ∧ H T = none ∧ H' = upd H T (.tup [.int (i : Nat), x]) ∧ ∀ xs, SqT K H a xs → xs[i]? = some x
  stop i H := ∃ xs : List V, SqT K H a xs ∧ xs.length = i
def TnE (a e it : Addr) (i : Nat) (h : Heap) : Prop := (∃ old, IsEnum h e it ((i : Nat) : Int) old) ∧ h.IsTupleIter it a i ∧ e ≠ it ∧ a ≠ it ∧ a ≠ e
theorem turn_enumT {P : Program} {w : World} {K : PySem.W.Frag} {elts : List Expr} {kk : Nat} {tpos : Pos} (a e it : Addr) : Turn P w K (.Tuple elts kk tpos) (IteT K a) [e, it] e (TnE a e it) where
  mem := List.mem_cons_self
  obj := by
    rintro i h ⟨⟨old, he⟩, ⟨o, ho, hc, hd⟩, _⟩ b hb
    rcases List.mem_cons.mp hb with z | hb
    · exact ⟨_, by rw [z]; exact he, fun v q => by cases q⟩
    · rw [List.mem_singleton.mp hb]
      exact ⟨o, ho, fun v q => by rw [hd] at q; cases q⟩
  keep := by
    rintro i h h' ⟨⟨old, he⟩, hi, n⟩ kp
    exact ⟨⟨old, kp e List.mem_cons_self _ he⟩, hi.at fun o q => kp it (List.mem_cons_of_mem _ List.mem_cons_self) o q, n⟩
  item := by
    rintro X rfl rfl rfl calm i pins s σ H E I free ⟨⟨old, he⟩, hit, n1, n2, n3⟩ ⟨xs, x, hq, hx⟩
    obtain ⟨its, rv, tT, szl⟩ := I.tuple hq
    obtain ⟨u, hu, ru⟩ := rv.get hx
    have lt_e : e < s.heap.objs.size := Heap.lt_size he
    have lt_i : it < s.heap.objs.size := by
      obtain ⟨_, z, _⟩ := hit
      exact Heap.lt_size z
    have lt_n : i < its.toArray.size := by
      have z := (List.getElem?_eq_some_iff.mp hu).1
      simpa using z
    refine wpAny_pyNext_enum_itemD (Draws.tuple (A := X.A.in1) (I.ok.hd calm) it a n2 its.toArray) he ⟨hit, tT⟩ lt_n n1 (fun m => ?_) fun y h2 tk hy out st2 new2 sz2 keep2 => ?_
    · rcases List.mem_cons.mp m with z | m
      · exact n1 z
      · exact n3 (List.mem_singleton.mp m).symm
    have ey : y = u := by
      have z : its[i]? = some y := by simpa using hy
      rw [hu] at z
      exact (Option.some.inj z).symm
    subst ey
    refine ⟨_, rfl, wpAny_letOwnedTupleGo_enum (s := { s with heap := h2, toks := tk + 1 }) out fun h3 he3 sb => ?_⟩
    have at3 := (sb.2 _ (Nat.ne_of_gt lt_e)).trans new2
    have made : ObjOk X.prog X.w (upd H s.heap.objs.size (.tup [.int (i : Nat), x])) h3 s.heap.objs.size (.tup [.int (i : Nat), x]) := by
      refine ⟨by show 2 ≤ sizeLine; decide, [.int i tk, y], .cons ⟨_, rfl⟩ (.cons ru .nil), ⟨_, at3, rfl, _, rfl⟩⟩
    have J := I.turnedNew (h' := h3) (t' := tk + 1) (ch := [e, it]) (fun b ob nb q => (sb.2 b (fun z => nb (by simp [z]))).trans (keep2 b ob (fun z => nb (by simp [z])) (fun z => nb (by simp [z])) q)) free (Nat.le_refl _) made
    refine ⟨.ref s.heap.objs.size, _, J, rfl, ⟨_, x, rfl, I.hok.fresh (Nat.le_refl _), rfl, fun ys hy => by rw [I.tuple_inj hy hq]; exact hx⟩, ⟨⟨y, ?_⟩, st2.1.at fun o q => (sb.2 it (Ne.symm n1)).trans q, n1, n2, n3⟩, fun b hb => ?_⟩
    · have e1 : ((i + 1 : Nat) : Int) = (i : Int) + 1 := by omega
      rw [e1]
      exact he3
    · have lt_b : b < s.heap.objs.size := by
        rcases List.mem_cons.mp hb with z | hb
        · rw [z]; exact lt_e
        · rw [List.mem_singleton.mp hb]; exact lt_i
      rw [upd_ne (Nat.ne_of_lt lt_b)]
      exact (free b hb).1
  done := by
    rintro X rfl rfl rfl calm i pins s σ H E I free ⟨⟨old, he⟩, hit, n1, n2, n3⟩ ⟨xs, hq, hx⟩
    obtain ⟨its, rv, tT, szl⟩ := I.tuple hq
    have e1 : its.toArray.size = i := by
      rw [List.size_toArray, ← rv.length, hx]
    obtain ⟨f0, f1, f2, f3, f4, f5⟩ := free it (List.mem_cons_of_mem _ List.mem_cons_self)
    refine wpAny_pyNext_enum_endD (Draws.tuple (A := X.A.in1) (I.ok.hd calm) it a n2 its.toArray) he ⟨by rw [e1]; exact hit, tT⟩ fun h2 eb => ⟨rfl, ?_⟩
    exact I.turned (t' := s.toks) (fun b o hb q => eb b o hb q) f0 f1 f3 f4 f5
  self := by
    rintro A i s Q E ⟨⟨_, he⟩, _⟩ q
    exact wpAny_pyIter_enum he q
def iEnumT (K : PySem.W.Frag) (ta : TA) : TI := fun σ H R => ta σ H fun vs H1 => ∃ a xs, vs = [.ref a] ∧ SqT K H1 a xs ∧ R (IteT K a) H1
theorem pi_enumT {X : Cx} {e : Expr} {ta : TA} {p pos tpos : Pos} {elts : List Expr} {kk : Nat} (gl : Gl X "enumerate") (nm : X.mg "enumerate" = none) (arg : PA X [e] ta)
    (st : starEach [e] X.env = [(false, eval e X.env)] := by rfl) : PI X (.Tuple elts kk tpos) (.Call (.Name "enumerate" p) [e] [] pos) (iEnumT X.K ta) := by
  constructor
  intro pins s σ H R I hyp
  refine Call_ (ld_blt I gl nm boot_enumerate (PyProof.Rows.callWith_type1 (thn (arg.run pos pins s σ H _ I hyp) ?_) st rfl))
  rintro us s1 ⟨vs, H1, I1, r1, a, xs, rfl, hq, q⟩
  rw [Vals.ref1 r1]
  obtain ⟨its, rv, tT, szl⟩ := I1.tuple hq
  refine hw_enum_call (begins_tuple a its.toArray) tT fun h' he hit keep => wpAny_pyIter_enum he ?_
  have J : Inv X pins σ H1 { s1 with heap := h' } := I1.kept (t' := s1.toks) keep
  have lt_a : a < s1.heap.objs.size := by
    obtain ⟨_, z, _⟩ := tT
    exact Heap.lt_size z
  refine ⟨s1.heap.objs.size + 1, [s1.heap.objs.size + 1, s1.heap.objs.size], _, _, H1, rfl, J, turn_enumT a (s1.heap.objs.size + 1) s1.heap.objs.size,
    ⟨⟨.none, he⟩, ⟨_, hit, rfl, rfl⟩, Nat.succ_ne_self _, Nat.ne_of_lt lt_a, Nat.ne_of_lt (Nat.lt_succ_of_lt lt_a)⟩, fun b hb => ?_, q⟩
  have le_b : s1.heap.objs.size ≤ b := by
    rcases List.mem_cons.mp hb with z | hb
    · rw [z]; exact Nat.le_succ _
    · rw [List.mem_singleton.mp hb]; exact Nat.le_refl _
  exact I1.fpOk le_b (I1.hok.fresh le_b)
theorem walk_enumT {K : PySem.W.Frag} {a : Addr} {xs : List V} : Walk (IteT K a) xs.length (fun H => SqT K H a xs) (YPair (fun i => some (.int (i : Nat))) (fun i => xs[i]?)) where
  goes i H hi q := ⟨xs, xs[i], q, by simp [hi]⟩
  stops H q := ⟨xs, q, rfl⟩
  yields := by
    rintro i H x H' hi q ⟨T, y, rfl, n, rfl, hy⟩
    exact ⟨T, _, y, rfl, n, rfl, rfl, hy xs q⟩
/-! ### lcm -/
section
variable {X : Cx}
def rLcm : List V → Hp → VK → Prop := fun vs H Q => ∃ a b : Nat, vs = [.int (a : Int), .int (b : Int)] ∧ a < 2 ^ 60 ∧ b < 2 ^ 60 ∧ Nat.lcm a b < 2 ^ 60 ∧ Q (.int ((Nat.lcm a b : Nat) : Int)) H
theorem small_log {n : Nat} (h : n < 2 ^ 60) : n.log2 < bitsLine := by
  have : n.log2 ≤ 60 := by
    by_cases z : n = 0
    · subst z; decide
    · have := (Nat.log2_lt z).mpr h
      omega
  exact Nat.lt_of_le_of_lt this (by decide)
theorem cr_lcm : CallR X (.builtin "math.lcm") rLcm := by
  rintro pins s σ H vs us Q I r ⟨a, b, rfl, ha, hb, hc, q⟩
  obtain ⟨t, u, rfl⟩ := Vals.int2 r
  refine PySem.W.mg_lcm_v (c := ((Nat.lcm a b : Nat) : Int)) (by rw [Int.natAbs_natCast]; omega) (by rw [Int.natAbs_natCast]; omega) ?_ (by rw [Int.natAbs_natCast]; exact small_log hc) ⟨.int _, H, I.tok _, ⟨_, rfl⟩, q⟩
  rw [Int.natAbs_natCast, Int.natAbs_natCast]
  congr 2
  simp [Nat.lcm]
/-! ### min(t) -/
theorem reads_ints {h : Heap} : ∀ {ns : List Int} {us : List Value}, Vals (ns.map V.int) us → ReadsAll h us (ns.map PyData.int) []
  | [], _, .nil => .nil
  | n :: ns, _, .cons r t => by
    obtain ⟨k, rfl⟩ := r
    exact .cons (as := []) (bs := []) (.int n k) (reads_ints t)
theorem depth_ints : ∀ ns : List Int, PyData.depthAll (ns.map PyData.int) = 0
  | [] => rfl
  | n :: ns => by
    show max 0 (PyData.depthAll (ns.map PyData.int)) = 0
    rw [depth_ints ns]
    rfl
def rMinT (K : PySem.W.Frag) : List V → Hp → VK → Prop := fun vs H Q => ∃ (a : Addr) (n : Int) (ns : List Int), vs = [V.ref a] ∧ SqT K H a ((n :: ns).map V.int) ∧ Q (.int (ns.foldl min n)) H
theorem cr_minT (calm : X.calm = true) (hu : X.A.units + 1 < cLine) : CallR X (.builtin "min") (rMinT X.K) := by
  rintro pins s σ H vs us Q I r ⟨a, n, ns, rfl, hs, q⟩
  obtain ⟨its, rv, tT, _⟩ := I.tuple hs
  rw [Vals.ref1 r]
  have rd : ReadsAll s.heap its.toArray.toList (PyData.int n :: ns.map PyData.int) [] := reads_ints (ns := n :: ns) rv
  refine PySem.W.min_tuple_data (I.ok.hd calm) tT rd ⟨?_, ?_⟩ ?_ fun i v h' tk bs _ rv' keep => ?_
  · intro x hx y hy
    obtain ⟨x', _, rfl⟩ := List.mem_map.mp (show x ∈ (n :: ns).map PyData.int from hx)
    obtain ⟨y', _, rfl⟩ := List.mem_map.mp (show y ∈ (n :: ns).map PyData.int from hy)
    rfl
  · intro x hx
    obtain ⟨x', _, rfl⟩ := List.mem_map.mp (show x ∈ (n :: ns).map PyData.int from hx)
    exact fun z => nomatch z
  · have z := depth_ints (n :: ns)
    rw [List.map_cons] at z
    rw [z]
    exact hu
  · rw [PySem.W.minD_ints] at rv'
    cases rv' with
    | int _ t => exact ⟨.int _, H, I.kept keep, ⟨_, rfl⟩, q⟩
/-! ### len(set(t)) where there is at most one number -/
def tLenSetT (K : PySem.W.Frag) (ta : TE) : TE := fun σ H Q => ta σ H fun x H1 => ∃ (l : Addr) (ns : List Int) (n : Int), x = .ref l ∧ SqT K H1 l (ns.map V.int) ∧ (∀ m ∈ ns, m = n) ∧ ns.length ≤ 1000 ∧ ∀ c : Nat, c ≤ 1 → Q (.int (c : Int)) H1
theorem pe_lenSetT {a : Expr} {ta : TE} {p p2 q pos : Pos} (gl : Gl X "len") (nm : X.mg "len" = none) (gl2 : Gl X "set") (nm2 : X.mg "set" = none) (arg : PE X a ta) (calm : X.calm = true := by rfl)
    (na : starEach [a] X.env = (false, eval a X.env) :: starEach [] X.env := by rfl) : PE X (.Call (.Name "len" p) [.Call (.Name "set" p2) [a] [] q] [] pos) (tLenSetT X.K ta) := by
  constructor
  intro pins s σ H Q I hyp
  refine Call_ (ld_blt I gl nm boot_len (PyProof.Rows.callWith_builtin1 (PyProof.Rows.args_cons ?_ rfl) rfl rfl))
  refine Call_ (ld_blt I gl2 nm2 boot_set (PyProof.Rows.callWith_type1 (PyProof.Rows.args_cons (thn (arg.run pins s σ H _ I hyp) ?_) na) na rfl))
  rintro v s1 ⟨x, H1, I1, r1, l, ns, n, rfl, hq, al, le, q1⟩
  obtain rfl : v = Value.ref l := r1
  refine PyProof.Rows.args_nil ?_
  obtain ⟨its, rv, tT, szl⟩ := I1.tuple hq
  refine call_set_tupI ns (I1.ok.hd calm) tT (by simpa using ints_of_vals rv) (by unfold scanBound; omega) fun h' tk c R _ keep => PyProof.Rows.args_nil ?_
  have J : Inv X pins σ H1 { s1 with heap := h', toks := tk } := I1.kept keep
  obtain ⟨o, es, ep, t, ho, hex, hd, _, nd, mem, sb, hf, hn, _⟩ := R
  have c1 : es.size ≤ 1 := by
    have sub : ∀ k ∈ es.toList.map keyOf, k = n := fun k hk => by
      have z := (mem k).mpr hk
      exact al k (of_decide_eq_true z)
    have l1 : (es.toList.map keyOf).length = es.size := by rw [List.length_map, Array.length_toList]
    rw [← l1]
    cases e1 : es.toList.map keyOf with
    | nil => simp
    | cons x r =>
      cases r with
      | nil => simp
      | cons y r =>
        exfalso
        rw [e1] at nd sub
        have ex := sub x List.mem_cons_self
        have ey := sub y (List.mem_cons_of_mem _ List.mem_cons_self)
        rw [ex, ey] at nd
        simp at nd
  exact call_len_set ho hex hd hf (by omega) ⟨.int es.size, H1, J.tok _, ⟨_, rfl⟩, q1 _ c1⟩
end
end Hw

/-! sorted(t) of a tuple of tuples of numbers that rises already -/
namespace Hw
open PySem PySem.Spec PyProof.Rows L2
theorem vals_refs : ∀ {ks : List (Addr × List Int)} {us : List Value}, Vals (ks.map fun k => V.ref k.1) us → us = ks.map fun k => Value.ref k.1
  | [], _, .nil => rfl
  | k :: ks, _, .cons r t => by
    obtain rfl : _ = Value.ref k.1 := r
    rw [vals_refs t]
    rfl
theorem refs_vals : ∀ ks : List (Addr × List Int), Vals (ks.map fun k => V.ref k.1) (ks.map fun k => Value.ref k.1)
  | [] => .nil
  | k :: ks => .cons rfl (refs_vals ks)
def encT (k : Addr × List Int) : PyData := .tuple (k.2.map PyData.int)
theorem le_encT (k l : Addr × List Int) : PySem.W.dataLe false encT k l = !decide (l.2 < k.2) := by
  show (!PySem.W.dataLt (.tuple (l.2.map PyData.int)) (.tuple (k.2.map PyData.int))) = _
  rw [PySem.W.dataLt_tuple]
  show (!PySem.W.rowLt (l.2.map PyData.int) (k.2.map PyData.int)) = _
  rw [PySem.W.dataLt_ints]
theorem each_refs {R : Value → Addr × List Int → Prop} : ∀ ks : List (Addr × List Int), (∀ k ∈ ks, R (.ref k.1) k) → PySem.W.EachIs R (ks.map fun k => Value.ref k.1) ks
  | [], _ => .nil
  | k :: ks, h => .cons (h k List.mem_cons_self) (each_refs ks fun l hl => h l (List.mem_cons_of_mem _ hl))
theorem each_out : ∀ {ks : List (Addr × List Int)} {out : List Value}, PySem.W.EachIs (fun v k => v = Value.ref k.1) out ks → out = ks.map fun k => Value.ref k.1
  | [], _, .nil => rfl
  | k :: ks, _, .cons e t => by
    rw [e, each_out t]
    rfl
section
variable {X : Cx}
def rSortTT (K : PySem.W.Frag) : List V → Hp → VK → Prop := fun vs H Q => ∃ (a : Addr) (ks : List (Addr × List Int)), vs = [V.ref a] ∧ SqT K H a (ks.map fun k => V.ref k.1) ∧ (∀ k ∈ ks, SqT K H k.1 (k.2.map V.int) ∧ k.2 ≠ []) ∧
  ks.Pairwise (fun k l => ¬ l.2 < k.2) ∧ ∀ p, H p = none → Q (.ref p) (upd H p (.lst (ks.map fun k => V.ref k.1)))
theorem cr_sortTT (hu : X.A.units + 64 < cLine) : CallR X (.builtin "sorted") (rSortTT X.K) := by
  rintro pins s σ H vs us Q I r ⟨a, ks, rfl, hs, hk, pw, q⟩
  obtain ⟨its, rv, tT, szl⟩ := I.tuple hs
  have ei := vals_refs rv
  rw [Vals.ref1 r]
  obtain ⟨o, ho, hc, n, hd⟩ := tT
  have hl : its.length ≤ sizeLine := by rw [← rv.length]; exact szl
  have hl2 : ks.length ≤ sizeLine := by rw [List.length_map] at szl; exact szl
  refine PySem.Calls.call_function_entry kind_sorted plain_sorted entry_sorted (args_sorted1 _) ?_
  unfold Builtin.«sorted»
  refine wpAny_bind (m := checkCount "sorted" 1 1 _) (wpAny_pure (wpAny_bind (wpAny_collect_seq a (.inr rfl) ho hc hd (fun h' keep => ?_) (by rw [List.size_toArray]; exact hl))))
  rw [List.toList_toArray]
  refine wpAny_bind (wpAny_newList ?_ hl)
  have J : Inv X pins σ H { s with heap := h' } := I.kept (t' := s.toks) keep
  have at1 := Heap.get?_push_size h' (o := ({ cls := .type "list", data := .seq its.toArray } : Obj)) rfl
  have rd : ∀ k ∈ ks, ∃ as, Reads (h'.push { cls := .type "list", data := .seq its.toArray }) (.ref k.1) (encT k) as ∧ h'.objs.size ∉ as := fun k m => by
    obtain ⟨us2, rv2, ⟨o2, ho2, hc2, n2, hd2⟩, _⟩ := J.tuple (hk k m).1
    have r2 := reads_ints (h := h'.push { cls := .type "list", data := .seq its.toArray }) rv2
    refine ⟨[], ?_, by simp⟩
    exact Reads.tuple (Heap.get?_push_of_some _ ho2) hc2 hd2 (by simpa using r2)
  have e1 : PySem.W.EachIs (fun v (k : Addr × List Int) => v = Value.ref k.1) its ks := by
    rw [ei]
    exact each_refs ks fun _ _ => rfl
  have e2 : PySem.W.EachIs (fun v (k : Addr × List Int) => ∃ as, Reads (h'.push { cls := .type "list", data := .seq its.toArray }) v (encT k) as ∧ h'.objs.size ∉ as) its ks := by
    conv => arg 2; rw [ei]
    exact each_refs ks rd
  have al : PySem.W.AllAlike (ks.map encT) := by
    intro d hd d' hd'
    obtain ⟨k, _, rfl⟩ := List.mem_map.mp hd
    obtain ⟨l, _, rfl⟩ := List.mem_map.mp hd'
    exact PySem.W.alike_ints k.2 l.2
  have srt : PySem.W.Sortable (ks.map encT) := .inl fun d hd => by
    obtain ⟨k, m, rfl⟩ := List.mem_map.mp hd
    have ne := (hk k m).2
    unfold encT
    cases e : k.2 with
    | nil => exact absurd e ne
    | cons x r => exact ⟨_, _, rfl⟩
  refine wpAny_bind (wpAny_holding (wpAny_mono (PySem.W.list_sort_data (s := { s with heap := h'.push { cls := .type "list", data := .seq its.toArray } }) (vs := its) (bs := ks) (enc := encT) (R := fun v k => v = Value.ref k.1)
    (E := X.xe) (Q := fun _ s' => s' = { s with heap := sortedHeap (h'.push { cls := .type "list", data := .seq its.toArray }) h'.objs.size its its.toArray }) at1 e1 e2 al srt hl2 (fun k m => ?_) (fun out _ eo => ?_)) (fun u s' es => ?_) fun _ _ z => z))
  · have : (encT k).depth = 0 + 1 := by
      show PyData.depthAll (k.2.map PyData.int) + 1 = 0 + 1
      rw [Hw.depth_ints]
    rw [this]
    show X.A.units + 1 + 1 + (0 + 1) < cLine
    omega
  · have ms : ks.mergeSort (PySem.W.dataLe false encT) = ks := by
      refine List.mergeSort_of_pairwise (List.Pairwise.imp (fun {k l} n => ?_) pw)
      rw [le_encT]
      simp [n]
    rw [ms] at eo
    have := each_out eo
    rw [this, ei]
  · subst es
    obtain ⟨c, hc2⟩ := sortedHeap_at (out := its.toArray) at1
    have old : ∀ b ob, h'.get? b = some ob → (sortedHeap (h'.push { cls := .type "list", data := .seq its.toArray }) h'.objs.size its its.toArray).get? b = some ob := fun b ob e => by
      have lt2 := Heap.lt_size e
      rw [sortedHeap_old (Nat.ne_of_lt lt2) (by rw [Heap.size_push]; exact Nat.lt_succ_of_lt lt2)]
      exact Heap.get?_push_of_some _ e
    refine wpAny_pure ⟨_, rfl, .ref h'.objs.size, upd H h'.objs.size (.lst (ks.map fun k => V.ref k.1)), J.laid (t' := s.toks) old (Nat.le_refl _) ⟨szl, its, c, rv, hc2⟩, rfl, q _ (J.hok.fresh (Nat.le_refl _))⟩
end
end Hw

namespace Hw
open PySem PySem.Spec PyProof.Rows L2
/-- the same rule, its reading by a name -/
def tCal (sp : Sp) (t : TA) : TE := fun σ H Q => t σ H fun vs H1 => sp vs H1 Q E0
theorem pe_cl {X : Cx} {k : Nat} {sp : Sp} {x : Str} {p pos : Pos} {e : Expr} {es : List Expr} {t : TA} (c : Cal X.prog X.w X.K X.mg X.base x k sp) (hr : Room k X.A) (hg : Gl X x) (ha : PA X (e :: es) t) (hdb : (x == ("__debug__" : Str)) = false := by decide)
    (he : starEach (e :: es) X.env = (false, eval e X.env) :: starEach es X.env := by rfl) (hpl : (backTo pos (starEach es X.env)).any (·.1) = false := by rfl) :
    PE X (.Call (.Name x p) (e :: es) [] pos) (tCal sp t) := pe_cal c hr hg ha hdb he hpl
/-- numbers as values -/
def NV (p : List Nat) : List V := p.map fun n : Nat => V.int (n : Int)
theorem NV_len (p : List Nat) : (NV p).length = p.length := by unfold NV; rw [List.length_map]
theorem NV_get {p : List Nat} {i x : Nat} (h : p[i]? = some x) : (NV p)[i]? = some (.int (x : Int)) := by
  unfold NV
  rw [List.getElem?_map, h]
  rfl
theorem NV_get' {p : List Nat} {i : Nat} {v : V} (h : (NV p)[i]? = some v) : ∃ x : Nat, p[i]? = some x ∧ v = .int (x : Int) := by
  unfold NV at h
  rw [List.getElem?_map] at h
  cases e : p[i]? with
  | none => rw [e] at h; cases h
  | some x => rw [e] at h; exact ⟨x, rfl, (Option.some.inj h).symm⟩
theorem NV_range (n : Nat) : rgV 0 (n : Int) = NV (List.range n) := by
  unfold rgV NV
  rw [show ((n : Int) - 0).toNat = n by omega]
  apply List.map_congr_left
  intro i _
  congr 1
  omega
theorem NV_snoc (p : List Nat) (x : Nat) : NV (p ++ [x]) = NV p ++ [V.int (x : Int)] := by unfold NV; rw [List.map_append]; rfl
theorem walk_rg0 {n : Nat} : Walk (Itr 0 n) n (fun _ => True) (fun i H x H' => H' = H ∧ x = .int (i : Nat)) :=
  (walk_range (lo := 0) (n := n)).mono (fun _ z => z) fun i H x H' _ _ y => ⟨y.1, by rw [y.2]; show V.int (0 + (i : Int)) = _; rw [show (0 : Int) + (i : Int) = (i : Int) by omega]⟩
/-- a tuple of numbers at a -/
abbrev Tp (H : Hp) (a : Addr) (p : List Nat) : Prop := H a = some (.tup (NV p))
theorem same_upd {H : Hp} {p : Addr} {o : HO} (h : H p = none) : Same H (upd H p o) := fun b x e => by
  rw [upd_ne (ne_of_none e h)]
  exact e
theorem sq_of {K : PySem.W.Frag} {H : Hp} {a : Addr} {xs : List V} (h : H a = some (.tup xs)) : SqT K H a xs := .inl (.inl h)
theorem sl_of {K : PySem.W.Frag} {H : Hp} {a : Addr} {xs : List V} (h : H a = some (.lst xs)) : SqL K H a xs := .inl (.inl h)
theorem fresh_of {p : List Nat} {i x : Nat} (hd : p.Nodup) (h : p[i]? = some x) : x ∉ p.take i := by
  intro z
  obtain ⟨j, hj, e⟩ := List.mem_take_iff_getElem.mp z
  obtain ⟨hi, e2⟩ := List.getElem?_eq_some_iff.mp h
  have hj' : j < p.length := by omega
  have := (List.getElem_inj (h₀ := hj') (h₁ := hi) hd).mp (by rw [e, e2])
  omega
theorem NV_set (p : List Nat) (x v : Nat) : (NV p).set x (V.int (v : Int)) = NV (p.set x v) := by unfold NV; rw [List.map_set]
theorem NV_rep (n x : Nat) : NV (List.replicate n x) = List.replicate n (V.int (x : Int)) := by unfold NV; rw [List.map_replicate]
theorem rep_flat {v : V} (n : Nat) : (List.replicate (Int.toNat (n : Int)) [v]).flatten = List.replicate n v := by
  rw [Int.toNat_natCast, List.flatten_replicate_singleton]
theorem tp_upd {H : Hp} {b l : Addr} {c : List Nat} {xs : List V} {o : HO} (h : Tp H b c) (hl : H l = some (.lst xs)) : Tp (upd H l o) b c := by
  show upd H l o b = _
  rw [upd_ne (ne_of h hl (by intro q; cases q))]
  exact h
theorem tp_new {H : Hp} {b l : Addr} {c : List Nat} {o : HO} (h : Tp H b c) (hl : H l = none) : Tp (upd H l o) b c := same_upd hl _ _ h
theorem same_in {H H' : Hp} {l : Addr} {o : HO} (sm : Same H H') (h : H l = none) : Same H (upd H' l o) := fun b u e => by
  rw [upd_ne (ne_of_none e h)]
  exact sm _ _ e
theorem cut_to (xs : List V) (k : Nat) : cutV xs none (some (k : Int)) = xs.take k := by
  unfold cutV
  rw [show HT.sIx xs.length 0 none = 0 from HT.sIx_none _ _, show HT.sIx xs.length xs.length (some (k : Int)) = min k xs.length from HT.sIx_nat _ _ _, List.drop_zero, Nat.sub_zero]
  rcases Nat.le_total k xs.length with h | h
  · rw [Nat.min_eq_left h]
  · rw [Nat.min_eq_right h, List.take_length, List.take_of_length_le h]
theorem cut_from (xs : List V) (k : Nat) : cutV xs (some (k : Int)) none = xs.drop k := by
  unfold cutV
  rw [show HT.sIx xs.length 0 (some (k : Int)) = min k xs.length from HT.sIx_nat _ _ _, show HT.sIx xs.length xs.length none = xs.length from HT.sIx_none _ _]
  rcases Nat.le_total k xs.length with h | h
  · rw [Nat.min_eq_left h]
    exact List.take_of_length_le (by rw [List.length_drop]; exact Nat.le_refl _)
  · rw [Nat.min_eq_right h, Nat.sub_self, List.drop_of_length_le h]
    rfl
theorem NV_take (p : List Nat) (k : Nat) : (NV p).take k = NV (p.take k) := by unfold NV; rw [List.map_take]
theorem NV_drop (p : List Nat) (k : Nat) : (NV p).drop k = NV (p.drop k) := by unfold NV; rw [List.map_drop]
theorem nv_len {ps : List (Addr × List Nat)} : (ps.map fun p => V.ref p.1).length = ps.length := by rw [List.length_map]
theorem refs_get {ps : List (Addr × List Nat)} {i : Nat} {v : V} (h : (ps.map fun p => V.ref p.1)[i]? = some v) : ∃ p, ps[i]? = some p ∧ v = .ref p.1 := by
  rw [List.getElem?_map] at h
  cases e : ps[i]? with
  | none => rw [e] at h; cases h
  | some p => rw [e] at h; exact ⟨p, rfl, (Option.some.inj h).symm⟩
theorem at_int {cs : List Int} {i : Nat} {c x : Int} (h : cs[i]? = some c) (e : x = (i : Int)) : atI (cs.map V.int) x = some (.int c) := by
  rw [e]
  refine atI_nat ?_
  rw [List.getElem?_map, h]
  rfl
theorem ix_at {n i : Nat} {x : Int} (h : i < n) (e : x = (i : Int)) : ixN n x = some i := by
  rw [e]
  unfold ixN
  rw [if_pos (by omega), if_pos (by omega)]
  rfl
theorem set_int (cs : List Int) (i : Nat) (x : Int) : (cs.map V.int).set i (V.int x) = (cs.set i x).map V.int := by rw [List.map_set]
/-! ### what is compared -/
theorem lay_ints : ∀ ns : List Int, PyData.canLayAll0 (ns.map PyData.int) = true
  | [] => rfl
  | n :: ns => by
    show (PyData.canLay0 (.int n) && PyData.canLayAll0 (ns.map PyData.int)) = true
    rw [lay_ints ns]
    rfl
theorem shaped_li (ns : List Int) : SeqAt.shaped (.list (ns.map PyData.int)) = true := by
  unfold SeqAt.shaped
  have e : (PyData.list (ns.map PyData.int)).depth = 0 + 1 := by
    show PyData.depthAll (ns.map PyData.int) + 1 = 0 + 1
    rw [depth_ints]
  rw [e]
  show (PyData.canLayAll0 (ns.map PyData.int) && _) = true
  rw [lay_ints]
  rfl
theorem shaped_ti (ns : List Int) : SeqAt.shaped (.tuple (ns.map PyData.int)) = true := by
  unfold SeqAt.shaped
  have e : (PyData.tuple (ns.map PyData.int)).depth = 0 + 1 := by
    show PyData.depthAll (ns.map PyData.int) + 1 = 0 + 1
    rw [depth_ints]
  rw [e]
  show (PyData.canLayAll0 (ns.map PyData.int) && _) = true
  rw [lay_ints]
  rfl
theorem eqv_ints : ∀ ns ms : List Int, PyData.eqvAll (ns.map PyData.int) (ms.map PyData.int) = decide (ns = ms)
  | [], [] => by simp [PyData.eqvAll]
  | [], m :: ms => by simp [PyData.eqvAll]
  | n :: ns, [] => by simp [PyData.eqvAll]
  | n :: ns, m :: ms => by
    show (PyData.eqv (.int n) (.int m) && PyData.eqvAll (ns.map PyData.int) (ms.map PyData.int)) = _
    rw [eqv_ints ns ms]
    by_cases e : n = m
    · by_cases e2 : ns = ms <;> simp [PyData.eqv, e, e2]
    · simp [PyData.eqv, e]
theorem eqv_li (ns ms : List Int) : PyData.eqv (.list (ns.map PyData.int)) (.list (ms.map PyData.int)) = decide (ns = ms) := eqv_ints ns ms
theorem eqv_ti (ns ms : List Int) : PyData.eqv (.tuple (ns.map PyData.int)) (.tuple (ms.map PyData.int)) = decide (ns = ms) := eqv_ints ns ms
theorem dpa_ints {K : PySem.W.Frag} {H : Hp} : ∀ ns : List Int, DpAll K H (ns.map V.int) (ns.map PyData.int)
  | [] => .nil
  | n :: ns => .cons (.int n) (dpa_ints ns)
theorem dp_li {K : PySem.W.Frag} {H : Hp} {a : Addr} {ns : List Int} (h : SqL K H a (ns.map V.int)) : Dp K H (.ref a) (.list (ns.map PyData.int)) := .lst h (dpa_ints ns)
theorem dp_ti {K : PySem.W.Frag} {H : Hp} {a : Addr} {ns : List Int} (h : SqT K H a (ns.map V.int)) : Dp K H (.ref a) (.tuple (ns.map PyData.int)) := .tup h (dpa_ints ns)
theorem perm_out {α : Type} {xs : List α} {d : Nat} {y : α} (h : xs[d]? = some y) : (y :: xs.eraseIdx d).Perm xs := by
  obtain ⟨hd, e⟩ := List.getElem?_eq_some_iff.mp h
  rw [List.eraseIdx_eq_take_drop_succ]
  have e2 : xs = xs.take d ++ y :: xs.drop (d + 1) := by
    rw [← e, List.getElem_cons_drop, List.take_append_drop]
  have p := (List.perm_middle (a := y) (l₁ := xs.take d) (l₂ := xs.drop (d + 1))).symm
  rw [← e2] at p
  exact p
theorem seq_ix {d n : Nat} (h : d < n) : seqIndex? (d : Int) n = some d := by
  unfold seqIndex?
  have h1 : ¬ ((d : Int) < 0) := by omega
  have h2 : (0 : Int) ≤ (d : Int) := by omega
  have h3 : (d : Int) < (n : Int) := by omega
  simp [h1, h2, h3]
def numOf : V → Nat
  | .int i => i.toNat
  | _ => 0
theorem numOf_NV (p : List Nat) : (NV p).map numOf = p := by
  unfold NV
  rw [List.map_map]
  have : (numOf ∘ fun n : Nat => V.int (n : Int)) = id := by
    funext n
    show ((n : Int)).toNat = n
    omega
  rw [this, List.map_id]
theorem perm_NV {ys : List V} {l : List Nat} (h : ys.Perm (NV l)) : ∃ p, ys = NV p ∧ p.Perm l := by
  refine ⟨ys.map numOf, ?_, ?_⟩
  · unfold NV
    rw [List.map_map]
    conv => lhs; rw [← List.map_id ys]
    apply List.map_congr_left
    intro v hv
    obtain ⟨n, _, rfl⟩ := List.mem_map.mp (h.mem_iff.mp hv)
    show V.int (n : Int) = V.int ((((n : Int)).toNat : Nat) : Int)
    rw [Int.toNat_natCast]
  · have := h.map numOf
    rw [numOf_NV] at this
    exact this
def NI (p : List Nat) : List Int := p.map fun n : Nat => (n : Int)
theorem NV_NI (p : List Nat) : NV p = (NI p).map V.int := by
  unfold NV NI
  rw [List.map_map]
  rfl
theorem NI_inj : ∀ {p q : List Nat}, NI p = NI q → p = q
  | [], [], _ => rfl
  | [], _ :: _, h => by cases h
  | _ :: _, [], h => by cases h
  | x :: p, y :: q, h => by
    have h' : ((x : Int) :: NI p) = (y : Int) :: NI q := h
    injection h' with h1 h2
    rw [NI_inj h2, Int.ofNat.inj h1]
theorem dp_tp {K : PySem.W.Frag} {H : Hp} {a : Addr} {p : List Nat} (h : Tp H a p) : Dp K H (.ref a) (.tuple ((NI p).map PyData.int)) :=
  dp_ti (sq_of (by rw [← NV_NI]; exact h))
theorem eqv_tp (p q : List Nat) : PyData.eqv (.tuple ((NI p).map PyData.int)) (.tuple ((NI q).map PyData.int)) = decide (p = q) := by
  rw [eqv_ti]
  by_cases e : p = q
  · rw [decide_eq_true e, e]
    exact decide_eq_true rfl
  · rw [decide_eq_false e]
    exact decide_eq_false fun z => e (NI_inj z)
/-! ### tuples of tuples as data -/
def dC (cs : List (List Nat)) : PyData := .list (cs.map fun c => .tuple ((NI c).map PyData.int))
theorem lay_cs : ∀ cs : List (List Nat), PyData.canLayAll0 (cs.map fun c => PyData.tuple ((NI c).map PyData.int)) = true
  | [] => rfl
  | c :: cs => by
    show (PyData.canLayAll0 ((NI c).map PyData.int) && PyData.canLayAll0 (cs.map fun c => PyData.tuple ((NI c).map PyData.int))) = true
    rw [lay_ints, lay_cs cs]
    rfl
theorem depth_cs : ∀ cs : List (List Nat), PyData.depthAll (cs.map fun c => PyData.tuple ((NI c).map PyData.int)) ≤ 1
  | [] => Nat.zero_le _
  | c :: cs => by
    show max (PyData.depthAll ((NI c).map PyData.int) + 1) (PyData.depthAll (cs.map fun c => PyData.tuple ((NI c).map PyData.int))) ≤ 1
    rw [depth_ints]
    exact Nat.max_le.mpr ⟨Nat.le_refl _, depth_cs cs⟩
theorem shaped_cs (cs : List (List Nat)) : SeqAt.shaped (dC cs) = true := by
  unfold SeqAt.shaped
  have e : (dC cs).depth ≤ 64 := by
    show PyData.depthAll (cs.map fun c => PyData.tuple ((NI c).map PyData.int)) + 1 ≤ 64
    have := depth_cs cs
    omega
  show (PyData.canLayAll0 (cs.map fun c => PyData.tuple ((NI c).map PyData.int)) && _) = true
  rw [lay_cs, decide_eq_true e]
  rfl
theorem eqv_cs (cs : List (List Nat)) : PyData.eqv (dC cs) (dC cs) = true := SeqAt.eqv_refl _ (lay_cs cs)
theorem dpa_cs {K : PySem.W.Frag} {H : Hp} : ∀ ks : List (Addr × List Nat), (∀ k ∈ ks, Tp H k.1 k.2) → DpAll K H (ks.map fun k => V.ref k.1) ((ks.map (·.2)).map fun c => PyData.tuple ((NI c).map PyData.int))
  | [], _ => .nil
  | k :: ks, h => .cons (dp_tp (h k List.mem_cons_self)) (dpa_cs ks fun l hl => h l (List.mem_cons_of_mem _ hl))
theorem dp_cs {K : PySem.W.Frag} {H : Hp} {a : Addr} {ks : List (Addr × List Nat)} {cs : List (List Nat)} (h : SqL K H a (ks.map fun k => V.ref k.1)) (hk : ∀ k ∈ ks, Tp H k.1 k.2) (e : ks.map (·.2) = cs) : Dp K H (.ref a) (dC cs) := by
  have := Dp.lst h (dpa_cs (K := K) ks hk)
  rw [e] at this
  exact this
theorem foldl_min : ∀ (ns : List Int) (n : Int), (∀ y ∈ ns, n ≤ y) → ns.foldl min n = n
  | [], _, _ => rfl
  | m :: ns, n, h => by
    have h1 := h m List.mem_cons_self
    show ns.foldl min (min n m) = n
    rw [show min n m = n from Int.min_eq_left h1]
    exact foldl_min ns n fun y hy => h y (List.mem_cons_of_mem _ hy)
theorem NI_nodup {l : List Nat} (h : l.Nodup) : (NI l).Nodup := by
  unfold NI
  rw [List.nodup_iff_pairwise_ne, List.pairwise_map]
  exact List.Pairwise.imp (fun {x y} h e => h (Int.ofNat.inj e)) (List.nodup_iff_pairwise_ne.mp h)
theorem NI_len (l : List Nat) : (NI l).length = l.length := by unfold NI; rw [List.length_map]
theorem mem_NI {l : List Nat} {y : Int} (h : y ∈ NI l) : ∃ x, x ∈ l ∧ y = (x : Int) := by
  obtain ⟨x, hx, rfl⟩ := List.mem_map.mp h
  exact ⟨x, hx, rfl⟩
/-- the same numbers, both rising -/
theorem sorted_is {ns : List Int} {l m : List Nat} (h1 : ns.Perm (NI l)) (h2 : ns.Pairwise (· ≤ ·)) (h3 : m.Perm l) (h4 : m.Pairwise (· ≤ ·)) : ns = NI m := by
  refine List.Perm.eq_of_pairwise (fun a b _ _ x y => Int.le_antisymm x y) h2 ?_ (h1.trans (h3.symm.map _))
  unfold NI
  rw [List.pairwise_map]
  exact List.Pairwise.imp (fun h => by omega) h4
end Hw

/-! Places and passages: what is joined. No Python here. -/
namespace Hw
abbrev Ed := Nat × Nat
def adj (es : List Ed) (u v : Nat) : Prop := (u, v) ∈ es ∨ (v, u) ∈ es
inductive Rch (es : List Ed) : Nat → Nat → Prop where
  | refl (u : Nat) : Rch es u u
  | step {u v x : Nat} (h : Rch es u v) (a : adj es v x) : Rch es u x
theorem adj_symm {es : List Ed} {u v : Nat} (h : adj es u v) : adj es v u := h.elim .inr .inl
theorem Rch.trans {es : List Ed} {u v x : Nat} (a : Rch es u v) (b : Rch es v x) : Rch es u x := by
  induction b with
  | refl => exact a
  | step _ q ih => exact ih.step q
theorem Rch.one {es : List Ed} {u v : Nat} (a : adj es u v) : Rch es u v := (Rch.refl u).step a
theorem Rch.symm {es : List Ed} {u v : Nat} (a : Rch es u v) : Rch es v u := by
  induction a with
  | refl => exact .refl _
  | step _ q ih => exact (Rch.one (adj_symm q)).trans ih
theorem Rch.mono {es fs : List Ed} (h : ∀ e ∈ es, e ∈ fs) {u v : Nat} (a : Rch es u v) : Rch fs u v := by
  induction a with
  | refl => exact .refl _
  | step _ q ih => exact ih.step (q.elim (fun m => .inl (h _ m)) fun m => .inr (h _ m))
theorem Rch.map {es fs : List Ed} (f : Nat → Nat) (h : ∀ e ∈ es, adj fs (f e.1) (f e.2)) {u v : Nat} (a : Rch es u v) : Rch fs (f u) (f v) := by
  induction a with
  | refl => exact .refl _
  | step _ q ih =>
    rcases q with m | m
    · exact ih.step (h _ m)
    · exact ih.step (adj_symm (h _ m))
/-- every passage rises and lies within n places -/
def VE (n : Nat) (es : List Ed) : Prop := ∀ e ∈ es, e.1 ≤ e.2 ∧ e.2 < n
def conn (n : Nat) (es : List Ed) : Prop := ∀ v, v < n → Rch es 0 v
def CN (n : Nat) (es : List Ed) : Prop := 1 ≤ n ∧ VE n es ∧ conn n es
def tieF (a b : Nat) : Ed := (min a b, max a b)
theorem tie_cases (a b : Nat) : tieF a b = (a, b) ∨ tieF a b = (b, a) := by
  unfold tieF
  rcases Nat.le_total a b with h | h
  · left; rw [Nat.min_eq_left h, Nat.max_eq_right h]
  · right; rw [Nat.min_eq_right h, Nat.max_eq_left h]
theorem adj_tie {es : List Ed} {a b : Nat} (h : tieF a b ∈ es) : adj es a b := by
  rcases tie_cases a b with e | e
  · rw [e] at h; exact .inl h
  · rw [e] at h; exact .inr h
theorem tie_ok {a b n : Nat} (ha : a < n) (hb : b < n) : (tieF a b).1 ≤ (tieF a b).2 ∧ (tieF a b).2 < n := by
  rcases tie_cases a b with e | e <;> (unfold tieF at e ⊢; simp only; omega)
theorem VE.app {n : Nat} {es fs : List Ed} (a : VE n es) (b : VE n fs) : VE n (es ++ fs) := fun e m => (List.mem_append.mp m).elim (a e) (b e)
theorem VE.mono {n k : Nat} {es : List Ed} (a : VE n es) (h : n ≤ k) : VE k es := fun e m => ⟨(a e m).1, Nat.lt_of_lt_of_le (a e m).2 h⟩
/-- the greatest place that is named, plus 1 -/
def topOf (es : List Ed) : Nat := (es.map (·.2)).foldl max 0 + 1
theorem fold_max_le : ∀ (l : List Nat) (a k : Nat), a ≤ k → (∀ x ∈ l, x ≤ k) → l.foldl max a ≤ k
  | [], _, _, h, _ => h
  | x :: l, a, k, h, hl => fold_max_le l _ k (Nat.max_le.mpr ⟨h, hl x List.mem_cons_self⟩) fun y hy => hl y (List.mem_cons_of_mem _ hy)
theorem fold_max_ge : ∀ (l : List Nat) (a : Nat), a ≤ l.foldl max a
  | [], _ => Nat.le_refl _
  | x :: l, a => Nat.le_trans (Nat.le_max_left a x) (fold_max_ge l (max a x))
theorem fold_max_mem : ∀ (l : List Nat) (a x : Nat), x ∈ l → x ≤ l.foldl max a
  | y :: l, a, x, h => by
    rcases List.mem_cons.mp h with e | m
    · rw [e]; exact Nat.le_trans (Nat.le_max_right a y) (fold_max_ge l (max a y))
    · exact fold_max_mem l (max a y) x m
theorem Rch.last {es : List Ed} {u v : Nat} (a : Rch es u v) (h : u ≠ v) : ∃ x, adj es x v := by
  cases a with
  | refl => exact absurd rfl h
  | step _ q => exact ⟨_, q⟩
theorem top_eq {n : Nat} {es : List Ed} (h : CN n es) : topOf es = n := by
  obtain ⟨h1, h2, h3⟩ := h
  unfold topOf
  have le : (es.map (·.2)).foldl max 0 ≤ n - 1 := fold_max_le _ _ _ (Nat.zero_le _) fun x hx => by
    obtain ⟨e, he, rfl⟩ := List.mem_map.mp hx
    have := (h2 e he).2
    omega
  have ge : n - 1 ≤ (es.map (·.2)).foldl max 0 := by
    by_cases z : n = 1
    · omega
    · obtain ⟨x, q⟩ := (h3 (n - 1) (by omega)).last (by omega)
      rcases q with m | m
      · exact fold_max_mem _ _ _ (List.mem_map.mpr ⟨_, m, rfl⟩)
      · have b := h2 _ m
        have c := fold_max_mem (es.map (·.2)) 0 x (List.mem_map.mpr ⟨_, m, rfl⟩)
        simp only at b
        omega
  omega
/-- a further place at a passage -/
theorem CN.leaf {n d : Nat} {es : List Ed} (h : CN n es) (hd : d < n) : CN (n + 1) (es ++ [(d, n)]) := by
  obtain ⟨h1, h2, h3⟩ := h
  refine ⟨by omega, (h2.mono (Nat.le_succ _)).app ?_, fun v hv => ?_⟩
  · intro e m
    rw [List.mem_singleton.mp m]
    exact ⟨Nat.le_of_lt hd, Nat.lt_succ_self _⟩
  · have up : ∀ {u x}, Rch es u x → Rch (es ++ [(d, n)]) u x := fun a => a.mono fun e m => List.mem_append_left _ m
    by_cases z : v = n
    · subst z
      exact (up (h3 d hd)).step (.inl (List.mem_append_right _ List.mem_cons_self))
    · exact up (h3 v (by omega))
theorem CN.more {n a b : Nat} {es : List Ed} (h : CN n es) (ha : a < n) (hb : b < n) : CN n (es ++ [tieF a b]) := by
  obtain ⟨h1, h2, h3⟩ := h
  refine ⟨h1, h2.app fun e m => ?_, fun v hv => (h3 v hv).mono fun e m => List.mem_append_left _ m⟩
  rw [List.mem_singleton.mp m]
  exact tie_ok ha hb
/-- tails: place low + i hangs at one below it -/
theorem CN.tree {low : Nat} {es : List Ed} (h : CN low es) (f : Nat → Nat) : ∀ k, (∀ i, i < k → f i < low + i) → CN (low + k) (es ++ (List.range k).map fun i => (f i, low + i))
  | 0, _ => by simpa using h
  | k + 1, hf => by
    have ih := CN.tree h f k fun i hi => hf i (by omega)
    rw [List.range_succ, List.map_append, ← List.append_assoc]
    exact ih.leaf (hf k (by omega))
def nmF (low hinge x : Nat) : Nat := if x = 0 then hinge else low + x - 1
def shiftE (low hinge : Nat) (es : List Ed) : List Ed := es.map fun e => tieF (nmF low hinge e.1) (nmF low hinge e.2)
/-- a core hung at a place -/
theorem CN.core {n k hinge : Nat} {es c : List Ed} (h : CN n es) (hc : CN k c) (hh : hinge < n) : CN (n + k - 1) (es ++ shiftE n hinge c) := by
  obtain ⟨h1, h2, h3⟩ := h
  obtain ⟨c1, c2, c3⟩ := hc
  have nb : ∀ x, x < k → nmF n hinge x < n + k - 1 := fun x hx => by
    unfold nmF
    split <;> omega
  refine ⟨by omega, (h2.mono (by omega)).app fun e m => ?_, fun v hv => ?_⟩
  · obtain ⟨d, hd, rfl⟩ := List.mem_map.mp m
    have := c2 d hd
    exact tie_ok (nb _ (by omega)) (nb _ (by omega))
  · have up : ∀ {u x}, Rch es u x → Rch (es ++ shiftE n hinge c) u x := fun a => a.mono fun e m => List.mem_append_left _ m
    by_cases z : v < n
    · exact up (h3 v z)
    · have q := (c3 (v - n + 1) (by omega)).map (fs := es ++ shiftE n hinge c) (nmF n hinge) fun e m =>
        adj_tie (List.mem_append_right _ (List.mem_map.mpr ⟨e, m, rfl⟩))
      have e1 : nmF n hinge 0 = hinge := rfl
      have e2 : nmF n hinge (v - n + 1) = v := by
        unfold nmF
        rw [if_neg (by omega)]
        omega
      rw [e1, e2] at q
      exact (up (h3 hinge hh)).trans q
/-- the order of the passages -/
theorem CN.perm {n : Nat} {es fs : List Ed} (h : CN n es) (p : fs.Perm es) : CN n fs :=
  ⟨h.1, fun e m => h.2.1 e (p.mem_iff.mp m), fun v hv => (h.2.2 v hv).mono fun e m => p.mem_iff.mpr m⟩
/-- other names of the places -/
def renE (p : List Nat) (es : List Ed) : List Ed := es.map fun e => tieF (ap p e.1) (ap p e.2)
theorem Rch.ren {es : List Ed} (p : List Nat) {u v : Nat} (a : Rch es u v) : Rch (renE p es) (ap p u) (ap p v) :=
  a.map (ap p) fun e m => adj_tie (List.mem_map.mpr ⟨e, m, rfl⟩)
theorem CN.ren {n : Nat} {es : List Ed} {p : List Nat} (h : CN n es) (hp : IsP p) (hl : p.length = n) : CN n (renE p es) := by
  obtain ⟨h1, h2, h3⟩ := h
  have lt : ∀ x, x < n → ap p x < n := fun x hx => by rw [← hl]; exact ap_lt hp (by omega)
  refine ⟨h1, fun e m => ?_, fun v hv => ?_⟩
  · obtain ⟨d, hd, rfl⟩ := List.mem_map.mp m
    have := h2 d hd
    exact tie_ok (lt _ (by omega)) (lt _ (by omega))
  · obtain ⟨x, hx, ex⟩ := ap_surj hp (y := v) (by omega)
    obtain ⟨z, hz, ez⟩ := ap_surj hp (y := 0) (by omega)
    have q := ((h3 z (by omega)).symm.trans (h3 x (by omega))).ren p
    rw [ex, ez] at q
    exact q
/-! ### rings and the other cores -/
def ringE (sp : List Nat) : List Ed := (List.range sp.length).map fun n => tieF (sp.getD ((n + sp.length - 1) % sp.length) 0) (sp.getD n 0)
def coreMenu : List (List Ed) :=
  (List.range 5).map (fun d => ringE (List.range (1 + d))) ++
  (List.range 3).flatMap (fun d => (List.range 3).map fun e => ringE (List.range (1 + d)) ++ ringE (0 :: (List.range e).map (fun i => 1 + d + i))) ++
  [[(0, 1), (0, 2), (0, 3), (1, 2), (1, 3)], [(0, 2), (1, 2), (0, 3), (1, 3), (0, 4), (1, 4)]] ++
  (List.range 3).map (fun d => List.replicate (2 + d) ((0, 1) : Ed)) ++
  (List.range 2).map (fun d => ringE (List.range (3 + d)) ++ [(0, 2)])
/-! ### least labels -/
def ljStep (least : List Nat) (e : Ed) : List Nat :=
  let lo := min (least.getD e.1 0) (least.getD e.2 0)
  let hi := max (least.getD e.1 0) (least.getD e.2 0)
  least.map fun x => if x = hi then lo else x
def lj (n : Nat) (es : List Ed) : List Nat := es.foldl ljStep (List.range n)
end Hw

namespace Hw
structure Lb (n : Nat) (es : List Ed) (L : List Nat) : Prop where
  len : L.length = n
  le : ∀ u, u < n → ap L u ≤ u
  to : ∀ u, u < n → Rch es u (ap L u)
  eq : ∀ u v, Rch es u v → u < n → v < n ∧ ap L u = ap L v
theorem ap_map' {l : List Nat} (f : Nat → Nat) {x : Nat} (h : x < l.length) : ap (l.map f) x = f (ap l x) := by
  have := ap_get h
  unfold ap at *
  rw [List.getD_eq_getElem?_getD, List.getElem?_map, this]
  rfl
theorem Rch.nil {u v : Nat} (h : Rch [] u v) : u = v := by
  induction h with
  | refl => rfl
  | step _ a _ => rcases a with m | m <;> cases m
theorem lb_zero (n : Nat) : Lb n [] (List.range n) :=
  ⟨List.length_range, fun u hu => by rw [ap_range hu]; exact Nat.le_refl _, fun u hu => by rw [ap_range hu]; exact .refl _, fun u v h hu => by
    have := h.nil
    subst this
    exact ⟨hu, rfl⟩⟩
theorem lb_step {n : Nat} {es : List Ed} {L : List Nat} (h : Lb n es L) {e : Ed} (ha : e.1 < n) (hb : e.2 < n) : Lb n (es ++ [e]) (ljStep L e) := by
  have up : ∀ {u x}, Rch es u x → Rch (es ++ [e]) u x := fun a => a.mono fun e m => List.mem_append_left _ m
  have eab : adj (es ++ [e]) e.1 e.2 := .inl (List.mem_append_right _ (by simp))
  have e1 : ∀ u, u < n → ap (ljStep L e) u = if ap L u = max (ap L e.1) (ap L e.2) then min (ap L e.1) (ap L e.2) else ap L u := fun u hu => by
    unfold ljStep
    rw [ap_map' _ (by rw [h.len]; exact hu)]
    rfl
  have ab : Rch (es ++ [e]) (max (ap L e.1) (ap L e.2)) (min (ap L e.1) (ap L e.2)) := by
    have q : Rch (es ++ [e]) (ap L e.1) (ap L e.2) := ((up (h.to _ ha)).symm.step eab).trans (up (h.to _ hb))
    rcases Nat.le_total (ap L e.1) (ap L e.2) with z | z
    · rw [Nat.max_eq_right z, Nat.min_eq_left z]; exact q.symm
    · rw [Nat.max_eq_left z, Nat.min_eq_right z]; exact q
  refine ⟨by unfold ljStep; rw [List.length_map]; exact h.len, fun u hu => ?_, fun u hu => ?_, fun u v r hu => ?_⟩
  · rw [e1 u hu]
    have := h.le u hu
    split
    · rename_i z
      have : min (ap L e.1) (ap L e.2) ≤ max (ap L e.1) (ap L e.2) := by omega
      omega
    · exact this
  · rw [e1 u hu]
    split
    · rename_i z
      have q := up (h.to u hu)
      rw [z] at q
      exact q.trans ab
    · exact up (h.to u hu)
  · induction r with
    | refl => exact ⟨hu, rfl⟩
    | @step v x _ a ih =>
      obtain ⟨hv, ev⟩ := ih
      have main : x < n ∧ ap (ljStep L e) v = ap (ljStep L e) x := by
        have old : adj es v x → x < n ∧ ap (ljStep L e) v = ap (ljStep L e) x := fun q => by
          obtain ⟨hx, ex⟩ := h.eq v x (Rch.one q) hv
          exact ⟨hx, by rw [e1 v hv, e1 x hx, ex]⟩
        have both : ap (ljStep L e) e.1 = ap (ljStep L e) e.2 := by
          rw [e1 _ ha, e1 _ hb]
          rcases Nat.le_total (ap L e.1) (ap L e.2) with z | z
          · rw [Nat.max_eq_right z, Nat.min_eq_left z, if_pos rfl]
            split <;> rfl
          · rw [Nat.max_eq_left z, Nat.min_eq_right z, if_pos rfl]
            split <;> rfl
        rcases a with m | m
        · rcases List.mem_append.mp m with m | m
          · exact old (.inl m)
          · have : (v, x) = e := List.mem_singleton.mp m
            subst this
            exact ⟨hb, both⟩
        · rcases List.mem_append.mp m with m | m
          · exact old (.inr m)
          · have : (x, v) = e := List.mem_singleton.mp m
            subst this
            exact ⟨ha, both.symm⟩
      exact ⟨main.1, ev.trans main.2⟩
theorem lb_fold {n : Nat} : ∀ (fs es : List Ed) (L : List Nat), Lb n es L → (∀ e ∈ fs, e.1 < n ∧ e.2 < n) → Lb n (es ++ fs) (fs.foldl ljStep L)
  | [], es, L, h, _ => by rw [List.append_nil]; exact h
  | e :: fs, es, L, h, hf => by
    have b := hf e List.mem_cons_self
    have := lb_fold fs (es ++ [e]) (ljStep L e) (lb_step h b.1 b.2) fun d m => hf d (List.mem_cons_of_mem _ m)
    rw [List.append_assoc] at this
    exact this
theorem lb_lj {n : Nat} {es : List Ed} (h : VE n es) : Lb n es (lj n es) := by
  have := lb_fold es [] (List.range n) (lb_zero n) fun e m => ⟨Nat.lt_of_le_of_lt (h e m).1 (h e m).2, (h e m).2⟩
  exact this
theorem lj_same {n : Nat} {es : List Ed} (h : VE n es) {u v : Nat} (hu : u < n) (hv : v < n) : ap (lj n es) u = ap (lj n es) v ↔ Rch es u v := by
  have b := lb_lj h
  constructor
  · intro e
    have q := b.to u hu
    rw [e] at q
    exact q.trans (b.to v hv).symm
  · intro r
    exact (b.eq u v r hu).2
theorem conn_iff {n : Nat} {es : List Ed} (h : VE n es) (hn : 1 ≤ n) : conn n es ↔ lj n es = List.replicate n 0 := by
  have b := lb_lj h
  have z : ap (lj n es) 0 = 0 := by
    have := b.le 0 hn
    omega
  constructor
  · intro c
    refine ext_ap (by rw [b.len, List.length_replicate]) fun x hx => ?_
    rw [b.len] at hx
    have e := (b.eq 0 x (c x hx) hn).2
    rw [z] at e
    rw [← e]
    unfold ap
    rw [List.getD_eq_getElem?_getD, List.getElem?_replicate, if_pos hx]
    rfl
  · intro e v hv
    refine (lj_same h hn hv).mp ?_
    rw [e]
    unfold ap
    rw [List.getD_eq_getElem?_getD, List.getD_eq_getElem?_getD, List.getElem?_replicate, List.getElem?_replicate, if_pos hv, if_pos (by omega)]
def cnB (n : Nat) (es : List Ed) : Bool := decide (1 ≤ n) && es.all (fun e => decide (e.1 ≤ e.2) && decide (e.2 < n)) && decide (lj n es = List.replicate n 0)
theorem cn_of {n : Nat} {es : List Ed} (h : cnB n es = true) : CN n es := by
  unfold cnB at h
  simp only [Bool.and_eq_true, decide_eq_true_eq, List.all_eq_true] at h
  have ve : VE n es := fun e m => h.1.2 e m
  exact ⟨h.1.1, ve, (conn_iff ve h.1.1).mpr h.2⟩
theorem menu_all : coreMenu.all (fun c => cnB (topOf c) c && decide (topOf c ≤ 5) && decide (c.length ≤ 8)) = true := by decide +kernel
theorem menu_ok {c : List Ed} (h : c ∈ coreMenu) : CN (topOf c) c ∧ topOf c ≤ 5 ∧ c.length ≤ 8 := by
  have := List.all_eq_true.mp menu_all c h
  simp only [Bool.and_eq_true, decide_eq_true_eq] at this
  exact ⟨cn_of this.1.1, this.1.2, this.2⟩
end Hw

/-! Sets of places that grow along passages; bridges and cells. No Python here. -/
namespace Hw
/-- the passages that count: those numbers that ok takes -/
def okE (ok : Nat → Bool) (es : List Ed) : List Ed := ((List.range es.length).filter ok).map fun j => es.getD j (0, 0)
theorem mem_okE {ok : Nat → Bool} {es : List Ed} {e : Ed} : e ∈ okE ok es ↔ ∃ j, ok j = true ∧ es[j]? = some e := by
  unfold okE
  constructor
  · intro h
    obtain ⟨j, hj, rfl⟩ := List.mem_map.mp h
    obtain ⟨h1, h2⟩ := List.mem_filter.mp hj
    have hl := List.mem_range.mp h1
    refine ⟨j, h2, ?_⟩
    rw [List.getD_eq_getElem?_getD, List.getElem?_eq_getElem hl]
    rfl
  · rintro ⟨j, h1, h2⟩
    have hl := (List.getElem?_eq_some_iff.mp h2).1
    refine List.mem_map.mpr ⟨j, List.mem_filter.mpr ⟨List.mem_range.mpr hl, h1⟩, ?_⟩
    rw [List.getD_eq_getElem?_getD, h2]
    rfl
theorem okE_ve {n : Nat} {ok : Nat → Bool} {es : List Ed} (h : VE n es) : VE n (okE ok es) := fun e m => by
  obtain ⟨j, _, hj⟩ := mem_okE.mp m
  exact h e (List.mem_of_getElem? hj)
theorem Rch.iff {es fs : List Ed} (h : ∀ e, e ∈ es ↔ e ∈ fs) {u v : Nat} : Rch es u v ↔ Rch fs u v :=
  ⟨fun r => r.mono fun e m => (h e).mp m, fun r => r.mono fun e m => (h e).mpr m⟩
theorem mem_erase {es : List Ed} {i : Nat} {e : Ed} : e ∈ es.eraseIdx i ↔ e ∈ okE (fun j => decide (j ≠ i)) es := by
  rw [mem_okE, List.mem_eraseIdx_iff_getElem?]
  constructor
  · rintro ⟨j, h1, h2⟩
    exact ⟨j, decide_eq_true h1, h2⟩
  · rintro ⟨j, h1, h2⟩
    exact ⟨j, of_decide_eq_true h1, h2⟩
/-- a step: the other end comes in -/
def gStep (S : List Nat) (e : Ed) : List Nat := if (decide (e.1 ∈ S)) = (decide (e.2 ∈ S)) then S else S ++ [if e.2 ∈ S then e.1 else e.2]
def gTo (ok : Nat → Bool) (es : List Ed) (S : List Nat) : Nat → List Nat
  | 0 => S
  | k + 1 => if ok k then gStep (gTo ok es S k) (es.getD k (0, 0)) else gTo ok es S k
def gN (ok : Nat → Bool) (es : List Ed) (s : Nat) : Nat → List Nat
  | 0 => [s]
  | k + 1 => gTo ok es (gN ok es s k) es.length
theorem gStep_sub (S : List Nat) (e : Ed) : ∀ x ∈ S, x ∈ gStep S e := fun x h => by
  unfold gStep
  split
  · exact h
  · exact List.mem_append_left _ h
theorem gStep_len (S : List Nat) (e : Ed) : S.length ≤ (gStep S e).length ∧ ((gStep S e).length = S.length → gStep S e = S ∧ (e.1 ∈ S ↔ e.2 ∈ S)) := by
  unfold gStep
  split
  · rename_i h
    refine ⟨Nat.le_refl _, fun _ => ⟨rfl, ?_⟩⟩
    by_cases a : e.1 ∈ S <;> by_cases b : e.2 ∈ S <;> simp [a, b] at h ⊢
  · rw [List.length_append]
    refine ⟨Nat.le_add_right _ _, fun z => ?_⟩
    simp at z
structure GOk (n : Nat) (fs : List Ed) (s : Nat) (S : List Nat) : Prop where
  nd : S.Nodup
  lt : ∀ x ∈ S, x < n
  to : ∀ x ∈ S, Rch fs s x
  st : s ∈ S
theorem gStep_ok {n : Nat} {fs : List Ed} {s : Nat} {S : List Nat} (h : GOk n fs s S) {e : Ed} (he : e ∈ fs) (h1 : e.1 < n) (h2 : e.2 < n) : GOk n fs s (gStep S e) := by
  unfold gStep
  split
  · exact h
  · rename_i ne
    have ad : adj fs e.1 e.2 := .inl he
    by_cases b : e.2 ∈ S
    · have a : e.1 ∉ S := fun a => ne (by simp [a, b])
      rw [if_pos b]
      refine ⟨?_, fun x hx => ?_, fun x hx => ?_, List.mem_append_left _ h.st⟩
      · rw [List.nodup_append]
        exact ⟨h.nd, by simp, fun x hx y hy => by rw [List.mem_singleton.mp hy]; exact fun z => a (z ▸ hx)⟩
      · rcases List.mem_append.mp hx with m | m
        · exact h.lt x m
        · rw [List.mem_singleton.mp m]; exact h1
      · rcases List.mem_append.mp hx with m | m
        · exact h.to x m
        · rw [List.mem_singleton.mp m]; exact (h.to _ b).step (adj_symm ad)
    · have a : e.1 ∈ S := Decidable.byContradiction fun a => ne (by simp [a, b])
      rw [if_neg b]
      refine ⟨?_, fun x hx => ?_, fun x hx => ?_, List.mem_append_left _ h.st⟩
      · rw [List.nodup_append]
        exact ⟨h.nd, by simp, fun x hx y hy => by rw [List.mem_singleton.mp hy]; exact fun z => b (z ▸ hx)⟩
      · rcases List.mem_append.mp hx with m | m
        · exact h.lt x m
        · rw [List.mem_singleton.mp m]; exact h2
      · rcases List.mem_append.mp hx with m | m
        · exact h.to x m
        · rw [List.mem_singleton.mp m]; exact (h.to _ a).step ad
section
variable {n : Nat} {es : List Ed} (ve : VE n es) {ok : Nat → Bool} {s : Nat}
include ve
theorem gTo_ok {S : List Nat} (h : GOk n (okE ok es) s S) : ∀ k, k ≤ es.length → GOk n (okE ok es) s (gTo ok es S k)
  | 0, _ => h
  | k + 1, hk => by
    have ih := gTo_ok h k (by omega)
    unfold gTo
    split
    · rename_i c
      have he : es[k]? = some (es.getD k (0, 0)) := by
        rw [List.getD_eq_getElem?_getD, List.getElem?_eq_getElem (by omega)]
        rfl
      have b := ve _ (List.mem_of_getElem? he)
      exact gStep_ok ih (mem_okE.mpr ⟨k, c, he⟩) (by omega) b.2
    · exact ih
omit ve in
theorem gTo_len (S : List Nat) : ∀ k, S.length ≤ (gTo ok es S k).length ∧ ((gTo ok es S k).length = S.length → gTo ok es S k = S ∧ ∀ j, j < k → ok j = true → ((es.getD j (0, 0)).1 ∈ S ↔ (es.getD j (0, 0)).2 ∈ S))
  | 0 => ⟨Nat.le_refl _, fun _ => ⟨rfl, fun j hj => absurd hj (Nat.not_lt_zero _)⟩⟩
  | k + 1 => by
    obtain ⟨i1, i2⟩ := gTo_len S k
    unfold gTo
    split
    · rename_i c
      obtain ⟨a1, a2⟩ := gStep_len (gTo ok es S k) (es.getD k (0, 0))
      refine ⟨Nat.le_trans i1 a1, fun z => ?_⟩
      obtain ⟨j1, j2⟩ := i2 (by omega)
      obtain ⟨b1, b2⟩ := a2 (by omega)
      refine ⟨b1.trans j1, fun j hj o => ?_⟩
      by_cases e : j = k
      · subst e
        rw [j1] at b2
        exact b2
      · exact j2 j (by omega) o
    · rename_i c
      refine ⟨i1, fun z => ?_⟩
      obtain ⟨j1, j2⟩ := i2 z
      refine ⟨j1, fun j hj o => ?_⟩
      by_cases e : j = k
      · subst e
        exact absurd o c
      · exact j2 j (by omega) o
def Cl (ok : Nat → Bool) (es : List Ed) (S : List Nat) : Prop := ∀ j e, ok j = true → es[j]? = some e → (e.1 ∈ S ↔ e.2 ∈ S)
omit ve in
theorem cl_gTo {S : List Nat} (h : Cl ok es S) : ∀ k, k ≤ es.length → gTo ok es S k = S
  | 0, _ => rfl
  | k + 1, hk => by
    unfold gTo
    rw [cl_gTo h k (by omega)]
    split
    · rename_i c
      have he : es[k]? = some (es.getD k (0, 0)) := by
        rw [List.getD_eq_getElem?_getD, List.getElem?_eq_getElem (by omega)]
        rfl
      have := h k _ c he
      unfold gStep
      rw [if_pos]
      by_cases a : (es.getD k (0, 0)).1 ∈ S
      · rw [decide_eq_true a, decide_eq_true (this.mp a)]
      · rw [decide_eq_false a, decide_eq_false fun b => a (this.mpr b)]
    · rfl
theorem gN_ok (hs : s < n) : ∀ r, GOk n (okE ok es) s (gN ok es s r)
  | 0 => ⟨by unfold gN; simp, fun x hx => by unfold gN at hx; rw [List.mem_singleton.mp hx]; exact hs, fun x hx => by unfold gN at hx; rw [List.mem_singleton.mp hx]; exact .refl _, by unfold gN; simp⟩
  | r + 1 => gTo_ok ve (gN_ok hs r) _ (Nat.le_refl _)
omit ve in
theorem gN_grows : ∀ r, Cl ok es (gN ok es s r) ∨ r + 1 ≤ (gN ok es s r).length
  | 0 => .inr (by unfold gN; simp)
  | r + 1 => by
    have ih := gN_grows r
    unfold gN
    by_cases c : Cl ok es (gN ok es s r)
    · left
      rw [cl_gTo c _ (Nat.le_refl _)]
      exact c
    · right
      have ih := ih.resolve_left c
      obtain ⟨a1, a2⟩ := gTo_len (ok := ok) (es := es) (gN ok es s r) es.length
      by_cases z : (gTo ok es (gN ok es s r) es.length).length = (gN ok es s r).length
      · exfalso
        obtain ⟨_, b⟩ := a2 z
        refine c fun j e o he => ?_
        have hl := (List.getElem?_eq_some_iff.mp he).1
        have := b j hl o
        rw [List.getD_eq_getElem?_getD, he] at this
        exact this
      · omega
omit ve in
theorem cl_rch {S : List Nat} (h : Cl ok es S) {u v : Nat} (r : Rch (okE ok es) u v) (hu : u ∈ S) : v ∈ S := by
  induction r with
  | refl => exact hu
  | step _ a ih =>
    rcases a with m | m
    · obtain ⟨j, o, e⟩ := mem_okE.mp m
      exact (h j _ o e).mp ih
    · obtain ⟨j, o, e⟩ := mem_okE.mp m
      exact (h j _ o e).mpr ih
/-- after as many rounds as there are places nothing more comes in -/
theorem gN_mem (hs : s < n) (v : Nat) : v ∈ gN ok es s n ↔ Rch (okE ok es) s v := by
  have g := gN_ok (ok := ok) ve hs n
  refine ⟨g.to v, fun r => ?_⟩
  have c : Cl ok es (gN ok es s n) := (gN_grows (ok := ok) (es := es) (s := s) n).resolve_right fun z => by
    have := len_le n _ g.nd g.lt
    omega
  exact cl_rch c r g.st
theorem gN_full (hs : s < n) : (gN ok es s n).length = n ↔ ∀ v, v < n → Rch (okE ok es) s v := by
  have g := gN_ok (ok := ok) ve hs n
  constructor
  · intro z v hv
    have ip : IsP (gN ok es s n) := ⟨g.nd, fun x hx => by rw [z]; exact g.lt x hx⟩
    exact (gN_mem ve hs v).mp (isP_mem ip (by rw [z]; exact hv))
  · intro h
    have p : (gN ok es s n).Perm (List.range n) := perm_of_mem g.nd List.nodup_range fun x => ⟨fun m => List.mem_range.mpr (g.lt x m), fun m => (gN_mem ve hs x).mpr (h x (List.mem_range.mp m))⟩
    rw [p.length_eq, List.length_range]
end
end Hw

/-! Bridges and cells. No Python here. -/
namespace Hw
def cB (n : Nat) (es : List Ed) : Bool := decide (lj n es = List.replicate n 0)
def brg (n : Nat) (es : List Ed) : List Nat := (List.range es.length).filter fun i => !cB n (es.eraseIdx i)
def inn (n : Nat) (es : List Ed) : List Ed := okE (fun j => !decide (j ∈ brg n es)) es
def cls (n : Nat) (L : List Nat) (l : Nat) : List Nat := (List.range n).filter fun x => decide (ap L x = l)
def rts (n : Nat) (L : List Nat) : List Nat := (List.range n).filter fun l => decide (ap L l = l)
def celL (n : Nat) (L : List Nat) : List (List Nat) := (rts n L).map (cls n L)
def cel (n : Nat) (es : List Ed) : List (List Nat) := celL n (lj n (inn n es))
theorem ve_erase {n i : Nat} {es : List Ed} (h : VE n es) : VE n (es.eraseIdx i) := fun e m => h e (List.mem_of_mem_eraseIdx m)
theorem cB_iff {n : Nat} {es : List Ed} (h : VE n es) (hn : 1 ≤ n) : cB n es = true ↔ conn n es := by
  unfold cB
  rw [conn_iff h hn, decide_eq_true_eq]
theorem mem_brg {n : Nat} {es : List Ed} (h : CN n es) {i : Nat} : i ∈ brg n es ↔ i < es.length ∧ ¬ conn n (es.eraseIdx i) := by
  unfold brg
  rw [List.mem_filter, List.mem_range, ← cB_iff (ve_erase h.2.1) h.1]
  cases cB n (es.eraseIdx i) <;> simp
theorem brg_nodup (n : Nat) (es : List Ed) : (brg n es).Nodup := List.Nodup.sublist List.filter_sublist List.nodup_range
/-- one passage more -/
theorem Rch.add {fs gs : List Ed} {d : Ed} (h : ∀ e ∈ fs, e ∈ gs ∨ e = d) {u v : Nat} (r : Rch fs u v) : Rch gs u v ∨ (Rch gs u d.1 ∧ Rch gs v d.2) ∨ (Rch gs u d.2 ∧ Rch gs v d.1) := by
  induction r with
  | refl => exact .inl (.refl _)
  | @step v x _ a ih =>
    have go : adj gs v x → Rch gs u x ∨ (Rch gs u d.1 ∧ Rch gs x d.2) ∨ (Rch gs u d.2 ∧ Rch gs x d.1) := fun a => by
      have b := Rch.one (adj_symm a)
      rcases ih with i | ⟨i, j⟩ | ⟨i, j⟩
      · exact .inl (i.step a)
      · exact .inr (.inl ⟨i, b.trans j⟩)
      · exact .inr (.inr ⟨i, b.trans j⟩)
    rcases a with m | m
    · rcases h _ m with g | g
      · exact go (.inl g)
      · have e1 : d.1 = v := by rw [← g]
        have e2 : d.2 = x := by rw [← g]
        rw [e1, e2] at ih ⊢
        rcases ih with i | ⟨i, j⟩ | ⟨i, j⟩
        · exact .inr (.inl ⟨i, .refl _⟩)
        · exact .inl (i.trans j)
        · exact .inl i
    · rcases h _ m with g | g
      · exact go (.inr g)
      · have e1 : d.1 = x := by rw [← g]
        have e2 : d.2 = v := by rw [← g]
        rw [e1, e2] at ih ⊢
        rcases ih with i | ⟨i, j⟩ | ⟨i, j⟩
        · exact .inr (.inr ⟨i, .refl _⟩)
        · exact .inl i
        · exact .inl (i.trans j)
theorem getD_at {es : List Ed} {i : Nat} (h : i < es.length) : es[i]? = some (es.getD i (0, 0)) := by
  rw [List.getD_eq_getElem?_getD, List.getElem?_eq_getElem h]
  rfl
/-- the ends of a bridge are not joined without it -/
theorem brg_ends {n : Nat} {es : List Ed} (h : CN n es) {i : Nat} (hi : i ∈ brg n es) : ¬ Rch (es.eraseIdx i) (es.getD i (0, 0)).1 (es.getD i (0, 0)).2 := by
  obtain ⟨hl, nc⟩ := (mem_brg h).mp hi
  refine fun r => nc fun v hv => ?_
  have add := (h.2.2 v hv).add (gs := es.eraseIdx i) (d := es.getD i (0, 0)) fun e m => by
    obtain ⟨j, hj, e1⟩ := List.mem_iff_getElem.mp m
    by_cases z : j = i
    · subst z
      right
      have := getD_at hj
      rw [List.getElem?_eq_getElem hj, e1] at this
      exact Option.some.inj this
    · left
      exact List.mem_eraseIdx_iff_getElem?.mpr ⟨j, z, by rw [List.getElem?_eq_getElem hj, e1]⟩
  rcases add with a | ⟨a, b⟩ | ⟨a, b⟩
  · exact a
  · exact (a.trans r).trans b.symm
  · exact (a.trans r.symm).trans b.symm
/-- what no single passage separates is joined by passages that are no bridges -/
theorem sep {n : Nat} {es : List Ed} (h : CN n es) {u v : Nat} (hu : u < n) (hv : v < n) : Rch (inn n es) u v ↔ ∀ i, i < es.length → Rch (es.eraseIdx i) u v := by
  constructor
  · intro r i hi
    by_cases b : i ∈ brg n es
    · refine r.mono fun e m => ?_
      obtain ⟨j, o, ej⟩ := mem_okE.mp m
      refine List.mem_eraseIdx_iff_getElem?.mpr ⟨j, fun z => ?_, ej⟩
      subst z
      simp [b] at o
    · have c : conn n (es.eraseIdx i) := Classical.byContradiction fun c => b ((mem_brg h).mpr ⟨hi, c⟩)
      exact (c u hu).symm.trans (c v hv)
  · intro hs
    have main : ∀ Bs : List Nat, (∀ b ∈ Bs, b ∈ brg n es) → Rch (okE (fun j => !decide (j ∈ Bs)) es) u v := by
      intro Bs
      induction Bs with
      | nil =>
        intro _
        refine ((h.2.2 u hu).symm.trans (h.2.2 v hv)).mono fun e m => ?_
        obtain ⟨j, hj, e1⟩ := List.mem_iff_getElem.mp m
        exact mem_okE.mpr ⟨j, by simp, by rw [List.getElem?_eq_getElem hj, e1]⟩
      | cons b Bs ih =>
        intro hb
        have r := ih fun c hc => hb c (List.mem_cons_of_mem _ hc)
        have hb1 := hb b List.mem_cons_self
        have bl := ((mem_brg h).mp hb1).1
        have add := r.add (gs := okE (fun j => !decide (j ∈ b :: Bs)) es) (d := es.getD b (0, 0)) fun e m => by
          obtain ⟨j, o, ej⟩ := mem_okE.mp m
          by_cases z : j = b
          · subst z
            right
            rw [getD_at bl] at ej
            exact (Option.some.inj ej).symm
          · left
            refine mem_okE.mpr ⟨j, ?_, ej⟩
            simp [z] at o ⊢
            exact o
        have up : ∀ {x y}, Rch (okE (fun j => !decide (j ∈ b :: Bs)) es) x y → Rch (es.eraseIdx b) x y := fun q => q.mono fun e m => by
          obtain ⟨j, o, ej⟩ := mem_okE.mp m
          refine List.mem_eraseIdx_iff_getElem?.mpr ⟨j, fun z => ?_, ej⟩
          subst z
          simp at o
        have ends := brg_ends h hb1
        have uv := hs b bl
        rcases add with a | ⟨a, c⟩ | ⟨a, c⟩
        · exact a
        · exact absurd (((up a).symm.trans uv).trans (up c)) ends
        · exact absurd (((up c).symm.trans uv.symm).trans (up a)) ends
    exact main (brg n es) fun _ z => z
/-! ### roots -/
theorem mem_rts {n : Nat} {L : List Nat} {l : Nat} : l ∈ rts n L ↔ l < n ∧ ap L l = l := by
  unfold rts
  rw [List.mem_filter, List.mem_range, decide_eq_true_eq]
theorem mem_cls {n : Nat} {L : List Nat} {l x : Nat} : x ∈ cls n L l ↔ x < n ∧ ap L x = l := by
  unfold cls
  rw [List.mem_filter, List.mem_range, decide_eq_true_eq]
theorem rts_nodup (n : Nat) (L : List Nat) : (rts n L).Nodup := List.Nodup.sublist List.filter_sublist List.nodup_range
theorem filter_rise (n : Nat) (p : Nat → Bool) : ((List.range n).filter p).Pairwise (· < ·) := List.Pairwise.sublist List.filter_sublist (List.pairwise_lt_range)
theorem root_ap {n : Nat} {es : List Ed} {L : List Nat} (h : Lb n es L) {u : Nat} (hu : u < n) : ap L u < n ∧ ap L (ap L u) = ap L u := by
  obtain ⟨a, b⟩ := h.eq u (ap L u) (h.to u hu) hu
  exact ⟨a, b.symm⟩
theorem ap_step {n : Nat} {es : List Ed} {L : List Nat} (h : Lb n es L) (e : Ed) {u : Nat} (hu : u < n) : ap (ljStep L e) u = if ap L u = max (ap L e.1) (ap L e.2) then min (ap L e.1) (ap L e.2) else ap L u := by
  unfold ljStep
  rw [ap_map' _ (by rw [h.len]; exact hu)]
  rfl
theorem len_drop {l : List Nat} (h : l.Nodup) {a : Nat} (ha : a ∈ l) : (l.filter fun x => decide (x ≠ a)).length + 1 = l.length := by
  have e : (l.filter fun x => decide (x ≠ a)) = l.erase a := by
    rw [h.erase_eq_filter]
    exact List.filter_congr fun x _ => by by_cases z : x = a <;> simp [z]
  rw [e, List.length_erase_of_mem ha]
  have := List.length_pos_of_mem ha
  omega
theorem rts_step {n : Nat} {es : List Ed} {L : List Nat} (h : Lb n es L) {e : Ed} (h1 : e.1 < n) (h2 : e.2 < n) :
    (ap L e.1 = ap L e.2 → rts n (ljStep L e) = rts n L) ∧ (ap L e.1 ≠ ap L e.2 → (rts n (ljStep L e)).length + 1 = (rts n L).length) := by
  have r1 := root_ap h h1
  have r2 := root_ap h h2
  constructor
  · intro z
    unfold rts
    refine List.filter_congr fun x hx => ?_
    rw [ap_step h e (List.mem_range.mp hx), z, Nat.max_self, Nat.min_self]
    split
    · rename_i q; rw [q]
    · rfl
  · intro z
    have hmax : max (ap L e.1) (ap L e.2) < n ∧ ap L (max (ap L e.1) (ap L e.2)) = max (ap L e.1) (ap L e.2) := by
      rcases Nat.le_total (ap L e.1) (ap L e.2) with q | q
      · rw [Nat.max_eq_right q]; exact r2
      · rw [Nat.max_eq_left q]; exact r1
    have hmin : ap L (min (ap L e.1) (ap L e.2)) = min (ap L e.1) (ap L e.2) := by
      rcases Nat.le_total (ap L e.1) (ap L e.2) with q | q
      · rw [Nat.min_eq_left q]; exact r1.2
      · rw [Nat.min_eq_right q]; exact r2.2
    have hlt : min (ap L e.1) (ap L e.2) < max (ap L e.1) (ap L e.2) := by omega
    generalize eM : max (ap L e.1) (ap L e.2) = M at *
    generalize em : min (ap L e.1) (ap L e.2) = mm at *
    have e3 : rts n (ljStep L e) = (rts n L).filter fun x => decide (x ≠ M) := by
      unfold rts
      rw [List.filter_filter]
      refine List.filter_congr fun x hx => ?_
      rw [ap_step h e (List.mem_range.mp hx), eM, em]
      by_cases q : ap L x = M
      · rw [if_pos q]
        have a1 : decide (mm = x) = false := decide_eq_false fun z => by
          rw [← z, hmin] at q
          omega
        have a2 : (decide (x ≠ M) && decide (ap L x = x)) = false := by
          by_cases y : x = M
          · simp [y]
          · have : ¬ ap L x = x := fun z => y (z.symm.trans q)
            simp [this]
        rw [a1, a2]
      · rw [if_neg q]
        have a1 : decide (x ≠ M) = true := decide_eq_true fun z => q (by rw [z]; exact hmax.2)
        rw [a1, Bool.true_and]
    rw [e3]
    exact len_drop (rts_nodup n L) (mem_rts.mpr hmax)
theorem rts_fold {n : Nat} : ∀ (bs es : List Ed) (L : List Nat), Lb n es L → (∀ e ∈ bs, e.1 < n ∧ e.2 < n) → (rts n L).length ≤ (rts n (bs.foldl ljStep L)).length + bs.length
  | [], _, _, _, _ => Nat.le_refl _
  | e :: bs, es, L, h, hb => by
    have b := hb e List.mem_cons_self
    have ih := rts_fold bs (es ++ [e]) (ljStep L e) (lb_step h b.1 b.2) fun d m => hb d (List.mem_cons_of_mem _ m)
    obtain ⟨s1, s2⟩ := rts_step h b.1 b.2
    rw [List.length_cons]
    show _ ≤ (rts n (bs.foldl ljStep (ljStep L e))).length + _
    by_cases z : ap L e.1 = ap L e.2
    · rw [s1 z] at ih
      omega
    · have := s2 z
      omega
theorem rts_join {n : Nat} : ∀ (bs es : List Ed) (L : List Nat), Lb n es L → (∀ e ∈ bs, e.1 < n ∧ e.2 < n) → (∀ k e, bs[k]? = some e → ¬ Rch (es ++ bs.take k) e.1 e.2) → (rts n (bs.foldl ljStep L)).length + bs.length = (rts n L).length
  | [], _, _, _, _, _ => rfl
  | e :: bs, es, L, h, hb, hj => by
    have b := hb e List.mem_cons_self
    have ih := rts_join bs (es ++ [e]) (ljStep L e) (lb_step h b.1 b.2) (fun d m => hb d (List.mem_cons_of_mem _ m)) fun k d hd => by
      have := hj (k + 1) d (by rw [List.getElem?_cons_succ]; exact hd)
      rw [List.take_succ_cons] at this
      rw [List.append_assoc]
      exact this
    have z : ap L e.1 ≠ ap L e.2 := fun z => by
      have := hj 0 e rfl
      rw [List.take_zero, List.append_nil] at this
      have q := h.to e.1 b.1
      rw [z] at q
      exact this (q.trans (h.to e.2 b.2).symm)
    have := (rts_step h b.1 b.2).2 z
    show (rts n (bs.foldl ljStep (ljStep L e))).length + _ = _
    rw [List.length_cons]
    omega
theorem rts_one {n : Nat} {es : List Ed} {L : List Nat} (h : Lb n es L) (hn : 1 ≤ n) (c : conn n es) : (rts n L).length = 1 := by
  have z : ap L 0 = 0 := by
    have := h.le 0 hn
    omega
  have e : rts n L = [0] := by
    refine List.perm_singleton.mp (perm_of_mem (rts_nodup n L) (by simp) fun x => ?_)
    rw [mem_rts, List.mem_singleton]
    constructor
    · rintro ⟨hx, e⟩
      have := (h.eq 0 x (c x hx) hn).2
      omega
    · rintro rfl
      exact ⟨hn, z⟩
  rw [e]
  rfl
/-- one cell more than bridges -/
theorem cel_len {n : Nat} {es : List Ed} (h : CN n es) : (cel n es).length = (brg n es).length + 1 := by
  have ve : VE n (inn n es) := okE_ve h.2.1
  have lb := lb_lj ve
  have bv : ∀ e ∈ (brg n es).map (fun j => es.getD j (0, 0)), e.1 < n ∧ e.2 < n := fun e m => by
    obtain ⟨j, hj, rfl⟩ := List.mem_map.mp m
    have := h.2.1 _ (List.mem_of_getElem? (getD_at ((mem_brg h).mp hj).1))
    omega
  have j := rts_join ((brg n es).map fun j => es.getD j (0, 0)) _ _ lb bv fun k e he => by
    rw [List.getElem?_map] at he
    cases eb : (brg n es)[k]? with
    | none => rw [eb] at he; cases he
    | some b =>
      rw [eb] at he
      obtain rfl : es.getD b (0, 0) = e := Option.some.inj he
      have hb := List.mem_of_getElem? eb
      refine fun r => brg_ends h hb (r.mono fun d m => ?_)
      rcases List.mem_append.mp m with m | m
      · obtain ⟨j, o, ej⟩ := mem_okE.mp m
        refine List.mem_eraseIdx_iff_getElem?.mpr ⟨j, fun z => ?_, ej⟩
        subst z
        simp [hb] at o
      · rw [← List.map_take] at m
        obtain ⟨j, hj, rfl⟩ := List.mem_map.mp m
        refine List.mem_eraseIdx_iff_getElem?.mpr ⟨j, fun z => ?_, getD_at ((mem_brg h).mp (List.mem_of_mem_take hj)).1⟩
        subst z
        obtain ⟨i, hi, e2⟩ := List.mem_take_iff_getElem.mp hj
        obtain ⟨hk, e3⟩ := List.getElem?_eq_some_iff.mp eb
        have : i = k := (List.getElem_inj (i := i) (j := k) (h₀ := by omega) (h₁ := hk) (brg_nodup n es)).mp (e2.trans e3.symm)
        omega
  have lb2 := lb_fold _ _ _ lb bv
  have one := rts_one lb2 h.1 fun v hv => (h.2.2 v hv).mono fun e m => by
    obtain ⟨j, hj, e1⟩ := List.mem_iff_getElem.mp m
    have e2 : es[j]? = some e := by rw [List.getElem?_eq_getElem hj, e1]
    by_cases b : j ∈ brg n es
    · refine List.mem_append_right _ (List.mem_map.mpr ⟨j, b, ?_⟩)
      rw [getD_at hj] at e2
      exact Option.some.inj e2
    · exact List.mem_append_left _ (mem_okE.mpr ⟨j, by simp [b], e2⟩)
  rw [one, List.length_map] at j
  show ((rts n (lj n (inn n es))).map _).length = _
  rw [List.length_map]
  omega
/-! ### the sizes of the cells -/
theorem ind_sum (a : Nat) : ∀ R : List Nat, (R.map fun l => if a = l then 1 else 0).sum = R.count a
  | [] => rfl
  | x :: R => by
    rw [List.map_cons, List.sum_cons, ind_sum a R, List.count_cons]
    by_cases z : a = x
    · subst z; simp; omega
    · rw [if_neg z]
      have : (x == a) = false := by simp; exact fun q => z q.symm
      simp [this]
theorem sum_two (f g : Nat → Nat) : ∀ R : List Nat, (R.map fun l => f l + g l).sum = (R.map f).sum + (R.map g).sum
  | [] => rfl
  | x :: R => by
    simp only [List.map_cons, List.sum_cons, sum_two f g R]
    omega
theorem part_sum {R : List Nat} (hR : R.Nodup) (f : Nat → Nat) : ∀ xs : List Nat, (∀ x ∈ xs, f x ∈ R) → (R.map fun l => (xs.filter fun x => decide (f x = l)).length).sum = xs.length
  | [], _ => by
    induction R with
    | nil => rfl
    | cons a R ih => rw [List.map_cons, List.sum_cons, ih hR.tail (fun _ h => nomatch h)]; rfl
  | x :: xs, h => by
    have ih := part_sum hR f xs fun y hy => h y (List.mem_cons_of_mem _ hy)
    have e : (R.map fun l => ((x :: xs).filter fun y => decide (f y = l)).length) = R.map fun l => (if f x = l then 1 else 0) + (xs.filter fun y => decide (f y = l)).length := by
      refine List.map_congr_left fun l _ => ?_
      rw [List.filter_cons]
      by_cases z : f x = l
      · rw [if_pos (decide_eq_true z), if_pos z, List.length_cons]; omega
      · rw [if_neg (by simp [z]), if_neg z]; omega
    rw [e, sum_two, ih, ind_sum, nodup_count hR, if_pos (h x List.mem_cons_self), List.length_cons]
    omega
theorem celL_sum {n : Nat} {es : List Ed} {L : List Nat} (h : Lb n es L) : ((celL n L).map List.length).sum = n := by
  unfold celL
  rw [List.map_map]
  have := part_sum (rts_nodup n L) (ap L) (List.range n) fun x hx => mem_rts.mpr (root_ap h (List.mem_range.mp hx))
  rw [List.length_range] at this
  exact this
theorem cel_sum {n : Nat} {es : List Ed} (h : CN n es) : ((cel n es).map List.length).sum = n := celL_sum (lb_lj (okE_ve h.2.1))
/-! ### a second passage beside a bridge -/
theorem CN.wide {n b : Nat} {es : List Ed} (h : CN n es) (hb : b < es.length) : CN n (es ++ [es.getD b (0, 0)]) := by
  refine ⟨h.1, h.2.1.app fun e m => ?_, fun v hv => (h.2.2 v hv).mono fun e m => List.mem_append_left _ m⟩
  rw [List.mem_singleton.mp m]
  exact h.2.1 _ (List.mem_of_getElem? (getD_at hb))
theorem brg_wide {n b : Nat} {es : List Ed} (h : CN n es) (hb : b ∈ brg n es) : ∀ i, i ∈ brg n (es ++ [es.getD b (0, 0)]) → i ∈ brg n es ∧ i ≠ b := by
  intro i hi
  have bl := ((mem_brg h).mp hb).1
  have cw := h.wide bl
  obtain ⟨il, nc⟩ := (mem_brg cw).mp hi
  rw [List.length_append, List.length_singleton] at il
  have last : (es ++ [es.getD b (0, 0)])[es.length]? = some (es.getD b (0, 0)) := by simp
  have old : ∀ j e, es[j]? = some e → (es ++ [es.getD b (0, 0)])[j]? = some e := fun j e q => by
    rw [List.getElem?_append_left (List.getElem?_eq_some_iff.mp q).1]
    exact q
  have sub : ∀ k, (∀ e ∈ es.eraseIdx k, e ∈ (es ++ [es.getD b (0, 0)]).eraseIdx i) → conn n (es.eraseIdx k) → False := fun k q c => nc fun v hv => (c v hv).mono q
  have im : i ≠ es.length := fun z => by
    subst z
    refine nc fun v hv => (h.2.2 v hv).mono fun e m => ?_
    obtain ⟨j, hj, e1⟩ := List.mem_iff_getElem.mp m
    exact List.mem_eraseIdx_iff_getElem?.mpr ⟨j, by omega, old j e (by rw [List.getElem?_eq_getElem hj, e1])⟩
  have ib : i ≠ b := fun z => by
    subst z
    refine nc fun v hv => (h.2.2 v hv).mono fun e m => ?_
    obtain ⟨j, hj, e1⟩ := List.mem_iff_getElem.mp m
    have e2 : es[j]? = some e := by rw [List.getElem?_eq_getElem hj, e1]
    by_cases q : j = i
    · subst q
      rw [getD_at hj] at e2
      obtain rfl := Option.some.inj e2
      exact List.mem_eraseIdx_iff_getElem?.mpr ⟨es.length, by omega, last⟩
    · exact List.mem_eraseIdx_iff_getElem?.mpr ⟨j, q, old j e e2⟩
  refine ⟨(mem_brg h).mpr ⟨by omega, fun c => sub i (fun e m => ?_) c⟩, ib⟩
  obtain ⟨j, j1, j2⟩ := List.mem_eraseIdx_iff_getElem?.mp m
  exact List.mem_eraseIdx_iff_getElem?.mpr ⟨j, j1, old j e j2⟩
theorem len_sub : ∀ {l m : List Nat}, l.Nodup → (∀ x ∈ l, x ∈ m) → l.length ≤ m.length
  | [], _, _, _ => Nat.zero_le _
  | x :: l, m, h, hs => by
    have hx := hs x List.mem_cons_self
    have h2 := List.nodup_cons.mp h
    have := len_sub (m := m.erase x) h2.2 fun y hy => (List.mem_erase_of_ne fun z => h2.1 (by rw [← z]; exact hy)).mpr (hs y (List.mem_cons_of_mem _ hy))
    rw [List.length_erase_of_mem hx] at this
    have := List.length_pos_of_mem hx
    rw [List.length_cons]
    omega
theorem wide_less {n b : Nat} {es : List Ed} (h : CN n es) (hb : b ∈ brg n es) : (cel n (es ++ [es.getD b (0, 0)])).length < (cel n es).length := by
  have bl := ((mem_brg h).mp hb).1
  rw [cel_len h, cel_len (h.wide bl)]
  have := len_sub (l := brg n (es ++ [es.getD b (0, 0)])) (m := (brg n es).filter fun x => decide (x ≠ b)) (brg_nodup _ _) fun i hi => by
    obtain ⟨a, c⟩ := brg_wide h hb i hi
    exact List.mem_filter.mpr ⟨a, decide_eq_true c⟩
  have := len_drop (brg_nodup n es) hb
  omega
/-! ### trees -/
theorem tree_brg {n : Nat} {es : List Ed} (h : CN n es) (hl : es.length + 1 = n) : brg n es = List.range (n - 1) := by
  unfold brg
  rw [show n - 1 = es.length by omega]
  refine List.filter_eq_self.mpr fun i hi => ?_
  have il := List.mem_range.mp hi
  have ve := ve_erase (i := i) h.2.1
  have nc : ¬ cB n (es.eraseIdx i) = true := fun c => by
    have cn := (cB_iff ve h.1).mp c
    have one := rts_one (lb_lj ve) h.1 cn
    have := rts_fold (es.eraseIdx i) [] (List.range n) (lb_zero n) fun e m => ⟨Nat.lt_of_le_of_lt (ve e m).1 (ve e m).2, (ve e m).2⟩
    have e0 : rts n (List.range n) = List.range n := by
      unfold rts
      exact List.filter_eq_self.mpr fun x hx => decide_eq_true (ap_range (List.mem_range.mp hx))
    rw [e0, List.length_range, List.length_eraseIdx_of_lt il] at this
    change n ≤ (rts n (lj n (es.eraseIdx i))).length + _ at this
    rw [one] at this
    omega
  simp at nc ⊢
  exact nc
/-! ### what the cells look like -/
theorem cls_head {n : Nat} {es : List Ed} {L : List Nat} (h : Lb n es L) {l : Nat} (hl : l < n) (e : ap L l = l) : ∃ t, cls n L l = l :: t := by
  have hm : l ∈ cls n L l := mem_cls.mpr ⟨hl, e⟩
  have pw := filter_rise n fun x => decide (ap L x = l)
  change (cls n L l).Pairwise (· < ·) at pw
  cases ec : cls n L l with
  | nil => rw [ec] at hm; cases hm
  | cons a t =>
    refine ⟨t, ?_⟩
    have ha : a ∈ cls n L l := by rw [ec]; exact List.mem_cons_self
    obtain ⟨a1, a2⟩ := mem_cls.mp ha
    have := h.le a a1
    rw [ec] at hm pw
    rcases List.mem_cons.mp hm with z | z
    · rw [z]
    · have := (List.pairwise_cons.mp pw).1 l z
      omega
end Hw

/-! Other names of places and passages. No Python here. -/
namespace Hw
theorem filter_ext {n : Nat} {p q : Nat → Bool} (h : ∀ x, x < n → (p x = true ↔ q x = true)) : (List.range n).filter p = (List.range n).filter q :=
  List.filter_congr fun x hx => by
    have := h x (List.mem_range.mp hx)
    cases a : p x <;> cases b : q x <;> simp [a, b] at this <;> rfl
section
variable {n : Nat} {p : List Nat} (hp : IsP p) (hl : p.length = n)
include hp hl
theorem ren_back {fs : List Ed} (ve : VE n fs) {u v : Nat} (r : Rch (renE p fs) u v) : Rch fs (ap (inv p) u) (ap (inv p) v) := by
  refine r.map (ap (inv p)) fun e m => ?_
  obtain ⟨d, hd, rfl⟩ := List.mem_map.mp m
  have b := ve d hd
  have e1 : ap (inv p) (ap p d.1) = d.1 := ap_inv hp (by omega)
  have e2 : ap (inv p) (ap p d.2) = d.2 := ap_inv hp (by omega)
  rcases tie_cases (ap p d.1) (ap p d.2) with z | z
  · rw [z]
    show adj fs (ap (inv p) (ap p d.1)) (ap (inv p) (ap p d.2))
    rw [e1, e2]
    exact .inl hd
  · rw [z]
    show adj fs (ap (inv p) (ap p d.2)) (ap (inv p) (ap p d.1))
    rw [e1, e2]
    exact .inr hd
theorem ren_iff {fs : List Ed} (ve : VE n fs) {u v : Nat} (hu : u < n) (hv : v < n) : Rch (renE p fs) (ap p u) (ap p v) ↔ Rch fs u v := by
  refine ⟨fun r => ?_, fun r => r.ren p⟩
  have := ren_back hp hl ve r
  rw [ap_inv hp (by omega), ap_inv hp (by omega)] at this
  exact this
theorem conn_ren {fs : List Ed} (ve : VE n fs) (hn : 1 ≤ n) : conn n (renE p fs) ↔ conn n fs := by
  have lt : ∀ x, x < n → ap p x < n := fun x hx => by rw [← hl]; exact ap_lt hp (by omega)
  have sur : ∀ y, y < n → ∃ x, x < n ∧ ap p x = y := fun y hy => by
    obtain ⟨x, a, b⟩ := ap_surj hp (y := y) (by omega)
    exact ⟨x, by omega, b⟩
  constructor
  · intro c v hv
    have a := (ren_iff hp hl ve hn hv).mp (((c _ (lt 0 hn)).symm).trans (c _ (lt v hv)))
    exact a
  · intro c v hv
    obtain ⟨x, hx, rfl⟩ := sur v hv
    obtain ⟨z, hz, ez⟩ := sur 0 hn
    rw [← ez]
    exact (ren_iff hp hl ve hz hx).mpr ((c z hz).symm.trans (c x hx))
end
/-- the passages in the order q, the places named by p -/
def ordE (q : List Nat) (es : List Ed) : List Ed := q.map fun j => es.getD j (0, 0)
def renQ (p q : List Nat) (es : List Ed) : List Ed := q.map fun j => tieF (ap p (es.getD j (0, 0)).1) (ap p (es.getD j (0, 0)).2)
theorem renQ_eq (p q : List Nat) (es : List Ed) : renQ p q es = renE p (ordE q es) := by
  unfold renQ renE ordE
  rw [List.map_map]
  rfl
theorem ord_range (es : List Ed) : ordE (List.range es.length) es = es := by
  unfold ordE
  refine List.ext_getElem? fun i => ?_
  rw [List.getElem?_map]
  by_cases h : i < es.length
  · rw [List.getElem?_range h, getD_at h]
    rfl
  · rw [List.getElem?_eq_none (by rw [List.length_range]; omega), List.getElem?_eq_none (by omega)]
    rfl
section
variable {n : Nat} {es : List Ed} (h : CN n es) {p q : List Nat} (hp : IsP p) (hl : p.length = n) (hq : IsP q) (ql : q.length = es.length)
include hq ql
theorem ord_perm : (ordE q es).Perm es := by
  have a := (perm_range hq).map fun j => es.getD j (0, 0)
  rw [ql] at a
  have b := ord_range es
  unfold ordE at b ⊢
  rw [b] at a
  exact a
theorem ord_erase {k : Nat} (hk : k < es.length) (e : Ed) : e ∈ (ordE q es).eraseIdx k ↔ e ∈ es.eraseIdx (ap q k) := by
  rw [List.mem_eraseIdx_iff_getElem?, List.mem_eraseIdx_iff_getElem?]
  unfold ordE
  constructor
  · rintro ⟨j, jk, ej⟩
    rw [List.getElem?_map] at ej
    have jl : j < q.length := by
      by_cases z : j < q.length
      · exact z
      · rw [List.getElem?_eq_none (by omega)] at ej
        cases ej
    rw [ap_get jl] at ej
    obtain rfl : es.getD (ap q j) (0, 0) = e := Option.some.inj ej
    refine ⟨ap q j, fun z => jk (ap_inj hq jl (by omega) z), getD_at (by rw [← ql]; exact ap_lt hq jl)⟩
  · rintro ⟨j, jk, ej⟩
    have jl := (List.getElem?_eq_some_iff.mp ej).1
    obtain ⟨i, hi, rfl⟩ := ap_surj hq (y := j) (by omega)
    refine ⟨i, fun z => jk (by rw [z]), ?_⟩
    rw [List.getElem?_map, ap_get hi]
    rw [getD_at jl] at ej
    exact ej
include h hp hl
theorem CN.renQ : CN n (renQ p q es) := by
  rw [renQ_eq]
  exact (h.perm (ord_perm hq ql)).ren hp hl
omit h hp hl in
theorem renQ_len : (Hw.renQ p q es).length = es.length := by
  unfold Hw.renQ
  rw [List.length_map, ql]
omit hp hl in
theorem ord_ve (k : Nat) : VE n ((ordE q es).eraseIdx k) := ve_erase (h.perm (ord_perm hq ql)).2.1
omit h hp hl hq ql in
theorem renQ_erase (k : Nat) : (Hw.renQ p q es).eraseIdx k = renE p ((ordE q es).eraseIdx k) := by
  rw [renQ_eq]
  unfold renE
  rw [List.eraseIdx_eq_take_drop_succ, List.eraseIdx_eq_take_drop_succ, List.map_append, List.map_take, List.map_drop]
theorem rch_renQ {k u v : Nat} (hk : k < es.length) (hu : u < n) (hv : v < n) : Rch ((Hw.renQ p q es).eraseIdx k) (ap p u) (ap p v) ↔ Rch (es.eraseIdx (ap q k)) u v := by
  rw [renQ_erase, ren_iff hp hl (ord_ve h hq ql k) hu hv]
  exact Rch.iff (ord_erase hq ql hk)
theorem mem_brg_ren {k : Nat} : k ∈ brg n (Hw.renQ p q es) ↔ k < es.length ∧ ap q k ∈ brg n es := by
  rw [mem_brg (h.renQ hp hl hq ql), mem_brg h, renQ_len hq ql]
  constructor
  · rintro ⟨a, b⟩
    refine ⟨a, by rw [← ql]; exact ap_lt hq (by omega), fun c => b ?_⟩
    rw [renQ_erase]
    refine (conn_ren hp hl (ord_ve h hq ql k) h.1).mpr fun v hv => ?_
    exact (Rch.iff (ord_erase hq ql a)).mpr (c v hv)
  · rintro ⟨a, _, b⟩
    refine ⟨a, fun c => b ?_⟩
    rw [renQ_erase] at c
    have c := (conn_ren hp hl (ord_ve h hq ql k) h.1).mp c
    exact fun v hv => (Rch.iff (ord_erase hq ql a)).mp (c v hv)
theorem brg_ren : ((brg n (Hw.renQ p q es)).map (ap q)).Perm (brg n es) := by
  refine perm_of_mem ?_ (brg_nodup _ _) fun x => ?_
  · rw [List.nodup_iff_pairwise_ne, List.pairwise_map]
    refine List.Pairwise.imp_of_mem (fun {a b} ha hb ne e => ne ?_) (List.nodup_iff_pairwise_ne.mp (brg_nodup _ _))
    have a1 := ((mem_brg_ren h hp hl hq ql).mp ha).1
    have b1 := ((mem_brg_ren h hp hl hq ql).mp hb).1
    exact ap_inj hq (by omega) (by omega) e
  · rw [List.mem_map]
    constructor
    · rintro ⟨k, hk, rfl⟩
      exact ((mem_brg_ren h hp hl hq ql).mp hk).2
    · intro hx
      have xl := ((mem_brg h).mp hx).1
      obtain ⟨k, hk, rfl⟩ := ap_surj hq (y := x) (by omega)
      exact ⟨k, (mem_brg_ren h hp hl hq ql).mpr ⟨by omega, hx⟩, rfl⟩
theorem rch_inn {u v : Nat} (hu : u < n) (hv : v < n) : Rch (inn n (Hw.renQ p q es)) (ap p u) (ap p v) ↔ Rch (inn n es) u v := by
  have lt : ∀ x, x < n → ap p x < n := fun x hx => by rw [← hl]; exact ap_lt hp (by omega)
  rw [sep (h.renQ hp hl hq ql) (lt u hu) (lt v hv), sep h hu hv, renQ_len hq ql]
  constructor
  · intro a i hi
    obtain ⟨k, hk, rfl⟩ := ap_surj hq (y := i) (by omega)
    exact (rch_renQ h hp hl hq ql (by omega) hu hv).mp (a k (by omega))
  · intro a k hk
    exact (rch_renQ h hp hl hq ql hk hu hv).mpr (a _ (by rw [← ql]; exact ap_lt hq (by omega)))
end
/-! ### cells -/
theorem mem_cel {n : Nat} {es : List Ed} (h : CN n es) {c : List Nat} : c ∈ cel n es ↔ ∃ x, x < n ∧ c = cls n (lj n (inn n es)) (ap (lj n (inn n es)) x) := by
  have lb := lb_lj (okE_ve (ok := fun j => !decide (j ∈ brg n es)) h.2.1)
  change Lb n (inn n es) (lj n (inn n es)) at lb
  unfold cel celL
  rw [List.mem_map]
  constructor
  · rintro ⟨l, hl, rfl⟩
    obtain ⟨a, b⟩ := mem_rts.mp hl
    exact ⟨l, a, by rw [b]⟩
  · rintro ⟨x, hx, rfl⟩
    exact ⟨_, mem_rts.mpr (root_ap lb hx), rfl⟩
theorem mem_clsr {n : Nat} {es : List Ed} (h : CN n es) {x y : Nat} (hx : x < n) : y ∈ cls n (lj n (inn n es)) (ap (lj n (inn n es)) x) ↔ y < n ∧ Rch (inn n es) x y := by
  have ve : VE n (inn n es) := okE_ve h.2.1
  rw [mem_cls]
  constructor
  · rintro ⟨a, b⟩
    exact ⟨a, ((lj_same ve a hx).mp b).symm⟩
  · rintro ⟨a, b⟩
    exact ⟨a, (lj_same ve a hx).mpr b.symm⟩
def img (n : Nat) (p c : List Nat) : List Nat := (List.range n).filter fun y => decide (y ∈ c.map (ap p))
theorem cel_rise {n : Nat} {es : List Ed} (h : CN n es) : (cel n es).Pairwise fun c d => ∃ a t b s, c = a :: t ∧ d = b :: s ∧ a < b := by
  have lb := lb_lj (okE_ve (ok := fun j => !decide (j ∈ brg n es)) h.2.1)
  change Lb n (inn n es) (lj n (inn n es)) at lb
  unfold cel celL
  rw [List.pairwise_map]
  refine List.Pairwise.imp_of_mem (fun {a b} ha hb lt => ?_) (filter_rise n _)
  obtain ⟨a1, a2⟩ := mem_rts.mp ha
  obtain ⟨b1, b2⟩ := mem_rts.mp hb
  obtain ⟨t, ht⟩ := cls_head lb a1 a2
  obtain ⟨s, hs⟩ := cls_head lb b1 b2
  exact ⟨a, t, b, s, ht, hs, lt⟩
theorem cel_nodup {n : Nat} {es : List Ed} (h : CN n es) : (cel n es).Nodup := by
  rw [List.nodup_iff_pairwise_ne]
  refine List.Pairwise.imp (fun {c d} z e => ?_) (cel_rise h)
  obtain ⟨a, t, b, s, rfl, rfl, lt⟩ := z
  cases e
  omega
section
variable {n : Nat} {es : List Ed} (h : CN n es) {p q : List Nat} (hp : IsP p) (hl : p.length = n) (hq : IsP q) (ql : q.length = es.length)
include h hp hl hq ql
theorem img_cls {x : Nat} (hx : x < n) : img n p (cls n (lj n (inn n es)) (ap (lj n (inn n es)) x)) = cls n (lj n (inn n (renQ p q es))) (ap (lj n (inn n (renQ p q es))) (ap p x)) := by
  have lt : ∀ x, x < n → ap p x < n := fun x hx => by rw [← hl]; exact ap_lt hp (by omega)
  have cr := h.renQ hp hl hq ql
  have e : cls n (lj n (inn n (renQ p q es))) (ap (lj n (inn n (renQ p q es))) (ap p x)) = (List.range n).filter fun y => decide (y ∈ cls n (lj n (inn n (renQ p q es))) (ap (lj n (inn n (renQ p q es))) (ap p x))) := by
    conv => lhs; unfold cls
    refine filter_ext fun y hy => ?_
    rw [decide_eq_true_eq, decide_eq_true_eq, mem_cls]
    exact ⟨fun z => ⟨hy, z⟩, fun z => z.2⟩
  rw [e]
  unfold img
  refine filter_ext fun y hy => ?_
  rw [decide_eq_true_eq, decide_eq_true_eq, mem_clsr cr (lt x hx), List.mem_map]
  constructor
  · rintro ⟨z, hz, rfl⟩
    obtain ⟨a, b⟩ := (mem_clsr h hx).mp hz
    exact ⟨hy, (rch_inn h hp hl hq ql hx a).mpr b⟩
  · rintro ⟨_, b⟩
    obtain ⟨z, hz, rfl⟩ := ap_surj hp (y := y) (by omega)
    exact ⟨z, (mem_clsr h hx).mpr ⟨by omega, (rch_inn h hp hl hq ql hx (by omega)).mp b⟩, rfl⟩
theorem cel_ren : ((cel n es).map (img n p)).Perm (cel n (renQ p q es)) := by
  have lt : ∀ x, x < n → ap p x < n := fun x hx => by rw [← hl]; exact ap_lt hp (by omega)
  have cr := h.renQ hp hl hq ql
  have mem : ∀ c', c' ∈ (cel n es).map (img n p) ↔ c' ∈ cel n (renQ p q es) := fun c' => by
    rw [List.mem_map, mem_cel cr]
    constructor
    · rintro ⟨c, hc, rfl⟩
      obtain ⟨x, hx, rfl⟩ := (mem_cel h).mp hc
      exact ⟨ap p x, lt x hx, img_cls h hp hl hq ql hx⟩
    · rintro ⟨x', hx', rfl⟩
      obtain ⟨x, hx, rfl⟩ := ap_surj hp (y := x') (by omega)
      exact ⟨_, (mem_cel h).mpr ⟨x, by omega, rfl⟩, img_cls h hp hl hq ql (by omega)⟩
  refine (List.perm_ext_iff_of_nodup ?_ (cel_nodup cr)).mpr mem
  rw [List.nodup_iff_pairwise_ne, List.pairwise_map]
  refine List.Pairwise.imp_of_mem (fun {c d} hc hd ne e => ne ?_) (List.nodup_iff_pairwise_ne.mp (cel_nodup h))
  obtain ⟨x, hx, rfl⟩ := (mem_cel h).mp hc
  obtain ⟨y, hy, rfl⟩ := (mem_cel h).mp hd
  rw [img_cls h hp hl hq ql hx, img_cls h hp hl hq ql hy] at e
  have m : ap p y ∈ cls n (lj n (inn n (renQ p q es))) (ap (lj n (inn n (renQ p q es))) (ap p y)) := (mem_clsr cr (lt y hy)).mpr ⟨lt y hy, .refl _⟩
  rw [← e] at m
  have r := (rch_inn h hp hl hq ql hx hy).mp ((mem_clsr cr (lt x hx)).mp m).2
  have ve : VE n (inn n es) := okE_ve h.2.1
  rw [(lj_same ve hx hy).mpr r]
end
/-- sorted, the same numbers -/
theorem img_of {n : Nat} {p c s : List Nat} (hp : IsP p) (hl : p.length = n) (hc : c.Nodup) (lt : ∀ x ∈ c, x < n) (ps : s.Perm (c.map (ap p))) (so : s.Pairwise (· ≤ ·)) : s = img n p c := by
  have nd : (c.map (ap p)).Nodup := by
    rw [List.nodup_iff_pairwise_ne, List.pairwise_map]
    refine List.Pairwise.imp_of_mem (fun {a b} ha hb ne e => ne ?_) (List.nodup_iff_pairwise_ne.mp hc)
    exact ap_inj hp (by rw [hl]; exact lt a ha) (by rw [hl]; exact lt b hb) e
  have p2 : (img n p c).Perm (c.map (ap p)) := perm_of_mem (List.Nodup.sublist List.filter_sublist List.nodup_range) nd fun y => by
    unfold img
    rw [List.mem_filter, decide_eq_true_eq, List.mem_range]
    refine ⟨fun z => z.2, fun z => ⟨?_, z⟩⟩
    obtain ⟨x, hx, rfl⟩ := List.mem_map.mp z
    rw [← hl]
    exact ap_lt hp (by rw [hl]; exact lt x hx)
  refine List.Perm.eq_of_pairwise (fun a b _ _ x y => Nat.le_antisymm x y) so ?_ (ps.trans p2.symm)
  exact List.Pairwise.imp (fun z => Nat.le_of_lt z) (filter_rise n _)
theorem rise_eq {s t : List Nat} (ps : s.Perm t) (so : s.Pairwise (· ≤ ·)) (st : t.Pairwise (· < ·)) : s = t :=
  List.Perm.eq_of_pairwise (fun a b _ _ x y => Nat.le_antisymm x y) so (List.Pairwise.imp (fun z => Nat.le_of_lt z) st) ps
end Hw

/-! repr of data: it asks that no repr is under way, which the level alone does not tell. -/
namespace Hw
open PySem PySem.Spec PyProof.Rows L2
/-- no repr is under way below -/
def NoG (A : Around) : Prop := A.guards = some []
theorem NoG.deeper {A : Around} (g : NoG A) (env : Env) : NoG (A.deeper env) := g
/-- a promise that is kept where no repr is under way -/
def FnG (P : Program) (w : World) (K : PySem.W.Frag) (mg : Str → Option Value) (base : Heap) (k : Nat) (f : Addr) (fd : FuncData) (ps : List Str) (sp : Sp) : Prop :=
  ∀ (A : Around), NoG A → Room k A → ∀ (outer : List Env) (st : Shared) (H : Hp) (ar : Args) (us : List Value) (vs : List V) (Q : VK) (E : XK),
    Env0 P w K mg base A outer st H → BindsTo st fd ar (ps.zip us) → Vals vs us → sp vs H Q E → codeAny (model P w) A (.call (.ref f) ar) (CR CX0 outer P w H st Q E) st
section
variable {P : Program} {w : World} {K : PySem.W.Frag} {mg : Str → Option Value} {base : Heap}
theorem okG {x qual : Str} {stm : Stmt} {f : Addr} {fd : FuncData} {N ps : List Str} {k : Nat} {sp : Sp} (F : Fun K x qual stm f fd) (S : FnScope N ps (defScope stm)) (ln : ∀ vs H Q E, sp vs H Q E → vs.length = ps.length)
    (body : ∀ (cdv : Value) (A : Around) (outer : List Env) (st : Shared) (H : Hp) (vs : List V) (Q : VK) (E : XK), NoG A → Room k (A.deeper (envOfC qual (defScope stm) st.heap.objs.size f cdv)) → sp vs H Q E →
      ∃ t, PSs (cxOf CX0 P w K mg base N qual (defScope stm) f cdv A outer st H E).nox (defBody stm) t ∧ t { nx := fun _ H' => Q .non H', rt := Q } (start N vs) H) :
    FnG P w K mg base (k + 1) f fd ps sp := by
  obtain ⟨oc, od, kV, doc, pm, an, cdv, ct, osl, rfl, lk, cr⟩ := F.ex
  intro A g rm outer st H ar us vs Q E e0 bn rl hs
  have eq := ln _ _ _ _ hs
  have keep := e0.mod.kin.keeps fun b o e => (e0.bs b o e).1
  have nolim := e0.mod.nolimit.keeps fun b o e => (e0.bs b o e).1
  refine codeAny_call_function rm.depth (keep _ _ lk) rfl S.co S.gen rfl (PySem.W.codeRec_of keep cr) (bn _ _ _ _ ?_)
  refine wpAny_newFunctionEnv_cells S.kind ?_ fun env ee s1 ic => ?_
  · rintro ⟨y, u⟩ hy
    have hp := S.par y (List.of_mem_zip hy).1
    exact hp.elim Or.inl fun q => Or.inr ⟨q, PySem.W.cellsFrom_some _ _ _ (Or.inl q)⟩
  · subst ee
    obtain ⟨t, ht, q⟩ := body cdv A outer st H vs Q E g (rm.deeper _) hs
    have I0 := inv_start (CX := CX0) (E := E) S rm.hd e0 eq rl ic
    refine ⟨nolim.keeps ic.toInCall.keep, codeAny_func (wpAny_mono (ht.nox.run [] s1 (start N vs) H _ I0 q) (fun fl s2 r => ?_) fun _ _ z => z)⟩
    cases fl with
    | ret u => exact let ⟨v, _, H', J, rv, q2⟩ := r; ⟨v, H', J.os, J.bare, J.base, J.hok, rv, q2⟩
    | next => exact let ⟨_, H', J, q2⟩ := r; ⟨V.non, H', J.os, J.bare, J.base, J.hok, rfl, q2⟩
    | brk => exact let ⟨_, _, _, z⟩ := r; z.elim
    | cont => exact let ⟨_, _, _, z⟩ := r; z.elim
/-- a def that can be called by its name where no repr is under way -/
structure CalG (P : Program) (w : World) (K : PySem.W.Frag) (mg : Str → Option Value) (base : Heap) (x : Str) (k : Nat) (ps : List Str) (sp : Sp) : Prop where
  ex : ∃ (f : Addr) (fd : FuncData), mg x = some (.ref f) ∧ PySem.W.keepIn K (.ref f) = true ∧ Binds K fd ps [] ∧ (∀ vs H Q E, sp vs H Q E → vs.length = ps.length) ∧ FnG P w K mg base k f fd ps sp
theorem calG_of {x : Str} {stm : Stmt} {N ps : List Str} {k : Nat} {sp : Sp} (D : Df K mg x stm ps) (S : FnScope N ps (defScope stm)) (ln : ∀ vs H Q E, sp vs H Q E → vs.length = ps.length)
    (body : ∀ (f : Addr) (cdv : Value) (A : Around) (outer : List Env) (st : Shared) (H : Hp) (vs : List V) (Q : VK) (E : XK), NoG A → Room k (A.deeper (envOfC x (defScope stm) st.heap.objs.size f cdv)) → sp vs H Q E →
      ∃ t, PSs (cxOf CX0 P w K mg base N x (defScope stm) f cdv A outer st H E).nox (defBody stm) t ∧ t { nx := fun _ H' => Q .non H', rt := Q } (start N vs) H) : CalG P w K mg base x (k + 1) ps sp := by
  obtain ⟨f, fd, F, b, g⟩ := D.ex
  exact ⟨f, fd, g, F.kp, b, ln, okG F S ln fun cdv A outer st H vs Q E => body f cdv A outer st H vs Q E⟩
end
section
variable {X : Cx}
theorem pe_clG {k : Nat} {sp : Sp} {ps : List Str} {x : Str} {p pos : Pos} {e : Expr} {es : List Expr} {t : TA} (c : CalG X.prog X.w X.K X.mg X.base x k ps sp) (g : NoG X.A) (hr : Room k X.A) (hg : Gl X x) (ha : PA X (e :: es) t) (hdb : (x == ("__debug__" : Str)) = false := by decide)
    (he : starEach (e :: es) X.env = (false, eval e X.env) :: starEach es X.env := by rfl) (hpl : (backTo pos (starEach es X.env)).any (·.1) = false := by rfl) :
    PE X (.Call (.Name x p) (e :: es) [] pos) (tCal sp t) := by
  obtain ⟨f, fd, hm, hk, b, ln, F⟩ := c.ex
  refine ⟨fun pins st σ H Q I h => wpAny_Call_Name_kw (ld_glob I hg hm ?_ hdb)⟩
  refine PySem.W.callWith_K (h₀ := X.base) I.ok.mod.kin hk (thn (ha.run pos pins st σ H _ I h) fun us s1 ⟨vs, H1, I1, r, q⟩ => ⟨I1.kIn, wpAny_call ?_⟩) he hpl
  have bd : BindsTo s1 fd ⟨us, []⟩ (ps.zip us) := by
    have z := b s1 us I1.kIn (by rw [← ln _ _ _ _ q, r.length, List.append_nil])
    rw [List.append_nil] at z
    exact z
  refine codeAny_mono (F X.A g hr X.stack s1 H1 ⟨us, []⟩ us vs Q E0 I1.env0 bd r q) fun rs s2 hq => ?_
  cases rs with
  | error er => exact (hq : False).elim
  | ok fl =>
    cases fl with
    | ret u => exact I1.after hq
    | next => exact (hq : False).elim
    | brk => exact (hq : False).elim
    | cont => exact (hq : False).elim
/-! ### repr of tuples of numbers, and of tuples of them -/
def dT (p : List Nat) : PyData := .tuple ((NI p).map PyData.int)
def dCT (cs : List (List Nat)) : PyData := .tuple (cs.map dT)
/-- few and small numbers -/
def Sm (p : List Nat) : Prop := p.length ≤ 100 ∧ ∀ x ∈ p, x < 1000
theorem log_small {x : Nat} (h : x < 1000) : (x : Int).natAbs.log2 < 10 := by
  rw [Int.natAbs_natCast]
  by_cases z : x = 0
  · subst z; decide
  · exact (Nat.log2_lt z).mpr (by omega)
theorem show_ints : ∀ p : List Nat, (∀ x ∈ p, x < 1000) → PyData.showableAll ((NI p).map PyData.int) = true
  | [], _ => rfl
  | x :: p, h => by
    have := log_small (h x List.mem_cons_self)
    show (decide ((x : Int).natAbs.log2 < 1920) && PyData.showableAll ((NI p).map PyData.int)) = true
    rw [decide_eq_true (by omega), show_ints p fun y hy => h y (List.mem_cons_of_mem _ hy)]
    rfl
theorem short_ints : ∀ p : List Nat, (∀ x ∈ p, x < 1000) → PyData.intsShortAll 13 ((NI p).map PyData.int) = true
  | [], _ => rfl
  | x :: p, h => by
    have hx := h x List.mem_cons_self
    have l := toString_length_le (v := (x : Int)) (by omega) (k := 3) (by decide) (by omega)
    show (decide ((PyData.shown (.int (x : Int))).length ≤ 13) && PyData.intsShortAll 13 ((NI p).map PyData.int)) = true
    have l2 : (PyData.shown (.int (x : Int))).length ≤ 13 := by
      unfold PyData.shown
      exact Nat.le_trans l (by decide)
    rw [decide_eq_true l2, short_ints p fun y hy => h y (List.mem_cons_of_mem _ hy)]
    rfl
theorem weight_ints : ∀ p : List Nat, (∀ x ∈ p, x < 1000) → PyData.weightAll ((NI p).map PyData.int) ≤ 12 * p.length
  | [], _ => Nat.zero_le _
  | x :: p, h => by
    have hx := log_small (h x List.mem_cons_self)
    have ih := weight_ints p fun y hy => h y (List.mem_cons_of_mem _ hy)
    have w : PyData.weight (.int (x : Int)) ≤ 11 := by
      unfold PyData.weight
      split <;> omega
    show PyData.weight (.int (x : Int)) + 1 + PyData.weightAll ((NI p).map PyData.int) ≤ 12 * (p.length + 1)
    omega
theorem show_dT {p : List Nat} (h : Sm p) : (dT p).showable = true := show_ints p h.2
theorem weight_dT {p : List Nat} (h : Sm p) : (dT p).weight ≤ 1200 := by
  have := weight_ints p h.2
  have := h.1
  show PyData.weightAll ((NI p).map PyData.int) ≤ 1200
  omega
theorem depth_dT (p : List Nat) : (dT p).depth = 1 := by
  show PyData.depthAll ((NI p).map PyData.int) + 1 = 1
  rw [depth_ints]
theorem lay_dT (p : List Nat) : (dT p).canLay0 = true := lay_ints _
theorem short_dT {p : List Nat} (h : Sm p) : (dT p).intsShort 13 = true := short_ints p h.2
theorem line_dT {p : List Nat} (h : Sm p) : (dT p).shown.length ≤ sizeLine := by
  have w := weight_dT h
  have d := depth_dT p
  have l : PyData.layable0 (dT p) = true := by
    show ((dT p).canLay0 && decide ((dT p).depth ≤ 64) && decide ((dT p).weight ≤ 2 ^ 20)) = true
    rw [lay_dT, d, decide_eq_true (show (dT p).weight ≤ 2 ^ 20 by omega)]
    rfl
  exact Nat.le_trans (shown_le13 l (short_dT h)) (by decide)
def SmC (cs : List (List Nat)) : Prop := cs.length ≤ 100 ∧ ∀ c ∈ cs, Sm c
theorem all_dCT : ∀ cs : List (List Nat), (∀ c ∈ cs, Sm c) → PyData.showableAll (cs.map dT) = true ∧ PyData.canLayAll0 (cs.map dT) = true ∧ PyData.intsShortAll 13 (cs.map dT) = true ∧ PyData.weightAll (cs.map dT) ≤ 1201 * cs.length ∧ PyData.depthAll (cs.map dT) ≤ 1
  | [], _ => ⟨rfl, rfl, rfl, Nat.zero_le _, Nat.zero_le _⟩
  | c :: cs, h => by
    have hc := h c List.mem_cons_self
    obtain ⟨a1, a2, a3, a4, a5⟩ := all_dCT cs fun d hd => h d (List.mem_cons_of_mem _ hd)
    refine ⟨?_, ?_, ?_, ?_, ?_⟩
    · show ((dT c).showable && PyData.showableAll (cs.map dT)) = true
      rw [show_dT hc, a1]; rfl
    · show ((dT c).canLay0 && PyData.canLayAll0 (cs.map dT)) = true
      rw [lay_dT, a2]; rfl
    · show ((dT c).intsShort 13 && PyData.intsShortAll 13 (cs.map dT)) = true
      rw [short_dT hc, a3]; rfl
    · show (dT c).weight + 1 + PyData.weightAll (cs.map dT) ≤ 1201 * (cs.length + 1)
      have := weight_dT hc
      omega
    · show max (dT c).depth (PyData.depthAll (cs.map dT)) ≤ 1
      rw [depth_dT]
      exact Nat.max_le.mpr ⟨Nat.le_refl _, a5⟩
theorem line_dCT {cs : List (List Nat)} (h : SmC cs) : (dCT cs).shown.length ≤ sizeLine := by
  obtain ⟨a1, a2, a3, a4, a5⟩ := all_dCT cs h.2
  have h1 := h.1
  have l : PyData.layable0 (dCT cs) = true := by
    show ((dCT cs).canLay0 && decide ((dCT cs).depth ≤ 64) && decide ((dCT cs).weight ≤ 2 ^ 20)) = true
    have d : (dCT cs).depth ≤ 64 := by
      show PyData.depthAll (cs.map dT) + 1 ≤ 64
      omega
    have w : (dCT cs).weight ≤ 2 ^ 20 := by
      show PyData.weightAll (cs.map dT) ≤ 2 ^ 20
      omega
    rw [decide_eq_true d, decide_eq_true w]
    show (PyData.canLayAll0 (cs.map dT) && true && true) = true
    rw [a2]; rfl
  exact Nat.le_trans (shown_le13 l a3) (by decide)
theorem hd_dT (p : List Nat) : (dT p).hasDict = false := PyData.hasDict_of_canLay _ (lay_dT p)
theorem reads_dT {H : Hp} {pins : List (Addr × Obj)} {σ : L2.St} {st : Shared} (I : L2.Inv X pins σ H st) {a : Addr} {p : List Nat} (h : Tp H a p) : Reads st.heap (.ref a) (dT p) [] := by
  obtain ⟨its, rv, ⟨o, ho, hc, n, hd⟩, _⟩ := I.tuple (sq_of (K := X.K) h)
  rw [NV_NI] at rv
  exact Reads.tuple ho hc hd (by simpa using reads_ints (h := st.heap) rv)
def rReprT : List V → Hp → VK → Prop := fun vs H Q => ∃ (a : Addr) (p : List Nat), vs = [.ref a] ∧ Tp H a p ∧ Sm p ∧ Q (.str (dT p).shown) H
theorem cr_reprT (g : NoG X.A) (hu : X.A.units + 64 < cLine) : CallR X (.builtin "repr") rReprT := by
  rintro pins st σ H vs us Q I r ⟨a, p, rfl, h, sm, q⟩
  rw [Vals.ref1 r]
  have rd := reads_dT I h
  refine repr_of_reads' rd (show_dT sm) (fun z => by rw [hd_dT] at z; cases z) g (by rw [depth_dT]; omega) (fun _ _ e => e) (fun h' u tk kp => ?_) (line_dT sm)
  exact ⟨.str _, H, I.kept kp, ⟨_, rfl⟩, q⟩
end
end Hw

/-! sorted(xs), xs a list of tuples of numbers -/
namespace Hw
open PySem PySem.Spec PyProof.Rows L2
def encN (k : Addr × List Nat) : PyData := dT k.2
theorem le_encN (k l : Addr × List Nat) : PySem.W.dataLe false encN k l = !decide (NI l.2 < NI k.2) := le_encT (k.1, NI k.2) (l.1, NI l.2)
theorem each_refsN {R : Value → Addr × List Nat → Prop} : ∀ ks : List (Addr × List Nat), (∀ k ∈ ks, R (.ref k.1) k) → PySem.W.EachIs R (ks.map fun k => Value.ref k.1) ks
  | [], _ => .nil
  | k :: ks, h => .cons (h k List.mem_cons_self) (each_refsN ks fun l hl => h l (List.mem_cons_of_mem _ hl))
theorem each_outN : ∀ {ks : List (Addr × List Nat)} {out : List Value}, PySem.W.EachIs (fun v k => v = Value.ref k.1) out ks → out = ks.map fun k => Value.ref k.1
  | [], _, .nil => rfl
  | k :: ks, _, .cons e t => by
    rw [e, each_outN t]
    rfl
theorem lt_tri {a b : List Int} (h1 : ¬ b < a) (h2 : ¬ a < b) : a = b := List.le_antisymm h1 h2
theorem nlt_trans {a b c : List Int} (h1 : ¬ b < a) (h2 : ¬ c < b) : ¬ c < a := List.le_trans (l₁ := a) (l₂ := b) (l₃ := c) h1 h2
theorem nlt_total (a b : List Int) : ¬ b < a ∨ ¬ a < b := List.le_total a b
theorem vals_refsM : ∀ {ks : List (Addr × List Nat)} {us : List Value}, Vals (ks.map fun k => V.ref k.1) us → us = ks.map fun k => Value.ref k.1
  | [], _, .nil => rfl
  | k :: ks, _, .cons r t => by
    obtain rfl : _ = Value.ref k.1 := r
    rw [vals_refsM t]
    rfl
theorem refs_valsM : ∀ ks : List (Addr × List Nat), Vals (ks.map fun k => V.ref k.1) (ks.map fun k => Value.ref k.1)
  | [] => .nil
  | k :: ks => .cons rfl (refs_valsM ks)
section
variable {X : Cx}
def rSortTN (K : PySem.W.Frag) : List V → Hp → VK → Prop := fun vs H Q => ∃ (a : Addr) (ks : List (Addr × List Nat)), vs = [V.ref a] ∧ SqL K H a (ks.map fun k => V.ref k.1) ∧ (∀ k ∈ ks, Tp H k.1 k.2 ∧ k.2 ≠ []) ∧
  ∀ (ys : List (Addr × List Nat)) (p : Addr), ys.Perm ks → ys.Pairwise (fun k l => ¬ NI l.2 < NI k.2) → H p = none → Q (.ref p) (upd H p (.lst (ys.map fun k => V.ref k.1)))
theorem cr_sortTN (hu : X.A.units + 64 < cLine) : CallR X (.builtin "sorted") (rSortTN X.K) := by
  rintro pins s σ H vs us Q I r ⟨a, ks, rfl, hs, hk, q⟩
  obtain ⟨its, rv, tL, szl⟩ := I.list hs
  have ei := vals_refsM rv
  rw [Vals.ref1 r]
  obtain ⟨o, ho, hc, n, hd⟩ := tL.isList
  have hl : its.length ≤ sizeLine := by rw [← rv.length]; exact szl
  have hl2 : ks.length ≤ sizeLine := by rw [List.length_map] at szl; exact szl
  refine PySem.Calls.call_function_entry kind_sorted plain_sorted entry_sorted (args_sorted1 _) ?_
  unfold Builtin.«sorted»
  refine wpAny_bind (m := checkCount "sorted" 1 1 _) (wpAny_pure (wpAny_bind (wpAny_collect_seq a (.inl rfl) ho hc hd (fun h' keep => ?_) (by rw [List.size_toArray]; exact hl))))
  rw [List.toList_toArray]
  refine wpAny_bind (wpAny_newList ?_ hl)
  have J : Inv X pins σ H { s with heap := h' } := I.kept (t' := s.toks) keep
  have at1 := Heap.get?_push_size h' (o := ({ cls := .type "list", data := .seq its.toArray } : Obj)) rfl
  have rd : ∀ k ∈ ks, ∃ as, Reads (h'.push { cls := .type "list", data := .seq its.toArray }) (.ref k.1) (encN k) as ∧ h'.objs.size ∉ as := fun k m => by
    obtain ⟨us2, rv2, ⟨o2, ho2, hc2, n2, hd2⟩, _⟩ := J.tuple (sq_of (K := X.K) (hk k m).1)
    rw [NV_NI] at rv2
    have r2 := reads_ints (h := h'.push { cls := .type "list", data := .seq its.toArray }) rv2
    refine ⟨[], ?_, by simp⟩
    exact Reads.tuple (Heap.get?_push_of_some _ ho2) hc2 hd2 (by simpa using r2)
  have e1 : PySem.W.EachIs (fun v (k : Addr × List Nat) => v = Value.ref k.1) its ks := by
    rw [ei]
    exact each_refsN ks fun _ _ => rfl
  have e2 : PySem.W.EachIs (fun v (k : Addr × List Nat) => ∃ as, Reads (h'.push { cls := .type "list", data := .seq its.toArray }) v (encN k) as ∧ h'.objs.size ∉ as) its ks := by
    conv => arg 2; rw [ei]
    exact each_refsN ks rd
  have al : PySem.W.AllAlike (ks.map encN) := by
    intro d hd d' hd'
    obtain ⟨k, _, rfl⟩ := List.mem_map.mp hd
    obtain ⟨l, _, rfl⟩ := List.mem_map.mp hd'
    exact PySem.W.alike_ints (NI k.2) (NI l.2)
  have srt : PySem.W.Sortable (ks.map encN) := .inl fun d hd => by
    obtain ⟨k, m, rfl⟩ := List.mem_map.mp hd
    have ne := (hk k m).2
    unfold encN dT
    cases e : k.2 with
    | nil => exact absurd e ne
    | cons x r => exact ⟨_, _, rfl⟩
  have pm : (ks.mergeSort (PySem.W.dataLe false encN)).Perm ks := List.mergeSort_perm ..
  have pw : (ks.mergeSort (PySem.W.dataLe false encN)).Pairwise fun k l => ¬ NI l.2 < NI k.2 := by
    refine List.Pairwise.imp (fun {k l} z => ?_) (List.pairwise_mergeSort (le := PySem.W.dataLe false encN) (fun a b c h1 h2 => ?_) (fun a b => ?_) ks)
    · rw [le_encN] at z
      simpa using z
    · rw [le_encN] at h1 h2 ⊢
      simp only [Bool.not_eq_true', decide_eq_false_iff_not] at h1 h2 ⊢
      exact nlt_trans h1 h2
    · rw [le_encN, le_encN]
      simp only [Bool.or_eq_true, Bool.not_eq_true', decide_eq_false_iff_not]
      exact nlt_total _ _
  obtain ⟨ms, hms⟩ : ∃ ms, ms = ks.mergeSort (PySem.W.dataLe false encN) := ⟨_, rfl⟩
  rw [← hms] at pm pw
  have ml : ms.length = ks.length := pm.length_eq
  refine wpAny_bind (wpAny_holding (wpAny_mono (PySem.W.list_sort_data (s := { s with heap := h'.push { cls := .type "list", data := .seq its.toArray } }) (vs := its) (bs := ks) (enc := encN) (R := fun v k => v = Value.ref k.1)
    (E := X.xe) (Q := fun _ s' => s' = { s with heap := sortedHeap (h'.push { cls := .type "list", data := .seq its.toArray }) h'.objs.size its (ms.map fun k => Value.ref k.1).toArray }) at1 e1 e2 al srt hl2 (fun k m => ?_) (fun out _ eo => ?_)) (fun u s' es => ?_) fun _ _ z => z))
  · have : (encN k).depth = 1 := depth_dT k.2
    rw [this]
    show X.A.units + 1 + 1 + 1 < cLine
    omega
  · rw [← hms] at eo
    rw [each_outN eo]
  · subst es
    obtain ⟨c, hc2⟩ := sortedHeap_at (out := (ms.map fun k => Value.ref k.1).toArray) at1
    have old : ∀ b ob, h'.get? b = some ob → (sortedHeap (h'.push { cls := .type "list", data := .seq its.toArray }) h'.objs.size its (ms.map fun k => Value.ref k.1).toArray).get? b = some ob := fun b ob e => by
      have lt2 := Heap.lt_size e
      rw [sortedHeap_old (Nat.ne_of_lt lt2) (by rw [Heap.size_push]; exact Nat.lt_succ_of_lt lt2)]
      exact Heap.get?_push_of_some _ e
    have sz2 : (ms.map fun k => V.ref k.1).length ≤ sizeLine := by rw [List.length_map, ml]; exact hl2
    refine wpAny_pure ⟨_, rfl, .ref h'.objs.size, upd H h'.objs.size (.lst (ms.map fun k => V.ref k.1)), J.laid (t' := s.toks) old (Nat.le_refl _) ⟨sz2, _, c, refs_valsM ms, hc2⟩, rfl, q _ _ pm pw (J.hok.fresh (Nat.le_refl _))⟩
end
end Hw

/-! The law's end for a promise that is kept where no repr is under way. -/
namespace Hw
open PySem PySem.Spec PyProof.Rows L2
section
variable {P : Program} {w : World} {K : PySem.W.Frag} {mg mb : Str → Option Value} {k : Nat} {fa a : Addr} {fd : FuncData} {x : Str} {sp : Sp} {st : Shared} {vs : List Value} {ns : List Int}
/-- what the law's call must end with -/
def EndOk (P : Program) (w : World) (fa a : Addr) (st : Shared) : Prop :=
  codeAny (model P w) callerA (.call (.ref fa) ⟨[.ref a], []⟩) (fun r s2 => r = .ok (.ret (.bool true)) ∧ OldK st.heap s2.heap ∧ s2.os = st.os ∧ AllBare s2.gens) st
theorem callerA_g : NoG callerA := rfl
/-- with a heap in which at most the script is told -/
theorem end_core (KX : K.In st.heap) (nsM : st.heap.Ns mainGlobals mg) (nsB : st.heap.Ns builtinsNs mb) (blt : ∀ y : Str, y ≠ "__name__" → mb y = bootBuiltins y) (lim : st.heap.NoLimit) (gen0 : st.gens = #[])
    (at_ : st.heap.get? a = some { cls := .type "list", data := .seq vs.toArray }) (rm : Room k callerA) (F : ∀ base : Heap, K.In base → base.Ns mainGlobals mg → FnG P w K mg base k fa fd [x] sp)
    (bnd : ∀ (s : Shared) (u : Value), BindsTo s fd ⟨[u], []⟩ [(x, u)]) {H : Hp} (only : Only H) (prom : sp [.ref a] H (fun v _ => v = .bl true) fun _ _ _ => False) (hok : HOk P w H st.heap)
    (one : ∀ b, H b ≠ none → b = a) (own : H a ≠ none → K.lookup a = none) : EndOk P w fa a st := by
  have free : ∀ b, b ≠ a → H b = none := fun b n => Classical.byContradiction fun q => n (one b q)
  have dictFree : ∀ (b : Addr) (o : Obj) (es : Array DictEntry) (ep : Nat), st.heap.get? b = some o → o.data = .dict es ep → H b = none := by
    intro b o es ep e d
    refine free b fun q => ?_
    subst q
    rw [at_] at e
    obtain rfl := Option.some.inj e
    exact nomatch d
  have nsT : ∀ (b : Addr) (m : Str → Option Value), st.heap.Ns b m → (hidT st.heap H).Ns b m := by
    rintro b m ⟨o, es, ep, e, d, r⟩
    exact ⟨o, es, ep, hidT_get e (dictFree b o es ep e d), d, r⟩
  have KT : K.In (hidT st.heap H) := by
    intro b o e
    refine hidT_get (KX b o e) (Classical.byContradiction fun q => ?_)
    obtain rfl := one b q
    rw [own q] at e
    cases e
  obtain ⟨mc, l1, l2⟩ := lim
  have md : Mod K mg (hidT st.heap H) := ⟨KT, nsT _ _ nsM, ⟨mb, nsT _ _ nsB, blt⟩, ⟨mc, nsT _ _ l1, l2⟩⟩
  have noFr : ∀ b : Addr, b ∉ frs ([] : List Env) := fun b z => by
    have z' : b ∈ ([] : List Addr) := z
    cases z'
  have e0 : Env0 P w K mg (hidT st.heap H) callerA [] st H :=
    { frames := rfl, mod := md, bs := fun b o e => of_hidT e, bsz := Nat.le_of_eq (hidT_size _ _), funs := trivial, frf := fun b z => absurd z (noFr b), hok := hok, bare := .of_eq gen0 }
  have go := F _ KT (nsT _ _ nsM) callerA callerA_g rm [] st H ⟨[.ref a], []⟩ [.ref a] [.ref a] _ _ e0 (bnd st (.ref a)) (.cons rfl .nil) prom
  refine codeAny_mono go fun r s2 h => ?_
  match r, h with
  | .error _, h => exact (h : False).elim
  | .ok .next, h => exact (h : False).elim
  | .ok .brk, h => exact (h : False).elim
  | .ok .cont, h => exact (h : False).elim
  | .ok (.ret u), h =>
    obtain ⟨v, H2, os, bare, un, hok2, rv, q⟩ := h
    obtain rfl : v = .bl true := q
    obtain rfl : u = Value.bool true := rv
    refine ⟨rfl, OldK.of_keep fun b o e => ?_, os, bare⟩
    rcases only b with z | ⟨ob, xs, z⟩
    · exact un.keep b o e z (noFr b) (by simp)
    · have e2 := (hok b _ z).1
      rw [e] at e2
      cases e2
      exact (hok2 b _ (un.frzs b _ _ z)).1
theorem end_call (KX : K.In st.heap) (nsM : st.heap.Ns mainGlobals mg) (nsB : st.heap.Ns builtinsNs mb) (blt : ∀ y : Str, y ≠ "__name__" → mb y = bootBuiltins y) (lim : st.heap.NoLimit) (gen0 : st.gens = #[])
    (at_ : st.heap.get? a = some { cls := .type "list", data := .seq vs.toArray }) (iA : IntsAre vs ns) (len : ns.length ≤ sizeLine) (rm : Room k callerA) (F : ∀ base : Heap, K.In base → base.Ns mainGlobals mg → FnG P w K mg base k fa fd [x] sp)
    (bnd : ∀ (s : Shared) (u : Value), BindsTo s fd ⟨[u], []⟩ [(x, u)]) (prom : ∀ H : Hp, Only H → SqL K H a (ns.map V.int) → sp [.ref a] H (fun v _ => v = .bl true) fun _ _ _ => False) : EndOk P w fa a st := by
  have rv := vals_ints iA
  cases hk : K.lookup a with
  | some o =>
    have e := KX a o hk
    rw [at_] at e
    obtain rfl := Option.some.inj e
    have em : Only (fun _ => none) := fun _ => .inl rfl
    have sq : SqL K (fun _ => none) a (ns.map V.int) := .inr ⟨_, vs.toArray, _, hk, rfl, rfl, rfl, by rw [List.size_toArray, iA.length]; exact len, by simpa using rv⟩
    exact end_core KX nsM nsB blt lim gen0 at_ rm F bnd em (prom _ em sq) (fun b u z => nomatch (show (none : Option HO) = some u from z)) (fun b z => absurd rfl z) fun z => absurd rfl z
  | none =>
    let H : Hp := fun b => if b = a then some (.frz { cls := .type "list", data := .seq vs.toArray } (.lst (ns.map V.int))) else none
    have Ha : H a = some (.frz { cls := .type "list", data := .seq vs.toArray } (.lst (ns.map V.int))) := if_pos rfl
    have Hn : ∀ b, b ≠ a → H b = none := fun b n => if_neg n
    have em : Only H := fun b => by
      by_cases z : b = a
      · subst z
        exact .inr ⟨_, _, Ha⟩
      · exact .inl (Hn b z)
    refine end_core KX nsM nsB blt lim gen0 at_ rm F bnd em (prom H em (.inl (.inr ⟨_, Ha⟩))) (fun b u z => ?_) (fun b z => Classical.byContradiction fun q => z (Hn b q)) fun _ => hk
    by_cases hb : b = a
    · subst hb
      rw [Ha] at z
      obtain rfl := Option.some.inj z
      exact ⟨at_, by rw [List.length_map]; exact len, vs, _, rv, at_⟩
    · rw [Hn b hb] at z
      cases z
end
theorem walk_G {l : PySem.W.OpenLaw} {n k : Nat} {q : Program} {loose : List Str} {XP : (Str → Option Value) → Heap → Prop} {YP : World → Heap → Prop} {d : DefRec} {K : Params → PySem.W.Frag} {sp : World → Sp} {x : Str}
    (most : l.most = some n) (le : n ≤ sizeLine) (df0 : d.params.defaults = []) (rm : Room k callerA) (hY : ∀ (w : World) (h : Heap), YP w h → (K w.params).In h)
    (F : ∀ (w : World) (mg : Str → Option Value) (fa : Addr) (h : Heap), (K w.params).In h → h.Ns mainGlobals mg → mg d.name = some (.ref fa) →
      ∃ fd : FuncData, (∀ (s : Shared) (u : Value), BindsTo s fd ⟨[u], []⟩ [(x, u)]) ∧ ∀ base : Heap, (K w.params).In base → base.Ns mainGlobals mg → FnG l.prog w (K w.params) mg base k fa fd [x] (sp w))
    (prom : ∀ (w : World) (H : Hp) (a : Addr) (ns : List Int), ns.length ≤ n → Only H → SqL (K w.params) H a (ns.map V.int) → sp w [.ref a] H (fun v _ => v = .bl true) fun _ _ _ => False) :
    PySem.W.WalkO q loose XP YP l.row.toRowW d [] (fun f vs => PySem.call f vs) :=
  Att.attach_call most df0 fun w _ s₁ mg _ fa _ _ _ _ a _ ns G Y _ _ _ hmg obj iA len g0 =>
    let ⟨_, bnd, hF⟩ := F w mg fa _ (hY w _ Y) G.T.g hmg
    end_call (hY w _ Y) G.T.g G.T.b G.T.builtins G.T.nolimit g0 obj iA (Nat.le_trans len le) rm hF bnd fun H hO hS => prom w H a ns len hO hS
end Hw

namespace Hw
open PySem PySem.Spec PyProof.Rows L2
def top (i : Nat) : Stmt := PySem.Challenge.pw_handwalk_k06_bridges_and_cells.main.body.getD i (.Pass ⟨0, 0, 0, 0⟩)
abbrev sWhole : Stmt := top 2
abbrev sIndex : Stmt := top 3
abbrev sIsPassage : Stmt := top 8
abbrev sFirstWrong : Stmt := top 9
abbrev sLeast : Stmt := top 10
abbrev sConn : Stmt := top 11
abbrev sFault : Stmt := top 12
abbrev sBridges : Stmt := top 13
abbrev sCells : Stmt := top 14
abbrev sExits : Stmt := top 15
abbrev sNetwork : Stmt := top 16
abbrev sMixed : Stmt := top 18
abbrev sFolded : Stmt := top 19
abbrev sDraw : Stmt := top 20
abbrev sBegun : Stmt := top 21
abbrev sMixedUp : Stmt := top 22
abbrev sTie : Stmt := top 23
abbrev sTree : Stmt := top 24
abbrev sRing : Stmt := top 25
abbrev sCore : Stmt := top 26
abbrev sShifted : Stmt := top 27
abbrev sTop : Stmt := top 28
abbrev sRenamed : Stmt := top 29
abbrev sTies : Stmt := top 30
abbrev sDoors : Stmt := top 31
abbrev sLinked : Stmt := top 32
abbrev sWeak : Stmt := top 33
abbrev sBlocks : Stmt := top 34
abbrev sReached : Stmt := top 35
abbrev sLCells : Stmt := top 36
abbrev sRight : Stmt := top 37
abbrev sRenRight : Stmt := top 38
abbrev sLaw : Stmt := top 39
/-- what the module's names are -/
structure Txt (mg : Str → Option Value) : Prop where
  len : mg "len" = none
  isinstance : mg "isinstance" = none
  int : mg "int" = none
  bool : mg "bool" = none
  tuple : mg "tuple" = none
  list : mg "list" = none
  range : mg "range" = none
  set : mg "set" = none
  enumerate : mg "enumerate" = none
  sum : mg "sum" = none
  sorted : mg "sorted" = none
  min : mg "min" = none
  zip : mg "zip" = none
  max : mg "max" = none
  repr : mg "repr" = none
end Hw

namespace Hw
open PySem PySem.Spec PyProof.Rows L2
section
variable {P : Program} {w : World} {K : PySem.W.Frag} {mg : Str → Option Value} {base : Heap}
def spWhole : Sp := fun vs H Q _ => ∃ i : Int, vs = [.int i] ∧ Q (.bl true) H
theorem scWhole : FnScope ["value"] ["value"] (defScope sWhole) := ⟨rfl, rfl, rfl, by decide +kernel, rfl, by decide +kernel, by decide +kernel⟩
theorem cal_whole (T : Txt mg) (D : Df K mg "is_whole" sWhole ["value"]) : Cal P w K mg base "is_whole" 1 spWhole := by
  refine cal_of D scWhole (fun vs H Q E h => ?_) (fun f cdv A outer s H vs Q E hr h => ?_)
  · obtain ⟨i, rfl, _⟩ := h
    rfl
  · obtain ⟨i, rfl, q⟩ := h
    refine ⟨_, pss_one (ps_ret (pe_and (pe_callB call_isi (by rfl) T.isinstance (by decide +kernel) (pa_cons (pv 0) (pa_cons (pe_bltn (v := .ty "int") (by rfl) T.int (by decide +kernel) rfl) pa_nil)))
      (pe_one (pe_not (pe_callB call_isi (by rfl) T.isinstance (by decide +kernel) (pa_cons (pv 0) (pa_cons (pe_bltn (v := .ty "bool") (by rfl) T.bool (by decide +kernel) rfl) pa_nil))))))), ?_⟩
    refine ⟨_, rfl, _, _, _, _, true, rfl, .ty _, .base (.int i), kit_ty (by decide +kernel), true, rfl, iteT ?_⟩
    refine ⟨_, rfl, _, _, _, _, false, rfl, .ty _, .base (.int i), kit_ty (by decide +kernel), false, rfl, ?_⟩
    exact q
def spIndex : Sp := fun vs H Q _ => ∃ (i c : Int), vs = [.int i, .int c] ∧ Q (.bl (decide (0 ≤ i ∧ i < c))) H
theorem scIndex : FnScope ["value", "count"] ["value", "count"] (defScope sIndex) := ⟨rfl, rfl, rfl, by decide +kernel, rfl, by decide +kernel, by decide +kernel⟩
theorem cal_index (T : Txt mg) (GW : Cal P w K mg base "is_whole" 1 spWhole) (D : Df K mg "is_index" sIndex ["value", "count"]) : Cal P w K mg base "is_index" 2 spIndex := by
  refine cal_of D scIndex (fun vs H Q E h => ?_) (fun f cdv A outer s H vs Q E hr h => ?_)
  · obtain ⟨i, c, rfl, _⟩ := h
    rfl
  · obtain ⟨i, c, rfl, q⟩ := h
    refine ⟨_, pss_one (ps_ret (pe_and (pe_cal GW hr (by rfl) (pa_cons (pv 0) pa_nil)) (pe_one (pe_chain op_le op_lt pe_int (pv 0) (pv 1))))), ?_⟩
    refine ⟨_, rfl, i, rfl, true, rfl, iteT ?_⟩
    refine ⟨_, rfl, _, _, rfl, rfl, _, rfl, ite2 (fun h => ?_) (fun h => ?_)⟩
    · refine ⟨_, rfl, _, _, rfl, rfl, ?_⟩
      have h' : (0 : Int) ≤ i := of_decide_eq_true h
      have e : decide (i < c) = decide (0 ≤ i ∧ i < c) := by
        by_cases z : i < c <;> simp [z, h']
      show Q (V.bl (decide (i < c))) H
      rw [e]
      exact q
    · have h' : ¬ (0 : Int) ≤ i := fun z => h (decide_eq_true z)
      have e : false = decide (0 ≤ i ∧ i < c) := by simp [h']
      show Q (V.bl false) H
      rw [e]
      exact q
end
end Hw

namespace Hw
open PySem PySem.Spec PyProof.Rows L2
section
variable {P : Program} {w : World} {K : PySem.W.Frag} {mg : Str → Option Value} {base : Heap}
theorem mixed_ok (x : Int) : 0 ≤ x % 2147483629 / 7 ∧ x % 2147483629 / 7 < 2 ^ 31 := by omega
def spMixed : Sp := fun vs H Q _ => ∃ (c n : Int), vs = [.int c, .int n] ∧ 0 ≤ c ∧ c < 2 ^ 40 ∧ 0 ≤ n ∧ n < 2 ^ 20 ∧ ∀ v : Int, 0 ≤ v → v < 2 ^ 31 → Q (.int v) H
theorem scMixed : FnScope ["_law_cell", "_law_n", "_law_turned"] ["_law_cell", "_law_n"] (defScope sMixed) := ⟨rfl, rfl, rfl, by decide +kernel, rfl, by decide +kernel, by decide +kernel⟩
theorem cal_mixed (D : Df K mg "_law_mixed" sMixed ["_law_cell", "_law_n"]) : Cal P w K mg base "_law_mixed" 1 spMixed := by
  have nd := scMixed.nd
  refine cal_of D scMixed (fun vs H Q E h => ?_) (fun f cdv A outer s H vs Q E hr h => ?_)
  · obtain ⟨c, n, rfl, _⟩ := h
    rfl
  · obtain ⟨c, n, rfl, c0, c1, n0, n1, q⟩ := h
    refine ⟨_, pss_cons (ps_set (i := 2) nd rfl (.inl rfl) (pe_op op_add (pe_op op_add (pe_op op_mod (pe_op op_mul (pe_op op_mul (pv 0) (pe_op op_add pe_int (pe_op op_mul pe_int (pv 1)))) pe_int) pe_int) (pe_op op_mul (pe_op op_mul pe_int (pv 1)) (pv 1))) (pe_op op_mul pe_int (pv 1))))
      <| pss_one (ps_ret (pe_op op_fdiv (pe_op op_mod (pe_op op_mul (pv 2) pe_int) pe_int) pe_int)), ?_⟩
    refine ⟨_, rfl, _, rfl, _, _, rfl, rfl, .inl ⟨by decide, by decide⟩, _, _, rfl, rfl, _, _, rfl, rfl, .inl ⟨by omega, by omega⟩, _, _, rfl, rfl, .inr ⟨by decide, by decide⟩, _, _, rfl, rfl, (by show (0 : Int) < _; decide), ?_⟩
    refine ⟨_, rfl, _, _, rfl, rfl, .inl ⟨by decide, by decide⟩, _, rfl, _, _, rfl, rfl, .inr ⟨by omega, by omega⟩, _, _, rfl, rfl, _, rfl, _, _, rfl, rfl, .inl ⟨by decide, by decide⟩, _, _, rfl, rfl, ?_⟩
    refine ⟨_, rfl, _, _, rfl, rfl, .inr ⟨by decide, by decide⟩, _, _, rfl, rfl, (by show (0 : Int) < _; decide), _, _, rfl, rfl, ⟨by decide, by decide⟩, ?_⟩
    exact q _ (mixed_ok _).1 (mixed_ok _).2
/-! ### the cells -/
def Cells (cs : List Int) : Prop := cs.length = 64 ∧ ∀ c ∈ cs, 0 ≤ c ∧ c < 2 ^ 31
theorem cells_set {cs : List Int} (h : Cells cs) (i : Nat) (x : Int) : Cells (cs.set i (x % 2147483647)) := by
  refine ⟨by rw [List.length_set]; exact h.1, fun c hc => ?_⟩
  rcases List.mem_or_eq_of_mem_set hc with z | z
  · exact h.2 c z
  · rw [z]; omega
theorem cells_get {cs : List Int} (h : Cells cs) {i : Nat} (hi : i < 64) : ∃ c, cs[i]? = some c ∧ 0 ≤ c ∧ c < 2 ^ 31 := by
  have hl : i < cs.length := by rw [h.1]; exact hi
  exact ⟨cs[i], List.getElem?_eq_getElem hl, h.2 _ (List.getElem_mem hl)⟩
def spFolded (K : PySem.W.Frag) : Sp := fun vs H Q _ => ∃ (a : Addr) (ns : List Int), vs = [.ref a] ∧ SqL K H a (ns.map V.int) ∧ ns.length ≤ 63 ∧ ∀ H' r cs, Same H H' → H r = none → H' r = some (.lst (cs.map V.int)) → Cells cs → Q (.ref r) H'
theorem scFolded : FnScope ["_law_script", "_law_n", "_law_found", "_law_cell"] ["_law_script"] (defScope sFolded) := ⟨rfl, rfl, rfl, by decide +kernel, rfl, by decide +kernel, by decide +kernel⟩
theorem cal_folded (T : Txt mg) (D : Df K mg "_law_folded" sFolded ["_law_script"]) : Cal P w K mg base "_law_folded" 1 (spFolded K) := by
  have nd := scFolded.nd
  refine cal_of D scFolded (fun vs H Q E h => ?_) (fun f cdv A outer s H vs Q E hr h => ?_)
  · obtain ⟨a, ns, rfl, _⟩ := h
    rfl
  · obtain ⟨a, ns, rfl, ha, hl, q⟩ := h
    refine ⟨_, pss_cons (ps_setLc (i := 2) (own := [("_law_n", 1)]) (g := gName 1) (by rfl) nd rfl rfl (sw_true rfl rfl rfl (by decide +kernel)) (pi_range1 (by rfl) T.range (pa_cons pe_int pa_nil))
        (blkOk_by (own := [("_law_n", 1)]) (N := ["_law_script", "_law_n", "_law_found", "_law_cell"]) (sc := defScope sFolded) (by decide +kernel)) (fun _ _ _ _ _ => pg_name (i := 1) nd rfl (.inl rfl)) (fun _ _ _ _ _ => pts_nil)
        (fun _ _ _ _ _ => pe_op op_add pe_int (pv 1)))
      <| pss_cons (ps_for PassesOwn.never rfl (pi_enum (by rfl) T.enumerate (pa_cons (pv 0) pa_nil)) (pg_tup rfl (pgs_cons (pg_name (i := 1) nd rfl (.inl rfl)) (pgs_cons (pg_name (i := 3) nd rfl (.inl rfl)) pgs_nil)))
          (pss_one (ps_asg (pe_op op_mod (pe_op op_add (pe_op op_mul (pe_ix ix_list (pv 2) (pe_op op_mod (pv 1) pe_int) (fun _ _ => rfl)) pe_int) (pv 3)) pe_int) (pg_sub (pv 2) (pe_op op_mod (pv 1) pe_int) set_list))))
      <| pss_cons (ps_for PassesOwn.never rfl (pi_range2 (by rfl) T.range (pa_cons pe_int (pa_cons pe_int pa_nil))) (pg_name (i := 1) nd rfl (.inl rfl))
          (pss_one (ps_asg (pe_op op_mod (pe_op op_add (pe_ix ix_list (pv 2) (pv 1) (fun _ _ => rfl)) (pe_op op_mul (pe_ix ix_list (pv 2) (pe_op op_sub (pv 1) pe_int) (fun _ _ => rfl)) pe_int)) pe_int) (pg_sub (pv 2) (pv 1) set_list))))
      <| pss_one (ps_ret (pv 2)), ?_⟩
    refine ⟨_, rfl, by decide, by decide, fun D nD => lc_it (walk_rg0 (n := 64)) (fun i H' => Same H H' ∧ H' D = some (.lst (((List.range i).map fun j : Nat => (17 + (j : Int))).map V.int))) ⟨same_upd nD, upd_same⟩ (fun _ _ _ _ => trivial) ?_ ?_⟩
    · rintro i x _ H2 hi ⟨sm, hD⟩ ⟨rfl, rfl⟩
      refine ⟨rfl, _, rfl, _, _, rfl, rfl, _, hD, ?_, ?_, ?_⟩
      · rw [List.length_map, List.length_map, List.length_range]
        exact small1000 (by omega)
      · exact fun b o e => by rw [upd_ne (ne_of_none e nD)]; exact sm _ _ e
      · rw [upd_same, List.range_succ, List.map_append, List.map_append]
        rfl
    · rintro H2 ⟨sm2, hD⟩
      have c0 : Cells ((List.range 64).map fun j : Nat => (17 + (j : Int))) := by
        refine ⟨by rw [List.length_map, List.length_range], fun c hc => ?_⟩
        obtain ⟨j, hj, rfl⟩ := List.mem_map.mp hc
        rw [List.mem_range] at hj
        omega
      refine ⟨_, rfl, a, _, rfl, sm2.seq ha, for_it (walk_enum (xs := ns.map V.int)) (fun i σ H' => ∃ v1 v3 cs, σ = [some (.ref a), v1, some (.ref D), v3] ∧ Same H H' ∧ H' D = some (.lst (cs.map V.int)) ∧ Cells cs) ⟨_, _, _, rfl, sm2, hD, c0⟩ (fun i σ H' _ ⟨_, _, _, _, sm, _⟩ => sm.seq ha) ?_ ?_⟩
      · rintro i x σ H3 H4 hi ⟨v1, v3, cs, rfl, sm, hL, hc⟩ ⟨T1, i', y, rfl, nT, rfl, ei, ey⟩
        obtain rfl : V.int (i : Int) = i' := Option.some.inj ei
        have ey : (ns.map V.int)[i]? = some y := ey
        rw [List.getElem?_map] at ey
        obtain ⟨c, hc1, rfl⟩ : ∃ c, ns[i]? = some c ∧ y = V.int c := by
          cases e : ns[i]? with
          | none => rw [e] at ey; cases ey
          | some c => rw [e] at ey; exact ⟨c, rfl, (Option.some.inj ey).symm⟩
        rw [List.length_map] at hi
        have i64 : i < 64 := by omega
        obtain ⟨z, hz, z0, z1⟩ := cells_get hc i64
        have hL' : upd H3 T1 (.tup [V.int (i : Int), V.int c]) D = some (.lst (cs.map V.int)) := by
          rw [upd_ne (ne_of_none hL nT)]
          exact hL
        have smT := sm.trans (same_upd (o := .tup [V.int (i : Int), V.int c]) nT)
        refine ⟨T1, _, rfl, .inl (.inl upd_same), rfl, _, _, rfl, _, _, rfl, rfl, ?_⟩
        refine ⟨_, rfl, _, rfl, _, _, rfl, rfl, (by show (0 : Int) < 64; decide), D, _, _, _, rfl, rfl, sl_of hL', at_int hz (by omega), ?_⟩
        refine ⟨_, _, rfl, rfl, .inl ⟨by omega, by omega⟩, _, rfl, _, _, rfl, rfl, _, _, rfl, rfl, (by show (0 : Int) < 2147483647; decide), ?_⟩
        refine ⟨_, rfl, _, rfl, _, _, rfl, rfl, (by show (0 : Int) < 64; decide), D, _, _, i, rfl, rfl, hL', ix_at (by rw [List.length_map, hc.1]; exact i64) (by omega), ?_⟩
        refine ⟨_, _, cs.set i ((z * 48271 + c) % 2147483647), rfl, same_in smT nD, ?_, cells_set hc i _⟩
        rw [upd_same, set_int]
      · rintro σ H3 ⟨v1, v3, cs, rfl, sm, hL, hc⟩
        refine ⟨_, _, rfl, by decide, ?_⟩
        refine for_it (walk_range (lo := 1) (n := 63)) (fun i σ H' => ∃ v1 cs, σ = [some (.ref a), v1, some (.ref D), v3] ∧ Same H H' ∧ H' D = some (.lst (cs.map V.int)) ∧ Cells cs) ⟨_, _, rfl, sm, hL, hc⟩ (fun _ _ _ _ _ => trivial) ?_ ?_
        · rintro i x σ _ H4 hi ⟨v1, cs, rfl, sm, hL, hc⟩ ⟨rfl, rfl⟩
          obtain ⟨z, hz, z0, z1⟩ := cells_get hc (i := i + 1) (by omega)
          obtain ⟨y, hy, y0, y1⟩ := cells_get hc (i := i) (by omega)
          refine ⟨_, rfl, _, rfl, D, _, _, _, rfl, rfl, sl_of hL, at_int hz (by omega), ?_⟩
          refine ⟨_, rfl, _, rfl, _, _, rfl, rfl, D, _, _, _, rfl, rfl, sl_of hL, at_int hy (by omega), ?_⟩
          refine ⟨_, _, rfl, rfl, .inl ⟨by omega, by omega⟩, _, _, rfl, rfl, _, _, rfl, rfl, (by show (0 : Int) < 2147483647; decide), ?_⟩
          refine ⟨_, rfl, _, rfl, D, _, _, i + 1, rfl, rfl, hL, ix_at (by rw [List.length_map, hc.1]; omega) (by omega), ?_⟩
          refine ⟨_, cs.set (i + 1) ((z + y * 16807) % 2147483647), rfl, same_in sm nD, ?_, cells_set hc (i + 1) _⟩
          rw [upd_same, set_int]
        · rintro σ H4 ⟨v1, cs, rfl, sm, hL, hc⟩
          exact ⟨_, rfl, q H4 D cs sm nD hL hc⟩
end
end Hw

namespace Hw
open PySem PySem.Spec PyProof.Rows L2
/-! ### the law's source of numbers -/
def dV (lc lg : Addr) (s : Int) : List (Key × V) := [(.inr "cells", .ref lc), (.inr "great", .ref lg), (.inr "spot", .int s)]
theorem dV_cells (lc lg : Addr) (s : Int) : valV (dV lc lg s) (.inr "cells") = some (.ref lc) := by rfl
theorem dV_great (lc lg : Addr) (s : Int) : valV (dV lc lg s) (.inr "great") = some (.ref lg) := by rfl
theorem dV_spot (lc lg : Addr) (s : Int) : valV (dV lc lg s) (.inr "spot") = some (.int s) := by rfl
theorem dV_put (lc lg : Addr) (s t : Int) : putK (dV lc lg s) (.inr "spot") (.int t) = dV lc lg t := by rfl
/-- at m the source stands, its great numbers at lg; s draws were made -/
def MOk (H : Hp) (m lg lc : Addr) (s : Nat) : Prop := ∃ (cs gs : List Int), H m = some (.dK (dV lc lg (s : Int))) ∧ H lc = some (.lst (cs.map V.int)) ∧ H lg = some (.lst (gs.map V.int)) ∧ Cells cs ∧ gs.length ≤ 63 ∧ lc ≠ lg
/-- all but the source is as it was -/
def Kp (m lg : Addr) (H H' : Hp) : Prop := ∀ b o, b ≠ m → b ≠ lg → H b = some o → H' b = some o
theorem Kp.refl (m lg : Addr) (H : Hp) : Kp m lg H H := fun _ _ _ _ h => h
theorem Kp.trans {m lg : Addr} {H H1 H2 : Hp} (a : Kp m lg H H1) (b : Kp m lg H1 H2) : Kp m lg H H2 := fun c o h1 h2 h => b c o h1 h2 (a c o h1 h2 h)
theorem Kp.same {m lg : Addr} {H H' : Hp} (a : Same H H') : Kp m lg H H' := fun b o _ _ h => a b o h
/-- a tuple stays -/
theorem Kp.tup {m lg lc : Addr} {H H' : Hp} {s : Nat} (k : Kp m lg H H') (M : MOk H m lg lc s) {b : Addr} {xs : List V} (h : H b = some (.tup xs)) : H' b = some (.tup xs) := by
  obtain ⟨cs, gs, h1, h2, h3, _⟩ := M
  exact k b _ (ne_of h h1 (by intro q; cases q)) (ne_of h h3 (by intro q; cases q)) h
/-- a list other than the source's stays -/
theorem Kp.lst {m lg lc : Addr} {H H' : Hp} {s : Nat} (k : Kp m lg H H') (M : MOk H m lg lc s) {b : Addr} {xs : List V} (n : b ≠ lg) (h : H b = some (.lst xs)) : H' b = some (.lst xs) := by
  obtain ⟨cs, gs, h1, h2, h3, _⟩ := M
  exact k b _ (ne_of h h1 (by intro q; cases q)) n h
theorem MOk.same {m lg lc : Addr} {H H' : Hp} {s : Nat} (M : MOk H m lg lc s) (sm : Same H H') : MOk H' m lg lc s := by
  obtain ⟨cs, gs, h1, h2, h3, r⟩ := M
  exact ⟨cs, gs, sm _ _ h1, sm _ _ h2, sm _ _ h3, r⟩
theorem MOk.new {m lg lc l : Addr} {H : Hp} {s : Nat} (M : MOk H m lg lc s) (h : H l = none) : l ≠ lg ∧ l ≠ m ∧ l ≠ lc := by
  obtain ⟨cs, gs, h1, h2, h3, r⟩ := M
  exact ⟨fun e => (ne_of_none h3 h) e.symm, fun e => (ne_of_none h1 h) e.symm, fun e => (ne_of_none h2 h) e.symm⟩
theorem MOk.upd {m lg lc l : Addr} {H : Hp} {o : HO} {s : Nat} (M : MOk H m lg lc s) (n : l ≠ lg ∧ l ≠ m ∧ l ≠ lc) : MOk (upd H l o) m lg lc s := by
  obtain ⟨cs, gs, h1, h2, h3, r⟩ := M
  exact ⟨cs, gs, by rw [upd_ne n.2.1.symm]; exact h1, by rw [upd_ne n.2.2.symm]; exact h2, by rw [upd_ne n.1.symm]; exact h3, r⟩
theorem Kp.free {m lg lc r : Addr} {H H' : Hp} {s : Nat} (k : Kp m lg H H') (M : MOk H' m lg lc s) (nr : H' r = none) : H r = none := by
  cases e : H r with
  | none => rfl
  | some o =>
    obtain ⟨n1, n2, _⟩ := M.new nr
    rw [k r o n2 n1 e] at nr
    cases nr
section
variable {P : Program} {w : World} {K : PySem.W.Frag} {mg : Str → Option Value} {base : Heap}
def spDraw : Sp := fun vs H Q _ => ∃ (m lg lc : Addr) (s t : Nat), vs = [.ref m, .int (t : Int)] ∧ MOk H m lg lc s ∧ s ≤ 100000 ∧ 1 ≤ t ∧ t ≤ 100000 ∧ ∀ (H' : Hp) (d : Nat), d < t → Kp m lg H H' → MOk H' m lg lc (s + 1) → Q (.int (d : Int)) H'
theorem scDraw : FnScope ["_law_m", "_law_top_here", "_law_n", "_law_at", "_law_cell"] ["_law_m", "_law_top_here"] (defScope sDraw) := ⟨rfl, rfl, rfl, by decide +kernel, rfl, by decide +kernel, by decide +kernel⟩
theorem cal_draw (T : Txt mg) (GM : Cal P w K mg base "_law_mixed" 1 spMixed) (D : Df K mg "_law_draw" sDraw ["_law_m", "_law_top_here"]) : Cal P w K mg base "_law_draw" 2 spDraw := by
  have nd := scDraw.nd
  refine cal_of D scDraw (fun vs H Q E h => ?_) (fun f cdv A outer s0 H vs Q E hr h => ?_)
  · obtain ⟨m, lg, lc, s, t, rfl, _⟩ := h
    rfl
  · obtain ⟨m, lg, lc, s, t, rfl, ⟨cs, gs, h1, h2, h3, hc, hg, hne⟩, hs, t1, t2, q⟩ := h
    have hu := hu_of hr
    refine ⟨_, pss_cons (ps_set (i := 2) nd rfl (.inl rfl) (pe_dget hu (pv 0) pe_str (fun _ _ => rfl)))
      <| pss_cons (ps_dput hu (pv 0) pe_str (pe_op op_add (pv 2) pe_int) rfl)
      <| pss_cons (ps_if (pt_cmpR (op_neD hr.units) (pe_dget hu (pv 0) pe_str (fun _ _ => rfl)) (pe_lst pa_nil) (nomark _))
          (pss_cons (ps_set (i := 3) nd rfl (.inl rfl) (pe_op op_mod (pv 2) (pe_callB cr_len (by rfl) T.len PySem.boot_len (pa_cons (pe_dget hu (pv 0) pe_str (fun _ _ => rfl)) pa_nil))))
          <| pss_cons (ps_set (i := 4) nd rfl (.inl rfl) (pe_ix ix_list (pe_dget hu (pv 0) pe_str (fun _ _ => rfl)) (pv 3) (fun _ _ => rfl)))
          <| pss_one (ps_if (pt_cmpR op_gt (pv 4) pe_int (nomark _))
              (pss_cons (ps_asg (pe_op op_fdiv (pv 4) (pv 1)) (pg_sub (pe_dget hu (pv 0) pe_str (fun _ _ => rfl)) (pv 3) set_list))
              <| pss_one (ps_ret (pe_op op_mod (pv 4) (pv 1)))) pss_nil)) pss_nil)
      <| pss_one (ps_ret (pe_op op_mod (pe_cal GM hr (by rfl) (pa_cons (pe_cal GM hr (by rfl) (pa_cons (pe_op op_add (pe_ix ix_list (pe_dget hu (pv 0) pe_str (fun _ _ => rfl)) (pe_op op_mod (pv 2) pe_int) (fun _ _ => rfl)) (pe_op op_mul pe_int (pe_op op_fdiv (pv 2) pe_int))) (pa_cons (pv 2) pa_nil)))
          (pa_cons (pe_op op_add (pv 2) pe_int) pa_nil))) (pv 1))), ?_⟩
    refine ⟨_, rfl, m, _, rfl, by rw [← dV_spot lc lg (s : Int)]; exact DGet.k (k := Sum.inr "spot") h1, ?_⟩
    refine ⟨_, rfl, _, _, rfl, rfl, _, rfl, m, _, rfl, DPut.k (k := Sum.inr "spot") h1 (by show 3 < sizeLine; decide), ?_⟩
    rw [dV_put]
    have nlm : lc ≠ m := ne_of h2 h1 (by intro q; cases q)
    have ngm : lg ≠ m := ne_of h3 h1 (by intro q; cases q)
    generalize eH : upd H m (.dK (dV lc lg ((s : Int) + 1))) = H1
    have g1 : H1 m = some (.dK (dV lc lg ((s : Int) + 1))) := by rw [← eH, upd_same]
    have g2 : H1 lc = some (.lst (cs.map V.int)) := by rw [← eH, upd_ne nlm]; exact h2
    have g3 : H1 lg = some (.lst (gs.map V.int)) := by rw [← eH, upd_ne ngm]; exact h3
    have k1 : Kp m lg H H1 := fun b o n1 n2 e => by rw [← eH, upd_ne n1]; exact e
    refine ⟨_, rfl, m, _, rfl, by rw [← dV_great lc lg ((s : Int) + 1)]; exact DGet.k (k := Sum.inr "great") g1, Nat.zero_le _, fun l0 n0 => ?_⟩
    have sm := same_upd (o := .lst []) n0
    generalize eH2 : upd H1 l0 (.lst []) = H2 at *
    have f1 := sm _ _ g1
    have f2 := sm _ _ g2
    have f3 := sm _ _ g3
    have k2 : Kp m lg H H2 := k1.trans (Kp.same sm)
    have MH : ∀ (H3 : Hp) (gs' : List Int), H3 m = some (.dK (dV lc lg ((s : Int) + 1))) → H3 lc = some (.lst (cs.map V.int)) → H3 lg = some (.lst (gs'.map V.int)) → gs'.length ≤ 63 → MOk H3 m lg lc (s + 1) := fun H3 gs' a1 a2 a3 a4 =>
      ⟨cs, gs', by rw [a1]; rfl, a2, a3, hc, a4, hne⟩
    have G1 := DGet.k (k := Sum.inr "great") f1
    have G2 := DGet.k (k := Sum.inr "cells") f1
    rw [dV_great] at G1
    rw [dV_cells] at G2
    have fin : ∀ (H3 : Hp) (gs' : List Int) (x : Int), Kp m lg H H3 → H3 m = some (.dK (dV lc lg ((s : Int) + 1))) → H3 lc = some (.lst (cs.map V.int)) → H3 lg = some (.lst (gs'.map V.int)) → gs'.length ≤ 63 → Q (.int (x % (t : Int))) H3 := fun H3 gs' x a0 a1 a2 a3 a4 => by
      have t0 : (0 : Int) < (t : Int) := by omega
      have b1 := Int.emod_nonneg x (show (t : Int) ≠ 0 by omega)
      have b2 := Int.emod_lt_of_pos x t0
      obtain ⟨d, hd⟩ : ∃ d : Nat, (d : Int) = x % (t : Int) := ⟨(x % (t : Int)).toNat, by omega⟩
      rw [← hd]
      exact q H3 d (by omega) a0 (MH H3 gs' a1 a2 a3 a4)
    refine ⟨_, _, dp_li (sl_of f3), dp_li (ns := []) (sl_of (by rw [← eH2]; exact upd_same)), shaped_li _, shaped_li _, _, rfl, ?_⟩
    rw [eqv_li]
    have fin0 := fun x => fin H2 gs x k2 f1 f2 f3 hg
    by_cases z : gs = []
    case' pos =>
      rw [decide_eq_true z]
      refine iteF ?_
    case' neg =>
      rw [decide_eq_false z]
      have gl : 0 < gs.length := List.length_pos_iff.mpr z
      refine iteT ?_
      refine ⟨_, rfl, _, rfl, _, _, rfl, G1, lg, _, rfl, .inl (sl_of f3), _, _, rfl, rfl, (by rw [List.length_map]; omega), ?_⟩
      rw [List.length_map]
      obtain ⟨j, hj⟩ : ∃ j : Nat, (j : Int) = (s : Int) % (gs.length : Int) := ⟨s % gs.length, by omega⟩
      have jl : j < gs.length := by
        have := Int.emod_lt_of_pos (s : Int) (show (0 : Int) < (gs.length : Int) by omega)
        omega
      obtain ⟨c, hc1⟩ : ∃ c, gs[j]? = some c := ⟨gs[j], List.getElem?_eq_getElem jl⟩
      refine ⟨_, rfl, _, _, rfl, G1, _, rfl, lg, _, _, _, rfl, rfl, sl_of f3, at_int hc1 hj.symm, ?_⟩
      refine ⟨_, rfl, _, _, rfl, rfl, _, rfl, ite2 (fun z2 => ?hit) (fun z2 => ?_)⟩
      case hit =>
        refine ⟨_, rfl, _, rfl, _, _, rfl, rfl, ⟨by omega, by omega⟩, _, rfl, _, _, rfl, G1, _, rfl, lg, _, _, j, rfl, rfl, f3, ix_at (by rw [List.length_map]; exact jl) hj.symm, ?_⟩
        rw [set_int]
        refine ⟨_, rfl, _, rfl, _, _, rfl, rfl, by omega, ?_⟩
        refine fin _ (gs.set j (c / (t : Int))) c (fun b o n1 n2 e => by rw [upd_ne n2]; exact k2 b o n1 n2 e) ?_ ?_ upd_same (by rw [List.length_set]; exact hg)
        · rw [upd_ne ngm.symm]
          exact f1
        · rw [upd_ne hne]
          exact f2
    all_goals
      obtain ⟨y, hy, y0, y1⟩ := cells_get hc (i := s % 64) (by omega)
      refine ⟨_, rfl, _, _, rfl, G2, _, rfl, _, _, rfl, rfl, (by show (0 : Int) < 64; decide), lc, _, _, _, rfl, rfl, sl_of f2, at_int hy (by omega), ?_⟩
      refine ⟨_, rfl, _, _, rfl, rfl, ⟨by decide, by decide⟩, _, _, rfl, rfl, .inl ⟨by decide, by decide⟩, _, _, rfl, rfl, _, rfl, _, _, rfl, by omega, by omega, by omega, by omega, fun v v0 v1 => ?_⟩
      refine ⟨_, rfl, _, _, rfl, rfl, _, _, rfl, by omega, by omega, by omega, by omega, fun v' v0' v1' => ?_⟩
      exact ⟨_, rfl, _, _, rfl, rfl, by omega, fin0 v'⟩
end
end Hw

namespace Hw
open PySem PySem.Spec PyProof.Rows L2
section
variable {P : Program} {w : World} {K : PySem.W.Frag} {mg : Str → Option Value} {base : Heap}
def spBegun (K : PySem.W.Frag) : Sp := fun vs H Q _ => ∃ (a : Addr) (ns : List Int), vs = [.ref a] ∧ SqL K H a (ns.map V.int) ∧ ns.length ≤ 63 ∧ ∀ H' m lg lc, Same H H' → MOk H' m lg lc 0 → Q (.ref m) H'
theorem scBegun : FnScope ["_law_script", "_law_m", "_law_cell"] ["_law_script"] (defScope sBegun) := ⟨rfl, rfl, rfl, by decide +kernel, rfl, by decide +kernel, by decide +kernel⟩
theorem cal_begun (T : Txt mg) (GF : Cal P w K mg base "_law_folded" 1 (spFolded K)) (D : Df K mg "_law_begun" sBegun ["_law_script"]) : Cal P w K mg base "_law_begun" 2 (spBegun K) := by
  have nd := scBegun.nd
  refine cal_of D scBegun (fun vs H Q E h => ?_) (fun f cdv A outer s0 H vs Q E hr h => ?_)
  · obtain ⟨a, ns, rfl, _⟩ := h
    rfl
  · obtain ⟨a, ns, rfl, ha, hl, q⟩ := h
    have hu := hu_of hr
    refine ⟨_, pss_cons (ps_set (i := 1) nd rfl (.inl rfl) (pe_disp (pps_cons pe_str (pe_cal GF hr (by rfl) (pa_cons (pv 0) pa_nil)) (pps_cons pe_str (pe_lst pa_nil) (pps_cons pe_str pe_int pps_nil))) (by rfl) (by rfl) (fun z => by cases z) (by decide)))
      <| pss_cons (ps_dput hu (pv 1) pe_str (pe_lc (own := [("_law_cell", 2)]) (g := gName 2) (by rfl) nd (pi_list (pv 0))
          (blkOk_by (own := [("_law_cell", 2)]) (N := ["_law_script", "_law_m", "_law_cell"]) (sc := defScope sBegun) (by decide +kernel)) (fun _ _ _ _ _ => pg_name (i := 2) nd rfl (.inl rfl)) (fun _ _ _ _ _ => pts_nil)
          (fun _ _ _ _ _ => pe_ifExp (pt_cmpR op_ge (pv 2) (pe_op op_pow pe_int pe_int) (nomark _)) (pv 2) pe_int)) rfl)
      <| pss_one (ps_ret (pv 1)), ?_⟩
    intro m nm
    have sm0 := same_upd (o := .dK []) nm
    refine ⟨_, rfl, a, ns, rfl, sm0.seq ha, hl, fun H1 lc cs sm1 nlc hlc hcs => ?_⟩
    have h1m : H1 m = some (.dK []) := sm1 _ _ upd_same
    refine ⟨Nat.zero_le _, fun l0 n0 => ?_⟩
    have sm2 := sm1.trans (same_upd (o := .lst []) n0)
    have h2m : upd H1 l0 (.lst []) m = some (.dK []) := sm2 _ _ upd_same
    have h2c : upd H1 l0 (.lst []) lc = some (.lst (cs.map V.int)) := same_upd n0 _ _ hlc
    refine ⟨h2m, [(.inr "cells", .ref lc), (.inr "great", .ref l0), (.inr "spot", .int 0)], rfl, by show 3 ≤ 15; decide, ?_⟩
    have em : mergeK [] [(Sum.inr "cells", V.ref lc), (Sum.inr "great", V.ref l0), (Sum.inr "spot", V.int 0)] = dV lc l0 0 := rfl
    rw [em]
    have smA : Same H (upd (upd H1 l0 (.lst [])) m (.dK (dV lc l0 0))) := fun b o e => by
      rw [upd_ne (ne_of_none e nm)]
      exact sm2 _ _ (sm0 _ _ e)
    generalize eH2 : upd (upd H1 l0 (.lst [])) m (.dK (dV lc l0 0)) = H2 at *
    have g1 : H2 m = some (.dK (dV lc l0 0)) := by rw [← eH2, upd_same]
    have g2 : H2 lc = some (.lst (cs.map V.int)) := by
      rw [← eH2, upd_ne (ne_of h2c h2m (by intro q; cases q))]
      exact h2c
    refine ⟨_, rfl, a, rfl, ⟨_, smA.seq ha⟩, fun D nD => lc_it (walk_list (xs := ns.map V.int)) (fun i H' => Same H2 H' ∧ ∃ gs : List Int, gs.length = i ∧ H' D = some (.lst (gs.map V.int))) ⟨same_upd nD, [], rfl, upd_same⟩ (fun i H' _ ⟨sm, _⟩ => (smA.trans sm).seq ha) ?_ ?_⟩
    · rintro i x _ H3 hi ⟨sm, gs, hgl, hD⟩ ⟨rfl, hx⟩
      rw [List.length_map] at hi
      rw [List.getElem?_map] at hx
      obtain ⟨c, hc1, rfl⟩ : ∃ c, ns[i]? = some c ∧ x = V.int c := by
        cases e : ns[i]? with
        | none => rw [e] at hx; cases hx
        | some c => rw [e] at hx; exact ⟨c, rfl, (Option.some.inj hx).symm⟩
      have fin : ∀ y : Int, ∃ acc, H3 D = some (.lst acc) ∧ acc.length < sizeLine ∧ (Same H2 (upd H3 D (.lst (acc ++ [V.int y]))) ∧ ∃ gs : List Int, gs.length = i + 1 ∧ upd H3 D (.lst (acc ++ [V.int y])) D = some (.lst (gs.map V.int))) := fun y => by
        refine ⟨_, hD, by rw [List.length_map]; exact small1000 (by omega), fun b o e => ?_, gs ++ [y], by rw [List.length_append, hgl]; rfl, by rw [upd_same, List.map_append]; rfl⟩
        rw [upd_ne (ne_of_none e nD)]
        exact sm _ _ e
      refine ⟨rfl, _, rfl, _, _, rfl, rfl, ⟨by decide, by decide, by decide⟩, _, _, rfl, rfl, _, rfl, ite2 (fun _ => ?_) (fun _ => ?_)⟩
      · exact ⟨_, rfl, fin c⟩
      · exact fin 0
    · rintro H3 ⟨sm, gs, hgl, hD⟩
      rw [List.length_map] at hgl
      have f1 := sm _ _ g1
      refine ⟨_, rfl, m, _, rfl, DPut.k (k := Sum.inr "great") f1 (by show 3 < sizeLine; decide), ?_⟩
      have ep : putK (dV lc l0 0) (.inr "great") (V.ref D) = dV lc D 0 := rfl
      rw [ep]
      refine ⟨_, rfl, q _ m D lc (fun b o e => ?_) ⟨cs, gs, upd_same, ?_, ?_, hcs, by omega, ?_⟩⟩
      · rw [upd_ne (ne_of_none e nm)]
        exact sm _ _ (smA _ _ e)
      · rw [upd_ne (ne_of (sm _ _ g2) f1 (by intro q; cases q))]
        exact sm _ _ g2
      · rw [upd_ne (ne_of hD f1 (by intro q; cases q))]
        exact hD
      · exact ne_of_none g2 nD
end
end Hw

namespace Hw
open PySem PySem.Spec PyProof.Rows L2
section
variable {P : Program} {w : World} {K : PySem.W.Frag} {mg : Str → Option Value} {base : Heap}
def spMixedUp (K : PySem.W.Frag) : Sp := fun vs H Q _ => ∃ (m lg lc a : Addr) (s : Nat) (xs : List V), vs = [.ref m, .ref a] ∧ MOk H m lg lc s ∧ (SqL K H a xs ∨ SqT K H a xs) ∧ xs.length ≤ 1000 ∧ s + xs.length ≤ 100000 ∧
  ∀ H' r ys, ys.Perm xs → Kp m lg H H' → H r = none → H' r = some (.lst ys) → MOk H' m lg lc (s + xs.length) → Q (.ref r) H'
theorem scMixedUp : FnScope ["_law_m", "_law_things", "_law_stock", "_law_found", "_law_n"] ["_law_m", "_law_things"] (defScope sMixedUp) := ⟨rfl, rfl, rfl, by decide +kernel, rfl, by decide +kernel, by decide +kernel⟩
theorem cal_mixedUp (T : Txt mg) (GD : Cal P w K mg base "_law_draw" 2 spDraw) (D : Df K mg "_law_mixed_up" sMixedUp ["_law_m", "_law_things"]) : Cal P w K mg base "_law_mixed_up" 3 (spMixedUp K) := by
  have nd := scMixedUp.nd
  refine cal_of D scMixedUp (fun vs H Q E h => ?_) (fun f cdv A outer s0 H vs Q E hr h => ?_)
  · obtain ⟨m, lg, lc, a, s, xs, rfl, _⟩ := h
    rfl
  · obtain ⟨m, lg, lc, a, s, xs, rfl, M0, ha, hl, hs, q⟩ := h
    refine ⟨_, pss_cons (ps_par (i := 2) (j := 3) (by rfl) nd rfl rfl (by decide) rfl rfl (pa_cons (pe_callTy call_list_of (by rfl) T.list (by decide +kernel) (pa_cons (pv 1) pa_nil)) (pa_cons (pe_lst pa_nil) pa_nil)) (by rfl))
      <| pss_cons (ps_for PassesOwn.never rfl (pi_range1 (by rfl) T.range (pa_cons (pe_callB cr_len (by rfl) T.len PySem.boot_len (pa_cons (pv 2) pa_nil)) pa_nil)) (pg_name (i := 4) nd rfl (.inl rfl))
          (pss_one (ps_expr (pe_bm PySem.F.plainAttrs_list PySem.F.slot_list_append PySem.F.type_list_append mt_append (pv 3)
            (pa_cons (pe_bm PySem.F.plainAttrs_list PySem.F.slot_list_pop PySem.F.type_list_pop mt_popAt (pv 2) (pa_cons (pe_cal GD hr (by rfl) (pa_cons (pv 0) (pa_cons (pe_callB cr_len (by rfl) T.len PySem.boot_len (pa_cons (pv 2) pa_nil)) pa_nil))) pa_nil)) pa_nil)))))
      <| pss_one (ps_ret (pv 3)), ?_⟩
    refine ⟨_, rfl, a, xs, rfl, ha, fun l1 n1 => ?_⟩
    have sm1 := same_upd (o := .lst xs) n1
    refine ⟨Nat.zero_le _, fun l2 n2 => ?_⟩
    have sm2 := sm1.trans (same_upd (o := .lst []) n2)
    have n12 : l1 ≠ l2 := ne_of_none upd_same n2
    have n2' : H l2 = none := sm1.free n2
    refine ⟨_, _, rfl, ?_⟩
    have h1 : upd (upd H l1 (.lst xs)) l2 (.lst []) l1 = some (.lst xs) := by rw [upd_ne n12, upd_same]
    have a1 := M0.new n1
    have a2 := M0.new n2'
    refine ⟨_, rfl, l1, xs, rfl, .inl (sl_of h1), _, rfl, by omega, by omega, ?_⟩
    rw [Int.toNat_natCast]
    refine for_it walk_rg0 (fun i σ H' => ∃ v4 rest got, σ = [some (.ref m), some (.ref a), some (.ref l1), some (.ref l2), v4] ∧ Kp m lg H H' ∧ MOk H' m lg lc (s + i) ∧ H' l1 = some (.lst rest) ∧ H' l2 = some (.lst got) ∧ rest.length + i = xs.length ∧ got.length = i ∧ (got ++ rest).Perm xs)
      ⟨none, xs, [], rfl, Kp.same sm2, M0.same sm2, h1, upd_same, by omega, rfl, .refl _⟩ (fun _ _ _ _ _ => trivial) ?_ ?_
    · rintro i x σ _ H2 hi ⟨v4, rest, got, rfl, kp, M, g1, g2, hlen, hgot, hp⟩ ⟨rfl, rfl⟩
      refine ⟨_, rfl, .inl ⟨rfl, _, sl_of g2⟩, _, rfl, .inl ⟨rfl, _, sl_of g1⟩, _, rfl, _, rfl, l1, rest, rfl, .inl (sl_of g1), ?_⟩
      refine ⟨m, lg, lc, s + i, rest.length, rfl, M, by omega, by omega, by omega, fun H3 d hd kp3 M3 => ?_⟩
      have f1 := kp3.lst M a1.1 g1
      have f2 := kp3.lst M a2.1 g2
      have hy : rest[d]? = some rest[d] := List.getElem?_eq_getElem hd
      refine ⟨l1, rest, _, d, rest[d], rfl, rfl, f1, by omega, by omega, seq_ix hd, hy, ?_⟩
      have n21 := n12.symm
      refine ⟨l2, got, _, rfl, rfl, (by rw [upd_ne n21]; exact f2), by rw [hgot]; exact small1000 (by omega), ?_⟩
      refine ⟨_, rest.eraseIdx d, got ++ [rest[d]], rfl, fun b o e1 e2 e => ?_, ?_, ?_, upd_same, ?_, ?_, ?_⟩
      · rw [upd_ne (ne_of_none e n2'), upd_ne (ne_of_none e n1)]
        exact kp3 b o e1 e2 (kp b o e1 e2 e)
      · exact (M3.upd a1).upd a2
      · rw [upd_ne n12, upd_same]
      · rw [List.length_eraseIdx_of_lt hd]
        omega
      · rw [List.length_append, hgot]
        rfl
      · refine List.Perm.trans ?_ hp
        rw [List.append_assoc]
        exact List.Perm.append_left got (perm_out hy)
    · rintro σ H2 ⟨v4, rest, got, rfl, kp, M, g1, g2, hlen, hgot, hp⟩
      have : rest = [] := List.length_eq_zero_iff.mp (by omega)
      subst this
      rw [List.append_nil] at hp
      exact ⟨_, rfl, q H2 l2 got hp kp n2' g2 M⟩
end
end Hw

namespace Hw
open PySem PySem.Spec PyProof.Rows L2
def pl (e : Ed) : List Nat := [e.1, e.2]
/-- a list, a tuple of pairs -/
def EdL (H : Hp) (l : Addr) (es : List Ed) : Prop := ∃ ks : List (Addr × List Nat), H l = some (.lst (ks.map fun k => .ref k.1)) ∧ ks.map (·.2) = es.map pl ∧ ∀ k ∈ ks, Tp H k.1 k.2
def EdT (H : Hp) (l : Addr) (es : List Ed) : Prop := ∃ ks : List (Addr × List Nat), H l = some (.tup (ks.map fun k => .ref k.1)) ∧ ks.map (·.2) = es.map pl ∧ ∀ k ∈ ks, Tp H k.1 k.2
theorem EdL.same {H H' : Hp} {l : Addr} {es : List Ed} (h : EdL H l es) (s : Same H H') : EdL H' l es := by
  obtain ⟨ks, a, b, c⟩ := h
  exact ⟨ks, s _ _ a, b, fun k hk => s _ _ (c k hk)⟩
theorem EdT.same {H H' : Hp} {l : Addr} {es : List Ed} (h : EdT H l es) (s : Same H H') : EdT H' l es := by
  obtain ⟨ks, a, b, c⟩ := h
  exact ⟨ks, s _ _ a, b, fun k hk => s _ _ (c k hk)⟩
theorem EdL.kp {H H' : Hp} {l m lg lc : Addr} {s : Nat} {es : List Ed} (h : EdL H l es) (k : Kp m lg H H') (M : MOk H m lg lc s) (n : l ≠ lg) : EdL H' l es := by
  obtain ⟨ks, a, b, c⟩ := h
  exact ⟨ks, k.lst M n a, b, fun x hx => k.tup M (c x hx)⟩
theorem EdL.ne {H : Hp} {l m lg lc : Addr} {s : Nat} {es : List Ed} (h : EdL H l es) (M : MOk H m lg lc s) : l ≠ m := by
  obtain ⟨ks, a, _⟩ := h
  obtain ⟨cs, gs, h1, _⟩ := M
  exact ne_of a h1 (by intro q; cases q)
theorem ed_len {ks : List (Addr × List Nat)} {es : List Ed} (h : ks.map (·.2) = es.map pl) : ks.length = es.length := by
  have := congrArg List.length h
  rw [List.length_map, List.length_map] at this
  exact this
theorem ed_get {ks : List (Addr × List Nat)} {es : List Ed} (h : ks.map (·.2) = es.map pl) {i : Nat} {k : Addr × List Nat} (hk : ks[i]? = some k) : ∃ e, es[i]? = some e ∧ k.2 = pl e := by
  have := congrArg (fun l => l[i]?) h
  simp only [List.getElem?_map, hk, Option.map_some] at this
  cases e : es[i]? with
  | none => rw [e] at this; cases this
  | some d => rw [e] at this; exact ⟨d, rfl, Option.some.inj this⟩
theorem ed_at {ks : List (Addr × List Nat)} {es : List Ed} (h : ks.map (·.2) = es.map pl) {i : Nat} {e : Ed} (he : es[i]? = some e) : ∃ k, ks[i]? = some k ∧ k.2 = pl e := by
  have hi := (List.getElem?_eq_some_iff.mp he).1
  have hk0 : i < ks.length := by rw [ed_len h]; exact hi
  have hk : ks[i]? = some ks[i] := List.getElem?_eq_getElem hk0
  obtain ⟨d, hd, ed⟩ := ed_get h hk
  rw [he] at hd
  exact ⟨_, hk, by rw [ed, Option.some.inj hd]⟩
section
variable {P : Program} {w : World} {K : PySem.W.Frag} {mg : Str → Option Value} {base : Heap}
def spTie : Sp := fun vs H Q _ => ∃ a b : Nat, vs = [.int (a : Int), .int (b : Int)] ∧ ∀ H' r, Same H H' → H r = none → Tp H' r (pl (tieF a b)) → Q (.ref r) H'
theorem scTie : FnScope ["_law_one", "_law_far"] ["_law_one", "_law_far"] (defScope sTie) := ⟨rfl, rfl, rfl, by decide +kernel, rfl, by decide +kernel, by decide +kernel⟩
theorem cal_tie (T : Txt mg) (D : Df K mg "_law_tie" sTie ["_law_one", "_law_far"]) : Cal P w K mg base "_law_tie" 1 spTie := by
  have nd := scTie.nd
  refine cal_of D scTie (fun vs H Q E h => ?_) (fun f cdv A outer s0 H vs Q E hr h => ?_)
  · obtain ⟨a, b, rfl, _⟩ := h
    rfl
  · obtain ⟨a, b, rfl, q⟩ := h
    refine ⟨_, pss_one (ps_ret (pe_tup (pa_cons (pe_callB (call_min2 rfl) (by rfl) T.min (by decide +kernel) (pa_cons (pv 0) (pa_cons (pv 1) pa_nil))) (pa_cons (pe_callB (call_max2 rfl) (by rfl) T.max (by decide +kernel) (pa_cons (pv 0) (pa_cons (pv 1) pa_nil))) pa_nil)))), ?_⟩
    refine ⟨_, rfl, _, rfl, _, _, rfl, _, rfl, _, rfl, _, _, rfl, (by show 2 ≤ sizeLine; decide), fun r nr => ?_⟩
    refine q _ r (same_upd nr) nr ?_
    show upd H r _ r = _
    rw [upd_same]
    have e1 : (if (b : Int) < (a : Int) then (b : Int) else (a : Int)) = ((min a b : Nat) : Int) := by
      split <;> omega
    have e2 : (if (b : Int) > (a : Int) then (b : Int) else (a : Int)) = ((max a b : Nat) : Int) := by
      split <;> omega
    have e3 : (if (a : Int) < (b : Int) then (b : Int) else (a : Int)) = ((max a b : Nat) : Int) := by
      split <;> omega
    simp only [e1, e2, e3]
    rfl
/-- one more pair in a list that grows -/
theorem edl_snoc {H : Hp} {D r : Addr} {es : List Ed} {e : Ed} {ks : List (Addr × List Nat)} (h2 : ks.map (·.2) = es.map pl) (h3 : ∀ k ∈ ks, Tp H k.1 k.2) (hr : Tp H r (pl e)) (hD : H D = some (.lst (ks.map fun k => .ref k.1))) :
    EdL (upd H D (.lst ((ks.map fun k => V.ref k.1) ++ [V.ref r]))) D (es ++ [e]) := by
  refine ⟨ks ++ [(r, pl e)], ?_, ?_, fun k hk => ?_⟩
  · rw [upd_same, List.map_append]
    rfl
  · rw [List.map_append, List.map_append, h2]
    rfl
  · rcases List.mem_append.mp hk with hk | hk
    · exact tp_upd (h3 k hk) hD
    · rw [List.mem_singleton.mp hk]
      exact tp_upd hr hD
/-! ### ring -/
def spRing (K : PySem.W.Frag) : Sp := fun vs H Q _ => ∃ (a : Addr) (sp : List Nat), vs = [.ref a] ∧ H a = some (.lst (NV sp)) ∧ sp.length ≤ 100 ∧ ∀ H' r, Same H H' → H r = none → EdL H' r (ringE sp) → Q (.ref r) H'
theorem scRing : FnScope ["_law_spots", "_law_n"] ["_law_spots"] (defScope sRing) := ⟨rfl, rfl, rfl, by decide +kernel, rfl, by decide +kernel, by decide +kernel⟩
theorem ringE_take (sp : List Nat) (i : Nat) (hi : i < sp.length) : (ringE sp).take (i + 1) = (ringE sp).take i ++ [tieF (sp.getD ((i + sp.length - 1) % sp.length) 0) (sp.getD i 0)] := by
  rw [List.take_add_one]
  unfold ringE
  rw [List.getElem?_map, List.getElem?_range hi]
  rfl
theorem cal_ring (T : Txt mg) (GT : Cal P w K mg base "_law_tie" 1 spTie) (D : Df K mg "_law_ring" sRing ["_law_spots"]) : Cal P w K mg base "_law_ring" 2 (spRing K) := by
  have nd := scRing.nd
  refine cal_of D scRing (fun vs H Q E h => ?_) (fun f cdv A outer s0 H vs Q E hr h => ?_)
  · obtain ⟨a, sp, rfl, _⟩ := h
    rfl
  · obtain ⟨a, sp, rfl, ha, hl, q⟩ := h
    refine ⟨_, pss_one (ps_ret (pe_lc (own := [("_law_n", 1)]) (g := gName 1) (by rfl) nd (pi_range1 (by rfl) T.range (pa_cons (pe_callB cr_len (by rfl) T.len PySem.boot_len (pa_cons (pv 0) pa_nil)) pa_nil))
        (blkOk_by (own := [("_law_n", 1)]) (N := ["_law_spots", "_law_n"]) (sc := defScope sRing) (by decide +kernel)) (fun _ _ _ _ _ => pg_name (i := 1) nd rfl (.inl rfl)) (fun _ _ _ _ _ => pts_nil)
        (fun _ _ _ _ _ => pe_cl GT (by exact hr) (by rfl) (pa_cons (pe_ix (r := rIxL K) ix_list (pv 0) (pe_op op_sub (pv 1) pe_int) (fun _ _ => rfl)) (pa_cons (pe_ix (r := rIxL K) ix_list (pv 0) (pv 1) (fun _ _ => rfl)) pa_nil))))), ?_⟩
    refine ⟨_, rfl, a, NV sp, rfl, .inl (sl_of ha), _, rfl, by rw [NV_len]; omega, by rw [NV_len]; omega, ?_⟩
    rw [NV_len, Int.toNat_natCast]
    refine fun D nD => lc_it walk_rg0 (fun i H' => Same H H' ∧ EdL H' D ((ringE sp).take i)) ⟨same_upd nD, [], upd_same, rfl, fun k hk => nomatch hk⟩ (fun _ _ _ _ => trivial) ?_ ?_
    · rintro i x _ H2 hi ⟨sm, ks, hD, h2, h3⟩ ⟨rfl, rfl⟩
      have ha2 := sm _ _ ha
      have hlast : (i + sp.length - 1) % sp.length < sp.length := Nat.mod_lt _ (by omega)
      have g : ∀ j, j < sp.length → (NV sp)[j]? = some (.int ((sp.getD j 0 : Nat) : Int)) := fun j hj => NV_get (by
        rw [List.getD_eq_getElem?_getD, List.getElem?_eq_getElem hj]
        rfl)
      have at1 : atI (NV sp) ((i : Int) - 1) = some (.int ((sp.getD ((i + sp.length - 1) % sp.length) 0 : Nat) : Int)) := by
        unfold atI ixN
        rw [NV_len]
        by_cases z : i = 0
        · subst z
          have e : (0 + sp.length - 1) % sp.length = sp.length - 1 := by
            rw [Nat.zero_add]
            exact Nat.mod_eq_of_lt (by omega)
          rw [e, if_neg (by omega), if_pos (by omega)]
          show (NV sp)[(((0 : Nat) : Int) - 1 + (sp.length : Int)).toNat]? = _
          rw [show ((((0 : Nat) : Int) - 1 + (sp.length : Int)).toNat) = sp.length - 1 by omega]
          exact g _ (by omega)
        · have e : (i + sp.length - 1) % sp.length = i - 1 := by
            rw [show i + sp.length - 1 = (i - 1) + sp.length by omega, Nat.add_mod_right]
            exact Nat.mod_eq_of_lt (by omega)
          rw [e, if_pos (by omega), if_pos (by omega)]
          show (NV sp)[((i : Int) - 1).toNat]? = _
          rw [show ((i : Int) - 1).toNat = i - 1 by omega]
          exact g _ (by omega)
      refine ⟨rfl, ?_⟩
      refine ⟨_, rfl, _, rfl, _, _, rfl, rfl, a, _, _, _, rfl, rfl, sl_of ha2, at1, _, rfl, _, rfl, a, _, _, _, rfl, rfl, sl_of ha2, atI_nat (g i hi), ?_⟩
      refine ⟨_, _, rfl, fun H3 r s3 nr hr3 => ?_⟩
      refine ⟨_, s3 _ _ hD, ?_, fun b o e => ?_, ?_⟩
      · rw [nv_len, ed_len h2, List.length_take]
        unfold ringE
        rw [List.length_map, List.length_range]
        exact Nat.lt_of_le_of_lt (Nat.min_le_left _ _) (small1000 (by omega))
      · rw [upd_ne (ne_of_none e nD)]
        exact s3 _ _ (sm _ _ e)
      · rw [ringE_take sp i hi]
        exact edl_snoc h2 (fun k hk => s3 _ _ (h3 k hk)) hr3 (s3 _ _ hD)
    · rintro H2 ⟨sm, hD⟩
      have e : (ringE sp).take sp.length = ringE sp := List.take_of_length_le (by unfold ringE; simp)
      rw [e] at hD
      exact q _ D sm nD hD
end
end Hw

namespace Hw
open PySem PySem.Spec PyProof.Rows L2
theorem walk_rgN {lo n : Nat} : Walk (Itr (lo : Int) n) n (fun _ => True) (fun i H x H' => H' = H ∧ x = .int ((lo + i : Nat) : Int)) :=
  (walk_range (lo := (lo : Int)) (n := n)).mono (fun _ z => z) fun i H x H' _ _ y => ⟨y.1, by rw [y.2]; congr 1⟩
theorem tie_lt {a b : Nat} (h : a < b) : tieF a b = (a, b) := by
  unfold tieF
  rw [Nat.min_eq_left (by omega), Nat.max_eq_right (by omega)]
section
variable {P : Program} {w : World} {K : PySem.W.Frag} {mg : Str → Option Value} {base : Heap}
def tailE (f : Nat → Nat) (low k : Nat) : List Ed := (List.range k).map fun i => (f i, low + i)
theorem tailE_succ (f : Nat → Nat) (low k : Nat) : tailE f low (k + 1) = tailE f low k ++ [(f k, low + k)] := by
  unfold tailE
  rw [List.range_succ, List.map_append]
  rfl
def spTree : Sp := fun vs H Q _ => ∃ (m lg lc : Addr) (s many low : Nat), vs = [.ref m, .int (many : Int), .int (low : Int)] ∧ MOk H m lg lc s ∧ 1 ≤ low ∧ low ≤ 100 ∧ many ≤ 100 ∧ s ≤ 90000 ∧
  ∀ H' r f s', Kp m lg H H' → H r = none → (∀ i, i < many - low → f i < low + i) → EdL H' r (tailE f low (many - low)) → s' ≤ s + many → MOk H' m lg lc s' → Q (.ref r) H'
theorem scTree : FnScope ["_law_m", "_law_many", "_law_low", "_law_spot"] ["_law_m", "_law_many", "_law_low"] (defScope sTree) := ⟨rfl, rfl, rfl, by decide +kernel, rfl, by decide +kernel, by decide +kernel⟩
theorem cal_tree (T : Txt mg) (GT : Cal P w K mg base "_law_tie" 1 spTie) (GD : Cal P w K mg base "_law_draw" 2 spDraw) (D : Df K mg "_law_tree" sTree ["_law_m", "_law_many", "_law_low"]) : Cal P w K mg base "_law_tree" 3 spTree := by
  have nd := scTree.nd
  refine cal_of D scTree (fun vs H Q E h => ?_) (fun f cdv A outer s0 H vs Q E hr h => ?_)
  · obtain ⟨m, lg, lc, s, many, low, rfl, _⟩ := h
    rfl
  · obtain ⟨m, lg, lc, s, many, low, rfl, M0, hl1, hl2, hm, hs, q⟩ := h
    have hr1 := hr.mono (show 1 ≤ 2 by decide)
    refine ⟨_, pss_one (ps_ret (pe_lc (own := [("_law_spot", 3)]) (g := gName 3) (by rfl) nd (pi_range2 (by rfl) T.range (pa_cons (pe_callB (call_max2 rfl) (by rfl) T.max (by decide +kernel) (pa_cons pe_int (pa_cons (pv 2) pa_nil))) (pa_cons (pv 1) pa_nil)))
        (blkOk_by (own := [("_law_spot", 3)]) (N := ["_law_m", "_law_many", "_law_low", "_law_spot"]) (sc := defScope sTree) (by decide +kernel)) (fun _ _ _ _ _ => pg_name (i := 3) nd rfl (.inl rfl)) (fun _ _ _ _ _ => pts_nil)
        (fun _ _ _ _ _ => pe_cl GT (by exact hr1) (by rfl) (pa_cons (pe_ifExp (pt_cmpR op_gt (pv 3) pe_int (nomark _)) (pe_cl GD (by exact hr) (by rfl) (pa_cons (pv 0) (pa_cons (pv 3) pa_nil))) pe_int) (pa_cons (pv 3) pa_nil))))), ?_⟩
    have e0 : (if (low : Int) > 1 then (low : Int) else 1) = (low : Int) := by split <;> omega
    refine ⟨_, rfl, _, _, rfl, ?_⟩
    dsimp only
    rw [e0]
    refine ⟨_, rfl, _, _, rfl, by omega, ?_⟩
    rw [show ((many : Int) - (low : Int)).toNat = many - low by omega]
    refine fun D nD => lc_it walk_rgN (fun i H' => ∃ f s', Kp m lg H H' ∧ MOk H' m lg lc s' ∧ s' ≤ s + i ∧ (∀ j, j < i → f j < low + j) ∧ EdL H' D (tailE f low i)) ⟨fun _ => 0, s, Kp.same (same_upd nD), M0.same (same_upd nD), by omega, fun j hj => absurd hj (Nat.not_lt_zero _), [], upd_same, rfl, fun k hk => nomatch hk⟩ (fun _ _ _ _ => trivial) ?_ ?_
    · rintro i x _ H2 hi ⟨f1, s1, kp, M, hs1, hf, ks, hD, h2, h3⟩ ⟨rfl, rfl⟩
      have aD := M0.new nD
      refine ⟨rfl, ?_⟩
      refine ⟨_, rfl, _, _, rfl, rfl, _, rfl, ?_⟩
      rw [show decide ((0 : Int) < ((low + i : Nat) : Int)) = true from decide_eq_true (by omega)]
      refine iteT ⟨_, rfl, _, rfl, m, lg, lc, s1, low + i, rfl, M, by omega, by omega, by omega, fun H3 d hd kp3 M3 => ?_⟩
      have hD3 := kp3.lst M aD.1 hD
      refine ⟨_, rfl, d, low + i, rfl, fun H4 r s4 nr hr4 => ?_⟩
      rw [tie_lt hd] at hr4
      have kp4 := (kp.trans kp3).trans (Kp.same s4)
      have h3' : ∀ k ∈ ks, Tp H4 k.1 k.2 := fun k hk => s4 _ _ (kp3.tup M (h3 k hk))
      have et : tailE (fun j => if j = i then d else f1 j) low i = tailE f1 low i := by
        unfold tailE
        refine List.map_congr_left fun j hj => ?_
        have := List.mem_range.mp hj
        show ((if j = i then d else f1 j), low + j) = _
        rw [if_neg (by omega)]
      refine ⟨_, s4 _ _ hD3, ?_, fun j => if j = i then d else f1 j, s1 + 1, fun b o n1 n2 e => ?_, (M3.same s4).upd aD, by omega, fun j hj => ?_, ?_⟩
      · rw [nv_len, ed_len h2]
        unfold tailE
        rw [List.length_map, List.length_range]
        exact small1000 (by omega)
      · rw [upd_ne (ne_of_none e nD)]
        exact kp4 b o n1 n2 e
      · show (if j = i then d else f1 j) < low + j
        by_cases z : j = i
        · rw [if_pos z, z]; exact hd
        · rw [if_neg z]; exact hf j (by omega)
      · rw [tailE_succ, et]
        show EdL _ D (tailE f1 low i ++ [((if i = i then d else f1 i), low + i)])
        rw [if_pos rfl]
        exact edl_snoc h2 h3' hr4 (s4 _ _ hD3)
    · rintro H2 ⟨f1, s1, kp, M, hs1, hf, hD⟩
      exact q H2 D f1 s1 kp nD hf hD (by omega) M
/-! ### top -/
def spTop : Sp := fun vs H Q _ => ∃ (a : Addr) (es : List Ed), vs = [.ref a] ∧ EdL H a es ∧ es.length ≤ 1000 ∧ ∀ H', Same H H' → Q (.int ((topOf es : Nat) : Int)) H'
theorem scTop : FnScope ["_law_ties_here", "_law_one", "_law_far"] ["_law_ties_here"] (defScope sTop) := ⟨rfl, rfl, rfl, by decide +kernel, rfl, by decide +kernel, by decide +kernel⟩
theorem cal_top (T : Txt mg) (D : Df K mg "_law_top" sTop ["_law_ties_here"]) : Cal P w K mg base "_law_top" 1 spTop := by
  have nd := scTop.nd
  refine cal_of D scTop (fun vs H Q E h => ?_) (fun f cdv A outer s0 H vs Q E hr h => ?_)
  · obtain ⟨a, es, rfl, _⟩ := h
    rfl
  · obtain ⟨a, es, rfl, ⟨ks, hk1, hk2, hk3⟩, hl, q⟩ := h
    have kl := ed_len hk2
    refine ⟨_, pss_one (ps_ret (pe_op op_add (pe_callB (cr_max rfl) (by rfl) T.max (by decide +kernel) (pa_cons (pe_op op_cat (pe_lst (pa_cons pe_int pa_nil))
        (pe_lc (own := [("_law_one", 1), ("_law_far", 2)]) (g := gTup K 2 (gCons (gName 1) (gCons (gName 2) gNil))) (by rfl) nd (pi_list (pv 0))
        (blkOk_by (own := [("_law_one", 1), ("_law_far", 2)]) (N := ["_law_ties_here", "_law_one", "_law_far"]) (sc := defScope sTop) (by decide +kernel)) (fun _ _ _ _ _ => pg_tup rfl (pgs_cons (pg_name (i := 1) nd rfl (.inl rfl)) (pgs_cons (pg_name (i := 2) nd rfl (.inl rfl)) pgs_nil))) (fun _ _ _ _ _ => pts_nil)
        (fun _ _ _ _ _ => pv 2))) pa_nil)) pe_int)), ?_⟩
    refine ⟨by show 1 ≤ sizeLine; decide, fun l0 n0 => ?_⟩
    have s1 := same_upd (o := .lst [V.int 0]) n0
    have hl0 : upd H l0 (.lst [V.int 0]) l0 = some (.lst [V.int 0]) := upd_same
    generalize upd H l0 (.lst [V.int 0]) = H1 at *
    refine ⟨_, rfl, a, rfl, ⟨_, sl_of (s1 _ _ hk1)⟩, fun D nD => lc_it (walk_list (xs := ks.map fun k => V.ref k.1)) (fun i H' => Same H1 H' ∧ H' D = some (.lst (NV ((es.take i).map (·.2))))) ⟨same_upd nD, upd_same⟩ (fun i H' _ ⟨sm, _⟩ => sl_of (sm _ _ (s1 _ _ hk1))) ?_ ?_⟩
    · rintro i x _ H2 hi ⟨sm, hD⟩ ⟨rfl, hx⟩
      obtain ⟨k, hk, rfl⟩ := refs_get hx
      obtain ⟨e, he, ek⟩ := ed_get hk2 hk
      have tk : Tp H2 k.1 (pl e) := by
        rw [← ek]
        exact sm _ _ (s1 _ _ (hk3 k (List.mem_of_getElem? hk)))
      refine ⟨k.1, _, rfl, sq_of tk, rfl, _, _, rfl, _, _, rfl, rfl, rfl, _, rfl, _, hD, ?_, fun b o e => ?_, ?_⟩
      · rw [NV_len, List.length_map, List.length_take]
        exact Nat.lt_of_le_of_lt (Nat.min_le_right _ _) (small1000 hl)
      · rw [upd_ne (ne_of_none e nD)]
        exact sm _ _ e
      · rw [upd_same, ← NV_snoc, List.take_add_one, he, List.map_append]
        rfl
    · rintro H2 ⟨sm, hD⟩
      rw [nv_len, kl, List.take_length] at hD
      refine ⟨l0, D, _, _, rfl, rfl, sm _ _ hl0, hD, ?_, fun l2 n2 => ?_⟩
      · rw [NV_len, List.length_map]
        exact Nat.le_of_lt (Nat.lt_of_le_of_lt (show [V.int 0].length + es.length ≤ 1001 by show 1 + es.length ≤ 1001; omega) (by decide))
      have s2 := same_upd (o := .lst ([V.int 0] ++ NV (es.map (·.2)))) n2
      have e1 : [V.int 0] ++ NV (es.map (·.2)) = (NI (0 :: es.map (·.2))).map V.int := by
        rw [← NV_NI]
        rfl
      refine ⟨l2, NI (0 :: es.map (·.2)), rfl, sl_of (by rw [← e1]; exact upd_same), by rw [NI_len]; exact Nat.succ_pos _, fun mx hm1 hm2 => ?_⟩
      obtain ⟨z, hz, rfl⟩ := mem_NI hm1
      have ez : z + 1 = topOf es := by
        unfold topOf
        have ge : (es.map (·.2)).foldl max 0 ≤ z := fold_max_le _ _ _ (Nat.zero_le _) fun y hy => by
          have := hm2 ((y : Nat) : Int) (List.mem_map.mpr ⟨y, List.mem_cons_of_mem _ hy, rfl⟩)
          omega
        have le : z ≤ (es.map (·.2)).foldl max 0 := by
          rcases List.mem_cons.mp hz with e | m
          · omega
          · exact fold_max_mem _ _ _ m
        omega
      refine ⟨_, _, rfl, rfl, ?_⟩
      have e2 : (z : Int) + 1 = ((topOf es : Nat) : Int) := by omega
      show Q (V.int ((z : Int) + 1)) _
      rw [e2]
      exact q _ ((s1.trans sm).trans s2)
end
end Hw

namespace Hw
open PySem PySem.Spec PyProof.Rows L2
theorem rgV_at (low : Nat) (k : Nat) : rgV (low : Int) ((low : Int) + (k : Int)) = NV ((List.range k).map fun i => low + i) := by
  unfold rgV NV
  rw [show ((low : Int) + (k : Int) - (low : Int)).toNat = k by omega, List.map_map]
  refine List.map_congr_left fun i _ => ?_
  show V.int ((low : Int) + (i : Int)) = V.int ((low + i : Nat) : Int)
  congr 1
theorem nm_get {low hinge x k : Nat} (h : x < k + 1) : (hinge :: (List.range k).map fun i => low + i)[x]? = some (nmF low hinge x) := by
  unfold nmF
  cases x with
  | zero => rfl
  | succ y =>
    rw [List.getElem?_cons_succ, List.getElem?_map, List.getElem?_range (by omega), if_neg (by omega)]
    show some (low + y) = some (low + (y + 1) - 1)
    congr 1
section
variable {P : Program} {w : World} {K : PySem.W.Frag} {mg : Str → Option Value} {base : Heap}
def spShifted : Sp := fun vs H Q _ => ∃ (a : Addr) (c : List Ed) (low hinge : Nat), vs = [.ref a, .int (low : Int), .int (hinge : Int)] ∧ EdL H a c ∧ VE 21 c ∧ c.length ≤ 100 ∧ low ≤ 1000 ∧ ∀ H' r, Same H H' → H r = none → EdL H' r (shiftE low hinge c) → Q (.ref r) H'
abbrev nSh : List Str := ["_law_ties_here", "_law_low", "_law_hinge", "_law_names", "_law_one", "_law_far"]
theorem scShifted : FnScope nSh ["_law_ties_here", "_law_low", "_law_hinge"] (defScope sShifted) := ⟨rfl, rfl, rfl, by decide +kernel, rfl, by decide +kernel, by decide +kernel⟩
theorem cal_shifted (T : Txt mg) (GT : Cal P w K mg base "_law_tie" 1 spTie) (D : Df K mg "_law_shifted" sShifted ["_law_ties_here", "_law_low", "_law_hinge"]) : Cal P w K mg base "_law_shifted" 2 spShifted := by
  have nd := scShifted.nd
  refine cal_of D scShifted (fun vs H Q E h => ?_) (fun f cdv A outer s0 H vs Q E hr h => ?_)
  · obtain ⟨a, c, low, hinge, rfl, _⟩ := h
    rfl
  · obtain ⟨a, c, low, hinge, rfl, hc, ve, hl, hlow, q⟩ := h
    refine ⟨_, pss_cons (ps_set (i := 3) nd rfl (.inr rfl) (pe_op op_cat (pe_lst (pa_cons (pv 2) pa_nil)) (pe_listRg (by rfl) (by rfl) T.list (prg_2 (by rfl) T.range (pv 1) (pe_op op_add (pv 1) pe_int)))))
      <| pss_one (ps_ret (pe_lc (own := [("_law_one", 4), ("_law_far", 5)]) (g := gTup K 2 (gCons (gName 4) (gCons (gName 5) gNil))) (by rfl) nd (pi_list (pv 0))
        (blkOk_by (own := [("_law_one", 4), ("_law_far", 5)]) (N := nSh) (sc := defScope sShifted) (by decide +kernel)) (fun _ _ _ _ _ => pg_tup rfl (pgs_cons (pg_name (i := 4) nd rfl (.inl rfl)) (pgs_cons (pg_name (i := 5) nd rfl (.inl rfl)) pgs_nil))) (fun _ _ _ _ _ => pts_nil)
        (fun _ _ _ _ _ => pe_cl GT (by exact hr) (by rfl) (pa_cons (pe_ix (r := rIxL K) ix_list (pv 3) (pv 4) (fun _ _ => rfl)) (pa_cons (pe_ix (r := rIxL K) ix_list (pv 3) (pv 5) (fun _ _ => rfl)) pa_nil))))), ?_⟩
    refine ⟨_, rfl, by show 1 ≤ sizeLine; decide, fun l0 n0 => ?_⟩
    have s1 := same_upd (o := .lst [V.int (hinge : Int)]) n0
    have hl0 : upd H l0 (.lst [V.int (hinge : Int)]) l0 = some (.lst [V.int (hinge : Int)]) := upd_same
    generalize upd H l0 (.lst [V.int (hinge : Int)]) = H1 at *
    refine ⟨_, rfl, _, rfl, _, _, rfl, rfl, _, _, rfl, rfl, ?_, fun l1 n1 => ?_⟩
    · exact RgOk.of_le (by omega) (by omega) (by omega) (by omega)
    have er : rgV (low : Int) ((low : Int) + 20) = NV ((List.range 20).map fun i => low + i) := rgV_at low 20
    have s2 := s1.trans (same_upd (o := .lst (rgV (low : Int) ((low : Int) + 20))) n1)
    have hl0' := same_upd (o := .lst (rgV (low : Int) ((low : Int) + 20))) n1 _ _ hl0
    have hl1 : upd H1 l1 (.lst (rgV (low : Int) ((low : Int) + 20))) l1 = some (.lst (rgV (low : Int) ((low : Int) + 20))) := upd_same
    generalize upd H1 l1 (.lst (rgV (low : Int) ((low : Int) + 20))) = H2 at *
    rw [er] at hl1
    refine ⟨l0, l1, _, _, rfl, rfl, hl0', hl1, ?_, fun l2 n2 => ?_⟩
    · rw [NV_len, List.length_map, List.length_range]
      show 1 + 20 ≤ sizeLine
      decide
    have en : [V.int (hinge : Int)] ++ NV ((List.range 20).map fun i => low + i) = NV (hinge :: (List.range 20).map fun i => low + i) := rfl
    rw [en]
    have s3 := s2.trans (same_upd (o := .lst (NV (hinge :: (List.range 20).map fun i => low + i))) n2)
    have hl2 : upd H2 l2 (.lst (NV (hinge :: (List.range 20).map fun i => low + i))) l2 = some (.lst (NV (hinge :: (List.range 20).map fun i => low + i))) := upd_same
    generalize upd H2 l2 (.lst (NV (hinge :: (List.range 20).map fun i => low + i))) = H3 at *
    obtain ⟨ks, k1, k2, k3⟩ := hc.same s3
    have kl := ed_len k2
    refine ⟨_, rfl, a, rfl, ⟨_, sl_of k1⟩, fun D nD => lc_it (walk_list (xs := ks.map fun k => V.ref k.1)) (fun i H' => Same H3 H' ∧ EdL H' D ((shiftE low hinge c).take i)) ⟨same_upd nD, [], upd_same, rfl, fun k hk => nomatch hk⟩ (fun i H' _ ⟨sm, _⟩ => sl_of (sm _ _ k1)) ?_ ?_⟩
    · rintro i x _ H4 hi ⟨sm, kd, hD, h2, h3⟩ ⟨rfl, hx⟩
      obtain ⟨k, hk, rfl⟩ := refs_get hx
      obtain ⟨e, he, ek⟩ := ed_get k2 hk
      have tk : Tp H4 k.1 (pl e) := by
        rw [← ek]
        exact sm _ _ (k3 k (List.mem_of_getElem? hk))
      have eb := ve e (List.mem_of_getElem? he)
      have hn2 := sm _ _ hl2
      refine ⟨k.1, _, rfl, sq_of tk, rfl, _, _, rfl, _, _, rfl, rfl, rfl, ?_⟩
      refine ⟨_, rfl, _, rfl, l2, _, _, _, rfl, rfl, sl_of hn2, atI_nat (NV_get (nm_get (k := 20) (by omega))), _, rfl, _, rfl, l2, _, _, _, rfl, rfl, sl_of hn2, atI_nat (NV_get (nm_get (k := 20) (by omega))), ?_⟩
      refine ⟨_, _, rfl, fun H5 r s5 nr hr5 => ?_⟩
      have e2 : (shiftE low hinge c).take (i + 1) = (shiftE low hinge c).take i ++ [tieF (nmF low hinge e.1) (nmF low hinge e.2)] := by
        unfold shiftE
        rw [List.take_add_one, List.getElem?_map, he]
        rfl
      refine ⟨_, s5 _ _ hD, ?_, fun b o eb2 => ?_, ?_⟩
      · rw [nv_len, ed_len h2, List.length_take]
        unfold shiftE
        rw [List.length_map]
        exact Nat.lt_of_le_of_lt (Nat.min_le_right _ _) (small1000 (by omega))
      · rw [upd_ne (ne_of_none eb2 nD)]
        exact s5 _ _ (sm _ _ eb2)
      · rw [e2]
        exact edl_snoc h2 (fun k hk => s5 _ _ (h3 k hk)) hr5 (s5 _ _ hD)
    · rintro H4 ⟨sm, hD⟩
      rw [nv_len, kl] at hD
      have e : (shiftE low hinge c).take c.length = shiftE low hinge c := List.take_of_length_le (by unfold shiftE; rw [List.length_map]; exact Nat.le_refl _)
      rw [e] at hD
      exact q _ D (s3.trans sm) (s3.free nD) hD
/-! ### core -/
def spCore : Sp := fun vs H Q _ => ∃ (m lg lc : Addr) (s : Nat), vs = [.ref m] ∧ MOk H m lg lc s ∧ s ≤ 90000 ∧ ∀ H' r c s', c ∈ coreMenu → Kp m lg H H' → H r = none → EdL H' r c → s' ≤ s + 3 → MOk H' m lg lc s' → Q (.ref r) H'
theorem scCore : FnScope ["_law_m", "_law_way", "_law_many"] ["_law_m"] (defScope sCore) := ⟨rfl, rfl, rfl, by decide +kernel, rfl, by decide +kernel, by decide +kernel⟩
theorem menu_0 {d : Nat} (h : d < 5) : ringE (List.range (1 + d)) ∈ coreMenu := by
  have : ∀ d, d < 5 → ringE (List.range (1 + d)) ∈ coreMenu := by decide +kernel
  exact this d h
theorem menu_1 {d e : Nat} (h : d < 3) (h2 : e < 3) : ringE (List.range (1 + d)) ++ ringE (0 :: (List.range e).map (fun i => 1 + d + i)) ∈ coreMenu := by
  have : ∀ d, d < 3 → ∀ e, e < 3 → ringE (List.range (1 + d)) ++ ringE (0 :: (List.range e).map (fun i => 1 + d + i)) ∈ coreMenu := by decide +kernel
  exact this d h e h2
theorem menu_2 : ([(0, 1), (0, 2), (0, 3), (1, 2), (1, 3)] : List Ed) ∈ coreMenu := by decide +kernel
theorem menu_3 : ([(0, 2), (1, 2), (0, 3), (1, 3), (0, 4), (1, 4)] : List Ed) ∈ coreMenu := by decide +kernel
theorem menu_4 {d : Nat} (h : d < 3) : List.replicate (2 + d) ((0, 1) : Ed) ∈ coreMenu := by
  have : ∀ d, d < 3 → List.replicate (2 + d) ((0, 1) : Ed) ∈ coreMenu := by decide +kernel
  exact this d h
theorem menu_5 {d : Nat} (h : d < 2) : ringE (List.range (3 + d)) ++ [(0, 2)] ∈ coreMenu := by
  have : ∀ d, d < 2 → ringE (List.range (3 + d)) ++ [(0, 2)] ∈ coreMenu := by decide +kernel
  exact this d h
theorem edl_app {H : Hp} {l : Addr} {es fs : List Ed} {ks js : List (Addr × List Nat)} (a2 : ks.map (·.2) = es.map pl) (a3 : ∀ k ∈ ks, Tp H k.1 k.2) (b2 : js.map (·.2) = fs.map pl) (b3 : ∀ k ∈ js, Tp H k.1 k.2) (nl : H l = none) :
    EdL (upd H l (.lst ((ks.map fun k => V.ref k.1) ++ (js.map fun k => V.ref k.1)))) l (es ++ fs) := by
  refine ⟨ks ++ js, ?_, ?_, fun k hk => ?_⟩
  · rw [upd_same, List.map_append]
  · rw [List.map_append, List.map_append, a2, b2]
  · rcases List.mem_append.mp hk with hk | hk
    · exact tp_new (a3 k hk) nl
    · exact tp_new (b3 k hk) nl
theorem cal_core (T : Txt mg) (GD : Cal P w K mg base "_law_draw" 2 spDraw) (GR : Cal P w K mg base "_law_ring" 2 (spRing K)) (D : Df K mg "_law_core" sCore ["_law_m"]) : Cal P w K mg base "_law_core" 3 spCore := by
  have nd := scCore.nd
  refine cal_of D scCore (fun vs H Q E h => ?_) (fun f cdv A outer s0 H vs Q E hr h => ?_)
  · obtain ⟨m, lg, lc, s, rfl, _⟩ := h
    rfl
  · obtain ⟨m, lg, lc, s, rfl, M0, hs, q⟩ := h
    refine ⟨_, pss_cons (ps_set (i := 1) nd rfl (.inl rfl) (pe_cl GD hr (by rfl) (pa_cons (pv 0) (pa_cons pe_int pa_nil))))
      <| pss_cons (ps_if (pt_cmpR op_eq (pv 1) pe_int (nomark _)) (pss_one (ps_ret (pe_cl GR hr (by rfl) (pa_cons (pe_listRg (by rfl) (by rfl) T.list (prg_1 (by rfl) T.range (pe_op op_add pe_int (pe_cl GD hr (by rfl) (pa_cons (pv 0) (pa_cons pe_int pa_nil)))))) pa_nil)))) pss_nil)
      <| pss_cons (ps_if (pt_cmpR op_eq (pv 1) pe_int (nomark _)) (pss_cons (ps_set (i := 2) nd rfl (.inl rfl) (pe_op op_add pe_int (pe_cl GD hr (by rfl) (pa_cons (pv 0) (pa_cons pe_int pa_nil)))))
          <| pss_one (ps_ret (pe_op op_cat (pe_cl GR hr (by rfl) (pa_cons (pe_listRg (by rfl) (by rfl) T.list (prg_1 (by rfl) T.range (pv 2))) pa_nil))
              (pe_cl GR hr (by rfl) (pa_cons (pe_op op_cat (pe_lst (pa_cons pe_int pa_nil)) (pe_listRg (by rfl) (by rfl) T.list (prg_2 (by rfl) T.range (pv 2) (pe_op op_add (pv 2) (pe_cl GD hr (by rfl) (pa_cons (pv 0) (pa_cons pe_int pa_nil))))))) pa_nil))))) pss_nil)
      <| pss_cons (ps_if (pt_cmpR op_eq (pv 1) pe_int (nomark _)) (pss_one (ps_ret (pe_lst (pa_cons (pe_tup (pa_cons pe_int (pa_cons pe_int pa_nil))) (pa_cons (pe_tup (pa_cons pe_int (pa_cons pe_int pa_nil))) (pa_cons (pe_tup (pa_cons pe_int (pa_cons pe_int pa_nil)))
          (pa_cons (pe_tup (pa_cons pe_int (pa_cons pe_int pa_nil))) (pa_cons (pe_tup (pa_cons pe_int (pa_cons pe_int pa_nil))) pa_nil)))))))) pss_nil)
      <| pss_cons (ps_if (pt_cmpR op_eq (pv 1) pe_int (nomark _)) (pss_one (ps_ret (pe_lst (pa_cons (pe_tup (pa_cons pe_int (pa_cons pe_int pa_nil))) (pa_cons (pe_tup (pa_cons pe_int (pa_cons pe_int pa_nil))) (pa_cons (pe_tup (pa_cons pe_int (pa_cons pe_int pa_nil)))
          (pa_cons (pe_tup (pa_cons pe_int (pa_cons pe_int pa_nil))) (pa_cons (pe_tup (pa_cons pe_int (pa_cons pe_int pa_nil))) (pa_cons (pe_tup (pa_cons pe_int (pa_cons pe_int pa_nil))) pa_nil))))))))) pss_nil)
      <| pss_cons (ps_if (pt_cmpR op_eq (pv 1) pe_int (nomark _)) (pss_one (ps_ret (pe_op op_rep (pe_lst (pa_cons (pe_tup (pa_cons pe_int (pa_cons pe_int pa_nil))) pa_nil)) (pe_op op_add pe_int (pe_cl GD hr (by rfl) (pa_cons (pv 0) (pa_cons pe_int pa_nil))))))) pss_nil)
      <| pss_one (ps_ret (pe_op op_cat (pe_cl GR hr (by rfl) (pa_cons (pe_listRg (by rfl) (by rfl) T.list (prg_1 (by rfl) T.range (pe_op op_add pe_int (pe_cl GD hr (by rfl) (pa_cons (pv 0) (pa_cons pe_int pa_nil)))))) pa_nil)) (pe_lst (pa_cons (pe_tup (pa_cons pe_int (pa_cons pe_int pa_nil))) pa_nil)))), ?_⟩
    refine ⟨_, rfl, m, lg, lc, s, 6, rfl, M0, by omega, by omega, by omega, fun H1 w0 hw kp1 M1 => ?_⟩
    have two : 2 ≤ sizeLine := by decide
    refine ⟨_, rfl, rfl, _, rfl, ite2 (fun _ => ?_) (fun _ => ?_)⟩
    · -- a ring
      refine ⟨_, rfl, m, lg, lc, s + 1, 5, rfl, M1, by omega, by omega, by omega, fun H2 d hd kp2 M2 => ?_⟩
      refine ⟨_, _, rfl, rfl, _, rfl, RgOk.of_le (by omega) (by omega) (by omega) (by omega), fun l nl => ?_⟩
      have er : rgV 0 (1 + (d : Int)) = NV (List.range (1 + d)) := by
        rw [← NV_range]
        congr 1
      rw [er]
      have s3 := same_upd (o := .lst (NV (List.range (1 + d)))) nl
      refine ⟨l, List.range (1 + d), rfl, upd_same, by rw [List.length_range]; omega, fun H4 r s4 nr hr4 => ?_⟩
      have sm := s3.trans s4
      exact q H4 r _ (s + 2) (menu_0 hd) ((kp1.trans kp2).trans (Kp.same sm)) ((kp1.trans kp2).free M2 (s3.free nr)) hr4 (by omega) (M2.same sm)
    refine ⟨_, rfl, rfl, _, rfl, ite2 (fun _ => ?_) (fun _ => ?_)⟩
    · -- two rings
      refine ⟨_, rfl, m, lg, lc, s + 1, 3, rfl, M1, by omega, by omega, by omega, fun H2 d hd kp2 M2 => ?_⟩
      refine ⟨_, _, rfl, rfl, ?_⟩
      have e1 : (1 : Int) + (d : Int) = ((1 + d : Nat) : Int) := by omega
      dsimp only
      rw [e1]
      refine ⟨_, rfl, _, rfl, RgOk.of_le (by omega) (by omega) (by omega) (by omega), fun l nl => ?_⟩
      rw [NV_range]
      have s3 := same_upd (o := .lst (NV (List.range (1 + d)))) nl
      refine ⟨l, List.range (1 + d), rfl, upd_same, by rw [List.length_range]; omega, fun H4 r1 s4 nr1 hr1 => ?_⟩
      have s34 := s3.trans s4
      have M4 := M2.same s34
      have n1 := s3.free nr1
      have ar1 := M2.new n1
      refine ⟨by show 1 ≤ sizeLine; decide, fun l0 n0 => ?_⟩
      have s5 := same_upd (o := .lst [V.int 0]) n0
      have hl0 : upd H4 l0 (.lst [V.int 0]) l0 = some (.lst [V.int 0]) := upd_same
      have M5 := M4.same s5
      have al0 := M4.new n0
      have hr5 := hr1.same s5
      generalize upd H4 l0 (.lst [V.int 0]) = H5 at *
      refine ⟨_, rfl, _, rfl, _, rfl, m, lg, lc, s + 2, 3, rfl, M5, by omega, by omega, by omega, fun H6 e he kp6 M6 => ?_⟩
      have hl6 := kp6.lst M5 al0.1 hl0
      have hr6 := hr5.kp kp6 M5 ar1.1
      refine ⟨_, _, rfl, rfl, _, _, rfl, rfl, RgOk.of_le (by omega) (by omega) (by omega) (by omega), fun l2 n2 => ?_⟩
      rw [rgV_at]
      have s7 := same_upd (o := .lst (NV ((List.range e).map fun i => 1 + d + i))) n2
      have hl0' := s7 _ _ hl6
      have hl2 : upd H6 l2 (.lst (NV ((List.range e).map fun i => 1 + d + i))) l2 = some (.lst (NV ((List.range e).map fun i => 1 + d + i))) := upd_same
      have hr7 := hr6.same s7
      have M7 := M6.same s7
      generalize upd H6 l2 (.lst (NV ((List.range e).map fun i => 1 + d + i))) = H7 at *
      refine ⟨l0, l2, _, _, rfl, rfl, hl0', hl2, ?_, fun l3 n3 => ?_⟩
      · rw [NV_len, List.length_map, List.length_range]
        show 1 + e ≤ sizeLine
        exact Nat.le_of_lt (small1000 (by omega))
      have en : [V.int 0] ++ NV ((List.range e).map fun i => 1 + d + i) = NV (0 :: (List.range e).map fun i => 1 + d + i) := rfl
      rw [en]
      have s8 := same_upd (o := .lst (NV (0 :: (List.range e).map fun i => 1 + d + i))) n3
      refine ⟨l3, _, rfl, upd_same, ?_, fun H9 r2 s9 nr2 hr2 => ?_⟩
      · rw [List.length_cons, List.length_map, List.length_range]
        omega
      obtain ⟨ks, k1, k2, k3⟩ := (hr7.same s8).same s9
      obtain ⟨js, j1, j2, j3⟩ := hr2
      refine ⟨r1, r2, _, _, rfl, rfl, k1, j1, ?_, fun l4 n4 => ?_⟩
      · rw [nv_len, nv_len, ed_len k2, ed_len j2]
        unfold ringE
        rw [List.length_map, List.length_map, List.length_range, List.length_range, List.length_range, List.length_cons, List.length_map, List.length_range]
        exact Nat.le_of_lt (small1000 (by omega))
      have s10 := same_upd (o := .lst ((ks.map fun k => V.ref k.1) ++ (js.map fun k => V.ref k.1))) n4
      have sall := (s8.trans s9).trans s10
      have kp := (((kp1.trans kp2).trans (Kp.same (s34.trans s5))).trans kp6).trans (Kp.same (s7.trans sall))
      have Mz := M7.same sall
      exact q _ l4 _ (s + 3) (menu_1 hd he) kp ((((kp1.trans kp2).trans (Kp.same (s34.trans s5))).trans kp6).free M6 (s7.free ((s8.trans s9).free n4))) (edl_app k2 k3 j2 j3 n4) (by omega) Mz
    refine ⟨_, rfl, rfl, _, rfl, ite2 (fun _ => ?_) (fun _ => ?_)⟩
    · refine ⟨two, fun t1 x1 => ⟨two, fun t2 x2 => ⟨two, fun t3 x3 => ⟨two, fun t4 x4 => ⟨two, fun t5 x5 => ⟨by show 5 ≤ sizeLine; decide, fun l nl => ?_⟩⟩⟩⟩⟩⟩
      have y5 := (same_upd (o := .tup [V.int 1, V.int 3]) x5).trans (same_upd (o := .lst [V.ref t1, V.ref t2, V.ref t3, V.ref t4, V.ref t5]) nl)
      have y4 := (same_upd (o := .tup [V.int 1, V.int 2]) x4).trans y5
      have y3 := (same_upd (o := .tup [V.int 0, V.int 3]) x3).trans y4
      have y2 := (same_upd (o := .tup [V.int 0, V.int 2]) x2).trans y3
      have y1 := (same_upd (o := .tup [V.int 0, V.int 1]) x1).trans y2
      refine q _ l _ (s + 1) menu_2 (kp1.trans (Kp.same y1)) (kp1.free M1 ((same_upd x1).free ((same_upd x2).free ((same_upd x3).free ((same_upd x4).free ((same_upd x5).free nl)))))) ⟨[(t1, [0, 1]), (t2, [0, 2]), (t3, [0, 3]), (t4, [1, 2]), (t5, [1, 3])], upd_same, rfl, ?_⟩ (by omega) (M1.same y1)
      intro k hk
      simp only [List.mem_cons, List.not_mem_nil, or_false] at hk
      rcases hk with rfl | rfl | rfl | rfl | rfl
      · exact y2 _ _ upd_same
      · exact y3 _ _ upd_same
      · exact y4 _ _ upd_same
      · exact y5 _ _ upd_same
      · exact same_upd nl _ _ upd_same
    refine ⟨_, rfl, rfl, _, rfl, ite2 (fun _ => ?_) (fun _ => ?_)⟩
    · refine ⟨two, fun t1 x1 => ⟨two, fun t2 x2 => ⟨two, fun t3 x3 => ⟨two, fun t4 x4 => ⟨two, fun t5 x5 => ⟨two, fun t6 x6 => ⟨by show 6 ≤ sizeLine; decide, fun l nl => ?_⟩⟩⟩⟩⟩⟩⟩
      have y6 := (same_upd (o := .tup [V.int 1, V.int 4]) x6).trans (same_upd (o := .lst [V.ref t1, V.ref t2, V.ref t3, V.ref t4, V.ref t5, V.ref t6]) nl)
      have y5 := (same_upd (o := .tup [V.int 0, V.int 4]) x5).trans y6
      have y4 := (same_upd (o := .tup [V.int 1, V.int 3]) x4).trans y5
      have y3 := (same_upd (o := .tup [V.int 0, V.int 3]) x3).trans y4
      have y2 := (same_upd (o := .tup [V.int 1, V.int 2]) x2).trans y3
      have y1 := (same_upd (o := .tup [V.int 0, V.int 2]) x1).trans y2
      refine q _ l _ (s + 1) menu_3 (kp1.trans (Kp.same y1)) (kp1.free M1 ((same_upd x1).free ((same_upd x2).free ((same_upd x3).free ((same_upd x4).free ((same_upd x5).free ((same_upd x6).free nl))))))) ⟨[(t1, [0, 2]), (t2, [1, 2]), (t3, [0, 3]), (t4, [1, 3]), (t5, [0, 4]), (t6, [1, 4])], upd_same, rfl, ?_⟩ (by omega) (M1.same y1)
      intro k hk
      simp only [List.mem_cons, List.not_mem_nil, or_false] at hk
      rcases hk with rfl | rfl | rfl | rfl | rfl | rfl
      · exact y2 _ _ upd_same
      · exact y3 _ _ upd_same
      · exact y4 _ _ upd_same
      · exact y5 _ _ upd_same
      · exact y6 _ _ upd_same
      · exact same_upd nl _ _ upd_same
    refine ⟨_, rfl, rfl, _, rfl, ite2 (fun _ => ?_) (fun _ => ?_)⟩
    · refine ⟨two, fun t1 x1 => ⟨by show 1 ≤ sizeLine; decide, fun l1 n1 => ?_⟩⟩
      have y1 := same_upd (o := .tup [V.int 0, V.int 1]) x1
      have y2 := same_upd (o := .lst [V.ref t1]) n1
      have ht2 : Tp (upd (upd H1 t1 (.tup [V.int 0, V.int 1])) l1 (.lst [V.ref t1])) t1 [0, 1] := y2 _ _ upd_same
      have hl2 : upd (upd H1 t1 (.tup [V.int 0, V.int 1])) l1 (.lst [V.ref t1]) l1 = some (.lst [V.ref t1]) := upd_same
      have y12 := y1.trans y2
      have fr1 : ∀ {z}, upd (upd H1 t1 (.tup [V.int 0, V.int 1])) l1 (.lst [V.ref t1]) z = none → H1 z = none := fun h => y12.free h
      have M2 := M1.same y12
      have al1 := M1.new (y1.free n1)
      generalize upd (upd H1 t1 (.tup [V.int 0, V.int 1])) l1 (.lst [V.ref t1]) = H2 at *
      refine ⟨_, rfl, m, lg, lc, s + 1, 3, rfl, M2, by omega, by omega, by omega, fun H3 d hd kp3 M3 => ?_⟩
      have ht3 : Tp H3 t1 [0, 1] := kp3.tup M2 ht2
      have hl3 := kp3.lst M2 al1.1 hl2
      have kpA := (kp1.trans (Kp.same y12)).trans kp3
      refine ⟨_, _, rfl, rfl, l1, _, _, rfl, rfl, hl3, by omega, by omega, ?_, fun l2 n2 => ?_⟩
      · show 1 * _ ≤ _
        exact Nat.le_of_lt (small1000 (by omega))
      have ef : (List.replicate (Int.toNat (2 + (d : Int))) [V.ref t1]).flatten = (List.replicate (2 + d) (t1, [0, 1])).map fun k : Addr × List Nat => V.ref k.1 := by
        rw [List.flatten_replicate_singleton, List.map_replicate]
        congr 1
      rw [ef]
      have y3 := same_upd (o := .lst ((List.replicate (2 + d) (t1, [0, 1])).map fun k : Addr × List Nat => V.ref k.1)) n2
      refine q _ l2 _ (s + 2) (menu_4 hd) (kpA.trans (Kp.same y3)) (kpA.free M3 n2) ⟨List.replicate (2 + d) (t1, [0, 1]), upd_same, by rw [List.map_replicate, List.map_replicate]; rfl, fun k hk => ?_⟩ (by omega) (M3.same y3)
      rw [List.eq_of_mem_replicate hk]
      exact y3 _ _ ht3
    · refine ⟨_, rfl, m, lg, lc, s + 1, 2, rfl, M1, by omega, by omega, by omega, fun H2 d hd kp2 M2 => ?_⟩
      refine ⟨_, _, rfl, rfl, _, rfl, RgOk.of_le (by omega) (by omega) (by omega) (by omega), fun l nl => ?_⟩
      have er : rgV 0 (3 + (d : Int)) = NV (List.range (3 + d)) := by
        rw [← NV_range]
        congr 1
      rw [er]
      have s3 := same_upd (o := .lst (NV (List.range (3 + d)))) nl
      refine ⟨l, List.range (3 + d), rfl, upd_same, by rw [List.length_range]; omega, fun H4 r s4 nr hr4 => ?_⟩
      have s34 := s3.trans s4
      refine ⟨two, fun t1 x1 => ⟨by show 1 ≤ sizeLine; decide, fun l1 n1 => ?_⟩⟩
      have y1 := same_upd (o := .tup [V.int 0, V.int 2]) x1
      have y2 := same_upd (o := .lst [V.ref t1]) n1
      have y12 := y1.trans y2
      have hl5 : upd (upd H4 t1 (.tup [V.int 0, V.int 2])) l1 (.lst [V.ref t1]) l1 = some (.lst ([(t1, [0, 2])].map fun k : Addr × List Nat => V.ref k.1)) := upd_same
      have ht5 : ∀ k ∈ ([(t1, [0, 2])] : List (Addr × List Nat)), Tp (upd (upd H4 t1 (.tup [V.int 0, V.int 2])) l1 (.lst [V.ref t1])) k.1 k.2 := fun k hk => by
        rw [List.mem_singleton.mp hk]
        exact y2 _ _ upd_same
      obtain ⟨ks, k1, k2, k3⟩ := hr4.same y12
      generalize upd (upd H4 t1 (.tup [V.int 0, V.int 2])) l1 (.lst [V.ref t1]) = H5 at *
      refine ⟨r, l1, _, _, rfl, rfl, k1, hl5, ?_, fun l2 n2 => ?_⟩
      · rw [nv_len, ed_len k2]
        unfold ringE
        rw [List.length_map, List.length_range, List.length_range]
        exact Nat.le_of_lt (small1000 (show 3 + d + 1 ≤ 1000 by omega))
      have y3 := same_upd (o := .lst ((ks.map fun k => V.ref k.1) ++ ([(t1, [0, 2])].map fun k : Addr × List Nat => V.ref k.1))) n2
      have sall := (s34.trans y12).trans y3
      exact q _ l2 _ (s + 2) (menu_5 hd) ((kp1.trans kp2).trans (Kp.same sall)) ((kp1.trans kp2).free M2 ((s34.trans y12).free n2)) (edl_app k2 k3 (fs := [(0, 2)]) (js := [(t1, [0, 2])]) rfl ht5 n2) (by omega) (M2.same sall)
end
end Hw

namespace Hw
open PySem PySem.Spec PyProof.Rows L2
theorem perm_map_inv {α β : Type} (f : α → β) {xs ys : List β} (h : ys.Perm xs) : ∀ ks : List α, xs = ks.map f → ∃ js : List α, js.Perm ks ∧ ys = js.map f := by
  induction h with
  | nil => intro ks e; exact ⟨ks, .refl _, e⟩
  | @cons x l1 l2 _ ih =>
    intro ks e
    cases ks with
    | nil => cases e
    | cons k ks =>
      injection e with e1 e2
      obtain ⟨js, h1, h2⟩ := ih ks e2
      exact ⟨k :: js, h1.cons k, by rw [e1, h2]; rfl⟩
  | swap x y l =>
    intro ks e
    match ks, e with
    | a :: b :: ks, e =>
      injection e with e1 e2
      injection e2 with e2 e3
      exact ⟨b :: a :: ks, .swap _ _ _, by rw [e1, e2, e3]; rfl⟩
  | trans _ _ ih1 ih2 =>
    intro ks e
    obtain ⟨js, h1, h2⟩ := ih2 ks e
    obtain ⟨is, h3, h4⟩ := ih1 js h2
    exact ⟨is, h3.trans h1, h4⟩
theorem isP_of_perm {p : List Nat} {n : Nat} (h : p.Perm (List.range n)) : IsP p ∧ p.length = n := by
  have hl : p.length = n := by rw [h.length_eq, List.length_range]
  refine ⟨⟨h.nodup_iff.mpr List.nodup_range, fun x hx => ?_⟩, hl⟩
  rw [hl]
  exact List.mem_range.mp (h.mem_iff.mp hx)
section
variable {P : Program} {w : World} {K : PySem.W.Frag} {mg : Str → Option Value} {base : Heap}
def spRenamed : Sp := fun vs H Q _ => ∃ (m lg lc a : Addr) (s n : Nat) (es : List Ed), vs = [.ref m, .int (n : Int), .ref a] ∧ MOk H m lg lc s ∧ EdL H a es ∧ a ≠ lg ∧ VE n es ∧ n ≤ 100 ∧ es.length ≤ 100 ∧ s ≤ 90000 ∧
  ∀ H' t p fs, IsP p → p.length = n → fs.Perm (renE p es) → Kp m lg H H' → H t = none → EdT H' t fs → MOk H' m lg lc (s + n + es.length) → Q (.ref t) H'
abbrev nRen : List Str := ["_law_m", "_law_many", "_law_ties_here", "_law_names", "_law_one", "_law_far"]
theorem scRenamed : FnScope nRen ["_law_m", "_law_many", "_law_ties_here"] (defScope sRenamed) := ⟨rfl, rfl, rfl, by decide +kernel, rfl, by decide +kernel, by decide +kernel⟩
theorem cal_renamed (T : Txt mg) (GT : Cal P w K mg base "_law_tie" 1 spTie) (GM : Cal P w K mg base "_law_mixed_up" 3 (spMixedUp K)) (D : Df K mg "_law_renamed" sRenamed ["_law_m", "_law_many", "_law_ties_here"]) : Cal P w K mg base "_law_renamed" 4 spRenamed := by
  have nd := scRenamed.nd
  refine cal_of D scRenamed (fun vs H Q E h => ?_) (fun f cdv A outer s0 H vs Q E hr h => ?_)
  · obtain ⟨m, lg, lc, a, s, n, es, rfl, _⟩ := h
    rfl
  · obtain ⟨m, lg, lc, a, s, n, es, rfl, M0, hc, ha, ve, hn, hl, hs, q⟩ := h
    have hr1 := hr.mono (show 1 ≤ 3 by decide)
    refine ⟨_, pss_cons (ps_set (i := 3) nd rfl (.inr rfl) (pe_cl GM hr (by rfl) (pa_cons (pv 0) (pa_cons (pe_listRg (by rfl) (by rfl) T.list (prg_1 (by rfl) T.range (pv 1))) pa_nil))))
      <| pss_one (ps_ret (pe_callTy call_tuple_of (by rfl) T.tuple (by decide +kernel) (pa_cons (pe_cl GM hr (by rfl) (pa_cons (pv 0) (pa_cons
        (pe_lc (own := [("_law_one", 4), ("_law_far", 5)]) (g := gTup K 2 (gCons (gName 4) (gCons (gName 5) gNil))) (by rfl) nd (pi_list (pv 2))
        (blkOk_by (own := [("_law_one", 4), ("_law_far", 5)]) (N := nRen) (sc := defScope sRenamed) (by decide +kernel)) (fun _ _ _ _ _ => pg_tup rfl (pgs_cons (pg_name (i := 4) nd rfl (.inl rfl)) (pgs_cons (pg_name (i := 5) nd rfl (.inl rfl)) pgs_nil))) (fun _ _ _ _ _ => pts_nil)
        (fun _ _ _ _ _ => pe_cl GT (by exact hr1) (by rfl) (pa_cons (pe_ix (r := rIxL K) ix_list (pv 3) (pv 4) (fun _ _ => rfl)) (pa_cons (pe_ix (r := rIxL K) ix_list (pv 3) (pv 5) (fun _ _ => rfl)) pa_nil)))) pa_nil))) pa_nil))), ?_⟩
    refine ⟨_, rfl, _, rfl, _, rfl, RgOk.of_le (by omega) (by omega) (by omega) (by omega), fun l0 n0 => ?_⟩
    rw [NV_range]
    have s1 := same_upd (o := .lst (NV (List.range n))) n0
    have hl0 : upd H l0 (.lst (NV (List.range n))) l0 = some (.lst (NV (List.range n))) := upd_same
    have M1 := M0.same s1
    have hc1 := hc.same s1
    generalize upd H l0 (.lst (NV (List.range n))) = H1 at *
    refine ⟨m, lg, lc, l0, s, NV (List.range n), rfl, M1, .inl (sl_of hl0), by rw [NV_len, List.length_range]; omega, by rw [NV_len, List.length_range]; omega, fun H2 r1 ys hp kp2 nr1 hr1' M2 => ?_⟩
    rw [NV_len, List.length_range] at M2
    obtain ⟨p, rfl, pp⟩ := perm_NV hp
    obtain ⟨ip, pl'⟩ := isP_of_perm pp
    have hc2 := hc1.kp kp2 M1 ha
    obtain ⟨ks, k1, k2, k3⟩ := hc2
    have kl := ed_len k2
    refine ⟨_, rfl, _, rfl, a, rfl, ⟨_, sl_of k1⟩, fun D nD => lc_it (walk_list (xs := ks.map fun k => V.ref k.1)) (fun i H' => Same H2 H' ∧ EdL H' D ((renE p es).take i)) ⟨same_upd nD, [], upd_same, rfl, fun k hk => nomatch hk⟩ (fun i H' _ ⟨sm, _⟩ => sl_of (sm _ _ k1)) ?_ ?_⟩
    · rintro i x _ H4 hi ⟨sm, kd, hD, h2, h3⟩ ⟨rfl, hx⟩
      obtain ⟨k, hk, rfl⟩ := refs_get hx
      obtain ⟨e, he, ek⟩ := ed_get k2 hk
      have tk : Tp H4 k.1 (pl e) := by
        rw [← ek]
        exact sm _ _ (k3 k (List.mem_of_getElem? hk))
      have eb := ve e (List.mem_of_getElem? he)
      have hn2 := sm _ _ hr1'
      have g1 : p[e.1]? = some (ap p e.1) := ap_get (by omega)
      have g2 : p[e.2]? = some (ap p e.2) := ap_get (by omega)
      refine ⟨k.1, _, rfl, sq_of tk, rfl, _, _, rfl, _, _, rfl, rfl, rfl, ?_⟩
      refine ⟨_, rfl, _, rfl, r1, _, _, _, rfl, rfl, sl_of hn2, atI_nat (NV_get g1), _, rfl, _, rfl, r1, _, _, _, rfl, rfl, sl_of hn2, atI_nat (NV_get g2), ?_⟩
      refine ⟨_, _, rfl, fun H5 r s5 nr hr5 => ?_⟩
      have e2 : (renE p es).take (i + 1) = (renE p es).take i ++ [tieF (ap p e.1) (ap p e.2)] := by
        unfold renE
        rw [List.take_add_one, List.getElem?_map, he]
        rfl
      refine ⟨_, s5 _ _ hD, ?_, fun b o eb2 => ?_, ?_⟩
      · rw [nv_len, ed_len h2, List.length_take]
        unfold renE
        rw [List.length_map]
        exact Nat.lt_of_le_of_lt (Nat.min_le_right _ _) (small1000 (by omega))
      · rw [upd_ne (ne_of_none eb2 nD)]
        exact s5 _ _ (sm _ _ eb2)
      · rw [e2]
        exact edl_snoc h2 (fun k hk => s5 _ _ (h3 k hk)) hr5 (s5 _ _ hD)
    · rintro H4 ⟨sm, hD⟩
      rw [nv_len, kl] at hD
      have e : (renE p es).take es.length = renE p es := List.take_of_length_le (by unfold renE; rw [List.length_map]; exact Nat.le_refl _)
      rw [e] at hD
      obtain ⟨kd, hD, h2, h3⟩ := hD
      have M4 := M2.same sm
      have kl2 : kd.length = es.length := by
        rw [ed_len h2]
        unfold renE
        rw [List.length_map]
      refine ⟨m, lg, lc, D, s + n, kd.map (fun k => V.ref k.1), rfl, M4, .inl (sl_of hD), by rw [nv_len]; omega, by rw [nv_len]; omega, fun H5 r ys hp5 kp5 nr hr5 M5 => ?_⟩
      rw [nv_len, kl2] at M5
      obtain ⟨js, jp, rfl⟩ := perm_map_inv (fun k : Addr × List Nat => V.ref k.1) hp5 kd rfl
      obtain ⟨fs, fp, fe⟩ := perm_map_inv pl (jp.map (·.2)) (renE p es) h2
      refine ⟨r, _, rfl, .inl ⟨sl_of hr5, fun t nt => ?_⟩⟩
      have sz := same_upd (o := .tup (js.map fun k => V.ref k.1)) nt
      have kall := (((Kp.same s1).trans kp2).trans (Kp.same sm)).trans kp5
      exact q _ t p fs ip pl' fp (kall.trans (Kp.same sz)) (kall.free M5 nt) ⟨js, upd_same, fe, fun k hk => sz _ _ (kp5.tup M4 (h3 k (jp.mem_iff.mp hk)))⟩ (M5.same sz)
end
end Hw

namespace Hw
open PySem PySem.Spec PyProof.Rows L2
section
variable {P : Program} {w : World} {K : PySem.W.Frag} {mg : Str → Option Value} {base : Heap}
theorem edl_one {H : Hp} {r l : Addr} {e : Ed} (h : Tp H r (pl e)) (nl : H l = none) : EdL (upd H l (.lst [V.ref r])) l [e] :=
  ⟨[(r, pl e)], upd_same, rfl, fun k hk => by
    rw [List.mem_singleton.mp hk]
    exact same_upd nl _ _ h⟩
/-- the two lists joined -/
theorem edl_cat {H : Hp} {a b : Addr} {es fs : List Ed} (ha : EdL H a es) (hb : EdL H b fs) (le : es.length + fs.length ≤ 1000) {Q : VK}
    (q : ∀ l H', H l = none → Same H H' → EdL H' l (es ++ fs) → Q (.ref l) H') : rCat (.ref a) (.ref b) H Q := by
  obtain ⟨ks, k1, k2, k3⟩ := ha
  obtain ⟨js, j1, j2, j3⟩ := hb
  refine ⟨a, b, _, _, rfl, rfl, k1, j1, ?_, fun l nl => ?_⟩
  · rw [nv_len, nv_len, ed_len k2, ed_len j2]
    exact Nat.le_of_lt (small1000 le)
  · exact q l _ nl (same_upd nl) (edl_app k2 k3 j2 j3 nl)
/-- how a network is returned -/
theorem ties_ret {m lg lc : Addr} {H H' : Hp} {s n s' : Nat} {b : Addr} {es : List Ed} {N : L2.St → Hp → Prop} {Q : VK} {v1 v2 v3 v5 v6 v7 v8 v9 : Option V}
    (q : ∀ H' t r n es s', CN n es → n ≤ 12 → es.length ≤ 16 → Kp m lg H H' → H t = none → H r = none → H' t = some (.tup [.int (n : Int), .ref r]) → EdT H' r es → s' ≤ s + 300 → MOk H' m lg lc s' → Q (.ref t) H')
    (kp : Kp m lg H H') (M : MOk H' m lg lc s') (hs' : s' ≤ s + 200) (h8 : s ≤ 80000) (hb : EdL H' b es) (nb : b ≠ lg) (cn : CN n es) (hn : n ≤ 12) (hl : es.length ≤ 16) :
    tRet (tTup (tCons (tCal spTop (tCons (tVar 4) tNil)) (tCons (tCal spRenamed (tCons (tVar 0) (tCons (tCal spTop (tCons (tVar 4) tNil)) (tCons (tVar 4) tNil)))) tNil))) { nx := N, rt := Q }
      [some (V.ref m), v1, v2, v3, some (V.ref b), v5, v6, v7, v8, v9] H' := by
  refine ⟨_, rfl, b, es, rfl, hb, by omega, fun H3 sm3 => ?_⟩
  rw [top_eq cn]
  refine ⟨_, rfl, _, rfl, b, es, rfl, hb.same sm3, by omega, fun H4 sm4 => ?_⟩
  rw [top_eq cn]
  have sm := sm3.trans sm4
  refine ⟨_, rfl, m, lg, lc, b, s', n, es, rfl, M.same sm, hb.same sm, nb, cn.2.1, by omega, by omega, by omega, fun H5 t p fs ip pl' pf kp5 nt ht M5 => ⟨by show 2 ≤ sizeLine; decide, fun r nr => ?_⟩⟩
  have x := same_upd (o := .tup [V.int (n : Int), V.ref t]) nr
  have kall := (kp.trans (Kp.same sm)).trans kp5
  have fl : fs.length = es.length := by
    rw [pf.length_eq]
    unfold renE
    rw [List.length_map]
  have fr := kall.free M5 nr
  exact q _ r t n fs _ ((cn.ren ip pl').perm pf) hn (by omega) (kall.trans (Kp.same x)) fr ((kp.trans (Kp.same sm)).free (M.same sm) nt) upd_same (ht.same x) (by omega) (M5.same x)
def spTies : Sp := fun vs H Q _ => ∃ (m lg lc : Addr) (s cores tails more : Nat), vs = [.ref m, .int (cores : Int), .int (tails : Int), .int (more : Int)] ∧ MOk H m lg lc s ∧ s ≤ 80000 ∧ 1 ≤ cores ∧ cores ≤ 10 ∧ tails ≤ 10 ∧ more ≤ 10 ∧
  ∀ H' t r n es s', CN n es → n ≤ 12 → es.length ≤ 16 → Kp m lg H H' → H t = none → H r = none → H' t = some (.tup [.int (n : Int), .ref r]) → EdT H' r es → s' ≤ s + 300 → MOk H' m lg lc s' → Q (.ref t) H'
abbrev nTies : List Str := ["_law_m", "_law_cores", "_law_tails", "_law_more", "_law_ties_here", "_law_n", "_law_low", "_law_hinge", "_law_top_here", "_law_spot"]
theorem scTies : FnScope nTies ["_law_m", "_law_cores", "_law_tails", "_law_more"] (defScope sTies) := ⟨rfl, rfl, rfl, by decide +kernel, rfl, by decide +kernel, by decide +kernel⟩
structure TieC (P : Program) (w : World) (K : PySem.W.Frag) (mg : Str → Option Value) (base : Heap) : Prop where
  tie : Cal P w K mg base "_law_tie" 1 spTie
  draw : Cal P w K mg base "_law_draw" 2 spDraw
  top : Cal P w K mg base "_law_top" 1 spTop
  core : Cal P w K mg base "_law_core" 3 spCore
  shifted : Cal P w K mg base "_law_shifted" 2 spShifted
  tree : Cal P w K mg base "_law_tree" 3 spTree
  renamed : Cal P w K mg base "_law_renamed" 4 spRenamed
theorem cal_ties (T : Txt mg) (C : TieC P w K mg base) (D : Df K mg "_law_ties" sTies ["_law_m", "_law_cores", "_law_tails", "_law_more"]) : Cal P w K mg base "_law_ties" 5 spTies := by
  have nd := scTies.nd
  refine cal_of D scTies (fun vs H Q E h => ?_) (fun f cdv A outer s0 H vs Q E hr h => ?_)
  · obtain ⟨m, lg, lc, s, cores, tails, more, rfl, _⟩ := h
    rfl
  · obtain ⟨m, lg, lc, s, cores, tails, more, rfl, M0, hs, c1, c2, ht, hm, q⟩ := h
    have hr1 := hr.mono (show 1 ≤ 4 by decide)
    have hr2 := hr.mono (show 2 ≤ 4 by decide)
    have hr3 := hr.mono (show 3 ≤ 4 by decide)
    refine ⟨_, pss_cons (ps_set (i := 4) nd rfl (.inl rfl) (pe_cl C.core hr3 (by rfl) (pa_cons (pv 0) pa_nil)))
      <| pss_cons (ps_for PassesOwn.never rfl (pi_range1 (by rfl) T.range (pa_cons (pe_op op_sub (pv 1) pe_int) pa_nil)) (pg_name (i := 5) nd rfl (.inl rfl))
          (pss_cons (ps_par (i := 6) (j := 7) (by rfl) nd rfl rfl (by decide) rfl rfl (pa_cons (pe_cl C.top hr1 (by rfl) (pa_cons (pv 4) pa_nil)) (pa_cons (pe_cl C.draw hr2 (by rfl) (pa_cons (pv 0) (pa_cons (pe_cl C.top hr1 (by rfl) (pa_cons (pv 4) pa_nil)) pa_nil))) pa_nil)) (by rfl))
          <| pss_cons (ps_if (pt_cmpR op_gt (pe_cl C.draw hr2 (by rfl) (pa_cons (pv 0) (pa_cons pe_int pa_nil))) pe_int (nomark _))
              (pss_one (ps_par3 (i := 4) (j := 7) (l := 6) (by rfl) nd rfl rfl rfl (by decide) (by decide) (by decide) rfl rfl rfl (pa_cons (pe_op op_cat (pv 4) (pe_lst (pa_cons (pe_cl C.tie hr1 (by rfl) (pa_cons (pv 7) (pa_cons (pv 6) pa_nil))) pa_nil))) (pa_cons (pv 6) (pa_cons (pe_op op_add (pv 6) pe_int) pa_nil))) (by rfl))) pss_nil)
          <| pss_one (ps_set (i := 4) nd rfl (.inl rfl) (pe_op op_cat (pv 4) (pe_cl C.shifted hr2 (by rfl) (pa_cons (pe_cl C.core hr3 (by rfl) (pa_cons (pv 0) pa_nil)) (pa_cons (pv 6) (pa_cons (pv 7) pa_nil))))))))
      <| pss_cons (ps_set (i := 8) nd rfl (.inl rfl) (pe_cl C.top hr1 (by rfl) (pa_cons (pv 4) pa_nil)))
      <| pss_cons (ps_set (i := 4) nd rfl (.inl rfl) (pe_op op_cat (pv 4) (pe_cl C.tree hr3 (by rfl) (pa_cons (pv 0) (pa_cons (pe_op op_add (pv 8) (pv 2)) (pa_cons (pv 8) pa_nil))))))
      <| pss_cons (ps_for PassesOwn.never rfl (pi_range1 (by rfl) T.range (pa_cons (pv 3) pa_nil)) (pg_name (i := 5) nd rfl (.inl rfl))
          (pss_cons (ps_set (i := 9) nd rfl (.inl rfl) (pe_cl C.draw hr2 (by rfl) (pa_cons (pv 0) (pa_cons (pe_cl C.top hr1 (by rfl) (pa_cons (pv 4) pa_nil)) pa_nil))))
          <| pss_one (ps_set (i := 4) nd rfl (.inl rfl) (pe_op op_cat (pv 4) (pe_lst (pa_cons (pe_cl C.tie hr1 (by rfl) (pa_cons (pv 9) (pa_cons (pe_cl C.draw hr2 (by rfl) (pa_cons (pv 0) (pa_cons (pe_cl C.top hr1 (by rfl) (pa_cons (pv 4) pa_nil)) pa_nil))) pa_nil))) pa_nil))))))
      <| pss_cons (ps_if (PW.pt (pw_or (pt_cmpR op_gt (pe_cl C.top hr1 (by rfl) (pa_cons (pv 4) pa_nil)) pe_int (nomark _)) (pw_or1 (pt_cmpR op_gt (pe_callB cr_len (by rfl) T.len PySem.boot_len (pa_cons (pv 4) pa_nil)) pe_int (nomark _)))))
          (pss_one (ps_set (i := 4) nd rfl (.inl rfl) (pe_cl C.core hr3 (by rfl) (pa_cons (pv 0) pa_nil)))) pss_nil)
      <| pss_one (ps_ret (pe_tup (pa_cons (pe_cl C.top hr1 (by rfl) (pa_cons (pv 4) pa_nil)) (pa_cons (pe_cl C.renamed hr (by rfl) (pa_cons (pv 0) (pa_cons (pe_cl C.top hr1 (by rfl) (pa_cons (pv 4) pa_nil)) (pa_cons (pv 4) pa_nil)))) pa_nil)))), ?_⟩
    -- the first core
    refine ⟨_, rfl, m, lg, lc, s, rfl, M0, by omega, fun H1 b1 c s1 hc kp1 nb1 hb1 hs1 M1 => ?_⟩
    obtain ⟨cn1, ct1, cl1⟩ := menu_ok hc
    have nb1' : b1 ≠ lg := by
      obtain ⟨cs, gs, x1, x2, x3, _⟩ := M0
      exact (ne_of_none x3 nb1).symm
    have ec : (cores : Int) - 1 = ((cores - 1 : Nat) : Int) := by omega
    refine ⟨_, rfl, _, _, rfl, rfl, _, rfl, by omega, by omega, ?_⟩
    rw [ec, Int.toNat_natCast]
    refine for_it walk_rg0 (fun i σ H' => ∃ b n es s' v5 v6 v7 v8 v9, σ = [some (.ref m), some (.int (cores : Int)), some (.int (tails : Int)), some (.int (more : Int)), some (.ref b), v5, v6, v7, v8, v9] ∧ Kp m lg H H' ∧ MOk H' m lg lc s' ∧ s' ≤ s + 3 + 5 * i ∧ EdL H' b es ∧ b ≠ lg ∧ CN n es ∧ n ≤ 5 + 5 * i ∧ es.length ≤ 8 + 9 * i)
      ⟨b1, topOf c, c, s1, none, none, none, none, none, rfl, kp1, M1, by omega, hb1, nb1', cn1, by omega, by omega⟩ (fun _ _ _ _ _ => trivial) ?_ ?_
    · rintro i x σ _ H2 hi ⟨b, n, es, s2, v5, v6, v7, v8, v9, rfl, kp, M, hs2, hb, nb, cn, hn, hl⟩ ⟨rfl, rfl⟩
      refine ⟨_, rfl, b, es, rfl, hb, by omega, fun H3 sm3 => ?_⟩
      rw [top_eq cn]
      refine ⟨_, rfl, _, rfl, b, es, rfl, hb.same sm3, by omega, fun H4 sm4 => ?_⟩
      rw [top_eq cn]
      have M4 := (M.same sm3).same sm4
      have hb4 := (hb.same sm3).same sm4
      have n1 := cn.1
      refine ⟨m, lg, lc, s2, n, rfl, M4, by omega, by omega, by omega, fun H5 d hd kp5 M5 => ?_⟩
      have hb5 := hb4.kp kp5 M4 nb
      have kpA := ((kp.trans (Kp.same sm3)).trans (Kp.same sm4)).trans kp5
      refine ⟨_, _, rfl, ?_⟩
      refine ⟨_, rfl, m, lg, lc, s2 + 1, 3, rfl, M5, by omega, by omega, by omega, fun H6 e he kp6 M6 => ?_⟩
      have hb6 := hb5.kp kp6 M5 nb
      have kpB := kpA.trans kp6
      refine ⟨_, _, rfl, rfl, _, rfl, ite2 (fun z => ?_) (fun z => ?_)⟩
      · -- a bridge to the new core
        refine ⟨_, rfl, _, rfl, _, rfl, d, n, rfl, fun H7 r sm7 nr hr7 => ⟨by show 1 ≤ sizeLine; decide, fun l1 nl1 => ?_⟩⟩
        rw [tie_lt hd] at hr7
        have x1 := same_upd (o := .lst [V.ref r]) nl1
        have one := edl_one hr7 nl1
        have hb7 := (hb6.same sm7).same x1
        have M7 := (M6.same sm7).same x1
        generalize upd H7 l1 (.lst [V.ref r]) = H8 at *
        refine edl_cat hb7 one (by show es.length + 1 ≤ 1000; omega) fun l2 H9 nl2 x2 hl2 => ?_
        have M9 := M7.same x2
        have a2 := M7.new nl2
        have kpC := ((kpB.trans (Kp.same sm7)).trans (Kp.same x1)).trans (Kp.same x2)
        refine ⟨_, rfl, _, rfl, _, _, rfl, rfl, _, _, _, rfl, ?_⟩
        have cn' := cn.leaf hd
        refine ⟨_, rfl, _, rfl, m, lg, lc, s2 + 2, rfl, M9, by omega, fun HA rc c' s3 hc' kpA' nrc hrc hs3 MA => ?_⟩
        obtain ⟨cn3, ct3, cl3⟩ := menu_ok hc'
        have hl2' := hl2.kp kpA' M9 a2.1
        refine ⟨_, rfl, _, rfl, rc, c', n + 1, n, rfl, hrc, cn3.2.1.mono (by omega), by omega, by omega, fun HB rs smB nrs hrs => ?_⟩
        refine edl_cat (hl2'.same smB) hrs (by rw [List.length_append]; unfold shiftE; rw [List.length_map]; show es.length + 1 + _ ≤ 1000; omega) fun l3 HC nl3 x3 hl3 => ?_
        have MC := (MA.same smB).same x3
        have a3 := (MA.same smB).new nl3
        have kpD := ((kpC.trans kpA').trans (Kp.same smB)).trans (Kp.same x3)
        refine ⟨l3, n + 1 + topOf c' - 1, _, s3, _, _, _, _, _, rfl, kpD, MC, by omega, hl3, a3.1, cn'.core cn3 (Nat.lt_succ_self n), by omega, ?_⟩
        rw [List.length_append, List.length_append]
        unfold shiftE
        rw [List.length_map]
        show es.length + 1 + _ ≤ _
        omega
      · -- the new core at a place
        refine ⟨_, rfl, _, rfl, m, lg, lc, s2 + 2, rfl, M6, by omega, fun HA rc c' s3 hc' kpA' nrc hrc hs3 MA => ?_⟩
        obtain ⟨cn3, ct3, cl3⟩ := menu_ok hc'
        have hl2' := hb6.kp kpA' M6 nb
        refine ⟨_, rfl, _, rfl, rc, c', n, d, rfl, hrc, cn3.2.1.mono (by omega), by omega, by omega, fun HB rs smB nrs hrs => ?_⟩
        refine edl_cat (hl2'.same smB) hrs (by unfold shiftE; rw [List.length_map]; omega) fun l3 HC nl3 x3 hl3 => ?_
        have MC := (MA.same smB).same x3
        have a3 := (MA.same smB).new nl3
        have kpD := ((kpB.trans kpA').trans (Kp.same smB)).trans (Kp.same x3)
        refine ⟨l3, n + topOf c' - 1, _, s3, _, _, _, _, _, rfl, kpD, MC, by omega, hl3, a3.1, cn.core cn3 hd, by omega, ?_⟩
        rw [List.length_append]
        unfold shiftE
        rw [List.length_map]
        omega
    · rintro σ H2 ⟨b, n, es, s2, v5, v6, v7, v8, v9, rfl, kp, M, hs2, hb, nb, cn, hn, hl⟩
      have n1 := cn.1
      refine ⟨_, rfl, b, es, rfl, hb, by omega, fun H3 sm3 => ?_⟩
      rw [top_eq cn]
      have M3 := M.same sm3
      have hb3 := hb.same sm3
      have kp3 := kp.trans (Kp.same sm3)
      refine ⟨_, rfl, _, rfl, _, rfl, _, rfl, _, _, rfl, rfl, _, rfl, m, lg, lc, s2, n + tails, n, rfl, M3, n1, by omega, by omega, by omega, fun H4 r f s4 kp4 nr hf hr hs4 M4 => ?_⟩
      rw [show n + tails - n = tails by omega] at hf hr
      have cn' := cn.tree f tails hf
      refine edl_cat (hb3.kp kp4 M3 nb) hr (by unfold tailE; rw [List.length_map, List.length_range]; omega) fun l1 H5 nl1 x1 hl1 => ?_
      have M5 := M4.same x1
      have a1 := (M4.new nl1).1
      have kp5 := (kp3.trans kp4).trans (Kp.same x1)
      have le5 : (es ++ tailE f n tails).length ≤ 99 := by
        rw [List.length_append]
        unfold tailE
        rw [List.length_map, List.length_range]
        omega
      have n5 : n + tails ≤ 60 := by omega
      have cn5 : CN (n + tails) (es ++ tailE f n tails) := cn'
      have hs5 : s4 ≤ s + 110 := by omega
      clear cn' cn hl hn hf hr hb3 kp4 kp3 M3 M4 hb kp M sm3
      generalize es ++ tailE f n tails = es5 at *
      generalize n + tails = k5 at *
      refine ⟨_, rfl, _, rfl, by omega, by omega, ?_⟩
      rw [Int.toNat_natCast]
      refine for_it walk_rg0 (fun i σ H' => ∃ b es s' v5 v6 v7 v8 v9, σ = [some (.ref m), some (.int (cores : Int)), some (.int (tails : Int)), some (.int (more : Int)), some (.ref b), v5, v6, v7, v8, v9] ∧ Kp m lg H H' ∧ MOk H' m lg lc s' ∧ s' ≤ s + 110 + 2 * i ∧ EdL H' b es ∧ b ≠ lg ∧ CN k5 es ∧ es.length ≤ 99 + i)
        ⟨l1, es5, s4, _, _, _, _, _, rfl, kp5, M5, by omega, hl1, a1, cn5, by omega⟩ (fun _ _ _ _ _ => trivial) ?_ ?_
      · clear hl1 kp5 M5 cn5 le5
        rintro i x σ _ H2 hi ⟨b, es, s2, v5, v6, v7, v8, v9, rfl, kp, M, hs2, hb, nb, cn, hl⟩ ⟨rfl, rfl⟩
        have n1 := cn.1
        refine ⟨_, rfl, _, rfl, b, es, rfl, hb, by omega, fun H3 sm3 => ?_⟩
        rw [top_eq cn]
        refine ⟨m, lg, lc, s2, k5, rfl, M.same sm3, by omega, by omega, by omega, fun H4 d hd kp4 M4 => ?_⟩
        have hb4 := (hb.same sm3).kp kp4 (M.same sm3) nb
        refine ⟨_, rfl, _, rfl, _, rfl, _, rfl, b, es, rfl, hb4, by omega, fun H5 sm5 => ?_⟩
        rw [top_eq cn]
        refine ⟨m, lg, lc, s2 + 1, k5, rfl, M4.same sm5, by omega, by omega, by omega, fun H6 e he kp6 M6 => ?_⟩
        have hb6 := (hb4.same sm5).kp kp6 (M4.same sm5) nb
        refine ⟨d, e, rfl, fun H7 r sm7 nr hr7 => ⟨by show 1 ≤ sizeLine; decide, fun l1 nl1 => ?_⟩⟩
        have x1 := same_upd (o := .lst [V.ref r]) nl1
        have one := edl_one hr7 nl1
        have hb7 := (hb6.same sm7).same x1
        have M7 := (M6.same sm7).same x1
        generalize upd H7 l1 (.lst [V.ref r]) = H8 at *
        refine edl_cat hb7 one (by show es.length + 1 ≤ 1000; omega) fun l2 H9 nl2 x2 hl2 => ?_
        refine ⟨l2, _, s2 + 2, _, _, _, _, _, rfl, ((((((kp.trans (Kp.same sm3)).trans kp4).trans (Kp.same sm5)).trans kp6).trans (Kp.same sm7)).trans (Kp.same x1)).trans (Kp.same x2), M7.same x2, by omega, hl2, (M7.new nl2).1, cn.more hd he, ?_⟩
        rw [List.length_append]
        show es.length + 1 ≤ _
        omega
      · clear hl1 kp5 M5 cn5 le5
        rintro σ H2 ⟨b, es, s2, v5, v6, v7, v8, v9, rfl, kp, M, hs2, hb, nb, cn, hl⟩
        have n1 := cn.1
        refine ⟨_, rfl, b, es, rfl, hb, by omega, fun H3 sm3 => ?_⟩
        rw [top_eq cn]
        have M3 := M.same sm3
        have hb3 := hb.same sm3
        have kp3 := kp.trans (Kp.same sm3)
        obtain ⟨ks, hk1, hk2, hk3⟩ := id hb3
        have hlen : ks.length = es.length := ed_len hk2
        refine ⟨_, _, rfl, rfl, _, rfl, ite2 (fun z => iteT ?_) (fun z => ?_)⟩
        · refine ⟨_, rfl, m, lg, lc, s2, rfl, M3, by omega, fun H5 b1 c s1 hc kp1 nb1 hb1 hs1 M1 => ?_⟩
          obtain ⟨cn1, ct1, cl1⟩ := menu_ok hc
          exact ties_ret q (kp3.trans kp1) M1 (by omega) hs hb1 (by
            obtain ⟨cs, gs, x1, x2, x3, _⟩ := M3
            exact (ne_of_none x3 nb1).symm) cn1 (by omega) (by omega)
        · refine ⟨_, rfl, b, _, rfl, .inl (sl_of hk1), ?_⟩
          refine ⟨_, _, rfl, rfl, _, rfl, ite2 (fun z2 => ?_) (fun z2 => ?_)⟩
          · refine ⟨_, rfl, m, lg, lc, s2, rfl, M3, by omega, fun H5 b1 c s1 hc kp1 nb1 hb1 hs1 M1 => ?_⟩
            obtain ⟨cn1, ct1, cl1⟩ := menu_ok hc
            exact ties_ret q (kp3.trans kp1) M1 (by omega) hs hb1 (by
              obtain ⟨cs, gs, x1, x2, x3, _⟩ := M3
              exact (ne_of_none x3 nb1).symm) cn1 (by omega) (by omega)
          · rw [nv_len, hlen] at z2
            have z1' : ¬ ((12 : Int) < (k5 : Int)) := fun h => z (decide_eq_true h)
            have z2' : ¬ ((16 : Int) < (es.length : Int)) := fun h => z2 (decide_eq_true h)
            exact ties_ret q kp3 M3 (by omega) hs hb3 nb cn (by omega) (by omega)
end
end Hw

namespace Hw
open PySem PySem.Spec PyProof.Rows L2
/-! ### over a list or a tuple -/
def SeqR (K : PySem.W.Frag) (H1 : Hp) (a : Addr) (R : It → Hp → Prop) : Prop := ((∃ xs, SqL K H1 a xs) ∧ R (Itl K a) H1) ∨ ((∃ xs, SqT K H1 a xs) ∧ R (Itt K a) H1)
def iSeq (K : PySem.W.Frag) (tl : TE) : TI := fun σ H R => tl σ H fun x H1 => ∃ a, x = .ref a ∧ SeqR K H1 a R
theorem pi_seq {X : Cx} {tg l : Expr} {tl : TE} (hl : PE X l tl) : PI X tg l (iSeq X.K tl) := by
  refine ⟨fun pins s σ H R I h => ?_⟩
  refine thn (hl.run pins s σ H _ I h) fun v s1 ⟨x, H1, I1, r1, q1⟩ => ?_
  obtain ⟨a, e, q1⟩ := q1
  subst e
  cases r1
  rcases q1 with ⟨⟨xs, hq⟩, q⟩ | ⟨⟨xs, hq⟩, q⟩
  · obtain ⟨its, rv, p, hz⟩ := I1.list hq
    refine wpAny_pyIter_list p.isList ?_
    refine ⟨s1.heap.objs.size, [s1.heap.objs.size], _, _, H1, rfl, I1.kept (t' := s1.toks) fun b o e => Heap.get?_push_of_some _ e, turn_list a _, ⟨_, Heap.get?_push_size _ rfl, rfl, rfl⟩, fun b hb => ?_, q⟩
    have e : b = s1.heap.objs.size := by simpa using hb
    subst e
    exact I1.fpOk (Nat.le_refl _) (I1.hok.fresh (Nat.le_refl _))
  · obtain ⟨its, rv, p, hz⟩ := I1.tuple hq
    refine wpAny_pyIter_tuple (show s1.heap.IsTuple a its.toArray from p) ?_
    refine ⟨s1.heap.objs.size, [s1.heap.objs.size], _, _, H1, rfl, I1.kept (t' := s1.toks) fun b o e => Heap.get?_push_of_some _ e, turn_tuple a _, ⟨_, Heap.get?_push_size _ rfl, rfl, rfl⟩, fun b hb => ?_, q⟩
    have e : b = s1.heap.objs.size := by simpa using hb
    subst e
    exact I1.fpOk (Nat.le_refl _) (I1.hok.fresh (Nat.le_refl _))
def EdS (H : Hp) (a : Addr) (es : List Ed) : Prop := EdL H a es ∨ EdT H a es
theorem EdS.same {H H' : Hp} {l : Addr} {es : List Ed} (h : EdS H l es) (s : Same H H') : EdS H' l es := h.elim (fun z => .inl (z.same s)) fun z => .inr (z.same s)
/-- a turn gives the pair that stands there -/
def YEd (H1 : Hp) (es : List Ed) : Nat → Hp → V → Hp → Prop := fun i H x H' => H' = H ∧ ∃ k e, x = V.ref k ∧ es[i]? = some e ∧ Tp H1 k (pl e)
theorem eds_it {K : PySem.W.Frag} {H1 : Hp} {a : Addr} {es : List Ed} (h : EdS H1 a es) {R : It → Hp → Prop} (q : ∀ J, Walk J es.length (fun H' => Same H1 H') (YEd H1 es) → R J H1) :
    SeqR K H1 a R := by
  rcases h with ⟨ks, k1, k2, k3⟩ | ⟨ks, k1, k2, k3⟩
  all_goals
    have y : ∀ i v, (ks.map fun k => V.ref k.1)[i]? = some v → ∃ k e, v = V.ref k ∧ es[i]? = some e ∧ Tp H1 k (pl e) := fun i v hv => by
      obtain ⟨k, hk, rfl⟩ := refs_get hv
      obtain ⟨e, he, ek⟩ := ed_get k2 hk
      exact ⟨k.1, e, rfl, he, by rw [← ek]; exact k3 k (List.mem_of_getElem? hk)⟩
  · have w := walk_list (K := K) (a := a) (xs := ks.map fun k => V.ref k.1)
    rw [nv_len, ed_len k2] at w
    exact .inl ⟨⟨_, sl_of k1⟩, q _ (w.mono (fun H' s => sl_of (s _ _ k1)) fun i H x H' _ _ z => ⟨z.1, y i x z.2⟩)⟩
  · have w := walk_tup (K := K) (a := a) (xs := ks.map fun k => V.ref k.1)
    rw [nv_len, ed_len k2] at w
    exact .inr ⟨⟨_, sq_of k1⟩, q _ (w.mono (fun H' s => sq_of (s _ _ k1)) fun i H x H' _ _ z => ⟨z.1, y i x z.2⟩)⟩
section
variable {P : Program} {w : World} {K : PySem.W.Frag} {mg : Str → Option Value} {base : Heap}
/-! ### _is_passage -/
def spIsPassage : Sp := fun vs H Q _ => ∃ (k : Addr) (e : Ed) (n : Nat), vs = [.ref k, .int (n : Int)] ∧ Tp H k (pl e) ∧ e.1 ≤ e.2 ∧ e.2 < n ∧ Q (.bl true) H
abbrev nIsP : List Str := ["value", "places", "u", "v"]
theorem scIsPassage : FnScope nIsP ["value", "places"] (defScope sIsPassage) := ⟨rfl, rfl, rfl, by decide +kernel, rfl, by decide +kernel, by decide +kernel⟩
theorem cal_isPassage (T : Txt mg) (GI : Cal P w K mg base "is_index" 2 spIndex) (D : Df K mg "_is_passage" sIsPassage ["value", "places"]) : Cal P w K mg base "_is_passage" 3 spIsPassage := by
  have nd := scIsPassage.nd
  refine cal_of D scIsPassage (fun vs H Q E h => ?_) (fun f cdv A outer s0 H vs Q E hr h => ?_)
  · obtain ⟨k, e, n, rfl, _⟩ := h
    rfl
  · obtain ⟨k, e, n, rfl, hk, h1, h2, q⟩ := h
    refine ⟨_, pss_cons (ps_if (PW.pt (pw_or (pt_not (pt_val (pe_callB call_isi (by rfl) T.isinstance (by decide +kernel) (pa_cons (pv 0) (pa_cons (pe_bltn (v := .ty "tuple") (by rfl) T.tuple (by decide +kernel) rfl) pa_nil)))))
        (pw_or1 (pt_cmpR op_ne (pe_callB cr_len (by rfl) T.len PySem.boot_len (pa_cons (pv 0) pa_nil)) pe_int (nomark _))))) (pss_one ps_never) pss_nil)
      <| pss_cons (ps_asg (pv 0) (pg_tup rfl (pgs_cons (pg_name (i := 2) nd rfl (.inl rfl)) (pgs_cons (pg_name (i := 3) nd rfl (.inl rfl)) pgs_nil))))
      <| pss_one (ps_ret (pe_and (pe_cl GI hr (by rfl) (pa_cons (pv 2) (pa_cons (pv 1) pa_nil))) (pe_and (pe_cl GI hr (by rfl) (pa_cons (pv 3) (pa_cons (pv 1) pa_nil))) (pe_one (pe_cmpR op_le (pv 2) (pv 3) (nomark _)))))), ?_⟩
    refine ⟨_, rfl, _, _, _, _, true, rfl, .ty _, .base (.tup hk), kit_ty (by decide +kernel), true, rfl, iteF ?_⟩
    refine ⟨_, rfl, k, _, rfl, .inr (sq_of hk), rfl, _, rfl, iteF ?_⟩
    refine ⟨_, rfl, k, _, rfl, sq_of hk, rfl, _, _, rfl, _, _, rfl, rfl, ?_⟩
    refine ⟨_, rfl, _, rfl, _, _, rfl, ?_⟩
    have b1 : decide ((0 : Int) ≤ (e.1 : Int) ∧ (e.1 : Int) < (n : Int)) = true := decide_eq_true ⟨by omega, by omega⟩
    have b2 : decide ((0 : Int) ≤ (e.2 : Int) ∧ (e.2 : Int) < (n : Int)) = true := decide_eq_true ⟨by omega, by omega⟩
    have b3 : decide ((e.1 : Int) ≤ (e.2 : Int)) = true := decide_eq_true (by omega)
    refine ⟨_, rfl, ?_⟩
    rw [b1]
    refine iteT ⟨_, rfl, _, rfl, _, _, rfl, _, rfl, ?_⟩
    rw [b2]
    refine iteT ⟨_, rfl, _, rfl, _, _, rfl, rfl, ?_⟩
    show Q (V.bl (decide ((e.1 : Int) ≤ (e.2 : Int)))) H
    rw [b3]
    exact q
/-! ### _first_wrong -/
def spFirstWrong : Sp := fun vs H Q _ => ∃ (a : Addr) (n : Nat) (es : List Ed), vs = [.ref a, .int (n : Int)] ∧ EdT H a es ∧ VE n es ∧ ∀ H', Same H H' → Q .non H'
abbrev nFw : List Str := ["values", "places", "index", "value"]
theorem scFirstWrong : FnScope nFw ["values", "places"] (defScope sFirstWrong) := ⟨rfl, rfl, rfl, by decide +kernel, rfl, by decide +kernel, by decide +kernel⟩
theorem cal_firstWrong (T : Txt mg) (GI : Cal P w K mg base "_is_passage" 3 spIsPassage) (D : Df K mg "_first_wrong" sFirstWrong ["values", "places"]) : Cal P w K mg base "_first_wrong" 4 spFirstWrong := by
  have nd := scFirstWrong.nd
  refine cal_of D scFirstWrong (fun vs H Q E h => ?_) (fun f cdv A outer s0 H vs Q E hr h => ?_)
  · obtain ⟨a, n, es, rfl, _⟩ := h
    rfl
  · obtain ⟨a, n, es, rfl, ⟨ks, k1, k2, k3⟩, ve, q⟩ := h
    refine ⟨_, pss_cons (ps_for PassesOwn.never rfl (pi_enumT (by rfl) T.enumerate (pa_cons (pv 0) pa_nil)) (pg_tup rfl (pgs_cons (pg_name (i := 2) nd rfl (.inl rfl)) (pgs_cons (pg_name (i := 3) nd rfl (.inl rfl)) pgs_nil)))
          (pss_one (ps_if (pt_not (pt_val (pe_cl GI hr (by rfl) (pa_cons (pv 3) (pa_cons (pv 1) pa_nil))))) (pss_one ps_never) pss_nil)))
      <| pss_one (ps_ret pe_non), ?_⟩
    refine ⟨_, rfl, a, _, rfl, sq_of k1, for_it (walk_enumT (xs := ks.map fun k => V.ref k.1)) (fun i σ H' => ∃ v2 v3, σ = [some (.ref a), some (.int (n : Int)), v2, v3] ∧ Same H H') ⟨_, _, rfl, fun _ _ h => h⟩ (fun i σ H' _ ⟨_, _, _, sm⟩ => sq_of (sm _ _ k1)) ?_ ?_⟩
    · rintro i x σ H3 H4 hi ⟨v2, v3, rfl, sm⟩ ⟨T1, i', y, rfl, nT, rfl, ei, ey⟩
      obtain rfl : V.int (i : Int) = i' := Option.some.inj ei
      obtain ⟨k, hk, rfl⟩ := refs_get ey
      obtain ⟨e, he, ek⟩ := ed_get k2 hk
      have smT := sm.trans (same_upd (o := .tup [V.int (i : Int), V.ref k.1]) nT)
      have tk := smT _ _ (k3 k (List.mem_of_getElem? hk))
      have b := ve e (List.mem_of_getElem? he)
      refine ⟨T1, _, rfl, .inl (.inl upd_same), rfl, _, _, rfl, _, _, rfl, rfl, ?_⟩
      refine ⟨_, rfl, _, rfl, k.1, e, n, rfl, by rw [← ek]; exact tk, b.1, b.2, ?_⟩
      exact ⟨_, rfl, iteF ⟨_, _, rfl, smT⟩⟩
    · rintro σ H3 ⟨v2, v3, rfl, sm⟩
      exact q H3 sm
/-! ### _least_joined -/
def spLeast : Sp := fun vs H Q _ => ∃ (a : Addr) (n : Nat) (es : List Ed), vs = [.int (n : Int), .ref a] ∧ EdS H a es ∧ VE n es ∧ n ≤ 100 ∧ es.length ≤ 100 ∧ ∀ H' r, Same H H' → H r = none → H' r = some (.lst (NV (lj n es))) → Q (.ref r) H'
abbrev nLj : List Str := ["places", "passages", "least", "u", "v", "low", "high", "place"]
theorem scLeast : FnScope nLj ["places", "passages"] (defScope sLeast) := ⟨rfl, rfl, rfl, by decide +kernel, rfl, by decide +kernel, by decide +kernel⟩
theorem lj_take {n : Nat} {es : List Ed} {i : Nat} {e : Ed} (he : es[i]? = some e) : (es.take (i + 1)).foldl ljStep (List.range n) = ljStep ((es.take i).foldl ljStep (List.range n)) e := by
  rw [List.take_add_one, he, List.foldl_append]
  rfl
theorem lj_len (n : Nat) : ∀ (es : List Ed) (L : List Nat), (es.foldl ljStep L).length = L.length
  | [], _ => rfl
  | e :: es, L => by
    rw [List.foldl_cons, lj_len n es]
    unfold ljStep
    rw [List.length_map]
theorem cal_least (T : Txt mg) (D : Df K mg "_least_joined" sLeast ["places", "passages"]) : Cal P w K mg base "_least_joined" 1 spLeast := by
  have nd := scLeast.nd
  refine cal_of D scLeast (fun vs H Q E h => ?_) (fun f cdv A outer s0 H vs Q E hr h => ?_)
  · obtain ⟨a, n, es, rfl, _⟩ := h
    rfl
  · obtain ⟨a, n, es, rfl, he, ve, hn, hl, q⟩ := h
    refine ⟨_, pss_cons (ps_set (i := 2) nd rfl (.inl rfl) (pe_listRg (by rfl) (by rfl) T.list (prg_1 (by rfl) T.range (pv 0))))
      <| pss_cons (ps_for PassesOwn.never rfl (pi_seq (pv 1)) (pg_tup rfl (pgs_cons (pg_name (i := 3) nd rfl (.inl rfl)) (pgs_cons (pg_name (i := 4) nd rfl (.inl rfl)) pgs_nil)))
          (pss_cons (ps_set (i := 5) nd rfl (.inr rfl) (pe_callB (call_min2 rfl) (by rfl) T.min (by decide +kernel) (pa_cons (pe_ix (r := rIxL K) ix_list (pv 2) (pv 3) (fun _ _ => rfl)) (pa_cons (pe_ix (r := rIxL K) ix_list (pv 2) (pv 4) (fun _ _ => rfl)) pa_nil))))
          <| pss_cons (ps_set (i := 6) nd rfl (.inr rfl) (pe_callB (call_max2 rfl) (by rfl) T.max (by decide +kernel) (pa_cons (pe_ix (r := rIxL K) ix_list (pv 2) (pv 3) (fun _ _ => rfl)) (pa_cons (pe_ix (r := rIxL K) ix_list (pv 2) (pv 4) (fun _ _ => rfl)) pa_nil))))
          <| pss_one (ps_setLc (i := 2) (own := [("place", 7)]) (g := gName 7) (by rfl) nd rfl rfl (sw_true rfl rfl rfl (by decide +kernel)) (pi_list (pv 2))
              (blkOk_by (own := [("place", 7)]) (N := nLj) (sc := defScope sLeast) (by decide +kernel)) (fun _ _ _ _ _ => pg_name (i := 7) nd rfl (.inl rfl)) (fun _ _ _ _ _ => pts_nil)
              (fun _ _ _ _ _ => pe_ifExp (pt_cmpR op_eq (pv 7) (pv 6) (nomark _)) (pv 5) (pv 7)))))
      <| pss_one (ps_ret (pv 2)), ?_⟩
    refine ⟨_, rfl, _, rfl, RgOk.of_le (by omega) (by omega) (by omega) (by omega), fun l0 n0 => ?_⟩
    rw [NV_range]
    have s1 := same_upd (o := .lst (NV (List.range n))) n0
    have hl0 : upd H l0 (.lst (NV (List.range n))) l0 = some (.lst (NV (List.range n))) := upd_same
    have he1 := he.same s1
    generalize upd H l0 (.lst (NV (List.range n))) = H1 at *
    refine ⟨_, rfl, a, rfl, eds_it he1 fun J W => for_it W (fun i σ H' => ∃ l v3 v4 v5 v6 v7, σ = [some (.int (n : Int)), some (.ref a), some (.ref l), v3, v4, v5, v6, v7] ∧ Same H1 H' ∧ H l = none ∧ H' l = some (.lst (NV ((es.take i).foldl ljStep (List.range n)))))
      ⟨l0, _, _, _, _, _, rfl, fun _ _ h => h, n0, hl0⟩ (fun i σ H' _ ⟨_, _, _, _, _, _, _, sm, _⟩ => sm) ?_ ?_⟩
    · rintro i x σ H2 H3 hi ⟨l, v3, v4, v5, v6, v7, rfl, sm, nl, hL⟩ ⟨rfl, k, e, rfl, hei, hk⟩
      have tk := sm _ _ hk
      have b := ve e (List.mem_of_getElem? hei)
      rw [lj_take hei]
      have Ll : ((es.take i).foldl ljStep (List.range n)).length = n := by rw [lj_len n, List.length_range]
      generalize (es.take i).foldl ljStep (List.range n) = L at *
      have g1 : atI (NV L) ((e.1 : Nat) : Int) = some (.int ((ap L e.1 : Nat) : Int)) := atI_nat (NV_get (ap_get (by omega)))
      have g2 : atI (NV L) ((e.2 : Nat) : Int) = some (.int ((ap L e.2 : Nat) : Int)) := atI_nat (NV_get (ap_get (by omega)))
      have m1 : (if ((ap L e.2 : Nat) : Int) < ((ap L e.1 : Nat) : Int) then ((ap L e.2 : Nat) : Int) else ((ap L e.1 : Nat) : Int)) = ((min (ap L e.1) (ap L e.2) : Nat) : Int) := by
        split <;> omega
      have m2 : (if ((ap L e.2 : Nat) : Int) > ((ap L e.1 : Nat) : Int) then ((ap L e.2 : Nat) : Int) else ((ap L e.1 : Nat) : Int)) = ((max (ap L e.1) (ap L e.2) : Nat) : Int) := by
        split <;> omega
      refine ⟨k, _, rfl, sq_of tk, rfl, _, _, rfl, _, _, rfl, rfl, ?_⟩
      refine ⟨_, rfl, _, rfl, l, _, _, _, rfl, rfl, sl_of hL, g1, _, rfl, _, rfl, l, _, _, _, rfl, rfl, sl_of hL, g2, _, _, rfl, ?_⟩
      dsimp only
      rw [m1]
      refine ⟨_, rfl, _, rfl, l, _, _, _, rfl, rfl, sl_of hL, g1, _, rfl, _, rfl, l, _, _, _, rfl, rfl, sl_of hL, g2, _, _, rfl, ?_⟩
      dsimp only
      rw [m2]
      refine ⟨_, rfl, l, rfl, ⟨_, sl_of hL⟩, fun D nD => lc_it (walk_list (xs := NV L)) (fun j H' => Same H3 H' ∧ H' D = some (.lst (NV ((ljStep L e).take j)))) ⟨same_upd nD, by rw [upd_same]; rfl⟩ (fun j H' _ ⟨s4, _⟩ => sl_of (s4 _ _ hL)) ?_ ?_⟩
      · rintro j y H4 H5 hj ⟨s4, hD⟩ ⟨rfl, hy⟩
        rw [NV_len] at hj
        obtain ⟨z, hz, rfl⟩ := NV_get' hy
        have low : (ljStep L e).take (j + 1) = (ljStep L e).take j ++ [if z = max (ap L e.1) (ap L e.2) then min (ap L e.1) (ap L e.2) else z] := by
          unfold ljStep
          rw [List.take_add_one, List.getElem?_map, hz]
          rfl
        have fin : ∀ v : Nat, v = (if z = max (ap L e.1) (ap L e.2) then min (ap L e.1) (ap L e.2) else z) → ∃ acc, H5 D = some (.lst acc) ∧ acc.length < sizeLine ∧ (Same H3 (upd H5 D (.lst (acc ++ [V.int (v : Int)]))) ∧ upd H5 D (.lst (acc ++ [V.int (v : Int)])) D = some (.lst (NV ((ljStep L e).take (j + 1))))) := fun v ev => by
          refine ⟨_, hD, ?_, fun b o eb => ?_, ?_⟩
          · rw [NV_len, List.length_take]
            exact Nat.lt_of_le_of_lt (Nat.min_le_left _ _) (small1000 (by omega))
          · rw [upd_ne (ne_of_none eb nD)]
            exact s4 _ _ eb
          · rw [upd_same, low, NV_snoc, ev]
        refine ⟨rfl, _, rfl, _, rfl, rfl, _, rfl, ite2 (fun c => ?_) (fun c => ?_)⟩
        · exact ⟨_, rfl, fin _ (by rw [if_pos]; have := of_decide_eq_true c; simp at this; omega)⟩
        · exact ⟨_, rfl, fin _ (by rw [if_neg]; have := of_decide_eq_false (Bool.eq_false_iff.mpr c); simp at this; omega)⟩
      · rintro H4 ⟨s4, hD⟩
        have e4 : (ljStep L e).take (NV L).length = ljStep L e := List.take_of_length_le (by rw [NV_len]; unfold ljStep; rw [List.length_map]; exact Nat.le_refl _)
        rw [e4] at hD
        exact ⟨D, _, _, _, _, _, rfl, sm.trans s4, (s1.trans sm).free nD, hD⟩
    · rintro σ H2 ⟨l, v3, v4, v5, v6, v7, rfl, sm, nl, hL⟩
      rw [List.take_length] at hL
      exact ⟨_, rfl, q H2 l (s1.trans sm) nl hL⟩
end
end Hw

namespace Hw
open PySem PySem.Spec PyProof.Rows L2 ClX
/-! ### tuples cut and joined, whatever their length -/
theorem sl_take {K : PySem.W.Frag} {H : Hp} {a : Addr} {xs : List V} {k : Nat} {Q : VK} (h : H a = some (.tup xs)) (q : ∀ p H', Same H H' → H' p = some (.tup (xs.take k)) → Q (.ref p) H') : rSlA K (.ref a) none (some (k : Int)) H Q := by
  refine ⟨a, xs, rfl, sq_of h, fun ⟨_, e⟩ => q a H (fun _ _ z => z) ?_, fun _ p np => ?_⟩
  · rw [show HT.sIx xs.length xs.length (some (k : Int)) = min k xs.length from HT.sIx_nat _ _ _] at e
    rw [List.take_of_length_le (by omega)]
    exact h
  · rw [cut_to]
    exact q p _ (same_upd np) upd_same
theorem sl_drop {K : PySem.W.Frag} {H : Hp} {a : Addr} {xs : List V} {k : Nat} {Q : VK} (h : H a = some (.tup xs)) (q : ∀ p H', Same H H' → H' p = some (.tup (xs.drop k)) → Q (.ref p) H') : rSlA K (.ref a) (some (k : Int)) none H Q := by
  refine ⟨a, xs, rfl, sq_of h, fun ⟨e, _⟩ => q a H (fun _ _ z => z) ?_, fun _ p np => ?_⟩
  · rw [show HT.sIx xs.length 0 (some (k : Int)) = min k xs.length from HT.sIx_nat _ _ _] at e
    by_cases z : k = 0
    · subst z
      exact h
    · have : xs.length = 0 := by omega
      rw [List.eq_nil_of_length_eq_zero this] at h ⊢
      rw [List.drop_nil]
      exact h
  · rw [cut_from]
    exact q p _ (same_upd np) upd_same
theorem cat_any {K : PySem.W.Frag} {H : Hp} {a b : Addr} {xs ys : List V} {Q : VK} (ha : H a = some (.tup xs)) (hb : H b = some (.tup ys)) (le : xs.length + ys.length ≤ 1000) (q : ∀ p H', Same H H' → H' p = some (.tup (xs ++ ys)) → Q (.ref p) H') : rCatA K (.ref a) (.ref b) H Q := by
  refine ⟨a, b, xs, ys, rfl, rfl, sq_of ha, sq_of hb, Nat.le_of_lt (small1000 le), fun e => q b H (fun _ _ z => z) ?_, fun _ e => q a H (fun _ _ z => z) ?_, fun _ _ p np => q p _ (same_upd np) upd_same⟩
  · rw [e]; exact hb
  · rw [e, List.append_nil]; exact ha
/-! ### the class -/
structure NetC (K : PySem.W.Frag) (mg : Str → Option Value) (C : Addr) (mc : Value) : Prop where
  gC : mg "Network" = some (.ref C)
  rd : CRead K C mc
  mp : ∃ u, CVal K C mc "MAX_PLACES" (.int 12) u
  ms : ∃ u, CVal K C mc "MAX_PASSAGES" (.int 16) u
  cl : Cls K C
  n1 : NoAttr K C "_places"
  n2 : NoAttr K C "_passages"
  n3 : NoAttr K C "_start"
  n4 : NoAttr K C "_bridges"
  n5 : NoAttr K C "_cells"
  n6 : NoAttr K C "_exits"
section
variable {P : Program} {w : World} {K : PySem.W.Frag} {mg : Str → Option Value} {base : Heap}
/-! ### _is_connected -/
def spConn : Sp := fun vs H Q _ => ∃ (a : Addr) (n : Nat) (es : List Ed), vs = [.int (n : Int), .ref a] ∧ EdS H a es ∧ VE n es ∧ 1 ≤ n ∧ n ≤ 100 ∧ es.length ≤ 100 ∧ ∀ H', Same H H' → Q (.bl (cB n es)) H'
theorem scConn : FnScope ["places", "passages"] ["places", "passages"] (defScope sConn) := ⟨rfl, rfl, rfl, by decide +kernel, rfl, by decide +kernel, by decide +kernel⟩
theorem cal_conn (T : Txt mg) (GL : Cal P w K mg base "_least_joined" 1 spLeast) (D : Df K mg "_is_connected" sConn ["places", "passages"]) : Cal P w K mg base "_is_connected" 2 spConn := by
  refine cal_of D scConn (fun vs H Q E h => ?_) (fun f cdv A outer s0 H vs Q E hr h => ?_)
  · obtain ⟨a, n, es, rfl, _⟩ := h
    rfl
  · obtain ⟨a, n, es, rfl, he, ve, n1, hn, hl, q⟩ := h
    refine ⟨_, pss_one (ps_ret (pe_cmpR (op_eqD hr.units) (pe_cl GL hr (by rfl) (pa_cons (pv 0) (pa_cons (pv 1) pa_nil))) (pe_op op_rep (pe_lst (pa_cons pe_int pa_nil)) (pv 0)) (nomark _))), ?_⟩
    refine ⟨_, rfl, _, rfl, a, n, es, rfl, he, ve, hn, hl, fun H1 r s1 nr hr1 => ?_⟩
    refine ⟨by show 1 ≤ sizeLine; decide, fun l0 n0 => ?_⟩
    have s2 := s1.trans (same_upd (o := .lst [V.int 0]) n0)
    have hr2 := same_upd (o := .lst [V.int 0]) n0 _ _ hr1
    refine ⟨_, rfl, l0, _, _, rfl, rfl, upd_same, by omega, by omega, ?_, fun l1 nl1 => ?_⟩
    · show 1 * _ ≤ _
      rw [Int.toNat_natCast]
      exact Nat.le_of_lt (small1000 (by omega))
    rw [rep_flat]
    have s3 := s2.trans (same_upd (o := .lst (List.replicate n (V.int 0))) nl1)
    have hr3 := same_upd (o := .lst (List.replicate n (V.int 0))) nl1 _ _ hr2
    have e0 : List.replicate n (V.int 0) = (NI (List.replicate n 0)).map V.int := by
      rw [← NV_NI, NV_rep]
      rfl
    have e1 : NV (lj n es) = (NI (lj n es)).map V.int := NV_NI _
    refine ⟨.list ((NI (lj n es)).map PyData.int), .list ((NI (List.replicate n 0)).map PyData.int), dp_li (sl_of (by rw [← e1]; exact hr3)), dp_li (sl_of (by rw [← e0]; exact upd_same)), shaped_li _, shaped_li _, ?_⟩
    have e2 : PyData.eqv (.list ((NI (lj n es)).map PyData.int)) (.list ((NI (List.replicate n 0)).map PyData.int)) = cB n es := by
      rw [eqv_li]
      unfold cB
      by_cases z : lj n es = List.replicate n 0
      · rw [decide_eq_true z, z]; exact decide_eq_true rfl
      · rw [decide_eq_false z]; exact decide_eq_false fun y => z (NI_inj y)
    rw [e2]
    exact q _ s3
/-! ### _fault -/
def spFault : Sp := fun vs H Q _ => ∃ (a : Addr) (n : Nat) (es : List Ed), vs = [.int (n : Int), .ref a] ∧ EdT H a es ∧ CN n es ∧ n ≤ 12 ∧ es.length ≤ 16 ∧ ∀ H', Same H H' → Q .non H'
abbrev nFault : List Str := ["places", "passages", "index"]
theorem scFault : FnScope nFault ["places", "passages"] (defScope sFault) := ⟨rfl, rfl, rfl, by decide +kernel, rfl, by decide +kernel, by decide +kernel⟩
theorem cal_fault {C : Addr} {mc : Value} (T : Txt mg) (N : NetC K mg C mc) (GW : Cal P w K mg base "is_whole" 1 spWhole) (GF : Cal P w K mg base "_first_wrong" 4 spFirstWrong) (GC : Cal P w K mg base "_is_connected" 2 spConn)
    (D : Df K mg "_fault" sFault ["places", "passages"]) : Cal P w K mg base "_fault" 5 spFault := by
  have nd := scFault.nd
  refine cal_of D scFault (fun vs H Q E h => ?_) (fun f cdv A outer s0 H vs Q E hr h => ?_)
  · obtain ⟨a, n, es, rfl, _⟩ := h
    rfl
  · obtain ⟨a, n, es, rfl, he, cn, hn, hl, q⟩ := h
    have hr1 := hr.mono (show 1 ≤ 4 by decide)
    have hr2 := hr.mono (show 2 ≤ 4 by decide)
    obtain ⟨u1, v1⟩ := N.mp
    obtain ⟨u2, v2⟩ := N.ms
    refine ⟨_, pss_cons (ps_if (PW.pt (pw_or (pt_not (pt_val (pe_cl GW hr1 (by rfl) (pa_cons (pv 0) pa_nil)))) (pw_or1 (pt_not (pt_chain op_le op_le pe_int (pv 0) (pe_cval (pe_glob (by rfl) N.gC (v := .ref C) rfl))))))) (pss_one ps_never) pss_nil)
      <| pss_cons (ps_if (PW.pt (pw_or (pt_not (pt_val (pe_callB call_isi (by rfl) T.isinstance (by decide +kernel) (pa_cons (pv 1) (pa_cons (pe_bltn (v := .ty "tuple") (by rfl) T.tuple (by decide +kernel) rfl) pa_nil)))))
          (pw_or1 (pt_cmpR op_gt (pe_callB cr_len (by rfl) T.len PySem.boot_len (pa_cons (pv 1) pa_nil)) (pe_cval (pe_glob (by rfl) N.gC (v := .ref C) rfl)) (nomark _))))) (pss_one ps_never) pss_nil)
      <| pss_cons (ps_set (i := 2) nd rfl (.inl rfl) (pe_cl GF hr (by rfl) (pa_cons (pv 1) (pa_cons (pv 0) pa_nil))))
      <| pss_cons (ps_if (pt_cmpR op_notN (pv 2) pe_non (nomark _)) (pss_one ps_never) pss_nil)
      <| pss_cons (ps_if (pt_not (pt_val (pe_cl GC hr2 (by rfl) (pa_cons (pv 0) (pa_cons (pv 1) pa_nil))))) (pss_one ps_never) pss_nil)
      <| pss_one (ps_ret pe_non), ?_⟩
    obtain ⟨ks, k1, k2, k3⟩ := id he
    have n1 := cn.1
    refine ⟨_, rfl, _, rfl, ⟨_, rfl, iteF ?_⟩⟩
    refine ⟨_, rfl, _, _, rfl, rfl, _, rfl, ?_⟩
    rw [show decide ((1 : Int) ≤ (n : Int)) = true from decide_eq_true (by omega)]
    refine iteT ⟨C, mc, _, _, rfl, N.rd, v1, _, _, rfl, rfl, ?_⟩
    refine ⟨_, rfl, ?_⟩
    rw [show decide ((n : Int) ≤ 12) = true from decide_eq_true (by omega)]
    refine iteF ?_
    refine ⟨_, rfl, _, _, _, _, true, rfl, .ty _, .base (.tup k1), kit_ty (by decide +kernel), true, rfl, iteF ?_⟩
    refine ⟨_, rfl, a, _, rfl, .inr (sq_of k1), C, mc, _, _, rfl, N.rd, v2, _, _, rfl, rfl, _, rfl, ?_⟩
    rw [nv_len, ed_len k2]
    rw [show decide ((16 : Int) < (es.length : Int)) = false from decide_eq_false (by omega)]
    refine iteF ?_
    refine ⟨_, rfl, _, rfl, a, n, es, rfl, he, cn.2.1, fun H1 s1 => ?_⟩
    refine ⟨_, rfl, rfl, _, rfl, iteF ?_⟩
    refine ⟨_, rfl, _, rfl, a, n, es, rfl, .inr (he.same s1), cn.2.1, n1, by omega, by omega, fun H2 s2 => ⟨_, rfl, ?_⟩⟩
    rw [show cB n es = true from (cB_iff cn.2.1 n1).mpr cn.2.2]
    refine iteF ?_
    exact q _ (s1.trans s2)
/-! ### _find_bridges -/
def spBridges : Sp := fun vs H Q _ => ∃ (a : Addr) (n : Nat) (es : List Ed), vs = [.int (n : Int), .ref a] ∧ EdT H a es ∧ VE n es ∧ 1 ≤ n ∧ n ≤ 12 ∧ es.length ≤ 16 ∧ ∀ H' r, Same H H' → H r = none → Tp H' r (brg n es) → Q (.ref r) H'
abbrev nBr : List Str := ["places", "passages", "passage"]
theorem scBridges : FnScope nBr ["places", "passages"] (defScope sBridges) := ⟨rfl, rfl, rfl, by decide +kernel, rfl, by decide +kernel, by decide +kernel⟩
theorem edt_cut {H : Hp} {p : Addr} {es : List Ed} {ks : List (Addr × List Nat)} {i : Nat} (k2 : ks.map (·.2) = es.map pl) (k3 : ∀ k ∈ ks, Tp H k.1 k.2) (h : H p = some (.tup ((ks.map fun k => V.ref k.1).take i ++ (ks.map fun k => V.ref k.1).drop (i + 1)))) : EdT H p (es.eraseIdx i) := by
  refine ⟨ks.take i ++ ks.drop (i + 1), by rw [h, List.map_append, List.map_take, List.map_drop], ?_, fun k hk => ?_⟩
  · rw [List.eraseIdx_eq_take_drop_succ, List.map_append, List.map_append, List.map_take, List.map_drop, k2, List.map_take, List.map_drop]
  · rcases List.mem_append.mp hk with m | m
    · exact k3 k (List.mem_of_mem_take m)
    · exact k3 k (List.mem_of_mem_drop m)
def brgTo (n : Nat) (es : List Ed) (j : Nat) : List Nat := (List.range j).filter fun i => !cB n (es.eraseIdx i)
theorem brgTo_succ (n : Nat) (es : List Ed) (j : Nat) : brgTo n es (j + 1) = brgTo n es j ++ (if cB n (es.eraseIdx j) = true then [] else [j]) := by
  unfold brgTo
  rw [List.range_succ, List.filter_append]
  congr 1
  rw [List.filter_cons, List.filter_nil]
  cases cB n (es.eraseIdx j) <;> rfl
theorem cal_bridges (T : Txt mg) (GC : Cal P w K mg base "_is_connected" 2 spConn) (D : Df K mg "_find_bridges" sBridges ["places", "passages"]) : Cal P w K mg base "_find_bridges" 3 spBridges := by
  have nd := scBridges.nd
  refine cal_of D scBridges (fun vs H Q E h => ?_) (fun f cdv A outer s0 H vs Q E hr h => ?_)
  · obtain ⟨a, n, es, rfl, _⟩ := h
    rfl
  · obtain ⟨a, n, es, rfl, he, ve, n1, hn, hl, q⟩ := h
    refine ⟨_, pss_one (ps_ret (pe_callTy call_tuple_of (by rfl) T.tuple (by decide +kernel) (pa_cons (pe_lc (own := [("passage", 2)]) (g := gName 2) (by rfl) nd (pi_range1 (by rfl) T.range (pa_cons (pe_callB cr_len (by rfl) T.len PySem.boot_len (pa_cons (pv 1) pa_nil)) pa_nil))
        (blkOk_by (own := [("passage", 2)]) (N := nBr) (sc := defScope sBridges) (by decide +kernel)) (fun _ _ _ _ _ => pg_name (i := 2) nd rfl (.inl rfl))
        (fun _ _ _ _ _ => pts_one (pt_not (pt_val (pe_cl GC (by exact hr) (by rfl) (pa_cons (pv 0) (pa_cons (pe_op (r := rCatA K) op_catA (pe_slice (r := rSlA K) sl_tupA (pv 1) po_none (po_some (pv 2))) (pe_slice (r := rSlA K) sl_tupA (pv 1) (po_some (pe_op op_add (pv 2) pe_int)) po_none)) pa_nil))))))
        (fun _ _ _ _ _ => pv 2)) pa_nil))), ?_⟩
    obtain ⟨ks, k1, k2, k3⟩ := id he
    have kl := ed_len k2
    refine ⟨_, rfl, a, _, rfl, .inr (sq_of k1), _, rfl, by rw [nv_len]; omega, by rw [nv_len]; omega, ?_⟩
    rw [nv_len, kl, Int.toNat_natCast]
    refine fun D nD => lc_it walk_rg0 (fun i H' => Same H H' ∧ H' D = some (.lst (NV (brgTo n es i)))) ⟨same_upd nD, upd_same⟩ (fun _ _ _ _ => trivial) ?_ ?_
    · rintro i x _ H2 hi ⟨sm, hD⟩ ⟨rfl, rfl⟩
      refine ⟨rfl, ?_⟩
      have e1 : ((i : Int) + 1) = ((i + 1 : Nat) : Int) := by omega
      refine ⟨_, rfl, _, rfl, _, rfl, _, rfl, sl_take (sm _ _ k1) fun p H3 s3 hp => ?_⟩
      refine ⟨_, rfl, _, rfl, _, _, rfl, rfl, _, rfl, ?_⟩
      rw [e1]
      dsimp only [tNoPart]
      refine sl_drop (s3 _ _ (sm _ _ k1)) fun p2 H4 s4 hp2 => ?_
      refine cat_any (s4 _ _ hp) hp2 (by rw [List.length_take, List.length_drop, nv_len]; omega) fun p3 H5 s5 hp3 => ?_
      have s25 := (s3.trans s4).trans s5
      have ed := edt_cut k2 (fun k hk => s25 _ _ (sm _ _ (k3 k hk))) hp3
      refine ⟨p3, n, es.eraseIdx i, rfl, .inr ed, ve_erase ve, n1, by omega, Nat.le_trans (List.length_eraseIdx_le _ _) (by omega), fun H6 s6 => ?_⟩
      have s26 := s25.trans s6
      have hD6 := s26 _ _ hD
      refine ⟨_, rfl, ?_⟩
      rw [brgTo_succ]
      cases c : cB n (es.eraseIdx i) with
      | true =>
        refine iteF ?_
        rw [if_pos rfl, List.append_nil]
        exact ⟨sm.trans s26, hD6⟩
      | false =>
        refine iteT ⟨_, rfl, _, hD6, ?_, fun b o e => ?_, ?_⟩
        · rw [NV_len]
          unfold brgTo
          exact Nat.lt_of_le_of_lt (List.length_filter_le _ _) (by rw [List.length_range]; exact small1000 (by omega))
        · rw [upd_ne (ne_of_none e nD)]
          exact s26 _ _ (sm _ _ e)
        · rw [upd_same, if_neg (by decide), NV_snoc]
    · rintro H2 ⟨sm, hD⟩
      refine ⟨D, _, rfl, .inl ⟨sl_of hD, fun t nt => ?_⟩⟩
      exact q _ t (sm.trans (same_upd nt)) (sm.free nt) upd_same
end
end Hw

namespace Hw
open PySem PySem.Spec PyProof.Rows L2 ClX
theorem flat_NV (p : List Nat) : (NV p).all flatV = true := by
  unfold NV
  rw [List.all_map, List.all_eq_true]
  intro x _
  rfl
theorem inV_NV (x : Nat) (p : List Nat) : inV (.int (x : Int)) (NV p) = decide (x ∈ p) := by
  unfold inV NV
  rw [List.any_map]
  have e : ((fun y => eqV y (V.int (x : Int))) ∘ fun n : Nat => V.int (n : Int)) = fun n => decide (n = x) := by
    funext n
    show ((n : Int) == (x : Int)) = decide (n = x)
    by_cases z : n = x
    · subst z; simp
    · rw [decide_eq_false z]
      have : ¬ ((n : Int) = (x : Int)) := by omega
      simp [z]
      exact this
  rw [e]
  by_cases z : x ∈ p
  · rw [decide_eq_true z, List.any_eq_true]
    exact ⟨x, z, decide_eq_true rfl⟩
  · rw [decide_eq_false z, List.any_eq_false]
    intro y hy
    have : y ≠ x := fun q => z (q ▸ hy)
    simp [this]
def rTupO (K : PySem.W.Frag) : List V → Hp → VK → Prop := fun xs H Q => ∃ p ys, xs = [.ref p] ∧ ((SqL K H p ys ∧ ∀ l, H l = none → Q (.ref l) (upd H l (.tup ys))) ∨ (SqT K H p ys ∧ Q (.ref p) H))
theorem cr_tupO {X : Cx} : CallR X (.type "tuple") (rTupO X.K) := call_tuple_of
/-! ### the passages that are no bridges -/
def okTo (ok : Nat → Bool) (es : List Ed) (j : Nat) : List Ed := ((List.range j).filter ok).map fun i => es.getD i (0, 0)
theorem okTo_succ (ok : Nat → Bool) (es : List Ed) (j : Nat) : okTo ok es (j + 1) = okTo ok es j ++ (if ok j = true then [es.getD j (0, 0)] else []) := by
  unfold okTo
  rw [List.range_succ, List.filter_append, List.map_append]
  congr 1
  rw [List.filter_cons, List.filter_nil]
  cases ok j <;> rfl
theorem okTo_len (ok : Nat → Bool) (es : List Ed) (j : Nat) : (okTo ok es j).length ≤ j := by
  unfold okTo
  rw [List.length_map]
  exact Nat.le_trans (List.length_filter_le _ _) (by rw [List.length_range]; exact Nat.le_refl _)
/-! ### places by their labels -/
def grp (L : List Nat) (j r : Nat) : List Nat := (List.range j).filter fun x => decide (ap L x = r)
def rtTo (L : List Nat) (j : Nat) : List Nat := (List.range j).filter fun l => decide (ap L l = l)
theorem grp_succ (L : List Nat) (j r : Nat) : grp L (j + 1) r = grp L j r ++ (if ap L j = r then [j] else []) := by
  unfold grp
  rw [List.range_succ, List.filter_append]
  congr 1
  rw [List.filter_cons, List.filter_nil]
  by_cases z : ap L j = r <;> simp [z]
theorem rtTo_succ (L : List Nat) (j : Nat) : rtTo L (j + 1) = rtTo L j ++ (if ap L j = j then [j] else []) := by
  unfold rtTo
  rw [List.range_succ, List.filter_append]
  congr 1
  rw [List.filter_cons, List.filter_nil]
  by_cases z : ap L j = j <;> simp [z]
theorem mem_rtTo {L : List Nat} {j r : Nat} : r ∈ rtTo L j ↔ r < j ∧ ap L r = r := by
  unfold rtTo
  rw [List.mem_filter, List.mem_range, decide_eq_true_eq]
theorem rtTo_len (L : List Nat) (j : Nat) : (rtTo L j).length ≤ j := by
  unfold rtTo
  exact Nat.le_trans (List.length_filter_le _ _) (by rw [List.length_range]; exact Nat.le_refl _)
def kvG (ad : Nat → Addr) (R : List Nat) : List (Key × V) := R.map fun r : Nat => (Sum.inl (r : Int), V.ref (ad r))
theorem kvG_in {ad : Nat → Addr} {r : Nat} : ∀ {R : List Nat}, r ∈ R → valV (kvG ad R) (.inl (r : Int)) = some (.ref (ad r))
  | a :: R, h => by
    by_cases z : a = r
    · subst z
      exact valV_pos (p := (Sum.inl (a : Int), V.ref (ad a))) (r := kvG ad R) rfl
    · have : ¬ ((Sum.inl (a : Int), V.ref (ad a)) : Key × V).1 = .inl (r : Int) := fun q => z (Int.ofNat.inj (Sum.inl.inj q))
      have e := valV_neg (p := ((Sum.inl (a : Int), V.ref (ad a)) : Key × V)) (r := kvG ad R) this
      exact e.trans (kvG_in ((List.mem_cons.mp h).resolve_left fun q => z q.symm))
theorem kvG_out {ad : Nat → Addr} {r : Nat} : ∀ {R : List Nat}, r ∉ R → valV (kvG ad R) (.inl (r : Int)) = none
  | [], _ => rfl
  | a :: R, h => by
    have : ¬ ((Sum.inl (a : Int), V.ref (ad a)) : Key × V).1 = .inl (r : Int) := fun q => h (by rw [Int.ofNat.inj (Sum.inl.inj q)]; exact List.mem_cons_self)
    have e := valV_neg (p := ((Sum.inl (a : Int), V.ref (ad a)) : Key × V)) (r := kvG ad R) this
    exact e.trans (kvG_out fun q => h (List.mem_cons_of_mem _ q))
theorem kvG_congr {ad bd : Nat → Addr} {R : List Nat} (h : ∀ r ∈ R, ad r = bd r) : kvG ad R = kvG bd R := List.map_congr_left fun r hr => by rw [h r hr]
/-- the dict at d, the first j places put in; H0: what stood before -/
def GrpAt (H0 H : Hp) (d : Addr) (L : List Nat) (j : Nat) : Prop := ∃ ad : Nat → Addr, H d = some (.dK (kvG ad (rtTo L j))) ∧ (∀ r ∈ rtTo L j, H (ad r) = some (.lst (NV (grp L j r))) ∧ H0 (ad r) = none) ∧ ∀ r ∈ rtTo L j, ∀ s ∈ rtTo L j, ad r = ad s → r = s
/-- how cells are handed back -/
def CsAt (H : Hp) (r : Addr) (cs : List (List Nat)) : Prop := ∃ ks : List (Addr × List Nat), H r = some (.tup (ks.map fun k => .ref k.1)) ∧ ks.map (·.2) = cs ∧ ∀ k ∈ ks, Tp H k.1 k.2
theorem CsAt.same {H H' : Hp} {r : Addr} {cs : List (List Nat)} (h : CsAt H r cs) (s : Same H H') : CsAt H' r cs := by
  obtain ⟨ks, a, b, c⟩ := h
  exact ⟨ks, s _ _ a, b, fun k hk => s _ _ (c k hk)⟩
section
variable {P : Program} {w : World} {K : PySem.W.Frag} {mg : Str → Option Value} {base : Heap}
def spCells : Sp := fun vs H Q _ => ∃ (a b : Addr) (n : Nat) (es : List Ed), vs = [.int (n : Int), .ref a, .ref b] ∧ EdT H a es ∧ Tp H b (brg n es) ∧ VE n es ∧ 1 ≤ n ∧ n ≤ 12 ∧ es.length ≤ 16 ∧ ∀ H' r, Same H H' → H r = none → CsAt H' r (cel n es) → Q (.ref r) H'
abbrev nCe : List Str := ["places", "passages", "bridges", "inner", "cells", "place", "least", "passage", "ends"]
theorem scCells : FnScope nCe ["places", "passages", "bridges"] (defScope sCells) := ⟨rfl, rfl, rfl, by decide +kernel, rfl, by decide +kernel, by decide +kernel⟩
theorem cal_cells (T : Txt mg) (GL : Cal P w K mg base "_least_joined" 1 spLeast) (D : Df K mg "_find_cells" sCells ["places", "passages", "bridges"]) : Cal P w K mg base "_find_cells" 2 spCells := by
  have nd := scCells.nd
  refine cal_of D scCells (fun vs H Q E h => ?_) (fun f cdv A outer s0 H vs Q E hr h => ?_)
  · obtain ⟨a, b, n, es, rfl, _⟩ := h
    rfl
  · obtain ⟨a, b, n, es, rfl, he, hb, ve, n1, hn, hl, q⟩ := h
    have hu := hu_of hr
    refine ⟨_, pss_cons (ps_setLc (i := 3) (own := [("passage", 7), ("ends", 8)]) (g := gTup K 2 (gCons (gName 7) (gCons (gName 8) gNil))) (by rfl) nd rfl rfl (sw_true rfl rfl rfl (by decide +kernel)) (pi_enumT (by rfl) T.enumerate (pa_cons (pv 1) pa_nil))
          (blkOk_by (own := [("passage", 7), ("ends", 8)]) (N := nCe) (sc := defScope sCells) (by decide +kernel)) (fun _ _ _ _ _ => pg_tup rfl (pgs_cons (pg_name (i := 7) nd rfl (.inl rfl)) (pgs_cons (pg_name (i := 8) nd rfl (.inl rfl)) pgs_nil)))
          (fun _ _ _ _ _ => pts_one (pt_cmpR (r := rIn K true) op_notIn_seq (pv 7) (pv 2) (by rfl))) (fun _ _ _ _ _ => pv 8))
      <| pss_cons (ps_set (i := 4) nd rfl (.inr rfl) pe_dnewK)
      <| pss_cons (ps_for PassesOwn.never rfl (pi_enum (by rfl) T.enumerate (pa_cons (pe_cl GL hr (by rfl) (pa_cons (pv 0) (pa_cons (pv 3) pa_nil))) pa_nil)) (pg_tup rfl (pgs_cons (pg_name (i := 5) nd rfl (.inl rfl)) (pgs_cons (pg_name (i := 6) nd rfl (.inl rfl)) pgs_nil)))
          (pss_one (ps_expr (pe_bm PySem.F.plainAttrs_list PySem.F.slot_list_append PySem.F.type_list_append mt_append (pe_dsetd (pv 4) (pv 6) (pe_lst pa_nil) ⟨by rfl, by rfl, by rfl, by rfl⟩) (pa_cons (pv 5) pa_nil)))))
      <| pss_one (ps_ret (pe_callTy call_tuple_of (by rfl) T.tuple (by decide +kernel) (pa_cons (pe_lc (own := [("least", 6)]) (g := gName 6) (by rfl) nd (pi_list (pe_callB (call_sortedDI rfl) (by rfl) T.sorted (by decide +kernel) (pa_cons (pv 4) pa_nil)))
          (blkOk_by (own := [("least", 6)]) (N := nCe) (sc := defScope sCells) (by decide +kernel)) (fun _ _ _ _ _ => pg_name (i := 6) nd rfl (.inl rfl)) (fun _ _ _ _ _ => pts_nil)
          (fun _ _ _ _ _ => pe_callTy (T := "tuple") (r := rTupO K) cr_tupO (by rfl) T.tuple (by decide +kernel) (pa_cons (pe_dget (by exact hu) (pv 4) (pv 6) (fun _ _ => rfl)) pa_nil))) pa_nil))), ?_⟩
    obtain ⟨ks, k1, k2, k3⟩ := id he
    have kl := ed_len k2
    refine ⟨_, rfl, a, _, rfl, sq_of k1, fun D nD => lc_it (walk_enumT (xs := ks.map fun k => V.ref k.1)) (fun i H' => Same H H' ∧ EdL H' D (okTo (fun j => !decide (j ∈ brg n es)) es i)) ⟨same_upd nD, [], upd_same, rfl, fun k hk => nomatch hk⟩ (fun i H' _ ⟨sm, _⟩ => sq_of (sm _ _ k1)) ?_ ?_⟩
    · rintro i x H2 H3 hi ⟨sm, kd, hD, h2, h3⟩ ⟨T1, i', y, rfl, nT, rfl, ei, ey⟩
      obtain rfl : V.int (i : Int) = i' := Option.some.inj ei
      obtain ⟨k, hk, rfl⟩ := refs_get ey
      obtain ⟨e, hei, ek⟩ := ed_get k2 hk
      rw [nv_len, kl] at hi
      have sT := same_upd (o := .tup [V.int (i : Int), V.ref k.1]) nT
      have smT := sm.trans sT
      have tk := smT _ _ (k3 k (List.mem_of_getElem? hk))
      refine ⟨T1, _, rfl, .inl (.inl upd_same), rfl, _, _, rfl, _, _, rfl, rfl, rfl, ?_⟩
      refine ⟨_, rfl, _, rfl, b, _, rfl, .inr (sq_of (smT _ _ hb)), rfl, flat_NV _, _, rfl, ?_⟩
      rw [inV_NV, okTo_succ]
      have eg : es.getD i (0, 0) = e := by
        rw [List.getD_eq_getElem?_getD, hei]
        rfl
      rw [eg]
      by_cases z : i ∈ brg n es
      · rw [decide_eq_true z]
        refine iteF ⟨smT, ?_⟩
        rw [if_neg (by decide), List.append_nil]
        exact ⟨kd, sT _ _ hD, h2, fun k hk => sT _ _ (h3 k hk)⟩
      · rw [decide_eq_false z]
        refine iteT ⟨_, rfl, _, sT _ _ hD, ?_, fun b o eb => ?_, ?_⟩
        · rw [nv_len, ed_len h2]
          exact Nat.lt_of_le_of_lt (okTo_len _ _ _) (small1000 (by omega))
        · rw [upd_ne (ne_of_none eb nD)]
          exact smT _ _ eb
        · rw [if_pos (show (!false) = true from rfl)]
          exact edl_snoc h2 (fun k hk => sT _ _ (h3 k hk)) (by rw [← ek]; exact tk) (sT _ _ hD)
    · rintro H2 ⟨sm, hD⟩
      rw [nv_len, kl] at hD
      have hi0 : okTo (fun j => !decide (j ∈ brg n es)) es es.length = inn n es := rfl
      rw [hi0] at hD
      intro d nd'
      have s3 := sm.trans (same_upd (o := .dK []) nd')
      have hD3 := hD.same (same_upd (o := .dK []) nd')
      have hd3 : upd H2 d (.dK []) d = some (.dK []) := upd_same
      have d0 : H d = none := sm.free nd'
      generalize upd H2 d (.dK []) = H3 at *
      have il : (inn n es).length ≤ 16 := Nat.le_trans (okTo_len _ _ _) hl
      refine ⟨_, rfl, _, rfl, D, n, inn n es, rfl, .inl hD3, okE_ve ve, by omega, by omega, fun H4 r s4 nr hr4 => ?_⟩
      have lb := lb_lj (okE_ve (ok := fun j => !decide (j ∈ brg n es)) ve)
      change Lb n (inn n es) (lj n (inn n es)) at lb
      have eC : cel n es = (rtTo (lj n (inn n es)) n).map (grp (lj n (inn n es)) n) := rfl
      rw [eC] at q
      generalize lj n (inn n es) = L at *
      have hd4 := s4 _ _ hd3
      have s04 := s3.trans s4
      have Ll := lb.len
      refine ⟨r, NV L, rfl, sl_of hr4, for_it (walk_enum (xs := NV L)) (fun i σ H' => ∃ v5 v6, σ = [some (.int (n : Int)), some (.ref a), some (.ref b), some (.ref D), some (.ref d), v5, v6, none, none] ∧ (∀ b o, b ≠ d → H4 b = some o → H' b = some o) ∧ GrpAt H4 H' d L i)
        ⟨_, _, rfl, fun b o _ e => e, fun _ => 0, hd4, fun r hr => absurd (mem_rtTo.mp hr).1 (Nat.not_lt_zero _), fun r hr => absurd (mem_rtTo.mp hr).1 (Nat.not_lt_zero _)⟩ (fun i σ H' _ ⟨_, _, _, kp, _⟩ => sl_of (kp r _ (ne_of hr4 hd4 (by intro z; cases z)) hr4)) ?_ ?_⟩
      · rintro i x σ H5 H6 hi ⟨v5, v6, rfl, kp, ad, g1, g2, g3⟩ ⟨T1, i', y, rfl, nT, rfl, ei, ey⟩
        obtain rfl : V.int (i : Int) = i' := Option.some.inj ei
        rw [NV_len, Ll] at hi
        have ey : (NV L)[i]? = some y := ey
        rw [NV_get (ap_get (by omega))] at ey
        obtain rfl := Option.some.inj ey
        have sT := same_upd (o := .tup [V.int (i : Int), V.int ((ap L i : Nat) : Int)]) nT
        have rt := root_ap lb hi
        have le := lb.le i hi
        have dT : d ≠ T1 := ne_of_none g1 nT
        have g1T := sT _ _ g1
        have kpT : ∀ b o, b ≠ d → H4 b = some o → upd H5 T1 (.tup [V.int (i : Int), V.int ((ap L i : Nat) : Int)]) b = some o := fun b o nb e => sT _ _ (kp b o nb e)
        have g2T : ∀ s ∈ rtTo L i, upd H5 T1 (.tup [V.int (i : Int), V.int ((ap L i : Nat) : Int)]) (ad s) = some (.lst (NV (grp L i s))) := fun s hs => sT _ _ (g2 s hs).1
        generalize eH6 : upd H5 T1 (.tup [V.int (i : Int), V.int ((ap L i : Nat) : Int)]) = H6 at *
        refine ⟨T1, _, rfl, .inl (.inl (by rw [← eH6, upd_same])), rfl, _, _, rfl, _, _, rfl, rfl, ?_⟩
        refine ⟨_, rfl, d, rfl, .inl ⟨_, .inl g1T⟩, _, rfl, Nat.zero_le _, fun l nl => ?_⟩
        have sl := same_upd (o := .lst []) nl
        have g1L := sl _ _ g1T
        have hl0 : upd H6 l (.lst []) l = some (.lst []) := upd_same
        have dl : d ≠ l := ne_of_none g1T nl
        have kpL : ∀ b o, b ≠ d → H4 b = some o → upd H6 l (.lst []) b = some o := fun b o nb e => sl _ _ (kpT b o nb e)
        have g2L : ∀ s ∈ rtTo L i, upd H6 l (.lst []) (ad s) = some (.lst (NV (grp L i s))) := fun s hs => sl _ _ (g2T s hs)
        have l4 : H4 l = none := by
          cases e : H4 l with
          | none => rfl
          | some o =>
            have := kpT l o dl.symm e
            rw [nl] at this
            cases this
        have adl : ∀ s ∈ rtTo L i, ad s ≠ l := fun s hs => ne_of_none (g2T s hs) nl
        generalize upd H6 l (.lst []) = H7 at *
        have klen : (kvG ad (rtTo L i)).length < sizeLine := by
          unfold kvG
          rw [List.length_map]
          exact Nat.lt_of_le_of_lt (rtTo_len L i) (small1000 (by omega))
        have glen : ∀ s, (NV (grp L i s)).length < sizeLine := fun s => by
          rw [NV_len]
          unfold grp
          exact Nat.lt_of_le_of_lt (List.length_filter_le _ _) (by rw [List.length_range]; exact small1000 (by omega))
        refine ⟨_, .inl ((ap L i : Nat) : Int), g1L, rfl, klen, fun v hv => ?_, fun hv => ?_⟩
        · -- the label is there
          have hin : ap L i ∈ rtTo L i := Classical.byContradiction fun z => by
            rw [kvG_out z] at hv
            cases hv
          rw [kvG_in hin] at hv
          obtain rfl := Option.some.inj hv
          have hne : ap L i ≠ i := fun z => by
            have := (mem_rtTo.mp hin).1
            omega
          have hL := g2L _ hin
          have dad : d ≠ ad (ap L i) := ne_of g1L hL (by intro z; cases z)
          refine ⟨.inl ⟨rfl, _, sl_of hL⟩, _, rfl, _, _, _, rfl, rfl, hL, glen _, ?_⟩
          refine ⟨_, _, rfl, fun b o nb e => ?_, ad, ?_, fun s hs => ?_, ?_⟩
          · by_cases z : b = ad (ap L i)
            · subst z
              rw [(g2 _ hin).2] at e
              cases e
            · rw [upd_ne z]
              exact kpL b o nb e
          · rw [upd_ne dad, rtTo_succ, if_neg hne, List.append_nil]
            exact g1L
          · rw [rtTo_succ, if_neg hne, List.append_nil] at hs
            refine ⟨?_, (g2 s hs).2⟩
            rw [grp_succ]
            by_cases z : s = ap L i
            · subst z
              rw [upd_same, if_pos rfl, NV_snoc]
            · rw [upd_ne fun e => z (g3 s hs _ hin e), if_neg fun e => z e.symm, List.append_nil]
              exact g2L s hs
          · rw [rtTo_succ, if_neg hne, List.append_nil]
            exact g3
        · -- the label is new
          have hout : ap L i ∉ rtTo L i := fun z => by
            rw [kvG_in z] at hv
            cases hv
          have hself : ap L i = i := Classical.byContradiction fun z => hout (mem_rtTo.mpr ⟨by omega, rt.2⟩)
          have hni : i ∉ rtTo L i := fun z => by
            have := (mem_rtTo.mp z).1
            omega
          have hL : upd H7 d (.dK (putK (kvG ad (rtTo L i)) (.inl ((ap L i : Nat) : Int)) (.ref l))) l = some (.lst []) := by
            rw [upd_ne dl.symm]
            exact hl0
          refine ⟨.inl ⟨rfl, _, sl_of hL⟩, _, rfl, _, _, _, rfl, rfl, hL, Nat.lt_of_le_of_lt (Nat.zero_le 1) (by decide), ?_⟩
          refine ⟨_, _, rfl, fun b o nb e => ?_, fun x => if x = i then l else ad x, ?_, fun s hs => ?_, ?_⟩
          · rw [upd_ne (ne_of_none e l4), upd_ne nb]
            exact kpL b o nb e
          · rw [upd_ne dl, upd_same, putK_new _ hv, rtTo_succ, if_pos hself]
            congr 2
            unfold kvG
            rw [List.map_append]
            congr 1
            · refine List.map_congr_left fun s hs => ?_
              have si : s ≠ i := fun z => hni (z ▸ hs)
              show (Sum.inl (s : Int), V.ref (ad s)) = (Sum.inl (s : Int), V.ref (if s = i then l else ad s))
              rw [if_neg si]
            · show [(Sum.inl ((ap L i : Nat) : Int), V.ref l)] = [(Sum.inl (i : Int), V.ref (if i = i then l else ad i))]
              rw [hself, if_pos rfl]
          · rw [rtTo_succ, if_pos hself] at hs
            rw [grp_succ, hself]
            rcases List.mem_append.mp hs with m | m
            · have si : s ≠ i := fun z => hni (z ▸ m)
              dsimp only
              rw [if_neg si, upd_ne (adl s m), upd_ne (ne_of (g2L s m) g1L (by intro z; cases z)), if_neg fun z => si z.symm, List.append_nil]
              exact ⟨g2L s m, (g2 s m).2⟩
            · obtain rfl := List.mem_singleton.mp m
              dsimp only
              rw [if_pos rfl, upd_same, if_pos rfl]
              have ge : grp L s s = [] := by
                unfold grp
                refine List.filter_eq_nil_iff.mpr fun x hx => ?_
                have xl := List.mem_range.mp hx
                have := lb.le x (by omega)
                simp
                omega
              rw [ge]
              exact ⟨rfl, l4⟩
          · rw [rtTo_succ, if_pos hself]
            intro s hs u hu2 e
            rcases List.mem_append.mp hs with m | m <;> rcases List.mem_append.mp hu2 with m2 | m2
            · have si : s ≠ i := fun z => hni (z ▸ m)
              have ui : u ≠ i := fun z => hni (z ▸ m2)
              dsimp only at e
              rw [if_neg si, if_neg ui] at e
              exact g3 s m u m2 e
            · obtain rfl := List.mem_singleton.mp m2
              have si : s ≠ u := fun z => hni (z ▸ m)
              dsimp only at e
              rw [if_neg si, if_pos rfl] at e
              exact absurd e (adl s m)
            · obtain rfl := List.mem_singleton.mp m
              have ui : u ≠ s := fun z => hni (z ▸ m2)
              dsimp only at e
              rw [if_neg ui, if_pos rfl] at e
              exact absurd e.symm (adl u m2)
            · rw [List.mem_singleton.mp m, List.mem_singleton.mp m2]
      · rintro σ H5 ⟨v5, v6, rfl, kp, ad, g1, g2, g3⟩
        rw [NV_len, Ll] at g1 g2 g3
        have s05 : Same H H5 := fun b o e => kp b o (ne_of_none e d0) (s04 _ _ e)
        refine ⟨_, rfl, d, _, NI (rtTo L n), rfl, .inl g1, ?_, ?_, fun ys p hp pw np => ?_⟩
        · unfold kvG NI
          rw [List.map_map, List.map_map]
          rfl
        · rw [NI_len]
          have := rtTo_len L n
          omega
        · have ey : ys = NI (rtTo L n) := sorted_is hp pw (List.Perm.refl _) (List.Pairwise.imp (fun z => Nat.le_of_lt z) (filter_rise n _))
          subst ey
          rw [← NV_NI]
          have s6 := same_upd (o := .lst (NV (rtTo L n))) np
          have g1' := s6 _ _ g1
          have g2' : ∀ r ∈ rtTo L n, upd H5 p (.lst (NV (rtTo L n))) (ad r) = some (.lst (NV (grp L n r))) := fun r hr => s6 _ _ (g2 r hr).1
          have s06 := s05.trans s6
          have hp6 : upd H5 p (.lst (NV (rtTo L n))) p = some (.lst (NV (rtTo L n))) := upd_same
          generalize upd H5 p (.lst (NV (rtTo L n))) = H6 at *
          refine ⟨p, rfl, ⟨_, sl_of hp6⟩, fun D2 nD2 => lc_it (walk_list (xs := NV (rtTo L n))) (fun i H' => Same H6 H' ∧ ∃ ks : List (Addr × List Nat), H' D2 = some (.lst (ks.map fun k => V.ref k.1)) ∧ ks.map (·.2) = ((rtTo L n).take i).map (grp L n) ∧ ∀ k ∈ ks, Tp H' k.1 k.2)
            ⟨same_upd nD2, [], upd_same, rfl, fun k hk => nomatch hk⟩ (fun i H' _ ⟨sm, _⟩ => sl_of (sm _ _ hp6)) ?_ ?_⟩
          · rintro i x _ H7 hi ⟨sm, js, j1, j2, j3⟩ ⟨rfl, hx⟩
            obtain ⟨s, hs, rfl⟩ := NV_get' hx
            have hm := List.mem_of_getElem? hs
            have hL := sm _ _ (g2' s hm)
            refine ⟨rfl, _, rfl, _, rfl, d, _, rfl, by rw [← kvG_in hm]; exact DGet.k (k := Sum.inl (s : Int)) (sm _ _ g1'), ?_⟩
            refine ⟨_, _, rfl, .inl ⟨sl_of hL, fun t nt => ?_⟩⟩
            have st := same_upd (o := .tup (NV (grp L n s))) nt
            refine ⟨_, st _ _ j1, ?_, fun b o e => ?_, js ++ [(t, grp L n s)], ?_, ?_, fun k hk => ?_⟩
            · have : js.length ≤ i := by
                have := congrArg List.length j2
                rw [List.length_map, List.length_map, List.length_take] at this
                omega
              rw [nv_len]
              rw [NV_len] at hi
              have := rtTo_len L n
              exact small1000 (by omega)
            · rw [upd_ne (ne_of_none e nD2)]
              exact st _ _ (sm _ _ e)
            · rw [upd_same, List.map_append]
              rfl
            · rw [List.map_append, j2, List.take_add_one, hs, List.map_append]
              rfl
            · rcases List.mem_append.mp hk with m | m
              · exact tp_upd (st _ _ (j3 k m)) (st _ _ j1)
              · rw [List.mem_singleton.mp m]
                exact tp_upd upd_same (st _ _ j1)
          · rintro H7 ⟨sm, js, j1, j2, j3⟩
            rw [NV_len, List.take_length] at j2
            refine ⟨D2, _, rfl, .inl ⟨sl_of j1, fun t nt => ?_⟩⟩
            have st := same_upd (o := .tup (js.map fun k => V.ref k.1)) nt
            exact q _ t ((s06.trans sm).trans st) ((s06.trans sm).free nt) ⟨js, upd_same, j2, fun k hk => st _ _ (j3 k hk)⟩
end
end Hw

namespace Hw
open PySem PySem.Spec PyProof.Rows L2 ClX
abbrev sInit : Stmt := inClass sNetwork 2
abbrev sGetB : Stmt := inClass sNetwork 8
abbrev sGetC : Stmt := inClass sNetwork 9
/-- all but the object is as it was -/
def Kx (x : Addr) (H H' : Hp) : Prop := ∀ b o, b ≠ x → H b = some o → H' b = some o
theorem Kx.of {x : Addr} {H H' : Hp} (s : Same H H') : Kx x H H' := fun b o _ e => s b o e
theorem Kx.trans {x : Addr} {H H1 H2 : Hp} (a : Kx x H H1) (b : Kx x H1 H2) : Kx x H H2 := fun c o n e => b c o n (a c o n e)
theorem Kx.upd (x : Addr) (H : Hp) (o : HO) : Kx x H (upd H x o) := fun b _ n e => by rw [upd_ne n]; exact e
theorem Kx.tup {x : Addr} {H H' : Hp} {C dx : Addr} {fs : List (Str × V)} (k : Kx x H H') (hx : H x = some (.ins C dx fs)) {b : Addr} {xs : List V} (h : H b = some (.tup xs)) : H' b = some (.tup xs) := k b _ (ne_of h hx (by intro z; cases z)) h
theorem EdT.kx {x : Addr} {H H' : Hp} {C dx : Addr} {fs : List (Str × V)} {l : Addr} {es : List Ed} (h : EdT H l es) (k : Kx x H H') (hx : H x = some (.ins C dx fs)) : EdT H' l es := by
  obtain ⟨ks, a, b, c⟩ := h
  exact ⟨ks, k.tup hx a, b, fun y hy => k.tup hx (c y hy)⟩
theorem CsAt.kx {x : Addr} {H H' : Hp} {C dx : Addr} {fs : List (Str × V)} {l : Addr} {cs : List (List Nat)} (h : CsAt H l cs) (k : Kx x H H') (hx : H x = some (.ins C dx fs)) : CsAt H' l cs := by
  obtain ⟨ks, a, b, c⟩ := h
  exact ⟨ks, k.tup hx a, b, fun y hy => k.tup hx (c y hy)⟩
/-- a network stands at x -/
def NetAt (C : Addr) (H : Hp) (x : Addr) (n : Nat) (es : List Ed) : Prop := ∃ (dx : Addr) (fs : List (Str × V)) (b c : Addr), H x = some (.ins C dx fs) ∧ fs.lookup ("_bridges" : Str) = some (.ref b) ∧ fs.lookup ("_cells" : Str) = some (.ref c) ∧ Tp H b (brg n es) ∧ CsAt H c (cel n es)
theorem NetAt.same {C : Addr} {H H' : Hp} {x : Addr} {n : Nat} {es : List Ed} (h : NetAt C H x n es) (s : Same H H') : NetAt C H' x n es := by
  obtain ⟨dx, fs, b, c, h1, h2, h3, h4, h5⟩ := h
  exact ⟨dx, fs, b, c, s _ _ h1, h2, h3, s _ _ h4, h5.same s⟩
theorem len_putF (f : Str) (v : V) : ∀ fs : List (Str × V), (putF f v fs).length ≤ fs.length + 1
  | [] => Nat.le_refl _
  | (g, x) :: r => by
    show (if g = f then (g, v) :: r else (g, x) :: putF f v r).length ≤ r.length + 1 + 1
    split
    · exact Nat.le_succ _
    · have := len_putF f v r
      rw [List.length_cons]
      omega
section
variable {P : Program} {w : World} {K : PySem.W.Frag} {mg : Str → Option Value} {base : Heap}
/-! ### _find_exits -/
def spExits : Sp := fun vs H Q _ => ∃ (a : Addr) (n : Nat) (es : List Ed), vs = [.int (n : Int), .ref a] ∧ EdT H a es ∧ n ≤ 12 ∧ es.length ≤ 16 ∧ ∀ H' r, Same H H' → Q (.ref r) H'
abbrev nEx : List Str := ["places", "passages", "exits", "place", "passage", "ends"]
theorem scExits : FnScope nEx ["places", "passages"] (defScope sExits) := ⟨rfl, rfl, rfl, by decide +kernel, rfl, by decide +kernel, by decide +kernel⟩
theorem cal_exits (T : Txt mg) (D : Df K mg "_find_exits" sExits ["places", "passages"]) : Cal P w K mg base "_find_exits" 1 spExits := by
  have nd := scExits.nd
  refine cal_of D scExits (fun vs H Q E h => ?_) (fun f cdv A outer s0 H vs Q E hr h => ?_)
  · obtain ⟨a, n, es, rfl, _⟩ := h
    rfl
  · obtain ⟨a, n, es, rfl, he, hn, hl, q⟩ := h
    refine ⟨_, pss_cons (ps_set (i := 2) nd rfl (.inl rfl) (pe_lst pa_nil))
      <| pss_cons (ps_for PassesOwn.never rfl (pi_range1 (by rfl) T.range (pa_cons (pv 0) pa_nil)) (pg_name (i := 3) nd rfl (.inr rfl))
          (pss_one (ps_expr (pe_bm PySem.F.plainAttrs_list PySem.F.slot_list_append PySem.F.type_list_append mt_append (pv 2) (pa_cons (pe_callTy call_tuple_of (by rfl) T.tuple (by decide +kernel) (pa_cons
              (pe_lc (own := [("passage", 4), ("ends", 5)]) (g := gTup K 2 (gCons (gName 4) (gCons (gName 5) gNil))) (by rfl) nd (pi_enumT (by rfl) T.enumerate (pa_cons (pv 1) pa_nil))
                (blkOk_by (own := [("passage", 4), ("ends", 5)]) (N := nEx) (sc := defScope sExits) (by decide +kernel)) (fun _ _ _ _ _ => pg_tup rfl (pgs_cons (pg_name (i := 4) nd rfl (.inl rfl)) (pgs_cons (pg_name (i := 5) nd rfl (.inl rfl)) pgs_nil)))
                (fun _ _ _ _ _ => pts_one (pt_cmpR (r := rIn K false) op_in_seq (pv 3) (pv 5) (by rfl))) (fun _ _ _ _ _ => pv 4)) pa_nil)) pa_nil)))))
      <| pss_one (ps_ret (pe_callTy call_tuple_of (by rfl) T.tuple (by decide +kernel) (pa_cons (pv 2) pa_nil))), ?_⟩
    obtain ⟨ks, k1, k2, k3⟩ := id he
    have kl := ed_len k2
    refine ⟨Nat.zero_le _, fun l nl => ?_⟩
    refine ⟨_, rfl, _, rfl, by omega, by omega, ?_⟩
    rw [Int.toNat_natCast]
    refine for_it walk_rg0 (fun i σ H' => ∃ v3 v4 v5 xs, σ = [some (.int (n : Int)), some (.ref a), some (.ref l), v3, v4, v5] ∧ Same H H' ∧ H' l = some (.lst xs) ∧ xs.length ≤ i) ⟨_, _, _, _, rfl, same_upd nl, upd_same, Nat.le_refl _⟩ (fun _ _ _ _ _ => trivial) ?_ ?_
    · rintro i x σ _ H2 hi ⟨v3, v4, v5, xs, rfl, sm, hL, xl⟩ ⟨rfl, rfl⟩
      refine ⟨_, rfl, .inl ⟨rfl, _, sl_of hL⟩, _, rfl, a, _, rfl, sq_of (sm _ _ k1) |> fun z => z, fun D nD => lc_it (walk_enumT (xs := ks.map fun k => V.ref k.1)) (fun j H' => Same H2 H' ∧ ∃ acc, H' D = some (.lst acc) ∧ acc.length ≤ j) ⟨same_upd nD, [], upd_same, Nat.le_refl _⟩ (fun j H' _ ⟨s, _⟩ => sq_of (s _ _ (sm _ _ k1))) ?_ ?_⟩
      · rintro j y H3 H4 hj ⟨s3, acc, hD, al⟩ ⟨T1, i', y', rfl, nT, rfl, ei, ey⟩
        obtain rfl : V.int (j : Int) = i' := Option.some.inj ei
        obtain ⟨k, hk, rfl⟩ := refs_get ey
        obtain ⟨e, hei, ek⟩ := ed_get k2 hk
        rw [nv_len, kl] at hj
        have sT := same_upd (o := .tup [V.int (j : Int), V.ref k.1]) nT
        have tk := sT _ _ (s3 _ _ (sm _ _ (k3 k (List.mem_of_getElem? hk))))
        refine ⟨T1, _, rfl, .inl (.inl upd_same), rfl, _, _, rfl, _, _, rfl, rfl, rfl, ?_⟩
        refine ⟨_, rfl, _, rfl, k.1, _, rfl, .inr (sq_of tk), rfl, flat_NV _, _, rfl, ite2 (fun _ => ?_) (fun _ => ?_)⟩
        · refine ⟨_, rfl, _, sT _ _ hD, small1000 (by omega), fun b o eb => ?_, _, upd_same, by rw [List.length_append]; show acc.length + 1 ≤ _; omega⟩
          rw [upd_ne (ne_of_none eb nD)]
          exact sT _ _ (s3 _ _ eb)
        · exact ⟨s3.trans sT, acc, sT _ _ hD, by omega⟩
      · rintro H3 ⟨s3, acc, hD, al⟩
        refine ⟨D, acc, rfl, .inl ⟨sl_of hD, fun t nt => ?_⟩⟩
        have st := same_upd (o := .tup acc) nt
        refine ⟨l, _, _, rfl, rfl, st _ _ (s3 _ _ hL), small1000 (by omega), ?_⟩
        refine ⟨_, _, _, _, rfl, fun b o e => ?_, upd_same, by rw [List.length_append]; show xs.length + 1 ≤ _; omega⟩
        rw [upd_ne (ne_of_none e nl)]
        exact st _ _ (s3 _ _ (sm _ _ e))
    · rintro σ H2 ⟨v3, v4, v5, xs, rfl, sm, hL, xl⟩
      exact ⟨_, rfl, l, _, rfl, .inl ⟨sl_of hL, fun t nt => q _ t (sm.trans (same_upd nt))⟩⟩
end
end Hw

namespace Hw
open PySem PySem.Spec PyProof.Rows L2 ClX
section
variable {P : Program} {w : World} {K : PySem.W.Frag} {mg : Str → Option Value} {base : Heap}
/-! ### __init__ -/
def spInit (C : Addr) : Sp := fun vs H Q _ => ∃ (x dx a : Addr) (n : Nat) (es : List Ed), vs = [.ref x, .int (n : Int), .ref a] ∧ H x = some (.ins C dx []) ∧ EdT H a es ∧ CN n es ∧ n ≤ 12 ∧ es.length ≤ 16 ∧
  ∀ H', Kx x H H' → NetAt C H' x n es → Q .non H'
abbrev nInit : List Str := ["self", "places", "passages", "fault", "part", "index"]
theorem scInit : FnScope nInit ["self", "places", "passages"] (defScope sInit) := ⟨rfl, rfl, rfl, by decide +kernel, rfl, by decide +kernel, by decide +kernel⟩
structure NetF (P : Program) (w : World) (K : PySem.W.Frag) (mg : Str → Option Value) (base : Heap) : Prop where
  fault : Cal P w K mg base "_fault" 5 spFault
  bridges : Cal P w K mg base "_find_bridges" 3 spBridges
  cells : Cal P w K mg base "_find_cells" 2 spCells
  exits : Cal P w K mg base "_find_exits" 1 spExits
theorem ne_bc : ¬ (("_bridges" : Str) = "_cells") := by decide +kernel
theorem ne_be : ¬ (("_bridges" : Str) = "_exits") := by decide +kernel
theorem ne_ce : ¬ (("_cells" : Str) = "_exits") := by decide +kernel
theorem ok_init {C : Addr} {mc : Value} {f : Addr} {fd : FuncData} (T : Txt mg) (N : NetC K mg C mc) (G : NetF P w K mg base) (F : Fun K "__init__" "Network.__init__" sInit f fd) : FnOk P w K mg base CX0 6 f fd ["self", "places", "passages"] (spInit C) := by
  have nd := scInit.nd
  refine F.ok scInit (fun vs H Q E h => ?_) (fun cdv A outer s0 H vs Q E hr h => ?_)
  · obtain ⟨x, dx, a, n, es, rfl, _⟩ := h
    rfl
  · obtain ⟨x, dx, a, n, es, rfl, hx, he, cn, hn, hl, q⟩ := h
    have hr3 := hr.mono (show 3 ≤ 5 by decide)
    have hr2 := hr.mono (show 2 ≤ 5 by decide)
    have hr1 := hr.mono (show 1 ≤ 5 by decide)
    refine ⟨_, pss_cons (ps_set (i := 3) nd rfl (.inl rfl) (pe_cl G.fault hr (by rfl) (pa_cons (pv 1) (pa_cons (pv 2) pa_nil))))
      <| pss_cons (ps_if (pt_cmpR op_notN (pv 3) pe_non (nomark _)) pss_never pss_nil)
      <| pss_cons (ps_fld (pv 0) (pv 1) rfl)
      <| pss_cons (ps_fld (pv 0) (pv 2) rfl)
      <| pss_cons (ps_fld (pv 0) (pe_tup (pa_cons pe_int (pa_cons (pe_tupRg (by rfl) (by rfl) T.tuple (prg_1 (by rfl) T.range (pe_op op_add (pe_callB cr_len (by rfl) T.len PySem.boot_len (pa_cons (pv 2) pa_nil)) pe_int))) pa_nil))) rfl)
      <| pss_cons (ps_fld (pv 0) (pe_cl G.bridges hr3 (by rfl) (pa_cons (pv 1) (pa_cons (pv 2) pa_nil))) rfl)
      <| pss_cons (ps_fld (pv 0) (pe_cl G.cells hr2 (by rfl) (pa_cons (pv 1) (pa_cons (pv 2) (pa_cons (pe_fld (pv 0) rfl) pa_nil)))) rfl)
      <| pss_one (ps_fld (pv 0) (pe_cl G.exits hr1 (by rfl) (pa_cons (pv 1) (pa_cons (pv 2) pa_nil))) rfl), ?_⟩
    refine ⟨_, rfl, _, rfl, a, n, es, rfl, he, cn, hn, hl, fun H1 s1 => ?_⟩
    have hx1 := s1 _ _ hx
    have he1 := he.same s1
    refine ⟨_, rfl, rfl, _, rfl, iteF ?_⟩
    -- _places, _passages
    refine ⟨_, rfl, _, rfl, x, C, dx, _, rfl, hx1, N.cl, N.n1, by decide, ?_⟩
    have k2 := Kx.upd x H1 (.ins C dx (putF "_places" (.int (n : Int)) []))
    have l2 := len_putF "_places" (.int (n : Int)) []
    have hx2 : upd H1 x (.ins C dx (putF "_places" (.int (n : Int)) [])) x = some (.ins C dx (putF "_places" (.int (n : Int)) [])) := upd_same
    generalize putF "_places" (.int (n : Int)) [] = f2 at *
    generalize upd H1 x (.ins C dx f2) = H2 at *
    refine ⟨_, rfl, _, rfl, x, C, dx, _, rfl, hx2, N.cl, N.n2, by simp at l2; omega, ?_⟩
    have k3 := Kx.upd x H2 (.ins C dx (putF "_passages" (.ref a) f2))
    have l3 := len_putF "_passages" (.ref a) f2
    have hx3 : upd H2 x (.ins C dx (putF "_passages" (.ref a) f2)) x = some (.ins C dx (putF "_passages" (.ref a) f2)) := upd_same
    generalize putF "_passages" (.ref a) f2 = f3 at *
    generalize upd H2 x (.ins C dx f3) = H3 at *
    have he3 := (he1.kx k2 hx1).kx k3 hx2
    have kx3 := ((Kx.of s1).trans k2).trans k3
    obtain ⟨ks, k31, k32, k33⟩ := id he3
    -- _start
    refine ⟨_, rfl, a, _, rfl, .inr (sq_of k31), _, _, rfl, rfl, ?_⟩
    rw [nv_len, ed_len k32]
    refine ⟨_, rfl, RgOk.of_le (by omega) (by omega) (by omega) (by omega), fun t nt => ⟨by show 2 ≤ sizeLine; decide, fun t2 nt2 => ?_⟩⟩
    have s4 := (same_upd nt).trans (same_upd (o := .tup [V.int 0, .ref t]) nt2)
    generalize upd (upd H3 t _) t2 (.tup [V.int 0, .ref t]) = H4 at *
    have hx4 := s4 _ _ hx3
    refine ⟨_, rfl, x, C, dx, _, rfl, hx4, N.cl, N.n3, by simp at l2; omega, ?_⟩
    have k5 := Kx.upd x H4 (.ins C dx (putF "_start" (.ref t2) f3))
    have l5 := len_putF "_start" (.ref t2) f3
    have hx5 : upd H4 x (.ins C dx (putF "_start" (.ref t2) f3)) x = some (.ins C dx (putF "_start" (.ref t2) f3)) := upd_same
    generalize putF "_start" (.ref t2) f3 = f5 at *
    generalize upd H4 x (.ins C dx f5) = H5 at *
    have he5 := (he3.same s4).kx k5 hx4
    have kx5 := (kx3.trans (Kx.of s4)).trans k5
    -- _bridges
    refine ⟨_, rfl, _, rfl, a, n, es, rfl, he5, cn.2.1, cn.1, hn, hl, fun H6 b s6 nb hb => ?_⟩
    have hx6 := s6 _ _ hx5
    refine ⟨_, rfl, x, C, dx, _, rfl, hx6, N.cl, N.n4, by simp at l2; omega, ?_⟩
    have k7 := Kx.upd x H6 (.ins C dx (putF "_bridges" (.ref b) f5))
    have l7 := len_putF "_bridges" (.ref b) f5
    have g7 := lookup_putF "_bridges" "_bridges" (.ref b) f5
    rw [if_pos rfl] at g7
    have hx7 : upd H6 x (.ins C dx (putF "_bridges" (.ref b) f5)) x = some (.ins C dx (putF "_bridges" (.ref b) f5)) := upd_same
    generalize putF "_bridges" (.ref b) f5 = f7 at *
    generalize upd H6 x (.ins C dx f7) = H7 at *
    have he7 := (he5.same s6).kx k7 hx6
    have hb7 : Tp H7 b (brg n es) := k7.tup hx6 hb
    have kx7 := (kx5.trans (Kx.of s6)).trans k7
    -- _cells
    refine ⟨_, rfl, _, rfl, _, rfl, x, C, dx, f7, _, rfl, hx7, N.cl, N.n4, g7, a, b, n, es, rfl, he7, hb7, cn.2.1, cn.1, hn, hl, fun H8 c s8 nc hc => ?_⟩
    have hx8 := s8 _ _ hx7
    refine ⟨_, rfl, x, C, dx, _, rfl, hx8, N.cl, N.n5, by simp at l2; omega, ?_⟩
    have k9 := Kx.upd x H8 (.ins C dx (putF "_cells" (.ref c) f7))
    have l9 := len_putF "_cells" (.ref c) f7
    have g9 := lookup_putF "_cells" "_cells" (.ref c) f7
    rw [if_pos rfl] at g9
    have g9b := lookup_putF "_cells" "_bridges" (.ref c) f7
    rw [if_neg ne_bc, g7] at g9b
    have hx9 : upd H8 x (.ins C dx (putF "_cells" (.ref c) f7)) x = some (.ins C dx (putF "_cells" (.ref c) f7)) := upd_same
    generalize putF "_cells" (.ref c) f7 = f9 at *
    generalize upd H8 x (.ins C dx f9) = H9 at *
    have he9 := (he7.same s8).kx k9 hx8
    have hb9 : Tp H9 b (brg n es) := k9.tup hx8 (s8 _ _ hb7)
    have hc9 := hc.kx k9 hx8
    have kx9 := (kx7.trans (Kx.of s8)).trans k9
    -- _exits
    refine ⟨_, rfl, _, rfl, a, n, es, rfl, he9, hn, hl, fun HA e sA => ?_⟩
    have hxA := sA _ _ hx9
    refine ⟨_, rfl, x, C, dx, _, rfl, hxA, N.cl, N.n6, by simp at l2; omega, ?_⟩
    have kB := Kx.upd x HA (.ins C dx (putF "_exits" (.ref e) f9))
    refine q _ ((kx9.trans (Kx.of sA)).trans kB) ⟨dx, putF "_exits" (.ref e) f9, b, c, upd_same, ?_, ?_, kB.tup hxA (sA _ _ hb9), (hc9.same sA).kx kB hxA⟩
    · rw [lookup_putF, if_neg ne_be, g9b]
    · rw [lookup_putF, if_neg ne_ce, g9]
/-! ### a network is made, and asked -/
structure NetOk (P : Program) (w : World) (K : PySem.W.Frag) (mg : Str → Option Value) (base : Heap) (C : Addr) : Prop where
  cl : Cls K C
  gC : mg "Network" = some (.ref C)
  made : ∃ (f : Addr) (fd : FuncData), Mk K C f ∧ FnOk P w K mg base CX0 6 f fd ["self", "places", "passages"] (spInit C) ∧ Binds K fd ["self", "places", "passages"] []
  br : ∃ (p g : Addr) (fd : FuncData), PropOf K C "bridges" p g ∧ FnOk P w K mg base CX0 1 g fd ["self"] (getSp C "_bridges") ∧ Binds K fd ["self"] []
  ce : ∃ (p g : Addr) (fd : FuncData), PropOf K C "cells" p g ∧ FnOk P w K mg base CX0 1 g fd ["self"] (getSp C "_cells") ∧ Binds K fd ["self"] []
def tNet (C : Addr) (t : TA) : TE := fun σ H Q => t σ H fun vs H1 => ∃ (a : Addr) (n : Nat) (es : List Ed), vs = [.int (n : Int), .ref a] ∧ EdT H1 a es ∧ CN n es ∧ n ≤ 12 ∧ es.length ≤ 16 ∧ ∀ H' x, Same H1 H' → H1 x = none → NetAt C H' x n es → Q (.ref x) H'
def tBrg (C : Addr) (ta : TE) : TE := fun σ H Q => ta σ H fun v H1 => ∃ (x : Addr) (n : Nat) (es : List Ed), v = .ref x ∧ NetAt C H1 x n es ∧ ∀ b, Tp H1 b (brg n es) → Q (.ref b) H1
def tCel (C : Addr) (ta : TE) : TE := fun σ H Q => ta σ H fun v H1 => ∃ (x : Addr) (n : Nat) (es : List Ed), v = .ref x ∧ NetAt C H1 x n es ∧ ∀ b, CsAt H1 b (cel n es) → Q (.ref b) H1
end
section
variable {X : Cx} {C : Addr} {e : Expr} {es : List Expr} {p pos : Pos} {t : TA} {ta : TE}
theorem pe_net (N : NetOk X.prog X.w X.K X.mg X.base C) (hr : Room 7 X.A) (hg : Gl X "Network") (ha : PA X (e :: es) t) (he : starEach (e :: es) X.env = (false, eval e X.env) :: starEach es X.env := by rfl)
    (hpl : (backTo pos (starEach es X.env)).any (·.1) = false := by rfl) : PE X (.Call (.Name "Network" p) (e :: es) [] pos) (tNet C t) := by
  obtain ⟨f, fd, M, F, b⟩ := N.made
  refine ⟨fun pins s σ H Q I h => ?_⟩
  refine wpAny_Call_Name_kw (ld_glob I hg N.gC ?_ (by decide))
  refine PySem.W.callWith_K (h₀ := X.base) I.ok.mod.kin M.kp (thn (ha.run pos pins s σ H _ I h) fun us s1 ⟨vs, H1, I1, r, q⟩ => ⟨I1.kIn, ?_⟩) he hpl
  obtain ⟨a, n, es, rfl, ed, cn, hn, hl, q⟩ := q
  refine run_make M F hr b .nil pass0 I1 r fun x dx nx ndx nex => ?_
  have s0 : Same H1 (upd (upd H1 dx (.own x)) x (.ins C dx [])) := fun b o e => by
    rw [upd_ne (ne_of_none e nx), upd_ne (ne_of_none e ndx)]
    exact e
  exact ⟨x, dx, a, n, es, rfl, upd_same, ed.same s0, cn, hn, hl, fun H' kx net => ⟨rfl, q H' x (fun b o e => kx b o (ne_of_none e nx) (s0 b o e)) nx net⟩⟩
theorem pe_brg (N : NetOk X.prog X.w X.K X.mg X.base C) (hr : Room 2 X.A) (he : PE X e ta) (hab : attributeBase e "bridges" X.env (eval e X.env) = eval e X.env := by rfl) : PE X (.Attribute e "bridges" pos) (tBrg C ta) := by
  obtain ⟨p, g, fd, hp, F, b⟩ := N.br
  refine ⟨fun pins s σ H Q I h => attr_of hab (thn (he.run pins s σ H _ I h) fun u s1 ⟨v, H1, I1, rx, x, n, es, ex, ⟨dx, fs, br, ce, h1, h2, h3, h4, h5⟩, q⟩ => ?_)⟩
  subst ex
  obtain rfl : u = Value.ref x := rx
  exact getprop_ok (CX := CX0) (E := E0) (dvs := []) I1 h1 N.cl hp F hr b .nil pass0 ⟨x, dx, fs, _, rfl, h1, h2, q br h4⟩
theorem pe_cel (N : NetOk X.prog X.w X.K X.mg X.base C) (hr : Room 2 X.A) (he : PE X e ta) (hab : attributeBase e "cells" X.env (eval e X.env) = eval e X.env := by rfl) : PE X (.Attribute e "cells" pos) (tCel C ta) := by
  obtain ⟨p, g, fd, hp, F, b⟩ := N.ce
  refine ⟨fun pins s σ H Q I h => attr_of hab (thn (he.run pins s σ H _ I h) fun u s1 ⟨v, H1, I1, rx, x, n, es, ex, ⟨dx, fs, br, ce, h1, h2, h3, h4, h5⟩, q⟩ => ?_)⟩
  subst ex
  obtain rfl : u = Value.ref x := rx
  exact getprop_ok (CX := CX0) (E := E0) (dvs := []) I1 h1 N.cl hp F hr b .nil pass0 ⟨x, dx, fs, _, rfl, h1, h3, q ce h5⟩
end
end Hw

namespace Hw
open PySem PySem.Spec PyProof.Rows L2 ClX
def drsTo (es : List Ed) (u j : Nat) : List Nat := (List.range j).filter fun i => decide (u ∈ pl (es.getD i (0, 0)))
def drs (es : List Ed) (u : Nat) : List Nat := drsTo es u es.length
theorem drsTo_succ (es : List Ed) (u j : Nat) : drsTo es u (j + 1) = drsTo es u j ++ (if decide (u ∈ pl (es.getD j (0, 0))) = true then [j] else []) := by
  unfold drsTo
  rw [List.range_succ, List.filter_append]
  congr 1
  rw [List.filter_cons, List.filter_nil]
theorem drsTo_len (es : List Ed) (u j : Nat) : (drsTo es u j).length ≤ j := by
  unfold drsTo
  exact Nat.le_trans (List.length_filter_le _ _) (by rw [List.length_range]; exact Nat.le_refl _)
theorem getD_of {es : List Ed} {i : Nat} {e : Ed} (h : es[i]? = some e) : es.getD i (0, 0) = e := by
  rw [List.getD_eq_getElem?_getD, h]
  rfl
section
variable {P : Program} {w : World} {K : PySem.W.Frag} {mg : Str → Option Value} {base : Heap}
/-! ### doors -/
def spDoors : Sp := fun vs H Q _ => ∃ (a : Addr) (es : List Ed) (u : Nat), vs = [.ref a, .int (u : Int)] ∧ EdT H a es ∧ es.length ≤ 100 ∧ ∀ H' r, Same H H' → H r = none → H' r = some (.lst (NV (drs es u))) → Q (.ref r) H'
abbrev nDo : List Str := ["_law_ties_here", "_law_here", "_law_at", "_law_pair"]
theorem scDoors : FnScope nDo ["_law_ties_here", "_law_here"] (defScope sDoors) := ⟨rfl, rfl, rfl, by decide +kernel, rfl, by decide +kernel, by decide +kernel⟩
theorem cal_doors (T : Txt mg) (D : Df K mg "_law_doors" sDoors ["_law_ties_here", "_law_here"]) : Cal P w K mg base "_law_doors" 1 spDoors := by
  have nd := scDoors.nd
  refine cal_of D scDoors (fun vs H Q E h => ?_) (fun f cdv A outer s0 H vs Q E hr h => ?_)
  · obtain ⟨a, es, u, rfl, _⟩ := h
    rfl
  · obtain ⟨a, es, u, rfl, he, hl, q⟩ := h
    refine ⟨_, pss_one (ps_ret (pe_lc (own := [("_law_at", 2), ("_law_pair", 3)]) (g := gTup K 2 (gCons (gName 2) (gCons (gName 3) gNil))) (by rfl) nd (pi_enumT (by rfl) T.enumerate (pa_cons (pv 0) pa_nil))
          (blkOk_by (own := [("_law_at", 2), ("_law_pair", 3)]) (N := nDo) (sc := defScope sDoors) (by decide +kernel)) (fun _ _ _ _ _ => pg_tup rfl (pgs_cons (pg_name (i := 2) nd rfl (.inl rfl)) (pgs_cons (pg_name (i := 3) nd rfl (.inl rfl)) pgs_nil)))
          (fun _ _ _ _ _ => pts_one (pt_cmpR (r := rIn K false) op_in_seq (pv 1) (pv 3) (by rfl))) (fun _ _ _ _ _ => pv 2))), ?_⟩
    obtain ⟨ks, k1, k2, k3⟩ := id he
    have kl := ed_len k2
    refine ⟨_, rfl, a, _, rfl, sq_of k1, fun D nD => lc_it (walk_enumT (xs := ks.map fun k => V.ref k.1)) (fun i H' => Same H H' ∧ H' D = some (.lst (NV (drsTo es u i)))) ⟨same_upd nD, upd_same⟩ (fun i H' _ ⟨sm, _⟩ => sq_of (sm _ _ k1)) ?_ ?_⟩
    · rintro i x H2 H3 hi ⟨sm, hD⟩ ⟨T1, i', y, rfl, nT, rfl, ei, ey⟩
      obtain rfl : V.int (i : Int) = i' := Option.some.inj ei
      obtain ⟨k, hk, rfl⟩ := refs_get ey
      obtain ⟨e, hei, ek⟩ := ed_get k2 hk
      rw [nv_len, kl] at hi
      have sT := same_upd (o := .tup [V.int (i : Int), V.ref k.1]) nT
      have tk := sT _ _ (sm _ _ (k3 k (List.mem_of_getElem? hk)))
      rw [ek] at tk
      refine ⟨T1, _, rfl, .inl (.inl upd_same), rfl, _, _, rfl, _, _, rfl, rfl, rfl, ?_⟩
      refine ⟨_, rfl, _, rfl, k.1, _, rfl, .inr (sq_of tk), rfl, flat_NV _, _, rfl, ?_⟩
      rw [inV_NV, drsTo_succ, getD_of hei]
      refine ite2 (fun z => ?_) (fun z => ?_)
      · have z' : decide (u ∈ pl e) = true := z
        rw [z']
        refine ⟨_, rfl, _, sT _ _ hD, ?_, fun b o eb => ?_, ?_⟩
        · rw [NV_len]
          exact Nat.lt_of_le_of_lt (drsTo_len _ _ _) (small1000 (by omega))
        · rw [upd_ne (ne_of_none eb nD)]
          exact sT _ _ (sm _ _ eb)
        · rw [if_pos rfl, upd_same, NV_snoc]
      · have z' : ¬ decide (u ∈ pl e) = true := z
        rw [if_neg z', List.append_nil]
        exact ⟨sm.trans sT, sT _ _ hD⟩
    · rintro H2 ⟨sm, hD⟩
      rw [nv_len, kl] at hD
      exact q H2 D sm nD hD
/-! ### is_linked -/
def spLinked : Sp := fun vs H Q _ => ∃ (a : Addr) (n : Nat) (es : List Ed) (wo : Nat), vs = [.int (n : Int), .ref a, .int (wo : Int)] ∧ EdT H a es ∧ VE n es ∧ 1 ≤ n ∧ n ≤ 100 ∧ es.length ≤ 100 ∧ ∀ H', Same H H' → Q (.bl (cB n (es.eraseIdx wo))) H'
abbrev nLi : List Str := ["_law_many", "_law_ties_here", "_law_without", "_law_found", "_law_n", "_law_at", "_law_pair"]
theorem scLinked : FnScope nLi ["_law_many", "_law_ties_here", "_law_without"] (defScope sLinked) := ⟨rfl, rfl, rfl, by decide +kernel, rfl, by decide +kernel, by decide +kernel⟩
theorem cal_linked (T : Txt mg) (D : Df K mg "_law_is_linked" sLinked ["_law_many", "_law_ties_here", "_law_without"]) : Cal P w K mg base "_law_is_linked" 1 spLinked := by
  have nd := scLinked.nd
  refine cal_of D scLinked (fun vs H Q E h => ?_) (fun f cdv A outer s0 H vs Q E hr h => ?_)
  · obtain ⟨a, n, es, wo, rfl, _⟩ := h
    rfl
  · obtain ⟨a, n, es, wo, rfl, he, ve, n1, hn, hl, q⟩ := h
    refine ⟨_, pss_cons (ps_set (i := 3) nd rfl (.inl rfl) (pe_lst (pa_cons pe_int pa_nil)))
      <| pss_cons (ps_for PassesOwn.never rfl (pi_range1 (by rfl) T.range (pa_cons (pv 0) pa_nil)) (pg_name (i := 4) nd rfl (.inl rfl))
          (pss_one (ps_for PassesOwn.never rfl (pi_enumT (by rfl) T.enumerate (pa_cons (pv 1) pa_nil)) (pg_tup rfl (pgs_cons (pg_name (i := 5) nd rfl (.inl rfl)) (pgs_cons (pg_name (i := 6) nd rfl (.inl rfl)) pgs_nil)))
            (pss_one (ps_if (PW.pt (pw_and (pt_cmpR op_ne (pv 5) (pv 2) (nomark _)) (pw_and1 (pt_cmpR op_ne (pe_cmpR (r := rIn K false) op_in_seq (pe_ix (r := rIxT K) ix_tup (pv 6) pe_int (fun _ _ => rfl)) (pv 3) (by rfl)) (pe_cmpR (r := rIn K false) op_in_seq (pe_ix (r := rIxT K) ix_tup (pv 6) pe_int (fun _ _ => rfl)) (pv 3) (by rfl)) (nomark _)))))
              (pss_one (ps_expr (pe_bm PySem.F.plainAttrs_list PySem.F.slot_list_append PySem.F.type_list_append mt_append (pv 3) (pa_cons (pe_ifExp (pt_cmpR (r := rIn K false) op_in_seq (pe_ix (r := rIxT K) ix_tup (pv 6) pe_int (fun _ _ => rfl)) (pv 3) (by rfl))
                (pe_ix (r := rIxT K) ix_tup (pv 6) pe_int (fun _ _ => rfl)) (pe_ix (r := rIxT K) ix_tup (pv 6) pe_int (fun _ _ => rfl))) pa_nil)))) pss_nil)))))
      <| pss_one (ps_ret (pe_cmpR op_eq (pe_callB cr_len (by rfl) T.len PySem.boot_len (pa_cons (pv 3) pa_nil)) (pv 0) (nomark _))), ?_⟩
    obtain ⟨ks, k1, k2, k3⟩ := id he
    have kl := ed_len k2
    refine ⟨by show 1 ≤ sizeLine; decide, fun D nD => ?_⟩
    have sD := same_upd (o := .lst [V.int 0]) nD
    refine ⟨_, rfl, _, rfl, by omega, by omega, ?_⟩
    rw [Int.toNat_natCast]
    refine for_it walk_rg0 (fun i σ H' => ∃ v4 v5 v6, σ = [some (.int (n : Int)), some (.ref a), some (.int (wo : Int)), some (.ref D), v4, v5, v6] ∧ Same H H' ∧ H' D = some (.lst (NV (gN (fun j => decide (j ≠ wo)) es 0 i)))) ⟨_, _, _, rfl, sD, upd_same⟩ (fun _ _ _ _ _ => trivial) ?_ ?_
    · rintro i x σ _ H2 hi ⟨v4, v5, v6, rfl, sm, hD⟩ ⟨rfl, rfl⟩
      refine ⟨_, rfl, a, _, rfl, sq_of (sm _ _ k1), for_it (walk_enumT (xs := ks.map fun k => V.ref k.1)) (fun j σ H' => ∃ v5 v6, σ = [some (.int (n : Int)), some (.ref a), some (.int (wo : Int)), some (.ref D), some (.int (i : Int)), v5, v6] ∧ Same H H' ∧ H' D = some (.lst (NV (gTo (fun j => decide (j ≠ wo)) es (gN (fun j => decide (j ≠ wo)) es 0 i) j)))) ⟨_, _, rfl, sm, hD⟩ (fun j σ H' _ ⟨_, _, _, sm, _⟩ => sq_of (sm _ _ k1)) ?_ ?_⟩
      · rintro j y σ H3 H4 hj ⟨v5, v6, rfl, sm, hD⟩ ⟨T1, i', y', rfl, nT, rfl, ei, ey⟩
        obtain rfl : V.int (j : Int) = i' := Option.some.inj ei
        obtain ⟨k, hk, rfl⟩ := refs_get ey
        obtain ⟨e, hei, ek⟩ := ed_get k2 hk
        rw [nv_len, kl] at hj
        have sT := same_upd (o := .tup [V.int (j : Int), V.ref k.1]) nT
        have smT := sm.trans sT
        have tk := smT _ _ (k3 k (List.mem_of_getElem? hk))
        rw [ek] at tk
        have hD' := sT _ _ hD
        have gok := gTo_ok ve (gN_ok ve (ok := fun j => decide (j ≠ wo)) (show 0 < n by omega) i) j (by omega)
        have glen := len_le n _ gok.nd gok.lt
        have p0 : atI (NV (pl e)) 0 = some (.int (e.1 : Int)) := rfl
        have p1 : atI (NV (pl e)) 1 = some (.int (e.2 : Int)) := rfl
        refine ⟨T1, _, rfl, .inl (.inl upd_same), rfl, _, _, rfl, _, _, rfl, rfl, ?_⟩
        have eg : gTo (fun j => decide (j ≠ wo)) es (gN (fun j => decide (j ≠ wo)) es 0 i) (j + 1) = if decide (j ≠ wo) = true then gStep (gTo (fun j => decide (j ≠ wo)) es (gN (fun j => decide (j ≠ wo)) es 0 i) j) e else gTo (fun j => decide (j ≠ wo)) es (gN (fun j => decide (j ≠ wo)) es 0 i) j := by
          conv => lhs; unfold gTo
          rw [getD_of hei]
        rw [eg]
        generalize gTo (fun j => decide (j ≠ wo)) es (gN (fun j => decide (j ≠ wo)) es 0 i) j = S at *
        refine ⟨_, rfl, _, rfl, rfl, _, rfl, ?_⟩
        refine ite2 (fun z => ?_) (fun z => ?_)
        · have z1 : j ≠ wo := by
            intro z2
            subst z2
            simp at z
          rw [if_pos (decide_eq_true z1)]
          refine ⟨_, rfl, k.1, _, _, _, rfl, rfl, sq_of tk, p0, _, rfl, D, _, rfl, .inl (sl_of hD'), rfl, flat_NV _, ?_⟩
          refine ⟨_, rfl, k.1, _, _, _, rfl, rfl, sq_of tk, p1, _, rfl, D, _, rfl, .inl (sl_of hD'), rfl, flat_NV _, ?_⟩
          rw [inV_NV, inV_NV]
          refine ⟨rfl, _, rfl, ?_⟩
          have same : decide (e.1 ∈ S) = decide (e.2 ∈ S) → gStep S e = S := fun h => by
            unfold gStep
            rw [if_pos h]
          have fin : ∀ x : Nat, gStep S e = S ++ [x] → ∃ l xs, V.ref D = V.ref l ∧ upd H3 T1 (HO.tup [V.int ↑j, V.ref k.fst]) l = some (HO.lst xs) ∧ True := fun x _ => ⟨D, _, rfl, hD', trivial⟩
          by_cases h2 : e.2 ∈ S
          · rw [decide_eq_true h2] at same ⊢
            by_cases h1 : e.1 ∈ S
            · rw [decide_eq_true h1] at same ⊢
              refine iteF ?_
              rw [same rfl]
              exact ⟨_, _, rfl, smT, hD'⟩
            · rw [decide_eq_false h1]
              refine iteT ?_
              refine ⟨_, rfl, .inl ⟨rfl, _, sl_of hD'⟩, ?_⟩
              refine ⟨_, rfl, k.1, _, _, _, rfl, rfl, sq_of tk, p1, _, rfl, D, _, rfl, .inl (sl_of hD'), rfl, flat_NV _, ?_⟩
              rw [inV_NV, decide_eq_true h2]
              refine ⟨_, rfl, iteT ?_⟩
              refine ⟨_, rfl, k.1, _, _, _, rfl, rfl, sq_of tk, p0, D, _, _, rfl, rfl, hD', by rw [NV_len]; exact small1000 (by omega), ?_⟩
              have g : gStep S e = S ++ [e.1] := by
                unfold gStep
                rw [if_neg (by simp [h1, h2]), if_pos h2]
              rw [g]
              refine ⟨_, _, rfl, fun b o eb => ?_, by rw [upd_same, NV_snoc]⟩
              rw [upd_ne (ne_of_none eb nD)]
              exact smT _ _ eb
          · rw [decide_eq_false h2] at same ⊢
            by_cases h1 : e.1 ∈ S
            · rw [decide_eq_true h1]
              refine iteT ?_
              refine ⟨_, rfl, .inl ⟨rfl, _, sl_of hD'⟩, ?_⟩
              refine ⟨_, rfl, k.1, _, _, _, rfl, rfl, sq_of tk, p1, _, rfl, D, _, rfl, .inl (sl_of hD'), rfl, flat_NV _, ?_⟩
              rw [inV_NV, decide_eq_false h2]
              refine ⟨_, rfl, iteF ?_⟩
              refine ⟨_, rfl, k.1, _, _, _, rfl, rfl, sq_of tk, p1, D, _, _, rfl, rfl, hD', by rw [NV_len]; exact small1000 (by omega), ?_⟩
              have g : gStep S e = S ++ [e.2] := by
                unfold gStep
                rw [if_neg (by simp [h1, h2]), if_neg h2]
              rw [g]
              refine ⟨_, _, rfl, fun b o eb => ?_, by rw [upd_same, NV_snoc]⟩
              rw [upd_ne (ne_of_none eb nD)]
              exact smT _ _ eb
            · rw [decide_eq_false h1] at same ⊢
              refine iteF ?_
              rw [same rfl]
              exact ⟨_, _, rfl, smT, hD'⟩
        · have z1 : ¬ decide (j ≠ wo) = true := by
            intro z2
            have := of_decide_eq_true z2
            simp at z
            omega
          rw [if_neg z1]
          exact ⟨_, _, rfl, smT, hD'⟩
      · rintro σ H3 ⟨v5, v6, rfl, sm, hD⟩
        rw [nv_len, kl] at hD
        exact ⟨_, _, _, rfl, sm, hD⟩
    · rintro σ H2 ⟨v4, v5, v6, rfl, sm, hD⟩
      refine ⟨_, rfl, D, _, rfl, .inl (sl_of hD), _, rfl, rfl, ?_⟩
      rw [NV_len]
      have e0 := gN_full (ok := fun j => decide (j ≠ wo)) ve (show 0 < n by omega)
      have e1 : (∀ v, v < n → Rch (okE (fun j => decide (j ≠ wo)) es) 0 v) ↔ conn n (es.eraseIdx wo) := forall_congr' fun v => forall_congr' fun hv => Rch.iff fun e => mem_erase.symm
      have e2 := (e0.trans e1).trans (cB_iff (ve_erase (i := wo) ve) n1).symm
      have e3 : decide (V.int (((gN (fun j => decide (j ≠ wo)) es 0 n).length : Nat) : Int) = V.int (n : Int)) = cB n (es.eraseIdx wo) := by
        cases c : cB n (es.eraseIdx wo) with
        | true => exact decide_eq_true (by rw [e2.mpr c])
        | false =>
          refine decide_eq_false fun y => ?_
          rw [c] at e2
          have y2 := e2.mp (by injection y with y; omega)
          cases y2
      have := q H2 sm
      rw [← e3] at this
      exact this
/-! ### weak -/
def spWeak : Sp := fun vs H Q _ => ∃ (a : Addr) (n : Nat) (es : List Ed), vs = [.int (n : Int), .ref a] ∧ EdT H a es ∧ VE n es ∧ 1 ≤ n ∧ n ≤ 12 ∧ es.length ≤ 100 ∧ ∀ H' r, Same H H' → H r = none → H' r = some (.lst (NV (brg n es))) → Q (.ref r) H'
abbrev nWe : List Str := ["_law_many", "_law_ties_here", "_law_at"]
theorem scWeak : FnScope nWe ["_law_many", "_law_ties_here"] (defScope sWeak) := ⟨rfl, rfl, rfl, by decide +kernel, rfl, by decide +kernel, by decide +kernel⟩
theorem cal_weak (T : Txt mg) (GL : Cal P w K mg base "_law_is_linked" 1 spLinked) (D : Df K mg "_law_weak" sWeak ["_law_many", "_law_ties_here"]) : Cal P w K mg base "_law_weak" 2 spWeak := by
  have nd := scWeak.nd
  refine cal_of D scWeak (fun vs H Q E h => ?_) (fun f cdv A outer s0 H vs Q E hr h => ?_)
  · obtain ⟨a, n, es, rfl, _⟩ := h
    rfl
  · obtain ⟨a, n, es, rfl, he, ve, n1, hn, hl, q⟩ := h
    refine ⟨_, pss_one (ps_ret (pe_lc (own := [("_law_at", 2)]) (g := gName 2) (by rfl) nd (pi_range1 (by rfl) T.range (pa_cons (pe_callB cr_len (by rfl) T.len PySem.boot_len (pa_cons (pv 1) pa_nil)) pa_nil))
        (blkOk_by (own := [("_law_at", 2)]) (N := nWe) (sc := defScope sWeak) (by decide +kernel)) (fun _ _ _ _ _ => pg_name (i := 2) nd rfl (.inl rfl))
        (fun _ _ _ _ _ => pts_one (pt_not (pt_val (pe_cl GL (by exact hr) (by rfl) (pa_cons (pv 0) (pa_cons (pv 1) (pa_cons (pv 2) pa_nil)))))))
        (fun _ _ _ _ _ => pv 2))), ?_⟩
    obtain ⟨ks, k1, k2, k3⟩ := id he
    have kl := ed_len k2
    refine ⟨_, rfl, a, _, rfl, .inr (sq_of k1), _, rfl, by rw [nv_len]; omega, by rw [nv_len]; omega, ?_⟩
    rw [nv_len, kl, Int.toNat_natCast]
    refine fun D nD => lc_it walk_rg0 (fun i H' => Same H H' ∧ H' D = some (.lst (NV (brgTo n es i)))) ⟨same_upd nD, upd_same⟩ (fun _ _ _ _ => trivial) ?_ ?_
    · rintro i x _ H2 hi ⟨sm, hD⟩ ⟨rfl, rfl⟩
      refine ⟨rfl, ?_⟩
      refine ⟨_, rfl, _, rfl, _, rfl, a, n, es, i, rfl, he.same sm, ve, n1, by omega, hl, fun H6 s26 => ?_⟩
      have hD6 := s26 _ _ hD
      refine ⟨_, rfl, ?_⟩
      rw [brgTo_succ]
      cases c : cB n (es.eraseIdx i) with
      | true =>
        refine iteF ?_
        rw [if_pos rfl, List.append_nil]
        exact ⟨sm.trans s26, hD6⟩
      | false =>
        refine iteT ⟨_, rfl, _, hD6, ?_, fun b o e => ?_, ?_⟩
        · rw [NV_len]
          unfold brgTo
          exact Nat.lt_of_le_of_lt (List.length_filter_le _ _) (by rw [List.length_range]; exact small1000 (by omega))
        · rw [upd_ne (ne_of_none e nD)]
          exact s26 _ _ (sm _ _ e)
        · rw [upd_same, if_neg (by decide), NV_snoc]
    · rintro H2 ⟨sm, hD⟩
      exact q _ D sm nD hD
end
end Hw

namespace Hw
open PySem PySem.Spec PyProof.Rows L2 ClX
/-- a list of tuples -/
def CsL (H : Hp) (r : Addr) (cs : List (List Nat)) : Prop := ∃ ks : List (Addr × List Nat), H r = some (.lst (ks.map fun k => .ref k.1)) ∧ ks.map (·.2) = cs ∧ ∀ k ∈ ks, Tp H k.1 k.2
theorem CsL.same {H H' : Hp} {r : Addr} {cs : List (List Nat)} (h : CsL H r cs) (s : Same H H') : CsL H' r cs := by
  obtain ⟨ks, a, b, c⟩ := h
  exact ⟨ks, s _ _ a, b, fun k hk => s _ _ (c k hk)⟩
theorem csl_snoc {H : Hp} {D t : Addr} {cs : List (List Nat)} {c : List Nat} {ks : List (Addr × List Nat)} (h2 : ks.map (·.2) = cs) (h3 : ∀ k ∈ ks, Tp H k.1 k.2) (ht : Tp H t c) (hD : H D = some (.lst (ks.map fun k => .ref k.1))) :
    CsL (upd H D (.lst ((ks.map fun k => V.ref k.1) ++ [V.ref t]))) D (cs ++ [c]) := by
  refine ⟨ks ++ [(t, c)], ?_, ?_, fun k hk => ?_⟩
  · rw [upd_same, List.map_append]
    rfl
  · rw [List.map_append, h2]
    rfl
  · rcases List.mem_append.mp hk with m | m
    · exact tp_upd (h3 k m) hD
    · rw [List.mem_singleton.mp m]
      exact tp_upd ht hD
theorem cs_len {ks : List (Addr × List Nat)} {cs : List (List Nat)} (h : ks.map (·.2) = cs) : ks.length = cs.length := by
  have := congrArg List.length h
  rw [List.length_map] at this
  exact this
theorem bro_len {n : Nat} (es : List Ed) : (brg n es).length ≤ es.length := by
  unfold brg
  exact Nat.le_trans (List.length_filter_le _ _) (by rw [List.length_range]; exact Nat.le_refl _)
section
variable {P : Program} {w : World} {K : PySem.W.Frag} {mg : Str → Option Value} {base : Heap}
def spBlocks : Sp := fun vs H Q _ => ∃ (a : Addr) (n : Nat) (es : List Ed), vs = [.int (n : Int), .ref a] ∧ EdT H a es ∧ VE n es ∧ 1 ≤ n ∧ n ≤ 12 ∧ es.length ≤ 100 ∧ ∀ H' r, Same H H' → H r = none → CsL H' r (cel n es) → Q (.ref r) H'
abbrev nBl : List Str := ["_law_many", "_law_ties_here", "_law_weak_here", "_law_found", "_law_spot", "_law_some", "_law_n", "_law_at", "_law_pair"]
theorem scBlocks : FnScope nBl ["_law_many", "_law_ties_here"] (defScope sBlocks) := ⟨rfl, rfl, rfl, by decide +kernel, rfl, by decide +kernel, by decide +kernel⟩
theorem cal_blocks (T : Txt mg) (GW : Cal P w K mg base "_law_weak" 2 spWeak) (D : Df K mg "_law_blocks" sBlocks ["_law_many", "_law_ties_here"]) : Cal P w K mg base "_law_blocks" 3 spBlocks := by
  have nd := scBlocks.nd
  refine cal_of D scBlocks (fun vs H Q E h => ?_) (fun f cdv A outer s0 H vs Q E hr h => ?_)
  · obtain ⟨a, n, es, rfl, _⟩ := h
    rfl
  · obtain ⟨a, n, es, rfl, he, ve, n1, hn, hl, q⟩ := h
    refine ⟨_, pss_cons (ps_par (i := 2) (j := 3) (by rfl) nd rfl rfl (by decide) rfl rfl (pa_cons (pe_cl GW hr (by rfl) (pa_cons (pv 0) (pa_cons (pv 1) pa_nil))) (pa_cons (pe_lst pa_nil) pa_nil)) (by rfl))
      <| pss_cons (ps_for PassesOwn.never rfl (pi_range1 (by rfl) T.range (pa_cons (pv 0) pa_nil)) (pg_name (i := 4) nd rfl (.inl rfl))
          (pss_cons (ps_set (i := 5) nd rfl (.inl rfl) (pe_lst (pa_cons (pv 4) pa_nil)))
          <| pss_cons (ps_for PassesOwn.never rfl (pi_range1 (by rfl) T.range (pa_cons (pv 0) pa_nil)) (pg_name (i := 6) nd rfl (.inl rfl))
            (pss_one (ps_for PassesOwn.never rfl (pi_enumT (by rfl) T.enumerate (pa_cons (pv 1) pa_nil)) (pg_tup rfl (pgs_cons (pg_name (i := 7) nd rfl (.inl rfl)) (pgs_cons (pg_name (i := 8) nd rfl (.inl rfl)) pgs_nil)))
              (pss_one (ps_if (PW.pt (pw_and (pt_cmpR (r := rIn K true) op_notIn_seq (pv 7) (pv 2) (by rfl)) (pw_and1 (pt_cmpR op_ne (pe_cmpR (r := rIn K false) op_in_seq (pe_ix (r := rIxT K) ix_tup (pv 8) pe_int (fun _ _ => rfl)) (pv 5) (by rfl)) (pe_cmpR (r := rIn K false) op_in_seq (pe_ix (r := rIxT K) ix_tup (pv 8) pe_int (fun _ _ => rfl)) (pv 5) (by rfl)) (nomark _)))))
                (pss_one (ps_expr (pe_bm PySem.F.plainAttrs_list PySem.F.slot_list_append PySem.F.type_list_append mt_append (pv 5) (pa_cons (pe_ifExp (pt_cmpR (r := rIn K false) op_in_seq (pe_ix (r := rIxT K) ix_tup (pv 8) pe_int (fun _ _ => rfl)) (pv 5) (by rfl))
                  (pe_ix (r := rIxT K) ix_tup (pv 8) pe_int (fun _ _ => rfl)) (pe_ix (r := rIxT K) ix_tup (pv 8) pe_int (fun _ _ => rfl))) pa_nil)))) pss_nil)))))
          <| pss_one (ps_if (pt_cmpR op_eq (pe_callB (cr_min rfl) (by rfl) T.min (by decide +kernel) (pa_cons (pv 5) pa_nil)) (pv 4) (nomark _))
              (pss_one (ps_expr (pe_bm PySem.F.plainAttrs_list PySem.F.slot_list_append PySem.F.type_list_append mt_append (pv 3) (pa_cons (pe_callTy call_tuple_of (by rfl) T.tuple (by decide +kernel) (pa_cons (pe_callB cr_sorted (by rfl) T.sorted (by decide +kernel) (pa_cons (pv 5) pa_nil)) pa_nil)) pa_nil)))) pss_nil)))
      <| pss_one (ps_ret (pv 3)), ?_⟩
    refine ⟨_, rfl, _, rfl, a, n, es, rfl, he, ve, n1, hn, hl, fun H1 wk s1 nwk hwk => ⟨Nat.zero_le _, fun F nF => ?_⟩⟩
    have sF := same_upd (o := .lst []) nF
    have hF1 : upd H1 F (.lst []) F = some (.lst []) := upd_same
    have hwk1 := sF _ _ hwk
    have nFwk : wk ≠ F := ne_of_none hwk nF
    have s01 := s1.trans sF
    have he1 := he.same s01
    have nF0 := s1.free nF
    generalize upd H1 F (.lst []) = H1' at *
    clear he
    obtain ⟨ks, k1, k2, k3⟩ := he1
    have kl := ed_len k2
    have lb := lb_lj (okE_ve (ok := fun j => !decide (j ∈ brg n es)) ve)
    change Lb n (inn n es) (lj n (inn n es)) at lb
    have eC : cel n es = (rtTo (lj n (inn n es)) n).map (cls n (lj n (inn n es))) := rfl
    have sameI : ∀ u v, u < n → v < n → (ap (lj n (inn n es)) u = ap (lj n (inn n es)) v ↔ Rch (inn n es) u v) := fun u v hu hv => lj_same (okE_ve ve) hu hv
    rw [eC] at q
    generalize lj n (inn n es) = L at *
    have bl : (brg n es).length ≤ 100 := Nat.le_trans (bro_len es) hl
    refine ⟨_, _, rfl, ?_⟩
    refine ⟨_, rfl, _, rfl, by omega, by omega, ?_⟩
    rw [Int.toNat_natCast]
    refine for_it walk_rg0 (fun i σ H' => ∃ v4 v5 v6 v7 v8, σ = [some (.int (n : Int)), some (.ref a), some (.ref wk), some (.ref F), v4, v5, v6, v7, v8] ∧ (∀ b o, b ≠ F → H1' b = some o → H' b = some o) ∧ CsL H' F ((rtTo L i).map (cls n L))) ⟨_, _, _, _, _, rfl, fun b o _ e => e, [], hF1, rfl, fun k hk => nomatch hk⟩ (fun _ _ _ _ _ => trivial) ?_ ?_
    · rintro i x σ _ H2 hi ⟨v4, v5, v6, v7, v8, rfl, kp, hF⟩ ⟨rfl, rfl⟩
      refine ⟨_, rfl, by show 1 ≤ sizeLine; decide, fun D nD => ?_⟩
      have sD := same_upd (o := .lst [V.int (i : Int)]) nD
      have hD0 : upd H2 D (.lst [V.int (i : Int)]) D = some (.lst [V.int (i : Int)]) := upd_same
      have kpD : ∀ b o, b ≠ F → H1' b = some o → upd H2 D (.lst [V.int (i : Int)]) b = some o := fun b o nb e => sD _ _ (kp b o nb e)
      have hFD := hF.same sD
      have DF : D ≠ F := by
        obtain ⟨_, z, _⟩ := hF
        exact (ne_of_none z nD).symm
      have nD1 : ∀ b o, H1' b = some o → b ≠ D := fun b o e z => by
        subst z
        have := kp b o DF e
        rw [nD] at this
        cases this
      generalize upd H2 D (.lst [V.int (i : Int)]) = H3 at *
      -- what stays while the list at D grows
      refine ⟨_, rfl, _, rfl, by omega, by omega, ?_⟩
      rw [Int.toNat_natCast]
      refine for_it walk_rg0 (fun m σ H' => ∃ v6 v7 v8, σ = [some (.int (n : Int)), some (.ref a), some (.ref wk), some (.ref F), some (.int (i : Int)), some (.ref D), v6, v7, v8] ∧ (∀ b o, b ≠ D → H3 b = some o → H' b = some o) ∧ H' D = some (.lst (NV (gN (fun j => !decide (j ∈ brg n es)) es i m)))) ⟨_, _, _, rfl, fun b o _ e => e, hD0⟩ (fun _ _ _ _ _ => trivial) ?_ ?_
      · rintro m x σ _ H4 hm ⟨v6, v7, v8, rfl, kq, hD⟩ ⟨rfl, rfl⟩
        have st : ∀ H' : Hp, (∀ b o, b ≠ D → H3 b = some o → H' b = some o) → ∀ b xs, H1' b = some (.tup xs) → H' b = some (.tup xs) := fun H' kk b xs e => kk b _ (nD1 b _ e) (kpD b _ (fun z => by rw [z, hF1] at e; cases e) e)
        refine ⟨_, rfl, a, _, rfl, sq_of (st _ kq _ _ k1), for_it (walk_enumT (xs := ks.map fun k => V.ref k.1)) (fun j σ H' => ∃ v7 v8, σ = [some (.int (n : Int)), some (.ref a), some (.ref wk), some (.ref F), some (.int (i : Int)), some (.ref D), some (.int (m : Int)), v7, v8] ∧ (∀ b o, b ≠ D → H3 b = some o → H' b = some o) ∧ H' D = some (.lst (NV (gTo (fun j => !decide (j ∈ brg n es)) es (gN (fun j => !decide (j ∈ brg n es)) es i m) j)))) ⟨_, _, rfl, kq, hD⟩ (fun j σ H' _ ⟨_, _, _, kk, _⟩ => sq_of (st _ kk _ _ k1)) ?_ ?_⟩
        · rintro j y σ H5 H6 hj ⟨v7, v8, rfl, kk, hD⟩ ⟨T1, i', y', rfl, nT, rfl, ei, ey⟩
          obtain rfl : V.int (j : Int) = i' := Option.some.inj ei
          obtain ⟨k, hk, rfl⟩ := refs_get ey
          obtain ⟨e, hei, ek⟩ := ed_get k2 hk
          rw [nv_len, kl] at hj
          have sT := same_upd (o := .tup [V.int (j : Int), V.ref k.1]) nT
          have kkT : ∀ b o, b ≠ D → H3 b = some o → upd H5 T1 (.tup [V.int (j : Int), V.ref k.1]) b = some o := fun b o nb e => sT _ _ (kk b o nb e)
          have tk := st _ kkT _ _ (k3 k (List.mem_of_getElem? hk))
          rw [ek] at tk
          have hD' := sT _ _ hD
          have hwk' : upd H5 T1 (.tup [V.int (j : Int), V.ref k.1]) wk = some (.lst (NV (brg n es))) := kkT wk _ (nD1 _ _ hwk1) (kpD wk _ nFwk hwk1)
          have gok := gTo_ok ve (gN_ok ve (ok := fun j => !decide (j ∈ brg n es)) hi m) j (by omega)
          have glen := len_le n _ gok.nd gok.lt
          have p0 : atI (NV (pl e)) 0 = some (.int (e.1 : Int)) := rfl
          have p1 : atI (NV (pl e)) 1 = some (.int (e.2 : Int)) := rfl
          refine ⟨T1, _, rfl, .inl (.inl upd_same), rfl, _, _, rfl, _, _, rfl, rfl, ?_⟩
          have eg : gTo (fun j => !decide (j ∈ brg n es)) es (gN (fun j => !decide (j ∈ brg n es)) es i m) (j + 1) = if (!decide (j ∈ brg n es)) = true then gStep (gTo (fun j => !decide (j ∈ brg n es)) es (gN (fun j => !decide (j ∈ brg n es)) es i m) j) e else gTo (fun j => !decide (j ∈ brg n es)) es (gN (fun j => !decide (j ∈ brg n es)) es i m) j := by
            conv => lhs; unfold gTo
            rw [getD_of hei]
          rw [eg]
          generalize gTo (fun j => !decide (j ∈ brg n es)) es (gN (fun j => !decide (j ∈ brg n es)) es i m) j = S at *
          refine ⟨_, rfl, _, rfl, wk, _, rfl, .inl (sl_of hwk'), rfl, flat_NV _, _, rfl, ?_⟩
          rw [inV_NV]
          cases z1 : !decide (j ∈ brg n es) with
          | true =>
            rw [if_pos rfl]
            refine iteT ?_
            have gt : (if (true = true) then gStep S e else S) = gStep S e := if_pos rfl
            rw [gt]
            refine ⟨_, rfl, k.1, _, _, _, rfl, rfl, sq_of tk, p0, _, rfl, D, _, rfl, .inl (sl_of hD'), rfl, flat_NV _, ?_⟩
            refine ⟨_, rfl, k.1, _, _, _, rfl, rfl, sq_of tk, p1, _, rfl, D, _, rfl, .inl (sl_of hD'), rfl, flat_NV _, ?_⟩
            rw [inV_NV, inV_NV]
            refine ⟨rfl, _, rfl, ?_⟩
            have same : decide (e.1 ∈ S) = decide (e.2 ∈ S) → gStep S e = S := fun h => by
              unfold gStep
              rw [if_pos h]
            by_cases h2 : e.2 ∈ S
            · rw [decide_eq_true h2] at same ⊢
              by_cases h1 : e.1 ∈ S
              · rw [decide_eq_true h1] at same ⊢
                refine iteF ?_
                rw [same rfl]
                exact ⟨_, _, rfl, kkT, hD'⟩
              · rw [decide_eq_false h1]
                refine iteT ?_
                refine ⟨_, rfl, .inl ⟨rfl, _, sl_of hD'⟩, ?_⟩
                refine ⟨_, rfl, k.1, _, _, _, rfl, rfl, sq_of tk, p1, _, rfl, D, _, rfl, .inl (sl_of hD'), rfl, flat_NV _, ?_⟩
                rw [inV_NV, decide_eq_true h2]
                refine ⟨_, rfl, iteT ?_⟩
                refine ⟨_, rfl, k.1, _, _, _, rfl, rfl, sq_of tk, p0, D, _, _, rfl, rfl, hD', by rw [NV_len]; exact small1000 (by omega), ?_⟩
                have g : gStep S e = S ++ [e.1] := by
                  unfold gStep
                  rw [if_neg (by simp [h1, h2]), if_pos h2]
                rw [g]
                refine ⟨_, _, rfl, fun b o nb eb => ?_, by rw [upd_same, NV_snoc]⟩
                rw [upd_ne nb]
                exact kkT b o nb eb
            · rw [decide_eq_false h2] at same ⊢
              by_cases h1 : e.1 ∈ S
              · rw [decide_eq_true h1]
                refine iteT ?_
                refine ⟨_, rfl, .inl ⟨rfl, _, sl_of hD'⟩, ?_⟩
                refine ⟨_, rfl, k.1, _, _, _, rfl, rfl, sq_of tk, p1, _, rfl, D, _, rfl, .inl (sl_of hD'), rfl, flat_NV _, ?_⟩
                rw [inV_NV, decide_eq_false h2]
                refine ⟨_, rfl, iteF ?_⟩
                refine ⟨_, rfl, k.1, _, _, _, rfl, rfl, sq_of tk, p1, D, _, _, rfl, rfl, hD', by rw [NV_len]; exact small1000 (by omega), ?_⟩
                have g : gStep S e = S ++ [e.2] := by
                  unfold gStep
                  rw [if_neg (by simp [h1, h2]), if_neg h2]
                rw [g]
                refine ⟨_, _, rfl, fun b o nb eb => ?_, by rw [upd_same, NV_snoc]⟩
                rw [upd_ne nb]
                exact kkT b o nb eb
              · rw [decide_eq_false h1] at same ⊢
                refine iteF ?_
                rw [same rfl]
                exact ⟨_, _, rfl, kkT, hD'⟩
          | false =>
            rw [if_pos rfl]
            have gt : (if (false = true) then gStep S e else S) = S := if_neg (by decide)
            rw [gt]
            exact ⟨_, _, rfl, kkT, hD'⟩
        · rintro σ H5 ⟨v7, v8, rfl, kk, hD⟩
          rw [nv_len, kl] at hD
          exact ⟨_, _, _, rfl, kk, hD⟩
      · rintro σ H4 ⟨v6, v7, v8, rfl, kq, hD⟩
        have gok := gN_ok (ok := fun j => !decide (j ∈ brg n es)) ve hi n
        have gmem := gN_mem (ok := fun j => !decide (j ∈ brg n es)) ve hi
        change ∀ v, v ∈ gN (fun j => !decide (j ∈ brg n es)) es i n ↔ Rch (inn n es) i v at gmem
        generalize gN (fun j => !decide (j ∈ brg n es)) es i n = S at *
        have sl0 := len_le n _ gok.nd gok.lt
        obtain ⟨js, j1, j2, j3⟩ := hFD
        have j1' := kq F _ DF.symm j1
        have j3' : ∀ k ∈ js, Tp H4 k.1 k.2 := fun k hk => kq _ _ (ne_of (j3 k hk) hD0 (by intro z; cases z)) (j3 k hk)
        have kpE : ∀ b o, b ≠ F → H1' b = some o → H4 b = some o := fun b o nb e => kq b o (nD1 b o e) (kpD b o nb e)
        have rt := root_ap lb hi
        have lS : ap L i ∈ S := (gmem _).mpr (lb.to i hi)
        have hDI : H4 D = some (.lst ((NI S).map V.int)) := by rw [← NV_NI]; exact hD
        refine ⟨_, rfl, D, NI S, rfl, sl_of hDI, by rw [NI_len]; exact List.length_pos_of_mem lS, fun mi hm1 hm2 => ?_⟩
        obtain ⟨z, hz, rfl⟩ := mem_NI hm1
        have ez : z = ap L i := by
          have a1 := hm2 _ (List.mem_map.mpr ⟨_, lS, rfl⟩)
          have zl := gok.lt z hz
          have a2 := (sameI i z hi zl).mpr ((gmem z).mp hz)
          have a3 := lb.le z zl
          omega
        subst ez
        refine ⟨_, rfl, rfl, _, rfl, ?_⟩
        rw [rtTo_succ]
        by_cases hs : ap L i = i
        · rw [if_pos hs]
          refine ite2 (fun _ => ?_) (fun c => absurd (by rw [hs]; exact decide_eq_true rfl) c)
          refine ⟨_, rfl, .inl ⟨rfl, _, sl_of j1'⟩, ?_⟩
          refine ⟨_, rfl, D, NI S, rfl, sl_of hDI, by rw [NI_len]; omega, fun ys p hp pw np => ?_⟩
          have pc : (cls n L i).Perm S := perm_of_mem (List.Nodup.sublist List.filter_sublist List.nodup_range) gok.nd fun v => by
            rw [mem_cls, gmem]
            constructor
            · rintro ⟨v1, v2⟩
              exact (sameI i v hi v1).mp (by rw [hs, v2])
            · intro r
              have vl := gok.lt v ((gmem v).mpr r)
              exact ⟨vl, by rw [← (sameI i v hi vl).mpr r]; exact hs⟩
          have ey : ys = NI (cls n L i) := sorted_is hp pw pc (List.Pairwise.imp (fun z => Nat.le_of_lt z) (filter_rise n _))
          subst ey
          rw [← NV_NI]
          refine ⟨p, _, rfl, .inl ⟨sl_of upd_same, fun t nt => ?_⟩⟩
          have sp1 := same_upd (o := .lst (NV (cls n L i))) np
          have st1 := same_upd (o := .tup (NV (cls n L i))) nt
          have s2 := sp1.trans st1
          have j1'' := s2 _ _ j1'
          refine ⟨F, _, _, rfl, rfl, j1'', ?_, ?_⟩
          · rw [nv_len, cs_len j2, List.length_map]
            exact Nat.lt_of_le_of_lt (rtTo_len L i) (small1000 (by omega))
          · refine ⟨_, _, _, _, _, rfl, fun b o nb e => ?_, ?_⟩
            · rw [upd_ne nb]
              exact s2 _ _ (kpE b o nb e)
            · rw [List.map_append]
              exact csl_snoc j2 (fun k hk => s2 _ _ (j3' k hk)) upd_same j1''
        · rw [if_neg hs, List.append_nil]
          refine ite2 (fun c => absurd (of_decide_eq_true c) (fun q => hs (by injection q with q; omega))) (fun _ => ?_)
          exact ⟨_, _, _, _, _, rfl, kpE, js, j1', j2, j3'⟩
    · rintro σ H2 ⟨v4, v5, v6, v7, v8, rfl, kp, hF⟩
      refine ⟨_, rfl, q H2 F (fun b o e => kp b o (fun z => ?_) (s01 _ _ e)) nF0 hF⟩
      rw [z, nF0] at e
      cases e
end
end Hw

namespace Hw
open PySem PySem.Spec PyProof.Rows L2 ClX
/-! ### the sum of a pair -/
def rSumT (K : PySem.W.Frag) : List V → Hp → VK → Prop := fun vs H Q => ∃ (a : Addr) (ns : List Int), vs = [V.ref a] ∧ SqT K H a (ns.map V.int) ∧ Q (.int ns.sum) H
theorem cr_sumT {X : Cx} (hc : X.calm = true) : CallR X (.builtin "sum") (rSumT X.K) := by
  intro pins s σ H vs us Q I r h
  obtain ⟨a, ns, rfl, hs, q⟩ := h
  obtain ⟨its, rv, tT, _⟩ := I.tuple hs
  rw [Vals.ref1 r]
  obtain ⟨xs, e⟩ := rv.ints.allInts.items
  have hn : numsOf (intItems xs).toList = ns := by rw [← e]; exact rv.ints.numsOf
  rw [nums_intItems] at hn
  rw [e] at tT
  refine PySem.W.ktm_sumG (I.ok.hd hc) tT fun h' tk t' hk => ?_
  rw [preSum_eq, List.take_of_length_le (by simp), hn]
  exact ⟨.int _, H, I.kept hk, ⟨_, rfl⟩, q⟩
/-! ### what a search has found -/
structure RIn (n : Nat) (es : List Ed) (wo s : Nat) (S F : List Nat) (z : Nat) (k : Nat) : Prop where
  g : GOk n (okE (fun j => decide (j ≠ wo)) es) s S
  sub : ∀ x ∈ F, x ∈ S
  cl : ∀ x ∈ S, x ∈ F ∨ x = z ∨ ∀ v, adj (okE (fun j => decide (j ≠ wo)) es) x v → v ∈ S
  sp : z ∈ S
  far : ∀ i j, i < k → (drs es z)[i]? = some j → j ≠ wo → (es.getD j (0, 0)).1 + (es.getD j (0, 0)).2 - z ∈ S
theorem mem_drs {es : List Ed} {u j : Nat} : j ∈ drs es u ↔ j < es.length ∧ u ∈ pl (es.getD j (0, 0)) := by
  unfold drs drsTo
  rw [List.mem_filter, List.mem_range, decide_eq_true_eq]
theorem far_of {e : Ed} {u : Nat} (h : u ∈ pl e) : (e = (u, e.1 + e.2 - u)) ∨ (e = (e.1 + e.2 - u, u)) := by
  obtain ⟨a, b⟩ := e
  have h' : u = a ∨ u = b := by simpa [pl] using h
  rcases h' with z | z
  · left
    subst z
    show (u, b) = (u, u + b - u)
    rw [Nat.add_sub_cancel_left]
  · right
    subst z
    show (a, u) = (a + u - u, u)
    rw [Nat.add_sub_cancel]
section
variable {n : Nat} {es : List Ed} (ve : VE n es) {wo s : Nat}
include ve
theorem rin_step {S F : List Nat} {sp k j : Nat} (h : RIn n es wo s S F sp k) (hj : (drs es sp)[k]? = some j) (hw : j ≠ wo) (hf : (es.getD j (0, 0)).1 + (es.getD j (0, 0)).2 - sp ∉ S) :
    RIn n es wo s (S ++ [(es.getD j (0, 0)).1 + (es.getD j (0, 0)).2 - sp]) (F ++ [(es.getD j (0, 0)).1 + (es.getD j (0, 0)).2 - sp]) sp (k + 1) := by
  obtain ⟨jl, jm⟩ := mem_drs.mp (List.mem_of_getElem? hj)
  have he := getD_at jl
  have b := ve _ (List.mem_of_getElem? he)
  have inE : es.getD j (0, 0) ∈ okE (fun j => decide (j ≠ wo)) es := mem_okE.mpr ⟨j, decide_eq_true hw, he⟩
  generalize es.getD j (0, 0) = e at *
  have fl : e.1 + e.2 - sp < n ∧ adj (okE (fun j => decide (j ≠ wo)) es) sp (e.1 + e.2 - sp) := by
    rcases far_of jm with z | z
    · have e2 : e.2 = e.1 + e.2 - sp := congrArg Prod.snd z
      exact ⟨by omega, .inl (by rw [← z]; exact inE)⟩
    · have e1 : e.1 = e.1 + e.2 - sp := congrArg Prod.fst z
      exact ⟨by omega, .inr (by rw [← z]; exact inE)⟩
  generalize eF : e.1 + e.2 - sp = f at *
  refine ⟨⟨?_, fun x hx => ?_, fun x hx => ?_, List.mem_append_left _ h.g.st⟩, fun x hx => ?_, fun x hx => ?_, List.mem_append_left _ h.sp, fun i j' hi hj' hw' => ?_⟩
  · rw [List.nodup_append]
    exact ⟨h.g.nd, by simp, fun x hx y hy => by rw [List.mem_singleton.mp hy]; exact fun z => hf (z ▸ hx)⟩
  · rcases List.mem_append.mp hx with m | m
    · exact h.g.lt x m
    · rw [List.mem_singleton.mp m]; exact fl.1
  · rcases List.mem_append.mp hx with m | m
    · exact h.g.to x m
    · rw [List.mem_singleton.mp m]; exact (h.g.to _ h.sp).step fl.2
  · rcases List.mem_append.mp hx with m | m
    · exact List.mem_append_left _ (h.sub x m)
    · exact List.mem_append_right _ m
  · rcases List.mem_append.mp hx with m | m
    · rcases h.cl x m with c | c | c
      · exact .inl (List.mem_append_left _ c)
      · exact .inr (.inl c)
      · exact .inr (.inr fun v hv => List.mem_append_left _ (c v hv))
    · exact .inl (List.mem_append_right _ m)
  · by_cases z : i = k
    · subst z
      rw [hj] at hj'
      obtain rfl := Option.some.inj hj'
      have : (es.getD j (0, 0)) = e := by
        have := getD_at jl
        rw [he] at this
        exact (Option.some.inj this).symm
      rw [this, eF]
      exact List.mem_append_right _ (by simp)
    · exact List.mem_append_left _ (h.far i j' (by omega) hj' hw')
omit ve in
theorem rin_skip {S F : List Nat} {sp k j : Nat} (h : RIn n es wo s S F sp k) (hj : (drs es sp)[k]? = some j) (hf : j ≠ wo → (es.getD j (0, 0)).1 + (es.getD j (0, 0)).2 - sp ∈ S) : RIn n es wo s S F sp (k + 1) := by
  refine ⟨h.g, h.sub, h.cl, h.sp, fun i j' hi hj' hw' => ?_⟩
  by_cases z : i = k
  · subst z
    rw [hj] at hj'
    obtain rfl := Option.some.inj hj'
    exact hf hw'
  · exact h.far i j' (by omega) hj' hw'
omit ve in
theorem rin_done {S F : List Nat} {sp : Nat} (h : RIn n es wo s S F sp (drs es sp).length) : ∀ x ∈ S, x ∈ F ∨ ∀ v, adj (okE (fun j => decide (j ≠ wo)) es) x v → v ∈ S := by
  intro x hx
  rcases h.cl x hx with c | c | c
  · exact .inl c
  · subst c
    right
    intro v hv
    have main : ∀ j e, decide (j ≠ wo) = true → es[j]? = some e → (e = (x, v) ∨ e = (v, x)) → v ∈ S := fun j e o he hv => by
      have jl := (List.getElem?_eq_some_iff.mp he).1
      have eg := getD_of he
      have jm : j ∈ drs es x := mem_drs.mpr ⟨jl, by rw [eg]; rcases hv with z | z <;> subst z <;> simp [pl]⟩
      obtain ⟨i, hi, ei⟩ := List.mem_iff_getElem.mp jm
      have := h.far i j hi (by rw [List.getElem?_eq_getElem hi, ei]) (of_decide_eq_true o)
      rw [eg] at this
      have e3 : e.1 + e.2 - x = v := by
        rcases hv with z | z <;> subst z
        · exact Nat.add_sub_cancel_left ..
        · exact Nat.add_sub_cancel ..
      rw [e3] at this
      exact this
    rcases hv with m | m
    · obtain ⟨j, o, he⟩ := mem_okE.mp m
      exact main j _ o he (.inl rfl)
    · obtain ⟨j, o, he⟩ := mem_okE.mp m
      exact main j _ o he (.inr rfl)
  · exact .inr c
omit ve in
theorem rch_in {S : List Nat} {fs : List Ed} (h : ∀ x ∈ S, ∀ v, adj fs x v → v ∈ S) {u v : Nat} (r : Rch fs u v) (hu : u ∈ S) : v ∈ S := by
  induction r with
  | refl => exact hu
  | step _ a ih => exact h _ ih _ a
end
/-- S lists what is joined to s without the passage wo, each once -/
structure Rd1 (n : Nat) (es : List Ed) (wo s : Nat) (S : List Nat) : Prop where
  nd : S.Nodup
  lt : ∀ x ∈ S, x < n
  mem : ∀ v, v ∈ S ↔ Rch (es.eraseIdx wo) s v
end Hw

namespace Hw
open PySem PySem.Spec PyProof.Rows L2 ClX
section
variable {P : Program} {w : World} {K : PySem.W.Frag} {mg : Str → Option Value} {base : Heap}
def spReached : Sp := fun vs H Q _ => ∃ (a : Addr) (n : Nat) (es : List Ed) (s wo : Nat), vs = [.ref a, .int (s : Int), .int (wo : Int)] ∧ EdT H a es ∧ VE n es ∧ s < n ∧ n ≤ 12 ∧ es.length ≤ 100 ∧ ∀ H' r S, Same H H' → H r = none → H' r = some (.lst (NV S)) → Rd1 n es wo s S → Q (.ref r) H'
abbrev nRe : List Str := ["_law_ties_here", "_law_here", "_law_without", "_law_found", "_law_fresh", "_law_spot", "_law_at", "_law_far"]
theorem scReached : FnScope nRe ["_law_ties_here", "_law_here", "_law_without"] (defScope sReached) := ⟨rfl, rfl, rfl, by decide +kernel, rfl, by decide +kernel, by decide +kernel⟩
theorem cal_reached (T : Txt mg) (GD : Cal P w K mg base "_law_doors" 1 spDoors) (D : Df K mg "_law_reached" sReached ["_law_ties_here", "_law_here", "_law_without"]) : Cal P w K mg base "_law_reached" 2 spReached := by
  have nd := scReached.nd
  refine cal_of D scReached (fun vs H Q E h => ?_) (fun f cdv A outer s0 H vs Q E hr h => ?_)
  · obtain ⟨a, n, es, s, wo, rfl, _⟩ := h
    rfl
  · obtain ⟨a, n, es, s, wo, rfl, he, ve, hs, hn, hl, q⟩ := h
    refine ⟨_, pss_cons (ps_par (i := 3) (j := 4) (by rfl) nd rfl rfl (by decide) rfl rfl (pa_cons (pe_lst (pa_cons (pv 1) pa_nil)) (pa_cons (pe_lst (pa_cons (pv 1) pa_nil)) pa_nil)) (by rfl))
      <| pss_cons (ps_while PassesOwn.never (pt_cmpR (op_neD hr.units) (pv 4) (pe_lst pa_nil) (nomark _))
          (pss_cons (ps_set (i := 5) nd rfl (.inl rfl) (pe_bm0 PySem.F.plainAttrs_list PySem.F.slot_list_pop PySem.F.type_list_pop mt_pop (pv 4)))
          <| pss_one (ps_for PassesOwn.never rfl (pi_list (pe_cl GD hr (by rfl) (pa_cons (pv 0) (pa_cons (pv 5) pa_nil)))) (pg_name (i := 6) nd rfl (.inl rfl))
              (pss_cons (ps_set (i := 7) nd rfl (.inl rfl) (pe_op op_sub (pe_callB (cr_sumT rfl) (by rfl) T.sum (by decide +kernel) (pa_cons (pe_ix (r := rIxT K) ix_tup (pv 0) (pv 6) (fun _ _ => rfl)) pa_nil)) (pv 5)))
              <| pss_one (ps_if (PW.pt (pw_and (pt_cmpR op_ne (pv 6) (pv 2) (nomark _)) (pw_and1 (pt_cmpR (r := rIn K true) op_notIn_seq (pv 7) (pv 3) (by rfl)))))
                  (pss_cons (ps_expr (pe_bm PySem.F.plainAttrs_list PySem.F.slot_list_append PySem.F.type_list_append mt_append (pv 3) (pa_cons (pv 7) pa_nil)))
                  <| pss_one (ps_expr (pe_bm PySem.F.plainAttrs_list PySem.F.slot_list_append PySem.F.type_list_append mt_append (pv 4) (pa_cons (pv 7) pa_nil)))) pss_nil)))))
      <| pss_one (ps_ret (pv 3)), ?_⟩
    obtain ⟨ks, k1, k2, k3⟩ := id he
    have kl := ed_len k2
    refine ⟨_, rfl, by show 1 ≤ sizeLine; decide, fun l0 n0 => ?_⟩
    have s1 := same_upd (o := .lst [V.int (s : Int)]) n0
    have h0 : upd H l0 (.lst [V.int (s : Int)]) l0 = some (.lst (NV [s])) := upd_same
    generalize upd H l0 (.lst [V.int (s : Int)]) = H1 at *
    refine ⟨_, rfl, by show 1 ≤ sizeLine; decide, fun l1 n1 => ?_⟩
    have s2 := same_upd (o := .lst [V.int (s : Int)]) n1
    have n01 : l0 ≠ l1 := ne_of_none h0 n1
    have h0' := s2 _ _ h0
    have n1' := s1.free n1
    have h1 : upd H1 l1 (.lst [V.int (s : Int)]) l1 = some (.lst (NV [s])) := upd_same
    generalize upd H1 l1 (.lst [V.int (s : Int)]) = H2 at *
    refine ⟨_, _, rfl, ?_⟩
    refine ⟨fun m σ H' => ∃ S F v5 v6 v7, m = 2 * (n - S.length) + F.length ∧ σ = [some (.ref a), some (.int (s : Int)), some (.int (wo : Int)), some (.ref l0), some (.ref l1), v5, v6, v7] ∧ Same H H' ∧ H' l0 = some (.lst (NV S)) ∧ H' l1 = some (.lst (NV F)) ∧
        GOk n (okE (fun j => decide (j ≠ wo)) es) s S ∧ F.length ≤ S.length ∧ (∀ x ∈ F, x ∈ S) ∧ ∀ x ∈ S, x ∈ F ∨ ∀ v, adj (okE (fun j => decide (j ≠ wo)) es) x v → v ∈ S,
      ⟨_, [s], [s], _, _, _, rfl, rfl, s1.trans s2, h0', h1, gN_ok ve hs 0, Nat.le_refl _, fun x hx => hx, fun x hx => .inl hx⟩, ?_⟩
    rintro m σ H3 ⟨S, F, v5, v6, v7, rfl, rfl, sm, hS, hF, g, fl, fs, fc⟩
    have sl := len_le n _ g.nd g.lt
    refine ⟨_, rfl, Nat.zero_le _, fun l2 n2 => ?_⟩
    have s4 := same_upd (o := .lst []) n2
    have h2 : upd H3 l2 (.lst []) l2 = some (.lst (([] : List Int).map V.int)) := upd_same
    have sm4 := sm.trans s4
    have hS4 := s4 _ _ hS
    have hF4 := s4 _ _ hF
    generalize upd H3 l2 (.lst []) = H4 at *
    refine ⟨_, _, dp_li (ns := NI F) (sl_of (by rw [← NV_NI]; exact hF4)), dp_li (ns := []) (sl_of h2), shaped_li _, shaped_li _, _, rfl, ?_⟩
    rw [eqv_li]
    rcases List.eq_nil_or_concat F with z | ⟨F', sp, z⟩
    · subst z
      rw [show decide (NI [] = []) = true from decide_eq_true rfl]
      refine iteF ⟨_, rfl, q H4 l0 S sm4 n0 hS4 ⟨g.nd, g.lt, fun v => ⟨fun hv => (Rch.iff fun e => mem_erase).mpr (g.to v hv), fun r => ?_⟩⟩⟩
      exact rch_in (fun x hx v hv => (fc x hx).resolve_left (by simp) v hv) ((Rch.iff fun e => mem_erase).mp r) g.st
    · rw [List.concat_eq_append] at z
      subst z
      rw [show decide (NI (F' ++ [sp]) = []) = false from decide_eq_false (by unfold NI; simp)]
      refine iteT ⟨fun σ' H' => ∃ S' F'' v5 v6 v7, 2 * (n - S'.length) + F''.length < 2 * (n - S.length) + (F' ++ [sp]).length ∧ σ' = [some (.ref a), some (.int (s : Int)), some (.int (wo : Int)), some (.ref l0), some (.ref l1), v5, v6, v7] ∧ Same H H' ∧ H' l0 = some (.lst (NV S')) ∧ H' l1 = some (.lst (NV F'')) ∧
          GOk n (okE (fun j => decide (j ≠ wo)) es) s S' ∧ F''.length ≤ S'.length ∧ (∀ x ∈ F'', x ∈ S') ∧ ∀ x ∈ S', x ∈ F'' ∨ ∀ v, adj (okE (fun j => decide (j ≠ wo)) es) x v → v ∈ S', fun σ' H' ⟨S', F'', v5, v6, v7, a1, a2⟩ => ⟨_, a1, S', F'', v5, v6, v7, rfl, a2⟩, ?_⟩
      refine ⟨_, rfl, .inl ⟨rfl, _, sl_of hF4⟩, l1, _, .int (sp : Int), rfl, rfl, hF4, ?_, ?_⟩
      · rw [NV_snoc, List.length_append, List.length_singleton, Nat.add_sub_cancel, List.getElem?_append_right (Nat.le_refl _), Nat.sub_self]
        rfl
      · have ed : (NV (F' ++ [sp])).dropLast = NV F' := by rw [NV_snoc, List.dropLast_concat]
        rw [ed]
        have sm5 : Same H (upd H4 l1 (.lst (NV F'))) := same_in sm4 n1'
        have hS5 : upd H4 l1 (.lst (NV F')) l0 = some (.lst (NV S)) := by rw [upd_ne n01]; exact hS4
        have hF5 : upd H4 l1 (.lst (NV F')) l1 = some (.lst (NV F')) := upd_same
        generalize upd H4 l1 (.lst (NV F')) = H5 at *
        have spS : sp ∈ S := fs sp (by simp)
        refine ⟨_, rfl, _, rfl, a, es, sp, rfl, he.same sm5, hl, fun H6 ld s6 nld hld => ?_⟩
        have hS6 := s6 _ _ hS5
        have hF6 := s6 _ _ hF5
        have sm6 := sm5.trans s6
        have nld0 : l0 ≠ ld := ne_of_none hS5 nld
        have nld1 : l1 ≠ ld := ne_of_none hF5 nld
        refine ⟨ld, rfl, ⟨_, sl_of hld⟩, for_it (walk_list (xs := NV (drs es sp))) (fun k σ H' => ∃ S' F'' v6 v7, σ = [some (.ref a), some (.int (s : Int)), some (.int (wo : Int)), some (.ref l0), some (.ref l1), some (.int (sp : Int)), v6, v7] ∧ Same H H' ∧ H' ld = some (.lst (NV (drs es sp))) ∧ H' l0 = some (.lst (NV S')) ∧ H' l1 = some (.lst (NV F'')) ∧
            RIn n es wo s S' F'' sp k ∧ F''.length ≤ S'.length ∧ 2 * (n - S'.length) + F''.length + 1 ≤ 2 * (n - S.length) + (F' ++ [sp]).length)
          ⟨S, F', _, _, rfl, sm6, hld, hS6, hF6, ⟨g, fun x hx => fs x (List.mem_append_left _ hx), fun x hx => ?_, spS, fun i j hi => absurd hi (Nat.not_lt_zero _)⟩, ?_, ?_⟩ (fun k σ H' _ ⟨_, _, _, _, _, _, z, _⟩ => sl_of z) ?_ ?_⟩
        · rcases fc x hx with c | c
          · rcases List.mem_append.mp c with m | m
            · exact .inl m
            · exact .inr (.inl (List.mem_singleton.mp m))
          · exact .inr (.inr c)
        · rw [List.length_append, List.length_singleton] at fl
          omega
        · rw [List.length_append, List.length_singleton]
          omega
        · rintro k x σ _ H7 hk ⟨S', F'', v6, v7, rfl, sm7, hld7, hS7, hF7, R, fl7, me7⟩ ⟨rfl, hx⟩
          obtain ⟨j, hj, rfl⟩ := NV_get' hx
          obtain ⟨jl, jm⟩ := mem_drs.mp (List.mem_of_getElem? hj)
          have he7 := getD_at jl
          obtain ⟨kk, hkk, ekk⟩ := ed_at k2 he7
          have tk := sm7 _ _ (k3 kk (List.mem_of_getElem? hkk))
          rw [ekk] at tk
          have hxx : (ks.map fun k => V.ref k.1)[j]? = some (V.ref kk.1) := by rw [List.getElem?_map, hkk]; rfl
          have eN : NV (pl (es.getD j (0, 0))) = ([((es.getD j (0, 0)).1 : Int), ((es.getD j (0, 0)).2 : Int)] : List Int).map V.int := rfl
          rw [eN] at tk
          have fle : sp ≤ (es.getD j (0, 0)).1 + (es.getD j (0, 0)).2 := by
            rcases far_of jm with z | z
            · have := congrArg Prod.fst z; simp only at this; omega
            · have := congrArg Prod.snd z; simp only at this; omega
          have stp := rin_step (wo := wo) (s := s) ve (S := S') (F := F'') R hj
          have skp := rin_skip (wo := wo) (s := s) (S := S') (F := F'') R hj
          refine ⟨_, rfl, _, rfl, a, _, _, _, rfl, rfl, sq_of (sm7 _ _ k1), atI_nat hxx, kk.1, _, rfl, sq_of tk, _, rfl, _, _, rfl, rfl, ?_⟩
          have es1 : ([((es.getD j (0, 0)).1 : Int), ((es.getD j (0, 0)).2 : Int)] : List Int).sum - (sp : Int) = (((es.getD j (0, 0)).1 + (es.getD j (0, 0)).2 - sp : Nat) : Int) := by
            simp only [List.sum_cons, List.sum_nil]
            omega
          dsimp only
          rw [es1]
          generalize (es.getD j (0, 0)).1 + (es.getD j (0, 0)).2 - sp = f at *
          refine ⟨_, rfl, _, rfl, rfl, _, rfl, ite2 (fun z => ?_) (fun z => ?_)⟩
          · have z1 : j ≠ wo := by
              intro z2
              subst z2
              simp at z
            refine ⟨_, rfl, _, rfl, l0, _, rfl, .inl (sl_of hS7), rfl, flat_NV _, _, rfl, ?_⟩
            rw [inV_NV]
            by_cases hf : f ∈ S'
            · rw [decide_eq_true hf]
              exact iteF ⟨S', F'', _, _, rfl, sm7, hld7, hS7, hF7, skp fun _ => hf, fl7, me7⟩
            · rw [decide_eq_false hf]
              have R' := stp z1 hf
              have sl' := len_le n _ R'.g.nd R'.g.lt
              rw [List.length_append, List.length_singleton] at sl'
              refine iteT ⟨_, rfl, .inl ⟨rfl, _, sl_of hS7⟩, _, rfl, l0, _, _, rfl, rfl, hS7, by rw [NV_len]; exact small1000 (by omega), ?_⟩
              have hF8 : upd H7 l0 (.lst (NV S' ++ [V.int (f : Int)])) l1 = some (.lst (NV F'')) := by rw [upd_ne n01.symm]; exact hF7
              refine ⟨_, rfl, .inl ⟨rfl, _, sl_of hF8⟩, _, rfl, l1, _, _, rfl, rfl, hF8, by rw [NV_len]; exact small1000 (by omega), ?_⟩
              refine ⟨S' ++ [f], F'' ++ [f], _, _, rfl, same_in (same_in sm7 n0) n1', ?_, ?_, ?_, R', ?_, ?_⟩
              · rw [upd_ne nld1.symm, upd_ne nld0.symm]; exact hld7
              · rw [upd_ne n01, upd_same, NV_snoc]
              · rw [upd_same, NV_snoc]
              · rw [List.length_append, List.length_append]; omega
              · rw [List.length_append, List.length_append, List.length_singleton]; omega
          · have z1 : j = wo := by
              simp at z
              omega
            exact ⟨S', F'', _, _, rfl, sm7, hld7, hS7, hF7, skp fun h => absurd z1 h, fl7, me7⟩
        · rintro σ H7 ⟨S', F'', v6, v7, rfl, sm7, hld7, hS7, hF7, R, fl7, me7⟩
          rw [NV_len] at R
          exact ⟨S', F'', _, _, _, by omega, rfl, sm7, hS7, hF7, R.g, fl7, R.sub, rin_done R⟩
end
end Hw

namespace Hw
open PySem PySem.Spec PyProof.Rows L2 ClX
def asgVal : Stmt → Expr
  | .Assign _ v _ => v
  | _ => .Name "" ⟨0, 0, 0, 0⟩
def lcScope : Expr → Scope
  | .ListComp _ _ s _ => s
  | _ => defScope sLCells
def forBody : Stmt → List Stmt
  | .For (body := b) .. => b
  | _ => []
abbrev scLc1 : Scope := relabel (lcScope (asgVal ((defBody sLCells).getD 0 (.Pass ⟨0, 0, 0, 0⟩)))) { scope := defScope sLCells, locals := 0, globals := 0, cells := [] }
abbrev scLc2 : Scope := relabel (lcScope (asgVal ((forBody ((defBody sLCells).getD 2 (.Pass ⟨0, 0, 0, 0⟩))).getD 0 (.Pass ⟨0, 0, 0, 0⟩)))) { scope := defScope sLCells, locals := 0, globals := 0, cells := [] }
/-- a row of searches; none of its lists is the one at D -/
def RowAt (D : Addr) (H : Hp) (n : Nat) (es : List Ed) (wo : Nat) (r : Addr) (j : Nat) : Prop := ∃ cs : List (Addr × List Nat), H r = some (.lst (cs.map fun c => V.ref c.1)) ∧ cs.length = j ∧ r ≠ D ∧ ∀ s c, cs[s]? = some c → c.1 ≠ D ∧ H c.1 = some (.lst (NV c.2)) ∧ Rd1 n es wo s c.2
theorem RowAt.same {D : Addr} {H H' : Hp} {n : Nat} {es : List Ed} {wo : Nat} {r : Addr} {j : Nat} (h : RowAt D H n es wo r j) (s : ∀ b o, b ≠ D → H b = some o → H' b = some o) : RowAt D H' n es wo r j := by
  obtain ⟨cs, a, b, d, c⟩ := h
  exact ⟨cs, s _ _ d a, b, d, fun i e he => ⟨(c i e he).1, s _ _ (c i e he).1 (c i e he).2.1, (c i e he).2.2⟩⟩
theorem getElem_snoc {α : Type} {l : List α} {x y : α} {i : Nat} (h : (l ++ [x])[i]? = some y) : l[i]? = some y ∨ (i = l.length ∧ y = x) := by
  by_cases z : i < l.length
  · rw [List.getElem?_append_left z] at h
    exact .inl h
  · rw [List.getElem?_append_right (by omega)] at h
    by_cases z2 : i = l.length
    · subst z2
      rw [Nat.sub_self] at h
      exact .inr ⟨rfl, (Option.some.inj h).symm⟩
    · rw [List.getElem?_eq_none (by show 1 ≤ _; omega)] at h
      cases h
section
variable {P : Program} {w : World} {K : PySem.W.Frag} {mg : Str → Option Value} {base : Heap}
def spLCells : Sp := fun vs H Q _ => ∃ (a : Addr) (n : Nat) (es : List Ed), vs = [.int (n : Int), .ref a] ∧ EdT H a es ∧ CN n es ∧ n ≤ 12 ∧ es.length ≤ 100 ∧ ∀ H' r, Same H H' → H r = none → CsL H' r (cel n es) → Q (.ref r) H'
abbrev nLc : List Str := ["_law_many", "_law_ties_here", "_law_here", "_law_reached_here", "_law_found", "_law_cell", "_law_at", "_law_far", "_law_row"]
theorem scLCells : FnScope nLc ["_law_many", "_law_ties_here"] (defScope sLCells) := ⟨rfl, rfl, rfl, by decide +kernel, rfl, by decide +kernel, by decide +kernel⟩
theorem cal_lcells (T : Txt mg) (GR : Cal P w K mg base "_law_reached" 2 spReached) (D : Df K mg "_law_cells" sLCells ["_law_many", "_law_ties_here"]) : Cal P w K mg base "_law_cells" 3 spLCells := by
  have nd := scLCells.nd
  refine cal_of D scLCells (fun vs H Q E h => ?_) (fun f cdv A outer s0 H vs Q E hr h => ?_)
  · obtain ⟨a, n, es, rfl, _⟩ := h
    rfl
  · obtain ⟨a, n, es, rfl, he, cn, hn, hl, q⟩ := h
    refine ⟨_, pss_cons (ps_set (i := 3) nd rfl (.inr rfl) (pe_lc (own := [("_law_at", 6)]) (g := gName 6) (by rfl) nd (pi_range1 (by rfl) T.range (pa_cons (pe_callB cr_len (by rfl) T.len PySem.boot_len (pa_cons (pv 1) pa_nil)) pa_nil))
          (blkOk_by (own := [("_law_at", 6)]) (N := nLc) (sc := defScope sLCells) (by decide +kernel)) (fun _ _ _ _ _ => pg_name (i := 6) nd rfl (.inr rfl)) (fun _ _ _ _ _ => pts_nil)
          (fun _ _ _ _ _ => pe_lc (own := [("_law_here", 2)]) (g := gName 2) (by rfl) nd (pi_range1 (by rfl) T.range (pa_cons (pv 0) pa_nil))
            (blkOk_by (own := [("_law_here", 2)]) (N := nLc) (sc := scLc1) (by decide +kernel)) (fun _ _ _ _ _ => pg_name (i := 2) nd rfl (.inl rfl)) (fun _ _ _ _ _ => pts_nil)
            (fun _ _ _ _ _ => pe_cl GR (by exact hr) (by rfl) (pa_cons (pv 1) (pa_cons (pv 2) (pa_cons (pv 6) pa_nil)))))))
      <| pss_cons (ps_set (i := 4) nd rfl (.inl rfl) (pe_lst pa_nil))
      <| pss_cons (ps_for PassesOwn.never rfl (pi_range1 (by rfl) T.range (pa_cons (pv 0) pa_nil)) (pg_name (i := 2) nd rfl (.inr rfl))
          (pss_cons (ps_setLc (i := 5) (own := [("_law_far", 7)]) (g := gName 7) (by rfl) nd rfl rfl (sw_true rfl rfl rfl (by decide +kernel)) (pi_range1 (by rfl) T.range (pa_cons (pv 0) pa_nil))
              (blkOk_by (own := [("_law_far", 7)]) (N := nLc) (sc := defScope sLCells) (by decide +kernel)) (fun _ _ _ _ _ => pg_name (i := 7) nd rfl (.inr rfl))
              (fun _ _ _ _ _ => pts_one (pt_cmpR (r := rEqD K) (op_eqD (by exact hr.units)) (pe_lc (own := [("_law_row", 8)]) (wi := iList K (tVar 3)) (g := gName 8) (by rfl) nd (pi_list (pv 3))
                (blkOk_by (own := [("_law_row", 8)]) (N := nLc) (sc := scLc2) (by decide +kernel)) (fun _ _ _ _ _ => pg_name (i := 8) nd rfl (.inl rfl))
                (fun _ _ _ _ _ => pts_one (pt_cmpR (r := rIn K true) op_notIn_seq (pv 7) (pe_ix (r := rIxL K) ix_list (pv 8) (pv 2) (fun _ _ => rfl)) (by rfl)))
                (fun _ _ _ _ _ => pe_int)) (pe_lst pa_nil) (nomark _)))
              (fun _ _ _ _ _ => pv 7))
          <| pss_one (ps_if (pt_cmpR op_eq (pe_ix (r := rIxL K) ix_list (pv 5) pe_int (fun _ _ => rfl)) (pv 2) (nomark _))
              (pss_one (ps_expr (pe_bm PySem.F.plainAttrs_list PySem.F.slot_list_append PySem.F.type_list_append mt_append (pv 4) (pa_cons (pe_callTy call_tuple_of (by rfl) T.tuple (by decide +kernel) (pa_cons (pv 5) pa_nil)) pa_nil)))) pss_nil)))
      <| pss_one (ps_ret (pv 4)), ?_⟩
    obtain ⟨ks, k1, k2, k3⟩ := id he
    have kl := ed_len k2
    have ve := cn.2.1
    have n1 := cn.1
    refine ⟨_, rfl, a, _, rfl, .inr (sq_of k1), _, rfl, by rw [nv_len]; omega, by rw [nv_len]; omega, ?_⟩
    rw [nv_len, kl, Int.toNat_natCast]
    refine fun D nD => lc_it walk_rg0 (fun i H' => Same H H' ∧ ∃ rs : List Addr, H' D = some (.lst (rs.map V.ref)) ∧ rs.length = i ∧ ∀ j r, rs[j]? = some r → RowAt D H' n es j r n) ⟨same_upd nD, [], upd_same, rfl, fun j r h => nomatch h⟩ (fun _ _ _ _ => trivial) ?_ ?_
    · rintro i x _ H2 hi ⟨sm, rs, hD, rl, hrs⟩ ⟨rfl, rfl⟩
      refine ⟨rfl, _, rfl, _, rfl, by omega, by omega, ?_⟩
      rw [Int.toNat_natCast]
      refine fun D2 nD2 => lc_it walk_rg0 (fun s H' => Same H2 H' ∧ ∃ cs : List (Addr × List Nat), H' D2 = some (.lst (cs.map fun c => V.ref c.1)) ∧ cs.length = s ∧ ∀ t c, cs[t]? = some c → c.1 ≠ D ∧ c.1 ≠ D2 ∧ H' c.1 = some (.lst (NV c.2)) ∧ Rd1 n es i t c.2) ⟨same_upd nD2, [], upd_same, rfl, fun j r h => nomatch h⟩ (fun _ _ _ _ => trivial) ?_ ?_
      · rintro s x _ H4 hs ⟨sm4, cs, hD2, cl, hcs⟩ ⟨rfl, rfl⟩
        refine ⟨rfl, _, rfl, _, rfl, _, rfl, a, n, es, s, i, rfl, he.same (sm.trans sm4), ve, hs, hn, hl, fun H5 r S s5 nr hr5 rd => ?_⟩
        refine ⟨_, s5 _ _ hD2, ?_, fun b o e => ?_, cs ++ [(r, S)], ?_, by rw [List.length_append, cl]; rfl, fun t c hc => ?_⟩
        · rw [List.length_map, cl]
          exact small1000 (by omega)
        · rw [upd_ne (ne_of_none e nD2)]
          exact s5 _ _ (sm4 _ _ e)
        · rw [upd_same, List.map_append]
          rfl
        · rcases getElem_snoc hc with m | ⟨m, rfl⟩
          · obtain ⟨c1, c2, c3, c4⟩ := hcs t c m
            exact ⟨c1, c2, by rw [upd_ne c2]; exact s5 _ _ c3, c4⟩
          · have r1 : r ≠ D := (ne_of_none (sm4 _ _ hD) nr).symm
            have r2 : r ≠ D2 := (ne_of_none hD2 nr).symm
            refine ⟨r1, r2, by rw [upd_ne r2]; exact hr5, ?_⟩
            rw [m, cl]
            exact rd
      · rintro H4 ⟨sm4, cs, hD2, cl, hcs⟩
        have hD4 := sm4 _ _ hD
        refine ⟨_, hD4, ?_, fun b o e => ?_, rs ++ [D2], ?_, by rw [List.length_append, rl]; rfl, fun j r hr2 => ?_⟩
        · rw [List.length_map, rl]
          exact small1000 (by omega)
        · rw [upd_ne (ne_of_none e nD)]
          exact sm4 _ _ (sm _ _ e)
        · rw [upd_same, List.map_append]
          rfl
        · rcases getElem_snoc hr2 with m | ⟨m, rfl⟩
          · exact (hrs j r m).same fun b o nb e => by rw [upd_ne nb]; exact sm4 _ _ e
          · have d2 : r ≠ D := (ne_of_none hD nD2).symm
            refine ⟨cs, by rw [upd_ne d2]; exact hD2, cl, d2, fun t c hc => ?_⟩
            obtain ⟨c1, c2, c3, c4⟩ := hcs t c hc
            refine ⟨c1, by rw [upd_ne c1]; exact c3, ?_⟩
            rw [m, rl]
            exact c4
    · rintro H2 ⟨sm, rs, hD, rl, hrs⟩
      refine ⟨Nat.zero_le _, fun F nF => ?_⟩
      have sF := same_upd (o := .lst []) nF
      have hF1 : upd H2 F (.lst []) F = some (.lst []) := upd_same
      have hD1 := sF _ _ hD
      have sm1 := sm.trans sF
      have hrs1 : ∀ j r, rs[j]? = some r → RowAt D (upd H2 F (.lst [])) n es j r n := fun j r h => (hrs j r h).same fun b o _ e => sF _ _ e
      have nF0 := sm.free nF
      have DF : D ≠ F := ne_of_none hD nF
      -- none of the searched lists is the one at F
      have av : ∀ j r, rs[j]? = some r → ∃ cs : List (Addr × List Nat), upd H2 F (.lst []) r = some (.lst (cs.map fun c => V.ref c.1)) ∧ cs.length = n ∧ r ≠ F ∧ ∀ s c, cs[s]? = some c → c.1 ≠ F ∧ upd H2 F (.lst []) c.1 = some (.lst (NV c.2)) ∧ Rd1 n es j s c.2 := fun j r h => by
        obtain ⟨cs, c1, c2, c3, c4⟩ := hrs j r h
        exact ⟨cs, sF _ _ c1, c2, ne_of_none c1 nF, fun s c hc => ⟨ne_of_none (c4 s c hc).2.1 nF, sF _ _ (c4 s c hc).2.1, (c4 s c hc).2.2⟩⟩
      generalize upd H2 F (.lst []) = H1 at *
      have lb := lb_lj (okE_ve (ok := fun j => !decide (j ∈ brg n es)) ve)
      change Lb n (inn n es) (lj n (inn n es)) at lb
      have eC : cel n es = (rtTo (lj n (inn n es)) n).map (cls n (lj n (inn n es))) := rfl
      have sameI : ∀ u v, u < n → v < n → (ap (lj n (inn n es)) u = ap (lj n (inn n es)) v ↔ ∀ i, i < es.length → Rch (es.eraseIdx i) u v) := fun u v hu hv => (lj_same (okE_ve ve) hu hv).trans (sep cn hu hv)
      rw [eC] at q
      generalize lj n (inn n es) = L at *
      refine ⟨_, rfl, _, rfl, by omega, by omega, ?_⟩
      rw [Int.toNat_natCast]
      refine for_it walk_rg0 (fun i σ H' => ∃ v2 v5, σ = [some (.int (n : Int)), some (.ref a), v2, some (.ref D), some (.ref F), v5, none, none, none] ∧ (∀ b o, b ≠ F → H1 b = some o → H' b = some o) ∧ CsL H' F ((rtTo L i).map (cls n L))) ⟨_, _, rfl, fun b o _ e => e, [], hF1, rfl, fun k hk => nomatch hk⟩ (fun _ _ _ _ _ => trivial) ?_ ?_
      · rintro i x σ _ H3 hi ⟨v2, v5, rfl, kp, hF⟩ ⟨rfl, rfl⟩
        refine ⟨_, rfl, _, rfl, by omega, by omega, ?_⟩
        rw [Int.toNat_natCast]
        refine fun Dc nDc => lc_it walk_rg0 (fun j H' => Same H3 H' ∧ H' Dc = some (.lst (NV (grp L j (ap L i))))) ⟨same_upd nDc, upd_same⟩ (fun _ _ _ _ => trivial) ?_ ?_
        · rintro j x _ H4 hj ⟨sm4, hDc⟩ ⟨rfl, rfl⟩
          have hD4 := sm4 _ _ (kp D _ DF hD1)
          refine ⟨rfl, _, rfl, D, rfl, ⟨_, sl_of hD4⟩, fun D4 nD4 => lc_it (walk_list (xs := rs.map V.ref)) (fun k H' => Same H4 H' ∧ ∃ on : List Nat, H' D4 = some (.lst (NV on)) ∧ on.length ≤ k ∧ (on = [] ↔ ∀ t, t < k → Rch (es.eraseIdx t) i j)) ⟨same_upd nD4, [], upd_same, Nat.le_refl _, by simp⟩ (fun k H' _ ⟨s, _⟩ => sl_of (s _ _ hD4)) ?_ ?_⟩
          · rintro k y _ H5 hk ⟨sm5, on, hon, ol, oi⟩ ⟨rfl, hy⟩
            rw [List.length_map, rl] at hk
            obtain ⟨r, hr5⟩ : ∃ r, rs[k]? = some r := ⟨rs[k], List.getElem?_eq_getElem (by omega)⟩
            rw [List.getElem?_map, hr5] at hy
            obtain rfl : V.ref r = y := Option.some.inj hy
            obtain ⟨cs, c1, c2, c3, c4⟩ := av k r hr5
            obtain ⟨c, hc⟩ : ∃ c, cs[i]? = some c := ⟨cs[i], List.getElem?_eq_getElem (by omega)⟩
            obtain ⟨c5, c6, c7⟩ := c4 i c hc
            have up : ∀ b o, b ≠ F → H1 b = some o → H5 b = some o := fun b o nb e => sm5 _ _ (sm4 _ _ (kp b o nb e))
            have hxx : (cs.map fun c => V.ref c.1)[i]? = some (V.ref c.1) := by rw [List.getElem?_map, hc]; rfl
            have ind : ∀ on' : List Nat, (on' = [] ↔ (on = [] ∧ j ∈ c.2)) → (on' = [] ↔ ∀ t, t < k + 1 → Rch (es.eraseIdx t) i j) := fun on' h => by
              rw [h, oi, c7.mem]
              constructor
              · rintro ⟨h1, h2⟩ t ht
                by_cases z : t = k
                · subst z; exact h2
                · exact h1 t (by omega)
              · intro h1
                exact ⟨fun t ht => h1 t (by omega), h1 k (by omega)⟩
            refine ⟨rfl, _, rfl, _, rfl, _, rfl, r, _, _, _, rfl, rfl, sl_of (up _ _ c3 c1), atI_nat hxx, c.1, _, rfl, .inl (sl_of (up _ _ c5 c6)), rfl, flat_NV _, _, rfl, ?_⟩
            rw [inV_NV]
            by_cases z : j ∈ c.2
            · rw [decide_eq_true z]
              exact iteF ⟨sm5, on, hon, by omega, ind on (by simp [z])⟩
            · rw [decide_eq_false z]
              refine iteT ⟨_, hon, ?_, fun b o e => ?_, on ++ [1], ?_, by rw [List.length_append]; show on.length + 1 ≤ _; omega, ind _ (by simp [z])⟩
              · rw [NV_len]
                exact small1000 (by omega)
              · rw [upd_ne (ne_of_none e nD4)]
                exact sm5 _ _ e
              · rw [upd_same, NV_snoc]
                rfl
          · rintro H5 ⟨sm5, on, hon, ol, oi⟩
            rw [List.length_map, rl] at oi
            have oi2 := oi.trans (sameI i j hi hj).symm
            refine ⟨Nat.zero_le _, fun l nl => ?_⟩
            have s6 := same_upd (o := .lst []) nl
            have hl6 : upd H5 l (.lst []) l = some (.lst (([] : List Int).map V.int)) := upd_same
            have hon6 := s6 _ _ hon
            have hDc6 := s6 _ _ (sm5 _ _ hDc)
            have sm6 := (sm4.trans sm5).trans s6
            generalize upd H5 l (.lst []) = H6 at *
            refine ⟨_, _, dp_li (ns := NI on) (sl_of (by rw [← NV_NI]; exact hon6)), dp_li (ns := []) (sl_of hl6), shaped_li _, shaped_li _, _, rfl, ?_⟩
            rw [eqv_li, grp_succ]
            by_cases z : on = []
            · have zL := oi2.mp z
              rw [show decide (NI on = []) = true from decide_eq_true (by rw [z]; rfl), if_pos zL.symm]
              refine iteT ⟨_, rfl, _, hDc6, ?_, fun b o e => ?_, by rw [upd_same, NV_snoc]⟩
              · rw [NV_len]
                unfold grp
                exact Nat.lt_of_le_of_lt (List.length_filter_le _ _) (by rw [List.length_range]; exact small1000 (by omega))
              · rw [upd_ne (ne_of_none e nDc)]
                exact sm6 _ _ e
            · have zL : ¬ ap L j = ap L i := fun y => z (oi2.mpr y.symm)
              rw [show decide (NI on = []) = false from decide_eq_false (fun y => z (NI_inj (p := on) (q := []) y)), if_neg zL, List.append_nil]
              exact iteF ⟨sm6, hDc6⟩
        · rintro H4 ⟨sm4, hDc⟩
          have rt := root_ap lb hi
          obtain ⟨t, ht⟩ := cls_head lb rt.1 rt.2
          have hDc : H4 Dc = some (.lst (NV (cls n L (ap L i)))) := hDc
          have at0 : atI (NV (cls n L (ap L i))) 0 = some (.int ((ap L i : Nat) : Int)) := by
            rw [ht]
            exact atI_nat (j := 0) (NV_get (p := ap L i :: t) (i := 0) rfl)
          obtain ⟨js, j1, j2, j3⟩ := hF.same sm4
          have kpE : ∀ b o, b ≠ F → H1 b = some o → H4 b = some o := fun b o nb e => sm4 _ _ (kp b o nb e)
          refine ⟨_, rfl, Dc, _, _, _, rfl, rfl, sl_of hDc, at0, _, rfl, rfl, _, rfl, ?_⟩
          rw [rtTo_succ]
          by_cases hs : ap L i = i
          · rw [if_pos hs]
            refine ite2 (fun _ => ?_) (fun c => absurd (by rw [hs]; exact decide_eq_true rfl) c)
            refine ⟨_, rfl, .inl ⟨rfl, _, sl_of j1⟩, _, rfl, Dc, _, rfl, .inl ⟨sl_of hDc, fun t nt => ?_⟩⟩
            have st1 := same_upd (o := .tup (NV (cls n L (ap L i)))) nt
            have ht1 : upd H4 t (.tup (NV (cls n L (ap L i)))) t = some (.tup (NV (cls n L (ap L i)))) := upd_same
            rw [hs] at ht1
            refine ⟨F, _, _, rfl, rfl, st1 _ _ j1, ?_, ?_⟩
            · rw [nv_len, cs_len j2, List.length_map]
              exact Nat.lt_of_le_of_lt (rtTo_len L i) (small1000 (by omega))
            · refine ⟨_, _, rfl, fun b o nb e => ?_, ?_⟩
              · rw [upd_ne nb]
                exact st1 _ _ (kpE b o nb e)
              · rw [List.map_append]
                rw [hs] at st1 ⊢
                exact csl_snoc j2 (fun k hk => st1 _ _ (j3 k hk)) ht1 (st1 _ _ j1)
          · rw [if_neg hs, List.append_nil]
            refine ite2 (fun c => absurd (of_decide_eq_true c) (fun q => hs (by injection q with q; omega))) (fun _ => ?_)
            exact ⟨_, _, rfl, kpE, js, j1, j2, j3⟩
      · rintro σ H3 ⟨v2, v5, rfl, kp, hF⟩
        refine ⟨_, rfl, q H3 F (fun b o e => kp b o (fun z => ?_) (sm1 _ _ e)) nF0 hF⟩
        rw [z, nF0] at e
        cases e
end
end Hw

namespace Hw
open PySem PySem.Spec PyProof.Rows L2 ClX
section
variable {X : Cx}
theorem reads_all {H : Hp} {pins : List (Addr × Obj)} {σ : L2.St} {st : Shared} (I : L2.Inv X pins σ H st) : ∀ ks : List (Addr × List Nat), (∀ k ∈ ks, Tp H k.1 k.2) → ReadsAll st.heap (ks.map fun k => Value.ref k.1) ((ks.map (·.2)).map dT) []
  | [], _ => .nil
  | k :: ks, h => .cons (as := []) (bs := []) (reads_dT I (h k List.mem_cons_self)) (reads_all I ks fun l hl => h l (List.mem_cons_of_mem _ hl))
theorem vals_refsN : ∀ {ks : List (Addr × List Nat)} {us : List Value}, Vals (ks.map fun k => V.ref k.1) us → us = ks.map fun k => Value.ref k.1
  | [], _, .nil => rfl
  | k :: ks, _, .cons r t => by
    obtain rfl : _ = Value.ref k.1 := r
    rw [vals_refsN t]
    rfl
def rReprC : List V → Hp → VK → Prop := fun vs H Q => ∃ (a : Addr) (cs : List (List Nat)), vs = [.ref a] ∧ CsAt H a cs ∧ SmC cs ∧ Q (.str (dCT cs).shown) H
theorem cr_reprC (g : NoG X.A) (hu : X.A.units + 64 < cLine) : CallR X (.builtin "repr") rReprC := by
  rintro pins st σ H vs us Q I r ⟨a, cs, rfl, ⟨ks, k1, k2, k3⟩, sm, q⟩
  rw [Vals.ref1 r]
  obtain ⟨its, rv, ⟨o, ho, hc, n, hd⟩, _⟩ := I.tuple (sq_of (K := X.K) k1)
  have ei := vals_refsN rv
  have ra := reads_all I ks k3
  rw [k2, ← ei] at ra
  have rd : Reads st.heap (.ref a) (dCT cs) [] := Reads.tuple ho hc hd (by simpa using ra)
  obtain ⟨a1, a2, a3, a4, a5⟩ := all_dCT cs sm.2
  have hd0 : (dCT cs).hasDict = false := PyData.hasDict_of_canLay _ a2
  have dp : (dCT cs).depth ≤ 2 := by
    show PyData.depthAll (cs.map dT) + 1 ≤ 2
    omega
  refine repr_of_reads' rd a1 (fun z => by rw [hd0] at z; cases z) g (by omega) (fun _ _ e => e) (fun h' u tk kp => ?_) (line_dCT sm)
  exact ⟨.str _, H, I.kept kp, ⟨_, rfl⟩, q⟩
end
/-! ### small enough to be shown -/
theorem sm_brg {n : Nat} {es : List Ed} (h : es.length ≤ 17) : Sm (brg n es) := by
  refine ⟨Nat.le_trans (bro_len es) (by omega), fun x hx => ?_⟩
  have := List.mem_range.mp (List.mem_filter.mp hx).1
  omega
theorem smc_cel {n : Nat} {es : List Ed} (h : n ≤ 12) : SmC (cel n es) := by
  unfold cel celL
  refine ⟨?_, fun c hc => ?_⟩
  · rw [List.length_map]
    exact Nat.le_trans (rtTo_len _ n) (by omega)
  · obtain ⟨l, _, rfl⟩ := List.mem_map.mp hc
    unfold cls
    refine ⟨Nat.le_trans (List.length_filter_le _ _) (by rw [List.length_range]; omega), fun x hx => ?_⟩
    have := List.mem_range.mp (List.mem_filter.mp hx).1
    omega
theorem rd1_len {n : Nat} {es : List Ed} {wo : Nat} {S : List Nat} (h : Rd1 n es wo 0 S) (ve : VE n es) (hn : 1 ≤ n) : S.length < n ↔ ¬ cB n (es.eraseIdx wo) = true := by
  have le := len_le n _ h.nd h.lt
  rw [cB_iff (ve_erase ve) hn]
  constructor
  · intro lt c
    have p : S.Perm (List.range n) := perm_of_mem h.nd List.nodup_range fun x => ⟨fun m => List.mem_range.mpr (h.lt x m), fun m => (h.mem x).mpr (c x (List.mem_range.mp m))⟩
    have := p.length_eq
    rw [List.length_range] at this
    omega
  · intro nc
    by_cases z : S.length = n
    · exfalso
      refine nc fun v hv => (h.mem v).mp ?_
      exact isP_mem ⟨h.nd, fun x hx => by rw [z]; exact h.lt x hx⟩ (by rw [z]; exact hv)
    · omega
section
variable {P : Program} {w : World} {K : PySem.W.Frag} {mg : Str → Option Value} {base : Heap}
structure RtC (P : Program) (w : World) (K : PySem.W.Frag) (mg : Str → Option Value) (base : Heap) (C : Addr) : Prop where
  net : NetOk P w K mg base C
  reached : Cal P w K mg base "_law_reached" 2 spReached
  cells : Cal P w K mg base "_law_cells" 3 spLCells
  weak : Cal P w K mg base "_law_weak" 2 spWeak
  blocks : Cal P w K mg base "_law_blocks" 3 spBlocks
def spRight : Sp := fun vs H Q _ => ∃ (a : Addr) (n : Nat) (es : List Ed), vs = [.int (n : Int), .ref a] ∧ EdT H a es ∧ CN n es ∧ n ≤ 12 ∧ es.length ≤ 16 ∧ ∀ H', Same H H' → Q (.bl true) H'
abbrev nRt : List Str := ["_law_many", "_law_ties_here", "_law_net", "_law_at", "_law_weak_here", "_law_cells_there", "_law_again", "_law_wide", "_law_cell"]
theorem scRight : FnScope nRt ["_law_many", "_law_ties_here"] (defScope sRight) := ⟨rfl, rfl, rfl, by decide +kernel, rfl, by decide +kernel, by decide +kernel⟩
theorem cal_right {C : Addr} (T : Txt mg) (G : RtC P w K mg base C) (D : Df K mg "_law_right" sRight ["_law_many", "_law_ties_here"]) : CalG P w K mg base "_law_right" 8 ["_law_many", "_law_ties_here"] spRight := by
  have nd := scRight.nd
  refine calG_of D scRight (fun vs H Q E h => ?_) (fun f cdv A outer s0 H vs Q E hg hr h => ?_)
  · obtain ⟨a, n, es, rfl, _⟩ := h
    rfl
  · obtain ⟨a, n, es, rfl, he, cn, hn, hl, q⟩ := h
    have hr2 := hr.mono (show 2 ≤ 7 by decide)
    have hr3 := hr.mono (show 3 ≤ 7 by decide)
    have hu := hr.units
    refine ⟨_, pss_cons (ps_set (i := 2) nd rfl (.inl rfl) (pe_net G.net hr (by rfl) (pa_cons (pv 0) (pa_cons (pv 1) pa_nil))))
      <| pss_cons (ps_setLc (i := 4) (own := [("_law_at", 3)]) (g := gName 3) (by rfl) nd rfl rfl (sw_true rfl rfl rfl (by decide +kernel)) (pi_range1 (by rfl) T.range (pa_cons (pe_callB cr_len (by rfl) T.len PySem.boot_len (pa_cons (pv 1) pa_nil)) pa_nil))
          (blkOk_by (own := [("_law_at", 3)]) (N := nRt) (sc := defScope sRight) (by decide +kernel)) (fun _ _ _ _ _ => pg_name (i := 3) nd rfl (.inl rfl))
          (fun _ _ _ _ _ => pts_one (pt_cmpR op_lt (pe_callB (r := rLenS K) cr_len (by rfl) T.len PySem.boot_len (pa_cons (pe_cl G.reached (by exact hr2) (by rfl) (pa_cons (pv 1) (pa_cons pe_int (pa_cons (pv 3) pa_nil)))) pa_nil)) (pv 0) (nomark _)))
          (fun _ _ _ _ _ => pv 3))
      <| pss_cons (ps_set (i := 5) nd rfl (.inl rfl) (pe_cl G.cells hr3 (by rfl) (pa_cons (pv 0) (pa_cons (pv 1) pa_nil))))
      <| pss_cons (ps_for PassesOwn.never rfl (pi_range1 (by rfl) T.range (pa_cons pe_int pa_nil)) (pg_name (i := 6) nd rfl (.inl rfl))
          (pss_one (ps_if (PW.pt (pw_or (pt_cmpR op_ne (pe_callB (cr_reprT (hg.deeper _) hu) (by rfl) T.repr (by decide +kernel) (pa_cons (pe_brg G.net hr2 (pv 2)) pa_nil)) (pe_callB (cr_reprT (hg.deeper _) hu) (by rfl) T.repr (by decide +kernel) (pa_cons (pe_callTy call_tuple_of (by rfl) T.tuple (by decide +kernel) (pa_cons (pv 4) pa_nil)) pa_nil)) (nomark _))
            (pw_or1 (pt_cmpR op_ne (pe_callB (cr_reprC (hg.deeper _) hu) (by rfl) T.repr (by decide +kernel) (pa_cons (pe_cel G.net hr2 (pv 2)) pa_nil)) (pe_callB (cr_reprC (hg.deeper _) hu) (by rfl) T.repr (by decide +kernel) (pa_cons (pe_callTy call_tuple_of (by rfl) T.tuple (by decide +kernel) (pa_cons (pv 5) pa_nil)) pa_nil)) (nomark _)))))
            (pss_one ps_never) pss_nil)))
      <| pss_cons (ps_if (PW.pt (pw_or (pt_cmpR op_ne (pe_callB (cr_sum rfl) (by rfl) T.sum (by decide +kernel) (pa_cons (pe_lc (own := [("_law_cell", 8)]) (g := gName 8) (by rfl) nd (pi_tup (pe_cel G.net hr2 (pv 2)))
            (blkOk_by (own := [("_law_cell", 8)]) (N := nRt) (sc := defScope sRight) (by decide +kernel)) (fun _ _ _ _ _ => pg_name (i := 8) nd rfl (.inl rfl)) (fun _ _ _ _ _ => pts_nil)
            (fun _ _ _ _ _ => pe_callB (r := rLenS K) cr_len (by rfl) T.len PySem.boot_len (pa_cons (pv 8) pa_nil))) pa_nil)) (pv 0) (nomark _))
          (pw_or1 (pt_cmpR op_ne (pe_callB cr_len (by rfl) T.len PySem.boot_len (pa_cons (pe_cel G.net hr2 (pv 2)) pa_nil)) (pe_op op_add (pe_callB cr_len (by rfl) T.len PySem.boot_len (pa_cons (pe_brg G.net hr2 (pv 2)) pa_nil)) pe_int) (nomark _))))) (pss_one ps_never) pss_nil)
      <| pss_cons (ps_for PassesOwn.never rfl (pi_list (pe_slice sl_list (pv 4) po_none (po_some (pe_op op_sub pe_int (pe_callB cr_len (by rfl) T.len PySem.boot_len (pa_cons (pv 1) pa_nil)))))) (pg_name (i := 3) nd rfl (.inl rfl))
          (pss_cons (ps_set (i := 7) nd rfl (.inl rfl) (pe_net G.net hr (by rfl) (pa_cons (pv 0) (pa_cons (pe_op op_catA (pv 1) (pe_tup (pa_cons (pe_ix ix_tup (pv 1) (pv 3) (fun _ _ => rfl)) pa_nil))) pa_nil))))
          <| pss_one (ps_if (PW.pt (pw_or (pt_cmpR op_in_seq (pv 3) (pe_brg G.net hr2 (pv 7)) (by rfl)) (pw_or (pt_cmpR op_in_seq (pe_callB cr_len (by rfl) T.len PySem.boot_len (pa_cons (pv 1) pa_nil)) (pe_brg G.net hr2 (pv 7)) (by rfl))
              (pw_or1 (pt_cmpR op_ge (pe_callB cr_len (by rfl) T.len PySem.boot_len (pa_cons (pe_cel G.net hr2 (pv 7)) pa_nil)) (pe_callB cr_len (by rfl) T.len PySem.boot_len (pa_cons (pe_cel G.net hr2 (pv 2)) pa_nil)) (nomark _)))))) (pss_one ps_never) pss_nil)))
      <| pss_one (ps_ret (pe_and (pe_cmpR (op_eqD hu) (pv 4) (pe_cl G.weak hr2 (by rfl) (pa_cons (pv 0) (pa_cons (pv 1) pa_nil))) (nomark _)) (pe_one (pe_cmpR (op_eqD hu) (pv 5) (pe_cl G.blocks hr3 (by rfl) (pa_cons (pv 0) (pa_cons (pv 1) pa_nil))) (nomark _))))), ?_⟩
    have ve := cn.2.1
    have n1 := cn.1
    refine ⟨_, rfl, _, rfl, a, n, es, rfl, he, cn, hn, hl, fun H1 x s1 nx net => ?_⟩
    have he1 := he.same s1
    obtain ⟨ks, k1, k2, k3⟩ := id he1
    have kl := ed_len k2
    refine ⟨_, rfl, a, _, rfl, .inr (sq_of k1), _, rfl, by rw [nv_len]; omega, by rw [nv_len]; omega, ?_⟩
    rw [nv_len, kl, Int.toNat_natCast]
    refine fun Dw nDw => lc_it walk_rg0 (fun i H' => Same H1 H' ∧ H' Dw = some (.lst (NV (brgTo n es i)))) ⟨same_upd nDw, upd_same⟩ (fun _ _ _ _ => trivial) ?_ ?_
    · rintro i x _ H2 hi ⟨sm, hD⟩ ⟨rfl, rfl⟩
      refine ⟨rfl, _, rfl, _, rfl, a, n, es, 0, i, rfl, he1.same sm, ve, n1, hn, by omega, fun H5 r S s5 nr hr5 rd => ?_⟩
      have hD5 := s5 _ _ hD
      refine ⟨r, _, rfl, .inl (sl_of hr5), _, rfl, _, _, rfl, rfl, _, rfl, ?_⟩
      rw [NV_len, brgTo_succ]
      have iff := rd1_len rd ve n1
      cases c : cB n (es.eraseIdx i) with
      | true =>
        rw [c] at iff
        rw [show decide ((S.length : Int) < (n : Int)) = false from decide_eq_false (by have : ¬ S.length < n := fun z => iff.mp z rfl; omega)]
        refine iteF ?_
        rw [if_pos rfl, List.append_nil]
        exact ⟨sm.trans s5, hD5⟩
      | false =>
        rw [c] at iff
        rw [show decide ((S.length : Int) < (n : Int)) = true from decide_eq_true (by have := iff.mpr (by decide); omega)]
        refine iteT ⟨_, rfl, _, hD5, ?_, fun b o e => ?_, ?_⟩
        · rw [NV_len]
          unfold brgTo
          exact Nat.lt_of_le_of_lt (List.length_filter_le _ _) (by rw [List.length_range]; exact small1000 (by omega))
        · rw [upd_ne (ne_of_none e nDw)]
          exact s5 _ _ (sm _ _ e)
        · rw [upd_same, if_neg (by decide), NV_snoc]
    · rintro H2 ⟨s12, hw⟩
      have hw : H2 Dw = some (.lst (NV (brg n es))) := hw
      refine ⟨_, rfl, _, rfl, a, n, es, rfl, he1.same s12, cn, hn, by omega, fun H3 lc s23 nlc hlc => ?_⟩
      have s13 := s12.trans s23
      have hw3 := s23 _ _ hw
      have net3 := net.same s13
      have he3 := he1.same s13
      have s03 := s1.trans s13
      have smB := sm_brg (n := n) (es := es) (by omega)
      have smC := smc_cel (n := n) (es := es) hn
      clear he he1 net hw k1 k3
      refine ⟨2, rfl, by decide, by decide, ?_⟩
      refine for_it (walk_rg0 (n := 2)) (fun i σ H' => ∃ v3 v6, σ = [some (.int (n : Int)), some (.ref a), some (.ref x), v3, some (.ref Dw), some (.ref lc), v6, none, none] ∧ Same H3 H') ⟨_, _, rfl, fun _ _ e => e⟩ (fun _ _ _ _ _ => trivial) ?_ ?_
      · rintro i y σ _ H4 hi ⟨v3, v6, rfl, sm⟩ ⟨rfl, rfl⟩
        refine ⟨_, rfl, x, n, es, rfl, net3.same sm, fun b hb => ?_⟩
        refine ⟨b, _, rfl, hb, smB, ?_⟩
        refine ⟨_, rfl, Dw, _, rfl, .inl ⟨sl_of (sm _ _ hw3), fun t nt => ?_⟩⟩
        have st := same_upd (o := .tup (NV (brg n es))) nt
        refine ⟨t, _, rfl, upd_same, smB, rfl, _, rfl, ite2 (fun z => by simp at z) (fun _ => ?_)⟩
        refine ⟨_, rfl, x, n, es, rfl, (net3.same sm).same st, fun b2 hb2 => ?_⟩
        refine ⟨b2, _, rfl, hb2, smC, ?_⟩
        obtain ⟨js, j1, j2, j3⟩ := (hlc.same sm).same st
        refine ⟨_, rfl, lc, _, rfl, .inl ⟨sl_of j1, fun t2 nt2 => ?_⟩⟩
        have st2 := same_upd (o := .tup (js.map fun k => V.ref k.1)) nt2
        refine ⟨t2, cel n es, rfl, ⟨js, upd_same, j2, fun k hk => st2 _ _ (j3 k hk)⟩, smC, rfl, _, rfl, ite2 (fun z => by simp at z) (fun _ => ?_)⟩
        exact ⟨_, _, rfl, (sm.trans st).trans st2⟩
      · rintro σ H4 ⟨v3, v6, rfl, s34⟩
        have hw4 := s34 _ _ hw3
        have hlc4 := hlc.same s34
        have net4 := net3.same s34
        have he4 := he3.same s34
        have s04 := s03.trans s34
        clear hw3 hlc net3 he3
        refine ⟨_, rfl, x, n, es, rfl, net4, fun b hb => ?_⟩
        obtain ⟨js, j1, j2, j3⟩ := id hb
        refine ⟨b, rfl, ⟨_, sq_of j1⟩, fun Ds nDs => lc_it (walk_tup (xs := js.map fun k => V.ref k.1)) (fun i H' => Same H4 H' ∧ H' Ds = some (.lst (NV (((cel n es).take i).map List.length)))) ⟨same_upd nDs, upd_same⟩ (fun i H' _ ⟨s, _⟩ => sq_of (s _ _ j1)) ?_ ?_⟩
        · rintro i y _ H5 hi ⟨sm, hD⟩ ⟨rfl, hy⟩
          obtain ⟨k, hk, rfl⟩ := refs_get hy
          have hc : (cel n es)[i]? = some k.2 := by
            rw [← j2, List.getElem?_map, hk]
            rfl
          refine ⟨rfl, _, rfl, k.1, _, rfl, .inr (sq_of (sm _ _ (j3 k (List.mem_of_getElem? hk)))), _, hD, ?_, fun b o e => ?_, ?_⟩
          · rw [NV_len, List.length_map, List.length_take]
            exact Nat.lt_of_le_of_lt (Nat.min_le_right _ _) (small1000 (Nat.le_trans smC.1 (by omega)))
          · rw [upd_ne (ne_of_none e nDs)]
            exact sm _ _ e
          · rw [upd_same, List.take_add_one, hc, List.map_append, NV_len]
            show _ = some (HO.lst (NV (((cel n es).take i).map List.length ++ [k.2.length])))
            rw [NV_snoc]
        · rintro H5 ⟨s45, hD⟩
          rw [nv_len, cs_len j2, List.take_length] at hD
          have sumI : ∀ l : List Nat, (NI l).sum = ((l.sum : Nat) : Int) := fun l => by
            induction l with
            | nil => rfl
            | cons x l ih =>
              show (x : Int) + (NI l).sum = ((x + l.sum : Nat) : Int)
              rw [ih]
              omega
          refine ⟨Ds, NI ((cel n es).map List.length), rfl, sl_of (by rw [← NV_NI]; exact hD), ?_⟩
          rw [sumI, cel_sum cn]
          refine ⟨_, rfl, rfl, _, rfl, ite2 (fun z => by simp at z) (fun _ => ?_)⟩
          have net5 := net4.same s45
          refine ⟨_, rfl, x, n, es, rfl, net5, fun b3 hb3 => ?_⟩
          obtain ⟨ls, l1, l2, l3⟩ := id hb3
          refine ⟨b3, _, rfl, .inr (sq_of l1), _, rfl, x, n, es, rfl, net5, fun b4 hb4 => ?_⟩
          refine ⟨b4, _, rfl, .inr (sq_of hb4), _, _, rfl, rfl, ?_⟩
          rw [nv_len, cs_len l2, NV_len, cel_len cn]
          refine ⟨rfl, _, rfl, ite2 (fun z => by simp at z) (fun _ => ?_)⟩
          have he5 := he4.same s45
          have hw5 := s45 _ _ hw4
          have hlc5 := hlc4.same s45
          have s05 := s04.trans s45
          clear he4 hw4 hlc4 net4 hb j1 j3
          obtain ⟨ks, k1, k2, k3⟩ := id he5
          have kl := ed_len k2
          refine ⟨_, rfl, _, rfl, a, _, rfl, .inr (sq_of k1), _, _, rfl, rfl, _, rfl, ?_⟩
          rw [nv_len, kl, show (16 : Int) - (es.length : Int) = ((16 - es.length : Nat) : Int) by omega]
          refine ⟨Dw, _, rfl, sl_of hw5, fun p np => ?_⟩
          rw [cut_to, NV_take]
          have s6 := same_upd (o := .lst (NV ((brg n es).take (16 - es.length)))) np
          have hp6 : upd H5 p (.lst (NV ((brg n es).take (16 - es.length)))) p = some (.lst (NV ((brg n es).take (16 - es.length)))) := upd_same
          generalize upd H5 p (.lst (NV ((brg n es).take (16 - es.length)))) = H6 at *
          have he6 := he5.same s6
          have net6 := net5.same s6
          refine ⟨p, rfl, ⟨_, sl_of hp6⟩, for_it (walk_list (xs := NV ((brg n es).take (16 - es.length)))) (fun i σ H' => ∃ v3 v6 v7, σ = [some (.int (n : Int)), some (.ref a), some (.ref x), v3, some (.ref Dw), some (.ref lc), v6, v7, none] ∧ Same H6 H') ⟨_, _, _, rfl, fun _ _ e => e⟩ (fun i σ H' _ ⟨_, _, _, _, s⟩ => sl_of (s _ _ hp6)) ?_ ?_⟩
          · rintro i y σ _ H7 hi ⟨v3, v6, v7, rfl, sm⟩ ⟨rfl, hy⟩
            obtain ⟨j, hj, rfl⟩ := NV_get' hy
            have hjb : j ∈ brg n es := List.mem_of_mem_take (List.mem_of_getElem? hj)
            have h16 : es.length + 1 ≤ 16 := by
              have := (List.getElem?_eq_some_iff.mp hj).1
              rw [List.length_take] at this
              omega
            have jl := ((mem_brg cn).mp hjb).1
            have hej := getD_at jl
            obtain ⟨kk, hkk, ekk⟩ := ed_at k2 hej
            have hxx : (ks.map fun k => V.ref k.1)[j]? = some (V.ref kk.1) := by rw [List.getElem?_map, hkk]; rfl
            have up : Same H5 H7 := s6.trans sm
            refine ⟨_, rfl, _, rfl, _, rfl, _, rfl, a, _, _, _, rfl, rfl, sq_of (up _ _ k1), atI_nat hxx, by show 1 ≤ sizeLine; decide, fun t nt => ?_⟩
            have st := same_upd (o := .tup [V.ref kk.1]) nt
            refine cat_any (st _ _ (up _ _ k1)) upd_same (by rw [nv_len]; show ks.length + 1 ≤ 1000; omega) fun p2 H8 s8 hp2 => ?_
            have ed8 : EdT H8 p2 (es ++ [es.getD j (0, 0)]) := by
              refine ⟨ks ++ [kk], by rw [hp2, List.map_append]; rfl, ?_, fun k hk => ?_⟩
              · rw [List.map_append, List.map_append, k2]
                show _ ++ [kk.2] = _ ++ [pl (es.getD j (0, 0))]
                rw [ekk]
              · rcases List.mem_append.mp hk with m | m
                · exact s8 _ _ (st _ _ (up _ _ (k3 k m)))
                · rw [List.mem_singleton.mp m]
                  exact s8 _ _ (st _ _ (up _ _ (k3 kk (List.mem_of_getElem? hkk))))
            have cw := cn.wide jl
            refine ⟨p2, n, es ++ [es.getD j (0, 0)], rfl, ed8, cw, hn, by rw [List.length_append]; exact h16, fun H9 x2 s9 nx2 net9 => ?_⟩
            have s79 := (st.trans s8).trans s9
            have bw := brg_wide cn hjb
            have less := wide_less cn hjb
            refine ⟨_, rfl, _, rfl, x2, n, _, rfl, net9, fun b5 hb5 => ?_⟩
            refine ⟨b5, _, rfl, .inr (sq_of hb5), rfl, flat_NV _, _, rfl, ?_⟩
            rw [inV_NV, decide_eq_false (fun m => (bw j m).2 rfl)]
            refine iteF ?_
            refine ⟨_, rfl, a, _, rfl, .inr (sq_of (s79 _ _ (up _ _ k1))), _, rfl, x2, n, _, rfl, net9, fun b6 hb6 => ?_⟩
            rw [nv_len, kl]
            refine ⟨b6, _, rfl, .inr (sq_of hb6), rfl, flat_NV _, _, rfl, ?_⟩
            rw [inV_NV, decide_eq_false (fun m => by have := ((mem_brg cn).mp (bw es.length m).1).1; omega)]
            refine iteF ?_
            refine ⟨_, rfl, x2, n, _, rfl, net9, fun b7 hb7 => ?_⟩
            obtain ⟨q1, q2, q3, q4⟩ := id hb7
            refine ⟨b7, _, rfl, .inr (sq_of q2), ?_⟩
            refine ⟨_, rfl, x, n, es, rfl, (net6.same sm).same s79, fun b8 hb8 => ?_⟩
            obtain ⟨r1, r2, r3, r4⟩ := id hb8
            refine ⟨b8, _, rfl, .inr (sq_of r2), _, _, rfl, rfl, _, rfl, ?_⟩
            rw [nv_len, nv_len, cs_len q3, cs_len r3]
            refine ite2 (fun z => ?_) (fun _ => ⟨_, _, _, rfl, sm.trans s79⟩)
            have := of_decide_eq_true z
            omega
          · rintro σ H7 ⟨v3, v6, v7, rfl, s67⟩
            have s07 := (s05.trans s6).trans s67
            have up : Same H5 H7 := s6.trans s67
            refine ⟨_, rfl, _, rfl, _, rfl, a, n, es, rfl, he5.same up, ve, n1, hn, by omega, fun H8 l8 s8 nl8 hl8 => ?_⟩
            have hw8 := s8 _ _ (up _ _ hw5)
            rw [NV_NI] at hw8 hl8
            refine ⟨_, _, dp_li (sl_of hw8), dp_li (sl_of hl8), shaped_li _, shaped_li _, ?_⟩
            rw [eqv_li, decide_eq_true rfl]
            refine ⟨_, rfl, iteT ?_⟩
            refine ⟨_, rfl, _, rfl, _, rfl, a, n, es, rfl, (he5.same up).same s8, ve, n1, hn, by omega, fun H9 l9 s9 nl9 hl9 => ?_⟩
            obtain ⟨js, j1, j2, j3⟩ := ((hlc5.same up).same s8).same s9
            obtain ⟨is, i1, i2, i3⟩ := hl9
            refine ⟨_, _, dp_cs (sl_of j1) j3 j2, dp_cs (sl_of i1) i3 i2, shaped_cs _, shaped_cs _, ?_⟩
            rw [eqv_cs]
            exact q _ ((s07.trans s8).trans s9)
end
end Hw

namespace Hw
open PySem PySem.Spec PyProof.Rows L2 ClX
def retVal : Stmt → Expr
  | .Return (some v) _ => v
  | _ => .Name "" ⟨0, 0, 0, 0⟩
def cmpL : Expr → Expr
  | .Compare a _ _ _ => a
  | e => e
def callA : Expr → Expr
  | .Call _ (a :: _) _ _ => a
  | e => e
abbrev scRr1 : Scope := relabel (lcScope (callA (cmpL (retVal ((defBody sRenRight).getD 4 (.Pass ⟨0, 0, 0, 0⟩)))))) { scope := defScope sRenRight, locals := 0, globals := 0, cells := [] }
theorem img_perm {n : Nat} {p c : List Nat} (hp : IsP p) (hl : p.length = n) (hc : c.Nodup) (lt : ∀ x ∈ c, x < n) : (img n p c).Perm (c.map (ap p)) := by
  have nd : (c.map (ap p)).Nodup := by
    rw [List.nodup_iff_pairwise_ne, List.pairwise_map]
    refine List.Pairwise.imp_of_mem (fun {a b} ha hb ne e => ne ?_) (List.nodup_iff_pairwise_ne.mp hc)
    exact ap_inj hp (by rw [hl]; exact lt a ha) (by rw [hl]; exact lt b hb) e
  refine perm_of_mem (List.Nodup.sublist List.filter_sublist List.nodup_range) nd fun y => ?_
  unfold img
  rw [List.mem_filter, decide_eq_true_eq, List.mem_range]
  refine ⟨fun z => z.2, fun z => ⟨?_, z⟩⟩
  obtain ⟨x, hx, rfl⟩ := List.mem_map.mp z
  rw [← hl]
  exact ap_lt hp (by rw [hl]; exact lt x hx)
theorem cel_mem_ok {n : Nat} {es : List Ed} {c : List Nat} (hc : c ∈ cel n es) : c.Nodup ∧ (∀ x ∈ c, x < n) ∧ c.length ≤ n := by
  unfold cel celL at hc
  obtain ⟨l, _, rfl⟩ := List.mem_map.mp hc
  refine ⟨List.Nodup.sublist List.filter_sublist List.nodup_range, fun x hx => (mem_cls.mp hx).1, ?_⟩
  unfold cls
  exact Nat.le_trans (List.length_filter_le _ _) (by rw [List.length_range]; exact Nat.le_refl _)
theorem cel_ne {n : Nat} {es : List Ed} (h : CN n es) {c : List Nat} (hc : c ∈ cel n es) : c ≠ [] := by
  obtain ⟨x, hx, rfl⟩ := (mem_cel h).mp hc
  intro e
  have m : x ∈ cls n (lj n (inn n es)) (ap (lj n (inn n es)) x) := (mem_clsr h hx).mpr ⟨hx, .refl _⟩
  rw [e] at m
  cases m
theorem cel_pw {n : Nat} {es : List Ed} (h : CN n es) : (cel n es).Pairwise fun c d => ¬ NI d < NI c := by
  refine List.Pairwise.imp (fun {c d} z y => ?_) (cel_rise h)
  obtain ⟨a, t, b, s, rfl, rfl, lt⟩ := z
  have y' : ((b : Int) :: NI s) < ((a : Int) :: NI t) := y
  rw [List.cons_lt_cons_iff] at y'
  omega
section
variable {P : Program} {w : World} {K : PySem.W.Frag} {mg : Str → Option Value} {base : Heap}
def spRenRight : Sp := fun vs H Q _ => ∃ (m lg lc a : Addr) (s n : Nat) (es : List Ed), vs = [.ref m, .int (n : Int), .ref a] ∧ MOk H m lg lc s ∧ s ≤ 90000 ∧ EdT H a es ∧ CN n es ∧ n ≤ 12 ∧ es.length ≤ 16 ∧
  ∀ H' s', Kp m lg H H' → s' ≤ s + 40 → MOk H' m lg lc s' → Q (.bl true) H'
abbrev nRr : List Str := ["_law_m", "_law_many", "_law_ties_here", "_law_names", "_law_row", "_law_other_ties", "_law_net", "_law_far", "_law_at", "_law_here", "_law_cell"]
theorem scRenRight : FnScope nRr ["_law_m", "_law_many", "_law_ties_here"] (defScope sRenRight) := ⟨rfl, rfl, rfl, by decide +kernel, rfl, by decide +kernel, by decide +kernel⟩
theorem EdT.kp {H H' : Hp} {l m lg lc : Addr} {s : Nat} {es : List Ed} (h : EdT H l es) (k : Kp m lg H H') (M : MOk H m lg lc s) : EdT H' l es := by
  obtain ⟨ks, a, b, c⟩ := h
  exact ⟨ks, k.tup M a, b, fun x hx => k.tup M (c x hx)⟩
theorem cal_renRight {C : Addr} (T : Txt mg) (N : NetOk P w K mg base C) (GT : Cal P w K mg base "_law_tie" 1 spTie) (GM : Cal P w K mg base "_law_mixed_up" 3 (spMixedUp K)) (D : Df K mg "_law_renamed_right" sRenRight ["_law_m", "_law_many", "_law_ties_here"]) :
    Cal P w K mg base "_law_renamed_right" 8 spRenRight := by
  have nd := scRenRight.nd
  refine cal_of D scRenRight (fun vs H Q E h => ?_) (fun f cdv A outer s0 H vs Q E hr h => ?_)
  · obtain ⟨m, lg, lc, a, s, n, es, rfl, _⟩ := h
    rfl
  · obtain ⟨m, lg, lc, a, s, n, es, rfl, M0, hs, he, cn, hn, hl, q⟩ := h
    have hr1 := hr.mono (show 1 ≤ 7 by decide)
    have hr2 := hr.mono (show 2 ≤ 7 by decide)
    have hr3 := hr.mono (show 3 ≤ 7 by decide)
    have hu := hr.units
    refine ⟨_, pss_cons (ps_asg (pe_tup (pa_cons (pe_cl GM hr3 (by rfl) (pa_cons (pv 0) (pa_cons (pe_listRg (by rfl) (by rfl) T.list (prg_1 (by rfl) T.range (pv 1))) pa_nil)))
          (pa_cons (pe_cl GM hr3 (by rfl) (pa_cons (pv 0) (pa_cons (pe_listRg (by rfl) (by rfl) T.list (prg_1 (by rfl) T.range (pe_callB cr_len (by rfl) T.len PySem.boot_len (pa_cons (pv 2) pa_nil)))) pa_nil))) pa_nil)))
          (pg_tup rfl (pgs_cons (pg_name (i := 3) nd rfl (.inr rfl)) (pgs_cons (pg_name (i := 4) nd rfl (.inr rfl)) pgs_nil))))
      <| pss_cons (ps_set (i := 5) nd rfl (.inl rfl) (pe_callTy call_tuple_of (by rfl) T.tuple (by decide +kernel) (pa_cons (pe_lc (own := [("_law_at", 8)]) (g := gName 8) (by rfl) nd (pi_list (pv 4))
          (blkOk_by (own := [("_law_at", 8)]) (N := nRr) (sc := defScope sRenRight) (by decide +kernel)) (fun _ _ _ _ _ => pg_name (i := 8) nd rfl (.inl rfl)) (fun _ _ _ _ _ => pts_nil)
          (fun _ _ _ _ _ => pe_cl GT (by exact hr1) (by rfl) (pa_cons (pe_ix (r := rIxL K) ix_list (pv 3) (pe_ix (r := rIxT K) ix_tup (pe_ix (r := rIxT K) ix_tup (pv 2) (pv 8) (fun _ _ => rfl)) pe_int (fun _ _ => rfl)) (fun _ _ => rfl))
            (pa_cons (pe_ix (r := rIxL K) ix_list (pv 3) (pe_ix (r := rIxT K) ix_tup (pe_ix (r := rIxT K) ix_tup (pv 2) (pv 8) (fun _ _ => rfl)) pe_int (fun _ _ => rfl)) (fun _ _ => rfl)) pa_nil)))) pa_nil)))
      <| pss_cons (ps_par (i := 6) (j := 7) (by rfl) nd rfl rfl (by decide) rfl rfl (pa_cons (pe_net N hr (by rfl) (pa_cons (pv 1) (pa_cons (pv 2) pa_nil))) (pa_cons (pe_net N hr (by rfl) (pa_cons (pv 1) (pa_cons (pv 5) pa_nil))) pa_nil)) (by rfl))
      <| pss_cons (ps_if (pt_cmpR (op_neD hu) (pe_callB cr_sorted (by rfl) T.sorted (by decide +kernel) (pa_cons (pe_lc (own := [("_law_at", 8)]) (g := gName 8) (by rfl) nd (pi_tup (pe_brg N hr2 (pv 7)))
            (blkOk_by (own := [("_law_at", 8)]) (N := nRr) (sc := defScope sRenRight) (by decide +kernel)) (fun _ _ _ _ _ => pg_name (i := 8) nd rfl (.inl rfl)) (fun _ _ _ _ _ => pts_nil)
            (fun _ _ _ _ _ => pe_ix (r := rIxL K) ix_list (pv 4) (pv 8) (fun _ _ => rfl))) pa_nil))
          (pe_callTy call_list_of (by rfl) T.list (by decide +kernel) (pa_cons (pe_brg N hr2 (pv 6)) pa_nil)) (nomark _)) (pss_one ps_never) pss_nil)
      <| pss_one (ps_ret (pe_cmpR (op_eqD hu) (pe_callB (cr_sortTN hu) (by rfl) T.sorted (by decide +kernel) (pa_cons (pe_lc (own := [("_law_cell", 10)]) (g := gName 10) (by rfl) nd (pi_tup (pe_cel N hr2 (pv 6)))
            (blkOk_by (own := [("_law_cell", 10)]) (N := nRr) (sc := defScope sRenRight) (by decide +kernel)) (fun _ _ _ _ _ => pg_name (i := 10) nd rfl (.inl rfl)) (fun _ _ _ _ _ => pts_nil)
            (fun _ _ _ _ _ => pe_callTy (T := "tuple") (r := rTupO K) cr_tupO (by rfl) T.tuple (by decide +kernel) (pa_cons (pe_callB (r := rSorted K) cr_sorted (by rfl) T.sorted (by decide +kernel) (pa_cons
              (pe_lc (own := [("_law_here", 9)]) (wi := iTup K (tVar 10)) (g := gName 9) (by rfl) nd (pi_tup (pv 10))
                (blkOk_by (own := [("_law_here", 9)]) (N := nRr) (sc := scRr1) (by decide +kernel)) (fun _ _ _ _ _ => pg_name (i := 9) nd rfl (.inl rfl)) (fun _ _ _ _ _ => pts_nil)
                (fun _ _ _ _ _ => pe_ix (r := rIxL K) ix_list (pv 3) (pv 9) (fun _ _ => rfl))) pa_nil)) pa_nil))) pa_nil))
          (pe_callTy call_list_of (by rfl) T.list (by decide +kernel) (pa_cons (pe_cel N hr2 (pv 7)) pa_nil)) (nomark _))), ?_⟩
    have ve := cn.2.1
    have n1 := cn.1
    -- the names
    refine ⟨_, rfl, _, rfl, _, rfl, RgOk.of_le (by omega) (by omega) (by omega) (by omega), fun l0 n0 => ?_⟩
    rw [NV_range]
    have s1 := same_upd (o := .lst (NV (List.range n))) n0
    have hl0 : upd H l0 (.lst (NV (List.range n))) l0 = some (.lst (NV (List.range n))) := upd_same
    have M1 := M0.same s1
    have he1 := he.same s1
    generalize upd H l0 (.lst (NV (List.range n))) = H1 at *
    refine ⟨m, lg, lc, l0, s, NV (List.range n), rfl, M1, .inl (sl_of hl0), by rw [NV_len, List.length_range]; omega, by rw [NV_len, List.length_range]; omega, fun H2 r1 ys hp kp2 nr1 hr1' M2 => ?_⟩
    rw [NV_len, List.length_range] at M2
    obtain ⟨p, rfl, pp⟩ := perm_NV hp
    obtain ⟨ip, pl'⟩ := isP_of_perm pp
    have he2 := he1.kp kp2 M1
    have k02 := (Kp.same s1).trans kp2
    have a1 := (M1.new nr1).1
    clear he he1 hl0 hp
    obtain ⟨ks2, k21, k22, k23⟩ := id he2
    refine ⟨_, rfl, _, rfl, a, _, rfl, .inr (sq_of k21), _, rfl, by rw [nv_len, ed_len k22]; exact RgOk.of_le (by omega) (by omega) (by omega) (by omega), fun l1 nl1 => ?_⟩
    rw [nv_len, ed_len k22, NV_range]
    have s3 := same_upd (o := .lst (NV (List.range es.length))) nl1
    have hl1 : upd H2 l1 (.lst (NV (List.range es.length))) l1 = some (.lst (NV (List.range es.length))) := upd_same
    have M3 := M2.same s3
    have he3 := he2.same s3
    have hr3' := s3 _ _ hr1'
    generalize upd H2 l1 (.lst (NV (List.range es.length))) = H3 at *
    refine ⟨m, lg, lc, l1, s + n, NV (List.range es.length), rfl, M3, .inl (sl_of hl1), by rw [NV_len, List.length_range]; omega, by rw [NV_len, List.length_range]; omega, fun H4 r2 ys hq kp4 nr2 hr2' M4 => ?_⟩
    rw [NV_len, List.length_range] at M4
    obtain ⟨qq, rfl, qp⟩ := perm_NV hq
    obtain ⟨iq, ql⟩ := isP_of_perm qp
    have he4 := he3.kp kp4 M3
    have hr4 := kp4.lst M3 a1 hr3'
    have k04 := (k02.trans (Kp.same s3)).trans kp4
    clear he2 he3 hl1 hq k21 k23 hr1' hr3'
    refine ⟨by show 2 ≤ sizeLine; decide, fun t nt => ?_⟩
    have s5 := same_upd (o := .tup [V.ref r1, V.ref r2]) nt
    have ht : upd H4 t (.tup [V.ref r1, V.ref r2]) t = some (.tup [V.ref r1, V.ref r2]) := upd_same
    have he5 := he4.same s5
    have hp5 := s5 _ _ hr4
    have hq5 := s5 _ _ hr2'
    have M5 := M4.same s5
    have k05 := k04.trans (Kp.same s5)
    generalize upd H4 t (.tup [V.ref r1, V.ref r2]) = H5 at *
    refine ⟨t, _, rfl, sq_of ht, rfl, _, _, rfl, _, _, rfl, rfl, ?_⟩
    clear he4 hr4 hr2' ht nt
    -- the other passages
    obtain ⟨ks, k1, k2, k3⟩ := id he5
    have kl := ed_len k2
    refine ⟨_, rfl, r2, rfl, ⟨_, sl_of hq5⟩, fun D nD => lc_it (walk_list (xs := NV qq)) (fun i H' => Same H5 H' ∧ EdL H' D ((renQ p qq es).take i)) ⟨same_upd nD, [], upd_same, rfl, fun k hk => nomatch hk⟩ (fun i H' _ ⟨sm, _⟩ => sl_of (sm _ _ hq5)) ?_ ?_⟩
    · rintro i y _ H6 hi ⟨sm, kd, hD, h2, h3⟩ ⟨rfl, hy⟩
      obtain ⟨j, hj, rfl⟩ := NV_get' hy
      have jl : j < es.length := by rw [← ql]; exact iq.2 j (List.mem_of_getElem? hj)
      have hej := getD_at jl
      obtain ⟨kk, hkk, ekk⟩ := ed_at k2 hej
      have hxx : (ks.map fun k => V.ref k.1)[j]? = some (V.ref kk.1) := by rw [List.getElem?_map, hkk]; rfl
      have tk := sm _ _ (k3 kk (List.mem_of_getElem? hkk))
      rw [ekk] at tk
      have ka := sm _ _ k1
      have hp6 := sm _ _ hp5
      have b := ve _ (List.mem_of_getElem? hej)
      have e2 : (renQ p qq es).take (i + 1) = (renQ p qq es).take i ++ [tieF (ap p (es.getD j (0, 0)).1) (ap p (es.getD j (0, 0)).2)] := by
        unfold renQ
        rw [List.take_add_one, List.getElem?_map, hj]
        rfl
      rw [e2]
      have rl : ((renQ p qq es).take i).length ≤ 16 := by
        rw [List.length_take, renQ_len iq ql]
        omega
      generalize es.getD j (0, 0) = e at *
      have g1 : p[e.1]? = some (ap p e.1) := ap_get (by omega)
      have g2 : p[e.2]? = some (ap p e.2) := ap_get (by omega)
      have p0 : atI (NV (pl e)) 0 = some (.int (e.1 : Int)) := rfl
      have p1 : atI (NV (pl e)) 1 = some (.int (e.2 : Int)) := rfl
      refine ⟨rfl, ?_⟩
      refine ⟨_, rfl, _, rfl, _, rfl, a, _, _, _, rfl, rfl, sq_of ka, atI_nat hxx, kk.1, _, _, _, rfl, rfl, sq_of tk, p0, r1, _, _, _, rfl, rfl, sl_of hp6, atI_nat (NV_get g1), ?_⟩
      refine ⟨_, rfl, _, rfl, _, rfl, a, _, _, _, rfl, rfl, sq_of ka, atI_nat hxx, kk.1, _, _, _, rfl, rfl, sq_of tk, p1, r1, _, _, _, rfl, rfl, sl_of hp6, atI_nat (NV_get g2), ?_⟩
      refine ⟨_, _, rfl, fun H7 r s7 nr hr7 => ?_⟩
      refine ⟨_, s7 _ _ hD, ?_, fun b o eb => ?_, ?_⟩
      · rw [nv_len, ed_len h2]
        exact small1000 (by omega)
      · rw [upd_ne (ne_of_none eb nD)]
        exact s7 _ _ (sm _ _ eb)
      · exact edl_snoc h2 (fun k hk => s7 _ _ (h3 k hk)) hr7 (s7 _ _ hD)
    · rintro H6 ⟨s56, hD⟩
      rw [NV_len] at hD
      have eT : (renQ p qq es).take qq.length = renQ p qq es := List.take_of_length_le (by unfold renQ; rw [List.length_map]; exact Nat.le_refl _)
      rw [eT] at hD
      obtain ⟨kd, d1, d2, d3⟩ := hD
      refine ⟨D, _, rfl, .inl ⟨sl_of d1, fun t nt => ?_⟩⟩
      have s7 := same_upd (o := .tup (kd.map fun k => V.ref k.1)) nt
      have ed7 : EdT (upd H6 t (.tup (kd.map fun k => V.ref k.1))) t (renQ p qq es) := ⟨kd, upd_same, d2, fun k hk => s7 _ _ (d3 k hk)⟩
      have s57 := s56.trans s7
      generalize upd H6 t (.tup (kd.map fun k => V.ref k.1)) = H7 at *
      have cnr := cn.renQ ip pl' iq ql
      have rlen : (renQ p qq es).length ≤ 16 := by rw [renQ_len iq ql]; exact hl
      refine ⟨_, rfl, _, rfl, a, n, es, rfl, he5.same s57, cn, hn, hl, fun H8 x s8 nx net => ?_⟩
      refine ⟨_, rfl, _, rfl, t, n, _, rfl, ed7.same s8, cnr, hn, rlen, fun H9 x2 s9 nx2 net2 => ?_⟩
      refine ⟨_, _, rfl, ?_⟩
      have net9 := net.same s9
      have s59 := (s57.trans s8).trans s9
      have hp9 := s59 _ _ hp5
      have hq9 := s59 _ _ hq5
      -- the bridges
      have smB := sm_brg (n := n) (es := renQ p qq es) (by omega)
      refine ⟨_, rfl, x2, n, _, rfl, net2, fun b hb => ?_⟩
      refine ⟨b, rfl, ⟨_, sq_of hb⟩, fun D2 nD2 => lc_it (walk_tup (xs := NV (brg n (renQ p qq es)))) (fun i H' => Same H9 H' ∧ H' D2 = some (.lst (NV (((brg n (renQ p qq es)).take i).map (ap qq))))) ⟨same_upd nD2, upd_same⟩ (fun i H' _ ⟨sm, _⟩ => sq_of (sm _ _ hb)) ?_ ?_⟩
      · rintro i y _ HA hi ⟨sm, hD2⟩ ⟨rfl, hy⟩
        obtain ⟨j, hj, rfl⟩ := NV_get' hy
        have jb := (mem_brg_ren cn ip pl' iq ql).mp (List.mem_of_getElem? hj)
        have g : qq[j]? = some (ap qq j) := ap_get (by omega)
        refine ⟨rfl, _, rfl, _, rfl, r2, _, _, _, rfl, rfl, sl_of (sm _ _ hq9), atI_nat (NV_get g), _, hD2, ?_, fun b o eb => ?_, ?_⟩
        · rw [NV_len, List.length_map, List.length_take]
          exact Nat.lt_of_le_of_lt (Nat.min_le_right _ _) (small1000 (Nat.le_trans smB.1 (by omega)))
        · rw [upd_ne (ne_of_none eb nD2)]
          exact sm _ _ eb
        · rw [upd_same, List.take_add_one, hj, List.map_append, ← NV_snoc]
          rfl
      · rintro HA ⟨s9A, hD2⟩
        rw [NV_len, List.take_length, NV_NI] at hD2
        refine ⟨D2, _, rfl, sl_of hD2, by rw [NI_len, List.length_map]; exact Nat.lt_of_le_of_lt (bro_len _) (by omega), fun ys p2 hys pw np2 => ?_⟩
        have ey : ys = NI (brg n es) := sorted_is hys pw (brg_ren cn ip pl' iq ql).symm (List.Pairwise.imp (fun z => Nat.le_of_lt z) (filter_rise _ _))
        subst ey
        have sB := same_upd (o := .lst ((NI (brg n es)).map V.int)) np2
        have hpB : upd HA p2 (.lst ((NI (brg n es)).map V.int)) p2 = some (.lst ((NI (brg n es)).map V.int)) := upd_same
        have s9B := s9A.trans sB
        generalize upd HA p2 (.lst ((NI (brg n es)).map V.int)) = HB at *
        refine ⟨_, rfl, x, n, es, rfl, net9.same s9B, fun b2 hb2 => ?_⟩
        refine ⟨b2, _, rfl, .inr (sq_of hb2), fun l nl => ?_⟩
        have sC := same_upd (o := .lst (NV (brg n es))) nl
        have hlC : upd HB l (.lst (NV (brg n es))) l = some (.lst ((NI (brg n es)).map V.int)) := by rw [← NV_NI]; exact upd_same
        have hpC := sC _ _ hpB
        have s9C := s9B.trans sC
        generalize upd HB l (.lst (NV (brg n es))) = HC at *
        refine ⟨_, _, dp_li (sl_of hpC), dp_li (sl_of hlC), shaped_li _, shaped_li _, _, rfl, ?_⟩
        rw [eqv_li, decide_eq_true rfl]
        refine iteF ?_
        -- the cells
        have hpc := s9C _ _ hp9
        refine ⟨_, rfl, x, n, es, rfl, net9.same s9C, fun b3 hb3 => ?_⟩
        obtain ⟨is, i1, i2, i3⟩ := id hb3
        refine ⟨b3, rfl, ⟨_, sq_of i1⟩, fun D3 nD3 => lc_it (walk_tup (xs := is.map fun k => V.ref k.1)) (fun i H' => Same HC H' ∧ CsL H' D3 (((cel n es).take i).map (img n p))) ⟨same_upd nD3, [], upd_same, rfl, fun k hk => nomatch hk⟩ (fun i H' _ ⟨sm, _⟩ => sq_of (sm _ _ i1)) ?_ ?_⟩
        · rintro i y _ HD hi ⟨sm, js, j1, j2, j3⟩ ⟨rfl, hy⟩
          obtain ⟨k, hk, rfl⟩ := refs_get hy
          have hc : (cel n es)[i]? = some k.2 := by
            rw [← i2, List.getElem?_map, hk]
            rfl
          obtain ⟨c1, c2, c3⟩ := cel_mem_ok (List.mem_of_getElem? hc)
          have tk := sm _ _ (i3 k (List.mem_of_getElem? hk))
          refine ⟨rfl, ?_⟩
          refine ⟨_, rfl, k.1, rfl, ⟨_, sq_of tk⟩, fun D4 nD4 => lc_it (walk_tup (xs := NV k.2)) (fun j H' => Same HD H' ∧ H' D4 = some (.lst (NV ((k.2.take j).map (ap p))))) ⟨same_upd nD4, upd_same⟩ (fun j H' _ ⟨sm, _⟩ => sq_of (sm _ _ tk)) ?_ ?_⟩
          · rintro j y _ HE hj ⟨smE, hD4⟩ ⟨rfl, hy⟩
            obtain ⟨v, hv, rfl⟩ := NV_get' hy
            have vl := c2 v (List.mem_of_getElem? hv)
            have g : p[v]? = some (ap p v) := ap_get (by omega)
            refine ⟨rfl, _, rfl, _, rfl, r1, _, _, _, rfl, rfl, sl_of (smE _ _ (sm _ _ hpc)), atI_nat (NV_get g), _, hD4, ?_, fun b o eb => ?_, ?_⟩
            · rw [NV_len, List.length_map, List.length_take]
              exact Nat.lt_of_le_of_lt (Nat.min_le_right _ _) (small1000 (by omega))
            · rw [upd_ne (ne_of_none eb nD4)]
              exact smE _ _ eb
            · rw [upd_same, List.take_add_one, hv, List.map_append, ← NV_snoc]
              rfl
          · rintro HE ⟨smE, hD4⟩
            rw [NV_len, List.take_length, NV_NI] at hD4
            refine ⟨D4, _, rfl, sl_of hD4, by rw [NI_len, List.length_map]; omega, fun ys p3 hys pw np3 => ?_⟩
            have ey : ys = NI (img n p k.2) := sorted_is hys pw (img_perm ip pl' c1 c2) (List.Pairwise.imp (fun z => Nat.le_of_lt z) (filter_rise _ _))
            subst ey
            rw [← NV_NI]
            refine ⟨p3, _, rfl, .inl ⟨sl_of upd_same, fun t3 nt3 => ?_⟩⟩
            have sF := (same_upd (o := .lst (NV (img n p k.2))) np3).trans (same_upd (o := .tup (NV (img n p k.2))) nt3)
            have sDF := smE.trans sF
            have jF := sDF _ _ j1
            refine ⟨_, jF, ?_, fun b o eb => ?_, ?_⟩
            · rw [nv_len, cs_len j2, List.length_map, List.length_take]
              exact Nat.lt_of_le_of_lt (Nat.min_le_right _ _) (small1000 (Nat.le_trans (smc_cel (n := n) (es := es) hn).1 (by omega)))
            · rw [upd_ne (ne_of_none eb nD3)]
              exact sDF _ _ (sm _ _ eb)
            · rw [List.take_add_one, hc, List.map_append]
              exact csl_snoc j2 (fun k hk => sDF _ _ (j3 k hk)) upd_same jF
        · rintro HD ⟨sCD, js, j1, j2, j3⟩
          rw [nv_len, cs_len i2, List.take_length] at j2
          have pr := cel_ren cn ip pl' iq ql
          refine ⟨D3, js, rfl, sl_of j1, fun k hk => ⟨j3 k hk, ?_⟩, fun ys p4 hys pw np4 => ?_⟩
          · have hm : k.2 ∈ (cel n es).map (img n p) := by rw [← j2]; exact List.mem_map.mpr ⟨k, hk, rfl⟩
            exact cel_ne cnr (pr.mem_iff.mp hm)
          · have e1 : ys.map (·.2) = cel n (renQ p qq es) := by
              refine List.Perm.eq_of_pairwise (le := fun c d => ¬ NI d < NI c) (fun a b _ _ h1 h2 => NI_inj (lt_tri h1 h2)) ?_ (cel_pw cnr) ?_
              · rw [List.pairwise_map]
                exact pw
              · have z := hys.map (·.2)
                rw [j2] at z
                exact z.trans pr
            have sE := same_upd (o := .lst (ys.map fun k => V.ref k.1)) np4
            have hpE : upd HD p4 (.lst (ys.map fun k => V.ref k.1)) p4 = some (.lst (ys.map fun k => V.ref k.1)) := upd_same
            have hyE : ∀ k ∈ ys, Tp (upd HD p4 (.lst (ys.map fun k => V.ref k.1))) k.1 k.2 := fun k hk => sE _ _ (j3 k (hys.mem_iff.mp hk))
            have s9E := (s9C.trans sCD).trans sE
            generalize upd HD p4 (.lst (ys.map fun k => V.ref k.1)) = HE at *
            refine ⟨_, rfl, x2, n, _, rfl, net2.same s9E, fun b5 hb5 => ?_⟩
            obtain ⟨gs, g1, g2, g3⟩ := id hb5
            refine ⟨b5, _, rfl, .inr (sq_of g1), fun l5 nl5 => ?_⟩
            have sG := same_upd (o := .lst (gs.map fun k => V.ref k.1)) nl5
            refine ⟨_, _, dp_cs (sl_of (sG _ _ hpE)) (fun k hk => sG _ _ (hyE k hk)) e1, dp_cs (sl_of upd_same) (fun k hk => sG _ _ (g3 k hk)) g2, shaped_cs _, shaped_cs _, ?_⟩
            rw [eqv_cs]
            have sall := (s59.trans s9E).trans sG
            exact q _ (s + n + es.length) (k05.trans (Kp.same sall)) (by omega) (M5.same sall)
end
end Hw

namespace Hw
open PySem PySem.Spec PyProof.Rows L2 ClX
theorem cn_one : CN 1 [] := by
  refine ⟨Nat.le_refl _, fun e m => ?_, fun v hv => ?_⟩
  · cases m
  · obtain rfl : v = 0 := by omega
    exact Rch.refl _
theorem cn_tail {n : Nat} {f : Nat → Nat} (hn : 1 ≤ n) (hf : ∀ i, i < n - 1 → f i < 1 + i) : CN n (tailE f 1 (n - 1)) := by
  have := cn_one.tree f (n - 1) hf
  rw [List.nil_append, show 1 + (n - 1) = n by omega] at this
  exact this
theorem cn_loop : CN 1 [((0 : Nat), (0 : Nat))] := by
  have := cn_one.more (a := 0) (b := 0) (by decide) (by decide)
  exact this
section
variable {P : Program} {w : World} {K : PySem.W.Frag} {mg : Str → Option Value} {base : Heap}
def spLaw (K : PySem.W.Frag) : Sp := fun vs H Q _ => ∃ (a : Addr) (ns : List Int), vs = [.ref a] ∧ SqL K H a (ns.map V.int) ∧ ns.length ≤ 63 ∧ ∀ H', Q (.bl true) H'
abbrev nLaw : List Str := ["_law_script", "_law_m", "_law_again", "_law_many", "_law_ties_here"]
theorem scLaw : FnScope nLaw ["_law_script"] (defScope sLaw) := ⟨rfl, rfl, rfl, by decide +kernel, rfl, by decide +kernel, by decide +kernel⟩
structure LwC (P : Program) (w : World) (K : PySem.W.Frag) (mg : Str → Option Value) (base : Heap) (C : Addr) : Prop where
  net : NetOk P w K mg base C
  begun : Cal P w K mg base "_law_begun" 2 (spBegun K)
  draw : Cal P w K mg base "_law_draw" 2 spDraw
  ties : Cal P w K mg base "_law_ties" 5 spTies
  tree : Cal P w K mg base "_law_tree" 3 spTree
  mixedUp : Cal P w K mg base "_law_mixed_up" 3 (spMixedUp K)
  right : CalG P w K mg base "_law_right" 8 ["_law_many", "_law_ties_here"] spRight
  ren : Cal P w K mg base "_law_renamed_right" 8 spRenRight
theorem ok_law {C : Addr} {f : Addr} {fd : FuncData} (T : Txt mg) (G : LwC P w K mg base C) (F : Fun K "law" "law" sLaw f fd) : FnG P w K mg base 9 f fd ["_law_script"] (spLaw K) := by
  have nd := scLaw.nd
  refine okG F scLaw (fun vs H Q E h => ?_) (fun cdv A outer s0 H vs Q E hg hr h => ?_)
  · obtain ⟨a, ns, rfl, _⟩ := h
    rfl
  · obtain ⟨a, ns, rfl, ha, hl, q⟩ := h
    have hr2 := hr.mono (show 2 ≤ 8 by decide)
    have hr3 := hr.mono (show 3 ≤ 8 by decide)
    have hr5 := hr.mono (show 5 ≤ 8 by decide)
    have hr7 := hr.mono (show 7 ≤ 8 by decide)
    have hu := hr.units
    refine ⟨_, pss_cons (ps_set (i := 1) nd rfl (.inl rfl) (pe_cl G.begun hr2 (by rfl) (pa_cons (pv 0) pa_nil)))
      <| pss_cons (ps_for PassesOwn.never rfl (pi_range1 (by rfl) T.range (pa_cons pe_int pa_nil)) (pg_name (i := 2) nd rfl (.inl rfl))
          (pss_cons (ps_asg (pe_cl G.ties hr5 (by rfl) (pa_cons (pv 1) (pa_cons (pe_op op_add pe_int (pe_cl G.draw hr2 (by rfl) (pa_cons (pv 1) (pa_cons pe_int pa_nil)))) (pa_cons (pe_cl G.draw hr2 (by rfl) (pa_cons (pv 1) (pa_cons pe_int pa_nil))) (pa_cons (pe_cl G.draw hr2 (by rfl) (pa_cons (pv 1) (pa_cons pe_int pa_nil))) pa_nil)))))
              (pg_tup rfl (pgs_cons (pg_name (i := 3) nd rfl (.inl rfl)) (pgs_cons (pg_name (i := 4) nd rfl (.inl rfl)) pgs_nil))))
          <| pss_one (ps_if (PW.pt (pw_or (pt_not (pt_val (pe_clG G.right (hg.deeper _) hr (by rfl) (pa_cons (pv 3) (pa_cons (pv 4) pa_nil))))) (pw_or1 (pt_not (pt_val (pe_cl G.ren hr (by rfl) (pa_cons (pv 1) (pa_cons (pv 3) (pa_cons (pv 4) pa_nil))))))))) (pss_one ps_never) pss_nil)))
      <| pss_cons (ps_set (i := 3) nd rfl (.inl rfl) (pe_op op_add pe_int (pe_cl G.draw hr2 (by rfl) (pa_cons (pv 1) (pa_cons pe_int pa_nil)))))
      <| pss_cons (ps_set (i := 4) nd rfl (.inl rfl) (pe_callTy call_tuple_of (by rfl) T.tuple (by decide +kernel) (pa_cons (pe_cl G.mixedUp hr3 (by rfl) (pa_cons (pv 1) (pa_cons (pe_cl G.tree hr3 (by rfl) (pa_cons (pv 1) (pa_cons (pv 3) (pa_cons pe_int pa_nil)))) pa_nil))) pa_nil)))
      <| pss_one (ps_ret (pe_and (pe_clG G.right (hg.deeper _) hr (by rfl) (pa_cons (pv 3) (pa_cons (pv 4) pa_nil)))
          (pe_and (pe_cmpR (op_eqD hu) (pe_brg G.net hr2 (pe_net G.net hr7 (by rfl) (pa_cons (pv 3) (pa_cons (pv 4) pa_nil)))) (pe_tupRg (by rfl) (by rfl) T.tuple (prg_1 (by rfl) T.range (pe_op op_sub (pv 3) pe_int))) (nomark _))
            (pe_one (pe_clG G.right (hg.deeper _) hr (by rfl) (pa_cons pe_int (pa_cons (pe_tup (pa_cons (pe_tup (pa_cons pe_int (pa_cons pe_int pa_nil))) pa_nil)) pa_nil))))))), ?_⟩
    refine ⟨_, rfl, a, ns, rfl, ha, hl, fun H1 m lg lc s1 M1 => ?_⟩
    refine ⟨8, rfl, by decide, by decide, ?_⟩
    refine for_it (walk_rg0 (n := 8)) (fun i σ H' => ∃ v2 v3 v4 s', σ = [some (.ref a), some (.ref m), v2, v3, v4] ∧ MOk H' m lg lc s' ∧ s' ≤ 400 * i) ⟨_, _, _, 0, rfl, M1, by omega⟩ (fun _ _ _ _ _ => trivial) ?_ ?_
    · rintro i y σ _ H2 hi ⟨v2, v3, v4, s, rfl, M, hs⟩ ⟨rfl, rfl⟩
      refine ⟨_, rfl, _, rfl, m, lg, lc, s, 4, rfl, M, by omega, by omega, by omega, fun H3 d1 hd1 kp3 M3 => ?_⟩
      refine ⟨_, _, rfl, rfl, _, rfl, m, lg, lc, s + 1, 4, rfl, M3, by omega, by omega, by omega, fun H4 d2 hd2 kp4 M4 => ?_⟩
      refine ⟨_, rfl, m, lg, lc, s + 2, 3, rfl, M4, by omega, by omega, by omega, fun H5 d3 hd3 kp5 M5 => ?_⟩
      have e1 : (1 : Int) + (d1 : Int) = ((1 + d1 : Nat) : Int) := by omega
      dsimp only
      rw [e1]
      refine ⟨m, lg, lc, s + 3, 1 + d1, d2, d3, rfl, M5, by omega, by omega, by omega, by omega, by omega, fun H6 t r n es s' cn hn hl' kp6 nt nr ht hr6 hs' M6 => ?_⟩
      refine ⟨t, _, rfl, sq_of ht, rfl, _, _, rfl, _, _, rfl, rfl, ?_⟩
      refine ⟨_, rfl, _, rfl, r, n, es, rfl, hr6, cn, hn, hl', fun H7 s7 => ⟨_, rfl, iteF ?_⟩⟩
      refine ⟨_, rfl, _, rfl, _, rfl, m, lg, lc, r, s', n, es, rfl, M6.same s7, by omega, hr6.same s7, cn, hn, hl', fun H8 s'' kp8 hs'' M8 => ⟨_, rfl, iteF ?_⟩⟩
      exact ⟨_, _, _, s'', rfl, M8, by omega⟩
    · rintro σ H2 ⟨v2, v3, v4, s, rfl, M, hs⟩
      refine ⟨_, rfl, m, lg, lc, s, 12, rfl, M, by omega, by omega, by omega, fun H3 d hd kp3 M3 => ?_⟩
      refine ⟨_, _, rfl, rfl, ?_⟩
      have e1 : (1 : Int) + (d : Int) = ((1 + d : Nat) : Int) := by omega
      dsimp only
      rw [e1]
      refine ⟨_, rfl, _, rfl, _, rfl, m, lg, lc, s + 1, 1 + d, 1, rfl, M3, by omega, by omega, by omega, by omega, fun H4 r f s' kp4 nr hf hr4 hs' M4 => ?_⟩
      have cn0 := cn_tail (n := 1 + d) (by omega) hf
      have tl : (tailE f 1 (1 + d - 1)).length = d := by
        unfold tailE
        rw [List.length_map, List.length_range]
        omega
      generalize tailE f 1 (1 + d - 1) = es0 at *
      obtain ⟨ks, k1, k2, k3⟩ := hr4
      have kl := ed_len k2
      refine ⟨m, lg, lc, r, s', _, rfl, M4, .inl (sl_of k1), by rw [nv_len]; omega, by rw [nv_len]; omega, fun H5 r5 ys hp5 kp5 nr5 hr5' M5 => ?_⟩
      obtain ⟨js, jp, rfl⟩ := perm_map_inv (fun k : Addr × List Nat => V.ref k.1) hp5 ks rfl
      obtain ⟨fs, fp, fe⟩ := perm_map_inv pl (jp.map (·.2)) es0 k2
      refine ⟨r5, _, rfl, .inl ⟨sl_of hr5', fun t nt => ?_⟩⟩
      have st := same_upd (o := .tup (js.map fun k => V.ref k.1)) nt
      have ed : EdT (upd H5 t (.tup (js.map fun k => V.ref k.1))) t fs := ⟨js, upd_same, fe, fun k hk => st _ _ (kp5.tup M4 (k3 k (jp.mem_iff.mp hk)))⟩
      have cn := cn0.perm fp
      have fl : fs.length = d := by rw [fp.length_eq, tl]
      generalize upd H5 t (.tup (js.map fun k => V.ref k.1)) = H6 at *
      refine ⟨_, rfl, _, rfl, t, 1 + d, fs, rfl, ed, cn, by omega, by omega, fun H7 s7 => ⟨_, rfl, iteT ?_⟩⟩
      refine ⟨_, rfl, _, rfl, t, 1 + d, fs, rfl, ed.same s7, cn, by omega, by omega, fun H8 x s8 nx net => ?_⟩
      refine ⟨x, 1 + d, fs, rfl, net, fun b hb => ?_⟩
      refine ⟨_, rfl, _, _, rfl, rfl, _, rfl, RgOk.of_le (by omega) (by omega) (by omega) (by omega), fun t2 nt2 => ?_⟩
      have e2 : rgV 0 (((1 + d : Nat) : Int) - 1) = NV (List.range (1 + d - 1)) := by
        rw [← NV_range]
        congr 1
        omega
      rw [e2]
      have s9 := same_upd (o := .tup (NV (List.range (1 + d - 1)))) nt2
      refine ⟨_, _, dp_tp (s9 _ _ hb), dp_tp upd_same, shaped_ti _, shaped_ti _, ?_⟩
      rw [eqv_tp, decide_eq_true (tree_brg cn (by omega))]
      refine ⟨_, rfl, iteT ?_⟩
      refine ⟨by show 2 ≤ sizeLine; decide, fun t3 nt3 => ⟨by show 1 ≤ sizeLine; decide, fun t4 nt4 => ?_⟩⟩
      refine ⟨t4, 1, [(0, 0)], rfl, ⟨[(t3, pl (0, 0))], upd_same, rfl, fun k hk => ?_⟩, cn_loop, by decide, by decide, fun H9 _ => q H9⟩
      rw [List.mem_singleton.mp hk]
      exact tp_new upd_same nt4
end
end Hw

namespace Hw
open PySem PySem.Spec PyProof.Rows L2 ClX
theorem df_mk {K : PySem.W.Frag} {h : Heap} {mg : Str → Option Value} (X : K.In h) (G : h.Ns mainGlobals mg) {x : Str} {st : Stmt} {ps : List Str} {f : Addr} {oc : Value} {od an : Option Addr} {osl : Array (Option Value)} {kV doc pm cdv ct : Value}
    (a : PySem.W.nsIn K mainGlobals x = some (some (.ref f))) (l : K.lookup f = some ⟨oc, od, .func (PySem.W.fnOf x x (defArgs st) (defBody st) (defScope st) .none kV doc pm an cdv ct), osl⟩) (c : PySem.W.codeIn K cdv x = true) (k : PySem.W.keepIn K (.ref f) = true)
    (hb : ∀ (kV doc pm : Value) (an : Option Addr) (cdv ct : Value) (us : List Value), us.length = ps.length → bindArgs (PySem.W.fnOf x x (defArgs st) (defBody st) (defScope st) .none kV doc pm an cdv ct) ⟨us, []⟩ = pure (ps.zip us)) : Df K mg x st ps := by
  have F := fun_mk (st := st) l c k
  exact ⟨f, _, F, F.binds hb, PySem.W.mg_of X G a⟩
/-- all the defs of the text -/
structure Ds (K : PySem.W.Frag) (mg : Str → Option Value) : Prop where
  whole : Df K mg "is_whole" sWhole ["value"]
  index : Df K mg "is_index" sIndex ["value", "count"]
  isPassage : Df K mg "_is_passage" sIsPassage ["value", "places"]
  firstWrong : Df K mg "_first_wrong" sFirstWrong ["values", "places"]
  least : Df K mg "_least_joined" sLeast ["places", "passages"]
  conn : Df K mg "_is_connected" sConn ["places", "passages"]
  fault : Df K mg "_fault" sFault ["places", "passages"]
  bridges : Df K mg "_find_bridges" sBridges ["places", "passages"]
  cells : Df K mg "_find_cells" sCells ["places", "passages", "bridges"]
  exits : Df K mg "_find_exits" sExits ["places", "passages"]
  mixed : Df K mg "_law_mixed" sMixed ["_law_cell", "_law_n"]
  folded : Df K mg "_law_folded" sFolded ["_law_script"]
  draw : Df K mg "_law_draw" sDraw ["_law_m", "_law_top_here"]
  begun : Df K mg "_law_begun" sBegun ["_law_script"]
  mixedUp : Df K mg "_law_mixed_up" sMixedUp ["_law_m", "_law_things"]
  tie : Df K mg "_law_tie" sTie ["_law_one", "_law_far"]
  tree : Df K mg "_law_tree" sTree ["_law_m", "_law_many", "_law_low"]
  ring : Df K mg "_law_ring" sRing ["_law_spots"]
  core : Df K mg "_law_core" sCore ["_law_m"]
  shifted : Df K mg "_law_shifted" sShifted ["_law_ties_here", "_law_low", "_law_hinge"]
  top : Df K mg "_law_top" sTop ["_law_ties_here"]
  renamed : Df K mg "_law_renamed" sRenamed ["_law_m", "_law_many", "_law_ties_here"]
  ties : Df K mg "_law_ties" sTies ["_law_m", "_law_cores", "_law_tails", "_law_more"]
  doors : Df K mg "_law_doors" sDoors ["_law_ties_here", "_law_here"]
  linked : Df K mg "_law_is_linked" sLinked ["_law_many", "_law_ties_here", "_law_without"]
  weak : Df K mg "_law_weak" sWeak ["_law_many", "_law_ties_here"]
  blocks : Df K mg "_law_blocks" sBlocks ["_law_many", "_law_ties_here"]
  reached : Df K mg "_law_reached" sReached ["_law_ties_here", "_law_here", "_law_without"]
  lcells : Df K mg "_law_cells" sLCells ["_law_many", "_law_ties_here"]
  right : Df K mg "_law_right" sRight ["_law_many", "_law_ties_here"]
  ren : Df K mg "_law_renamed_right" sRenRight ["_law_m", "_law_many", "_law_ties_here"]
/-- the class's own -/
structure NetD (K : PySem.W.Frag) (mg : Str → Option Value) (C : Addr) : Prop where
  N : NetC K mg C (.type "type")
  init : ∃ (f : Addr) (fd : FuncData), Mk K C f ∧ Fun K "__init__" "Network.__init__" sInit f fd ∧ Binds K fd ["self", "places", "passages"] []
  gb : ∃ (p g : Addr) (fd : FuncData), PropOf K C "bridges" p g ∧ Fun K "bridges" "Network.bridges" sGetB g fd ∧ Binds K fd ["self"] []
  gc : ∃ (p g : Addr) (fd : FuncData), PropOf K C "cells" p g ∧ Fun K "cells" "Network.cells" sGetC g fd ∧ Binds K fd ["self"] []
section
variable {P : Program} {w : World} {K : PySem.W.Frag} {mg : Str → Option Value} {base : Heap}
theorem scGetB : FnScope ["self"] ["self"] (defScope sGetB) := ⟨rfl, rfl, rfl, by decide +kernel, rfl, by decide +kernel, by decide +kernel⟩
theorem scGetC : FnScope ["self"] ["self"] (defScope sGetC) := ⟨rfl, rfl, rfl, by decide +kernel, rfl, by decide +kernel, by decide +kernel⟩
theorem ok_getB {C g : Addr} {fd : FuncData} (cl : Cls K C) (n : NoAttr K C "_bridges") (F : Fun K "bridges" "Network.bridges" sGetB g fd) : FnOk P w K mg base CX0 1 g fd ["self"] (getSp C "_bridges") := by
  refine F.ok scGetB (fun vs H Q E h => ?_) (fun cdv A outer s H vs Q E hr h => ?_)
  · obtain ⟨a, dx, fs, v, rfl, _⟩ := h
    rfl
  · obtain ⟨a, dx, fs, v, rfl, ea, l, q⟩ := h
    exact ⟨_, pss_one (ps_ret (pe_fld (pv 0) rfl)), _, rfl, a, C, dx, fs, v, rfl, ea, cl, n, l, q⟩
theorem ok_getC {C g : Addr} {fd : FuncData} (cl : Cls K C) (n : NoAttr K C "_cells") (F : Fun K "cells" "Network.cells" sGetC g fd) : FnOk P w K mg base CX0 1 g fd ["self"] (getSp C "_cells") := by
  refine F.ok scGetC (fun vs H Q E h => ?_) (fun cdv A outer s H vs Q E hr h => ?_)
  · obtain ⟨a, dx, fs, v, rfl, _⟩ := h
    rfl
  · obtain ⟨a, dx, fs, v, rfl, ea, l, q⟩ := h
    exact ⟨_, pss_one (ps_ret (pe_fld (pv 0) rfl)), _, rfl, a, C, dx, fs, v, rfl, ea, cl, n, l, q⟩
theorem lw_of {C : Addr} (T : Txt mg) (D : Ds K mg) (N : NetD K mg C) : LwC P w K mg base C := by
  have c1 : Cal P w K mg base "is_whole" 1 spWhole := cal_whole T D.whole
  have c2 : Cal P w K mg base "is_index" 2 spIndex := cal_index T c1 D.index
  have c3 : Cal P w K mg base "_is_passage" 3 spIsPassage := cal_isPassage T c2 D.isPassage
  have c4 : Cal P w K mg base "_first_wrong" 4 spFirstWrong := cal_firstWrong T c3 D.firstWrong
  have c5 : Cal P w K mg base "_least_joined" 1 spLeast := cal_least T D.least
  have c6 : Cal P w K mg base "_is_connected" 2 spConn := cal_conn T c5 D.conn
  have c7 : Cal P w K mg base "_fault" 5 spFault := cal_fault T N.N c1 c4 c6 D.fault
  have c8 : Cal P w K mg base "_find_bridges" 3 spBridges := cal_bridges T c6 D.bridges
  have c9 : Cal P w K mg base "_find_cells" 2 spCells := cal_cells T c5 D.cells
  have c10 : Cal P w K mg base "_find_exits" 1 spExits := cal_exits T D.exits
  have NF : NetF P w K mg base := ⟨c7, c8, c9, c10⟩
  obtain ⟨f, fd, M, F, b⟩ := N.init
  obtain ⟨pB, gB, fdB, PB, FB, bB⟩ := N.gb
  obtain ⟨pC, gC, fdC, PC, FC, bC⟩ := N.gc
  have NO : NetOk P w K mg base C := ⟨N.N.cl, N.N.gC, ⟨f, fd, M, ok_init T N.N NF F, b⟩, ⟨pB, gB, fdB, PB, ok_getB N.N.cl N.N.n4 FB, bB⟩, ⟨pC, gC, fdC, PC, ok_getC N.N.cl N.N.n5 FC, bC⟩⟩
  have mx : Cal P w K mg base "_law_mixed" 1 spMixed := cal_mixed D.mixed
  have fo : Cal P w K mg base "_law_folded" 1 (spFolded K) := cal_folded T D.folded
  have dr : Cal P w K mg base "_law_draw" 2 spDraw := cal_draw T mx D.draw
  have bg : Cal P w K mg base "_law_begun" 2 (spBegun K) := cal_begun T fo D.begun
  have mu : Cal P w K mg base "_law_mixed_up" 3 (spMixedUp K) := cal_mixedUp T dr D.mixedUp
  have ti : Cal P w K mg base "_law_tie" 1 spTie := cal_tie T D.tie
  have tr : Cal P w K mg base "_law_tree" 3 spTree := cal_tree T ti dr D.tree
  have ri : Cal P w K mg base "_law_ring" 2 (spRing K) := cal_ring T ti D.ring
  have co : Cal P w K mg base "_law_core" 3 spCore := cal_core T dr ri D.core
  have sh : Cal P w K mg base "_law_shifted" 2 spShifted := cal_shifted T ti D.shifted
  have tp : Cal P w K mg base "_law_top" 1 spTop := cal_top T D.top
  have rn : Cal P w K mg base "_law_renamed" 4 spRenamed := cal_renamed T ti mu D.renamed
  have ts : Cal P w K mg base "_law_ties" 5 spTies := cal_ties T ⟨ti, dr, tp, co, sh, tr, rn⟩ D.ties
  have ds : Cal P w K mg base "_law_doors" 1 spDoors := cal_doors T D.doors
  have li : Cal P w K mg base "_law_is_linked" 1 spLinked := cal_linked T D.linked
  have we : Cal P w K mg base "_law_weak" 2 spWeak := cal_weak T li D.weak
  have bl : Cal P w K mg base "_law_blocks" 3 spBlocks := cal_blocks T we D.blocks
  have re : Cal P w K mg base "_law_reached" 2 spReached := cal_reached T ds D.reached
  have lc : Cal P w K mg base "_law_cells" 3 spLCells := cal_lcells T re D.lcells
  have RT : RtC P w K mg base C := ⟨NO, re, lc, we, bl⟩
  exact ⟨NO, bg, dr, ts, tr, mu, cal_right T RT D.right, cal_renRight T NO ti mu D.ren⟩
end
theorem law_mk {l : PySem.W.OpenLaw} {w : World} {K : PySem.W.Frag} {h : Heap} {mg : Str → Option Value} {fa f : Addr} {C : Addr} (X : K.In h) (G : h.Ns mainGlobals mg) (hfa : mg "law" = some (.ref fa)) {oc : Value} {od an : Option Addr} {osl : Array (Option Value)} {kV doc pm cdv ct : Value}
    (a : PySem.W.nsIn K mainGlobals "law" = some (some (.ref f))) (l1 : K.lookup f = some ⟨oc, od, .func (PySem.W.fnOf "law" "law" (defArgs sLaw) (defBody sLaw) (defScope sLaw) .none kV doc pm an cdv ct), osl⟩) (c : PySem.W.codeIn K cdv "law" = true) (k : PySem.W.keepIn K (.ref f) = true)
    (T : Txt mg) (N : NetD K mg C) (D : Ds K mg) :
    ∃ fd : FuncData, (∀ (s : Shared) (v : Value), BindsTo s fd ⟨[v], []⟩ [("_law_script", v)]) ∧ ∀ base : Heap, K.In base → base.Ns mainGlobals mg → FnG l.prog w K mg base 9 fa fd ["_law_script"] (spLaw K) := by
  have e := hfa.symm.trans (PySem.W.mg_of X G a)
  cases e
  exact ⟨_, fun s v => .of_eq rfl, fun base _ _ => ok_law T (lw_of T D N) (fun_mk (st := sLaw) l1 c k)⟩
/-- the class, from what stands in the text -/
theorem netd_mk {K : PySem.W.Frag} {h : Heap} {mg : Str → Option Value} (X : K.In h) (G : h.Ns mainGlobals mg) {C f pB gB pC gC : Addr} {t1 t2 : Tok} {rB rC : List Value}
    {oc oc2 oc3 : Value} {od an od2 an2 od3 an3 : Option Addr} {osl osl2 osl3 : Array (Option Value)} {kV doc pm cdv ct kV2 doc2 pm2 cdv2 ct2 kV3 doc3 pm3 cdv3 ct3 : Value}
    (a : PySem.W.nsIn K mainGlobals "Network" = some (some (.ref C)))
    (rd : PySem.W.readsIn K C (.type "type") = true) (ga : PySem.W.specialIn K (.ref C) "__getattribute__" = some (some (.builtin "type.__getattribute__")))
    (mp : PySem.W.findCls K (.ref C) (.type "type") "MAX_PLACES" = some (.val (.int 12 t1))) (ms : PySem.W.findCls K (.ref C) (.type "type") "MAX_PASSAGES" = some (.val (.int 16 t2)))
    (pg : PySem.W.plainGet K C Str.empty = true) (hd : PySem.W.hasDictIn K C = true) (po : PySem.W.plainOver K C = true) (sa : PySem.W.findIn K (.ref C) "__setattr__" = some (some (.builtin "object.__setattr__")))
    (n1 : PySem.W.findIn K (.ref C) "_places" = some none) (n2 : PySem.W.findIn K (.ref C) "_passages" = some none) (n3 : PySem.W.findIn K (.ref C) "_start" = some none)
    (n4 : PySem.W.findIn K (.ref C) "_bridges" = some none) (n5 : PySem.W.findIn K (.ref C) "_cells" = some none) (n6 : PySem.W.findIn K (.ref C) "_exits" = some none)
    (m1 : PySem.W.makesIn K C = true) (m2 : PySem.W.findIn K (.ref C) "__init__" = some (some (.ref f))) (m3 : PySem.W.isFn K (.ref f) = true) (m4 : PySem.W.keepIn K (.ref C) = true)
    (l1 : K.lookup f = some ⟨oc, od, .func (PySem.W.fnOf "__init__" "Network.__init__" (defArgs sInit) (defBody sInit) (defScope sInit) .none kV doc pm an cdv ct), osl⟩) (c1 : PySem.W.codeIn K cdv "Network.__init__" = true) (k1 : PySem.W.keepIn K (.ref f) = true)
    (b1 : PySem.W.findIn K (.ref C) "bridges" = some (some (.ref pB))) (b2 : PySem.W.specialIn K (.ref pB) "__get__" = some (some (.builtin "property.__get__"))) (b3 : PySem.W.takesIn K (.ref pB) = some true) (b4 : PySem.W.recIn K pB "property" = some (.ref gB :: rB))
    (l2 : K.lookup gB = some ⟨oc2, od2, .func (PySem.W.fnOf "bridges" "Network.bridges" (defArgs sGetB) (defBody sGetB) (defScope sGetB) .none kV2 doc2 pm2 an2 cdv2 ct2), osl2⟩) (c2 : PySem.W.codeIn K cdv2 "Network.bridges" = true) (k2 : PySem.W.keepIn K (.ref gB) = true)
    (d1 : PySem.W.findIn K (.ref C) "cells" = some (some (.ref pC))) (d2 : PySem.W.specialIn K (.ref pC) "__get__" = some (some (.builtin "property.__get__"))) (d3 : PySem.W.takesIn K (.ref pC) = some true) (d4 : PySem.W.recIn K pC "property" = some (.ref gC :: rC))
    (l3 : K.lookup gC = some ⟨oc3, od3, .func (PySem.W.fnOf "cells" "Network.cells" (defArgs sGetC) (defBody sGetC) (defScope sGetC) .none kV3 doc3 pm3 an3 cdv3 ct3), osl3⟩) (c3 : PySem.W.codeIn K cdv3 "Network.cells" = true) (k3 : PySem.W.keepIn K (.ref gC) = true) : NetD K mg C := by
  have F1 := fun_mk (st := sInit) l1 c1 k1
  have F2 := fun_mk (st := sGetB) l2 c2 k2
  have F3 := fun_mk (st := sGetC) l3 c3 k3
  refine ⟨⟨PySem.W.mg_of X G a, ⟨rd, ga⟩, ⟨_, mp, ⟨_, rfl⟩⟩, ⟨_, ms, ⟨_, rfl⟩⟩, ⟨pg, hd, po, sa⟩, n1, n2, n3, n4, n5, n6⟩, ⟨f, _, ⟨m1, m2, m3, m4⟩, F1, F1.binds fun _ _ _ _ _ _ us hl => ?_⟩, ⟨pB, gB, _, ⟨b1, b2, b3, ⟨rB, b4⟩⟩, F2, F2.binds fun _ _ _ _ _ _ us hl => ?_⟩, ⟨pC, gC, _, ⟨d1, d2, d3, ⟨rC, d4⟩⟩, F3, F3.binds fun _ _ _ _ _ _ us hl => ?_⟩⟩
  · exact match us, hl with | [_, _, _], _ => rfl
  · exact match us, hl with | [_], _ => rfl
  · exact match us, hl with | [_], _ => rfl
end Hw

open PySem PySem.W PyProof.Rows
set_option maxHeartbeats 0 in
theorem PySem.Challenge.cw_handwalk_k06_bridges_and_cells_holds : PySem.Challenge.rw_handwalk_k06_bridges_and_cells.Holds := by
  w_on; o_law; k_head; (case hw => w_witness2)
  k_fill
  refine Hw.walk_G (l := PySem.Challenge.rw_handwalk_k06_bridges_and_cells) (n := 63) (k := 9) (x := "_law_script") (sp := fun w => Hw.spLaw _) rfl (by decide) rfl ⟨rfl, by decide, by decide⟩ (fun w h Y => PySem.W.kIn_of Y) ?F (fun _ _ a ns hl _ hS => ⟨a, ns, rfl, hS, hl, fun _ => rfl⟩)
  case F =>
    intro w mg fa h KX G hmg
    refine' Hw.law_mk KX G hmg ?a1 ?l1 ?c1 ?k1 ?T ?netd ?D
    (case a1 => k_is); (case l1 => k_is); (case c1 => k_is); (case k1 => k_is)
    case T =>
      refine' ⟨PySem.W.mg_none_of KX G ?z1, PySem.W.mg_none_of KX G ?z2, PySem.W.mg_none_of KX G ?z3, PySem.W.mg_none_of KX G ?z4, PySem.W.mg_none_of KX G ?z5, PySem.W.mg_none_of KX G ?z6, PySem.W.mg_none_of KX G ?z7, PySem.W.mg_none_of KX G ?z8, PySem.W.mg_none_of KX G ?z9, PySem.W.mg_none_of KX G ?z10, PySem.W.mg_none_of KX G ?z11, PySem.W.mg_none_of KX G ?z12, PySem.W.mg_none_of KX G ?z13, PySem.W.mg_none_of KX G ?z14, PySem.W.mg_none_of KX G ?z15⟩
      all_goals k_is
    case netd =>
      refine' Hw.netd_mk KX G ?na ?nrd ?nga ?nmp ?nms ?npg ?nhd ?npo ?nsa ?nn1 ?nn2 ?nn3 ?nn4 ?nn5 ?nn6 ?nm1 ?nm2 ?nm3 ?nm4 ?nl1 ?nc1 ?nk1 ?nb1 ?nb2 ?nb3 ?nb4 ?nl2 ?nc2 ?nk2 ?nd1 ?nd2 ?nd3 ?nd4 ?nl3 ?nc3 ?nk3
      (case na => k_is)
      (case nrd => k_is)
      (case nga => k_is)
      (case nmp => k_is)
      (case nms => k_is)
      (case npg => k_is)
      (case nhd => k_is)
      (case npo => k_is)
      (case nsa => k_is)
      (case nn1 => k_is)
      (case nn2 => k_is)
      (case nn3 => k_is)
      (case nn4 => k_is)
      (case nn5 => k_is)
      (case nn6 => k_is)
      (case nm1 => k_is)
      (case nm2 => k_is)
      (case nm3 => k_is)
      (case nm4 => k_is)
      (case nl1 => k_is)
      (case nc1 => k_is)
      (case nk1 => k_is)
      (case nb1 => k_is)
      (case nb2 => k_is)
      (case nb3 => k_is)
      (case nb4 => k_is)
      (case nl2 => k_is)
      (case nc2 => k_is)
      (case nk2 => k_is)
      (case nd1 => k_is)
      (case nd2 => k_is)
      (case nd3 => k_is)
      (case nd4 => k_is)
      (case nl3 => k_is)
      (case nc3 => k_is)
      (case nk3 => k_is)
    case D =>
      refine' ⟨Hw.df_mk KX G ?a2 ?l2 ?c2 ?k2 ?b2, Hw.df_mk KX G ?a3 ?l3 ?c3 ?k3 ?b3, Hw.df_mk KX G ?a4 ?l4 ?c4 ?k4 ?b4, Hw.df_mk KX G ?a5 ?l5 ?c5 ?k5 ?b5, Hw.df_mk KX G ?a6 ?l6 ?c6 ?k6 ?b6, Hw.df_mk KX G ?a7 ?l7 ?c7 ?k7 ?b7, Hw.df_mk KX G ?a8 ?l8 ?c8 ?k8 ?b8, Hw.df_mk KX G ?a9 ?l9 ?c9 ?k9 ?b9, Hw.df_mk KX G ?a10 ?l10 ?c10 ?k10 ?b10, Hw.df_mk KX G ?a11 ?l11 ?c11 ?k11 ?b11, Hw.df_mk KX G ?a12 ?l12 ?c12 ?k12 ?b12, Hw.df_mk KX G ?a13 ?l13 ?c13 ?k13 ?b13, Hw.df_mk KX G ?a14 ?l14 ?c14 ?k14 ?b14, Hw.df_mk KX G ?a15 ?l15 ?c15 ?k15 ?b15, Hw.df_mk KX G ?a16 ?l16 ?c16 ?k16 ?b16, Hw.df_mk KX G ?a17 ?l17 ?c17 ?k17 ?b17, Hw.df_mk KX G ?a18 ?l18 ?c18 ?k18 ?b18, Hw.df_mk KX G ?a19 ?l19 ?c19 ?k19 ?b19, Hw.df_mk KX G ?a20 ?l20 ?c20 ?k20 ?b20, Hw.df_mk KX G ?a21 ?l21 ?c21 ?k21 ?b21, Hw.df_mk KX G ?a22 ?l22 ?c22 ?k22 ?b22, Hw.df_mk KX G ?a23 ?l23 ?c23 ?k23 ?b23, Hw.df_mk KX G ?a24 ?l24 ?c24 ?k24 ?b24, Hw.df_mk KX G ?a25 ?l25 ?c25 ?k25 ?b25, Hw.df_mk KX G ?a26 ?l26 ?c26 ?k26 ?b26, Hw.df_mk KX G ?a27 ?l27 ?c27 ?k27 ?b27, Hw.df_mk KX G ?a28 ?l28 ?c28 ?k28 ?b28, Hw.df_mk KX G ?a29 ?l29 ?c29 ?k29 ?b29, Hw.df_mk KX G ?a30 ?l30 ?c30 ?k30 ?b30, Hw.df_mk KX G ?a31 ?l31 ?c31 ?k31 ?b31, Hw.df_mk KX G ?a32 ?l32 ?c32 ?k32 ?b32⟩
      (case a2 => k_is); (case l2 => k_is); (case c2 => k_is); (case k2 => k_is); (case b2 => exact fun _ _ _ _ _ _ us hl => match us, hl with | [_], _ => rfl)
      (case a3 => k_is); (case l3 => k_is); (case c3 => k_is); (case k3 => k_is); (case b3 => exact fun _ _ _ _ _ _ us hl => match us, hl with | [_, _], _ => rfl)
      (case a4 => k_is); (case l4 => k_is); (case c4 => k_is); (case k4 => k_is); (case b4 => exact fun _ _ _ _ _ _ us hl => match us, hl with | [_, _], _ => rfl)
      (case a5 => k_is); (case l5 => k_is); (case c5 => k_is); (case k5 => k_is); (case b5 => exact fun _ _ _ _ _ _ us hl => match us, hl with | [_, _], _ => rfl)
      (case a6 => k_is); (case l6 => k_is); (case c6 => k_is); (case k6 => k_is); (case b6 => exact fun _ _ _ _ _ _ us hl => match us, hl with | [_, _], _ => rfl)
      (case a7 => k_is); (case l7 => k_is); (case c7 => k_is); (case k7 => k_is); (case b7 => exact fun _ _ _ _ _ _ us hl => match us, hl with | [_, _], _ => rfl)
      (case a8 => k_is); (case l8 => k_is); (case c8 => k_is); (case k8 => k_is); (case b8 => exact fun _ _ _ _ _ _ us hl => match us, hl with | [_, _], _ => rfl)
      (case a9 => k_is); (case l9 => k_is); (case c9 => k_is); (case k9 => k_is); (case b9 => exact fun _ _ _ _ _ _ us hl => match us, hl with | [_, _], _ => rfl)
      (case a10 => k_is); (case l10 => k_is); (case c10 => k_is); (case k10 => k_is); (case b10 => exact fun _ _ _ _ _ _ us hl => match us, hl with | [_, _, _], _ => rfl)
      (case a11 => k_is); (case l11 => k_is); (case c11 => k_is); (case k11 => k_is); (case b11 => exact fun _ _ _ _ _ _ us hl => match us, hl with | [_, _], _ => rfl)
      (case a12 => k_is); (case l12 => k_is); (case c12 => k_is); (case k12 => k_is); (case b12 => exact fun _ _ _ _ _ _ us hl => match us, hl with | [_, _], _ => rfl)
      (case a13 => k_is); (case l13 => k_is); (case c13 => k_is); (case k13 => k_is); (case b13 => exact fun _ _ _ _ _ _ us hl => match us, hl with | [_], _ => rfl)
      (case a14 => k_is); (case l14 => k_is); (case c14 => k_is); (case k14 => k_is); (case b14 => exact fun _ _ _ _ _ _ us hl => match us, hl with | [_, _], _ => rfl)
      (case a15 => k_is); (case l15 => k_is); (case c15 => k_is); (case k15 => k_is); (case b15 => exact fun _ _ _ _ _ _ us hl => match us, hl with | [_], _ => rfl)
      (case a16 => k_is); (case l16 => k_is); (case c16 => k_is); (case k16 => k_is); (case b16 => exact fun _ _ _ _ _ _ us hl => match us, hl with | [_, _], _ => rfl)
      (case a17 => k_is); (case l17 => k_is); (case c17 => k_is); (case k17 => k_is); (case b17 => exact fun _ _ _ _ _ _ us hl => match us, hl with | [_, _], _ => rfl)
      (case a18 => k_is); (case l18 => k_is); (case c18 => k_is); (case k18 => k_is); (case b18 => exact fun _ _ _ _ _ _ us hl => match us, hl with | [_, _, _], _ => rfl)
      (case a19 => k_is); (case l19 => k_is); (case c19 => k_is); (case k19 => k_is); (case b19 => exact fun _ _ _ _ _ _ us hl => match us, hl with | [_], _ => rfl)
      (case a20 => k_is); (case l20 => k_is); (case c20 => k_is); (case k20 => k_is); (case b20 => exact fun _ _ _ _ _ _ us hl => match us, hl with | [_], _ => rfl)
      (case a21 => k_is); (case l21 => k_is); (case c21 => k_is); (case k21 => k_is); (case b21 => exact fun _ _ _ _ _ _ us hl => match us, hl with | [_, _, _], _ => rfl)
      (case a22 => k_is); (case l22 => k_is); (case c22 => k_is); (case k22 => k_is); (case b22 => exact fun _ _ _ _ _ _ us hl => match us, hl with | [_], _ => rfl)
      (case a23 => k_is); (case l23 => k_is); (case c23 => k_is); (case k23 => k_is); (case b23 => exact fun _ _ _ _ _ _ us hl => match us, hl with | [_, _, _], _ => rfl)
      (case a24 => k_is); (case l24 => k_is); (case c24 => k_is); (case k24 => k_is); (case b24 => exact fun _ _ _ _ _ _ us hl => match us, hl with | [_, _, _, _], _ => rfl)
      (case a25 => k_is); (case l25 => k_is); (case c25 => k_is); (case k25 => k_is); (case b25 => exact fun _ _ _ _ _ _ us hl => match us, hl with | [_, _], _ => rfl)
      (case a26 => k_is); (case l26 => k_is); (case c26 => k_is); (case k26 => k_is); (case b26 => exact fun _ _ _ _ _ _ us hl => match us, hl with | [_, _, _], _ => rfl)
      (case a27 => k_is); (case l27 => k_is); (case c27 => k_is); (case k27 => k_is); (case b27 => exact fun _ _ _ _ _ _ us hl => match us, hl with | [_, _], _ => rfl)
      (case a28 => k_is); (case l28 => k_is); (case c28 => k_is); (case k28 => k_is); (case b28 => exact fun _ _ _ _ _ _ us hl => match us, hl with | [_, _], _ => rfl)
      (case a29 => k_is); (case l29 => k_is); (case c29 => k_is); (case k29 => k_is); (case b29 => exact fun _ _ _ _ _ _ us hl => match us, hl with | [_, _, _], _ => rfl)
      (case a30 => k_is); (case l30 => k_is); (case c30 => k_is); (case k30 => k_is); (case b30 => exact fun _ _ _ _ _ _ us hl => match us, hl with | [_, _], _ => rfl)
      (case a31 => k_is); (case l31 => k_is); (case c31 => k_is); (case k31 => k_is); (case b31 => exact fun _ _ _ _ _ _ us hl => match us, hl with | [_, _], _ => rfl)
      (case a32 => k_is); (case l32 => k_is); (case c32 => k_is); (case k32 => k_is); (case b32 => exact fun _ _ _ _ _ _ us hl => match us, hl with | [_, _, _], _ => rfl)
#print axioms PySem.Challenge.cw_handwalk_k06_bridges_and_cells_holds
