import PyProof.Rows.All
import Wide.All
import OpenK.AllK
import Wide.FinOn
import HandS.ForMost
import HandS.IsInst
import HandS.Star
import HandS.Walk
import HandS.Zip
import HandS.TupSets
import HandS.Gcd
import HandS.Conv
import HandS.SetFor
import HandS.Strs
import KE.DataMinMax
import KE.GoesMore
import KE.SortData
import HandS.Style
import HandS.TupAny
import HandS.ClsMeth
import HandS.SetKeys
import HandS.More
import HandS.Property
import HandS.ExcInit
import KE.KExcSuper
import HandS.WordsExc
import HandS.ExcField
import HandS.ExcOwn
import HandS.MakeKwOnly
import KE.KTupSum
import PyProof.ReprReads
import PyProof.StrHeap
import PyProof.ReprRoads
import PyProof.Rows.RegFStrParts
import PyProof.Rows.StrJoinMade
import HandS.Exc
import HandS.Ends
import PySem.Challenge.RW_handwalk_k05_ways
set_option Elab.async false
set_option linter.all false
set_option maxRecDepth 100000
set_option maxHeartbeats 8000000
namespace Hw
open PySem PySem.Spec PyProof.Rows L2

/-- a def of the text, where it stands, how it binds -/
structure Df (K : PySem.W.Frag) (mg : Str → Option Value) (x : Str) (st : Stmt) (ps : List Str) : Prop where
  ex : ∃ (f : Addr) (fd : FuncData), Fun K x x st f fd ∧ Binds K fd ps [] ∧ mg x = some (.ref f)

/-- a def that can be called by its name, with its promise -/
structure Cal (P : Program) (w : World) (K : PySem.W.Frag) (mg : Str → Option Value) (base : Heap) (x : Str) (k : Nat) (sp : Sp) : Prop where
  ex : ∃ f : Addr, mg x = some (.ref f) ∧ PySem.W.keepIn K (.ref f) = true ∧ L2.FnR P w K mg base CX0 k f sp

section
variable {P : Program} {w : World} {K : PySem.W.Frag} {mg : Str → Option Value} {base : Heap} {x : Str}
theorem Cal.mono {j k : Nat} {sp : Sp} (c : Cal P w K mg base x j sp) (h : j ≤ k) : Cal P w K mg base x k sp := by
  obtain ⟨f, a, b, F⟩ := c.ex
  exact ⟨f, a, b, F.mono h⟩
theorem cal_of {st : Stmt} {N ps : List Str} {k : Nat} {sp : Sp} (D : Df K mg x st ps) (S : FnScope N ps (defScope st)) (len : ∀ vs H Q E, sp vs H Q E → vs.length = ps.length)
    (hbody : ∀ (f : Addr) (cdv : Value) (A : Around) (outer : List Env) (s : Shared) (H : Hp) (vs : List V) (Q : VK) (E : XK), Room k (A.deeper (envOfC x (defScope st) s.heap.objs.size f cdv)) → sp vs H Q E →
      ∃ t, PSs (cxOf CX0 P w K mg base N x (defScope st) f cdv A outer s H E).nox (defBody st) t ∧ t { nx := fun _ H' => Q .non H', rt := Q } (start N vs) H) : Cal P w K mg base x (k + 1) sp := by
  obtain ⟨f, fd, F, b, g⟩ := D.ex
  have G : FnOk P w K mg base CX0 (k + 1) f fd ps sp := F.ok S len (fun cdv A outer s H vs Q E hr h => hbody f cdv A outer s H vs Q E hr h)
  refine ⟨f, g, F.kp, ?_⟩
  have R := G.raw b (dvs := []) .nil
  exact R.imp fun vs H Q E h => by
    show sp (vs ++ []) H Q E
    rw [List.append_nil]
    exact h
end
section
variable {X : Cx} {k : Nat} {sp : Sp} {x : Str} {p pos : Pos} {e : Expr} {es : List Expr} {t : TA}
theorem pe_cal (c : Cal X.prog X.w X.K X.mg X.base x k sp) (hr : Room k X.A) (hg : Gl X x) (ha : PA X (e :: es) t) (hdb : (x == ("__debug__" : Str)) = false := by decide)
    (he : starEach (e :: es) X.env = (false, eval e X.env) :: starEach es X.env := by rfl) (hpl : (backTo pos (starEach es X.env)).any (·.1) = false := by rfl) :
    PE X (.Call (.Name x p) (e :: es) [] pos) (fun σ H Q => t σ H fun vs H1 => sp vs H1 Q E0) := by
  obtain ⟨f, hm, hk, F⟩ := c.ex
  refine ⟨fun pins s σ H Q I h => ?_⟩
  refine wpAny_Call_Name_kw (ld_glob I hg hm ?_ hdb)
  refine PySem.W.callWith_K (h₀ := X.base) I.ok.mod.kin hk (thn (ha.run pos pins s σ H _ I h) fun us s1 ⟨vs, H1, I1, r, q⟩ => ⟨I1.kIn, ?_⟩) he hpl
  exact wpAny_call (L2.run_fnR F hr pass0 I1 r q)
theorem pe_cal0 (c : Cal X.prog X.w X.K X.mg X.base x k sp) (hr : Room k X.A) (hg : Gl X x) (hdb : (x == ("__debug__" : Str)) = false := by decide) :
    PE X (.Call (.Name x p) [] [] pos) (fun σ H Q => sp [] H Q E0) := by
  obtain ⟨f, hm, hk, F⟩ := c.ex
  refine ⟨fun pins s σ H Q I h => ?_⟩
  refine wpAny_Call_Name_kw (ld_glob I hg hm ?_ hdb)
  exact PySem.W.callWith_K0 I.kIn hk (wpAny_call (L2.run_fnR F hr pass0 I .nil h))
end
/-- len of a list or a tuple -/
def rLenS (K : PySem.W.Frag) : List V → Hp → VK → Prop := fun xs H Q => ∃ p ys, xs = [.ref p] ∧ (SqL K H p ys ∨ SqT K H p ys) ∧ Q (.int (ys.length : Int)) H
theorem cr_len {X : Cx} : CallR X (.builtin "len") (rLenS X.K) := call_len_seq
end Hw

namespace Hw
open PySem PySem.Spec PyProof.Rows L2
def top (i : Nat) : Stmt := PySem.Challenge.pw_handwalk_k05_ways.main.body.getD i (.Pass ⟨0, 0, 0, 0⟩)
abbrev sWhole : Stmt := top 2
abbrev sIndex : Stmt := top 3
abbrev sIsPassage : Stmt := top 10
abbrev sFirstWrong : Stmt := top 11
abbrev sLeast : Stmt := top 12
abbrev sConn : Stmt := top 13
abbrev sFault : Stmt := top 14
abbrev sBridges : Stmt := top 15
abbrev sCells : Stmt := top 16
abbrev sExits : Stmt := top 17
abbrev sNetwork : Stmt := top 18
abbrev sMixed : Stmt := top 20
abbrev sFolded : Stmt := top 21
abbrev sDraw : Stmt := top 22
abbrev sBegun : Stmt := top 23
abbrev sMixedUp : Stmt := top 24
abbrev sTie : Stmt := top 25
abbrev sTree : Stmt := top 26
abbrev sRing : Stmt := top 27
abbrev sCore : Stmt := top 28
abbrev sShifted : Stmt := top 29
abbrev sTop : Stmt := top 30
abbrev sRenamed : Stmt := top 31
abbrev sTies : Stmt := top 32
abbrev sDoors : Stmt := top 33
abbrev sPlaceE : Stmt := top 7
abbrev sDoubled : Stmt := top 34
abbrev sSpans : Stmt := top 35
abbrev sLeastWay : Stmt := top 36
abbrev sRight : Stmt := top 37
abbrev sValue : Stmt := top 38
abbrev sRefused : Stmt := top 39
abbrev sLaw : Stmt := top 40
/-- what the module's names are -/
structure Txt (mg : Str → Option Value) : Prop where
  len : mg "len" = none
  isinstance : mg "isinstance" = none
  int : mg "int" = none
  bool : mg "bool" = none
  tuple : mg "tuple" = none
  list : mg "list" = none
  range : mg "range" = none
  set : mg "set" = none
  enumerate : mg "enumerate" = none
  sum : mg "sum" = none
  sorted : mg "sorted" = none
  min : mg "min" = none
  zip : mg "zip" = none
  max : mg "max" = none
  repr : mg "repr" = none
end Hw

/-! Permutations as lists of numbers: what the program's functions compute. No Python here. -/
namespace Hw
/-- item x of p (0 beyond) -/
def ap (p : List Nat) (x : Nat) : Nat := p.getD x 0
def IsP (p : List Nat) : Prop := p.Nodup ∧ ∀ x ∈ p, x < p.length
/-- first p, then q -/
def mul (p q : List Nat) : List Nat := p.map (ap q)
def inv (p : List Nat) : List Nat := (List.range p.length).map fun y => p.idxOf y
/-- all of ps, one after the other, on n positions -/
def muls (n : Nat) (ps : List (List Nat)) : List Nat := ps.foldl mul (List.range n)
/-- k steps from x -/
def it (p : List Nat) : Nat → Nat → Nat
  | 0, x => x
  | k + 1, x => ap p (it p k x)
/-- x comes back first after so many steps: the least k from 1 on, sought up to n -/
def perF (p : List Nat) (x : Nat) : Nat → Nat → Nat
  | 0, k => k
  | m + 1, k => if it p k x = x then k else perF p x m (k + 1)
def per (p : List Nat) (x : Nat) : Nat := perF p x p.length 1
/-- the way of x until it is back -/
def orb (p : List Nat) (x : Nat) : List Nat := (List.range (per p x)).map fun k => it p k x
/-- j lies on the way of one below i -/
def sn (p : List Nat) (i j : Nat) : Bool := (List.range i).any fun f => decide (j ∈ orb p f)
/-- the cycles that begin below i -/
def cycF (p : List Nat) (i : Nat) : List (List Nat) := ((List.range i).filter fun f => !sn p f f && decide (1 < per p f)).map (orb p)
def cyc (p : List Nat) : List (List Nat) := cycF p p.length
def ord (p : List Nat) : Nat := (cyc p).foldl (fun r c => Nat.lcm r c.length) 1
def evenP (p : List Nat) : Bool := decide (((cyc p).map fun c => (c.length : Int) - 1).sum % 2 = 0)
/-- how many ahead of place i are greater than what stands there -/
def invAt (p : List Nat) (i : Nat) : Nat := ((p.take i).filter fun x => decide (ap p i < x)).length
def invs (p : List Nat) : Nat := ((List.range p.length).map (invAt p)).sum
theorem ap_get {p : List Nat} {x : Nat} (h : x < p.length) : p[x]? = some (ap p x) := by
  unfold ap
  rw [List.getD_eq_getElem?_getD, List.getElem?_eq_getElem h]
  rfl
theorem ap_mem {p : List Nat} {x : Nat} (h : x < p.length) : ap p x ∈ p := List.mem_of_getElem? (ap_get h)
theorem ap_lt {p : List Nat} {x : Nat} (hp : IsP p) (h : x < p.length) : ap p x < p.length := hp.2 _ (ap_mem h)
theorem mul_len (p q : List Nat) : (mul p q).length = p.length := by unfold mul; rw [List.length_map]
/-- a row of n numbers below n -/
def Row (n : Nat) (m : List Nat) : Prop := m.length = n ∧ ∀ x ∈ m, x < n
theorem row_range (n : Nat) : Row n (List.range n) := ⟨List.length_range, fun x hx => List.mem_range.mp hx⟩
theorem row_of {p : List Nat} {n : Nat} (h : IsP p) (e : p.length = n) : Row n p := ⟨e, fun x hx => by rw [← e]; exact h.2 x hx⟩
theorem row_mul {n : Nat} {m p : List Nat} (hm : Row n m) (hp : Row n p) : Row n (mul m p) := by
  refine ⟨by rw [mul_len]; exact hm.1, fun x hx => ?_⟩
  obtain ⟨y, hy, rfl⟩ := List.mem_map.mp hx
  exact hp.2 _ (ap_mem (by rw [hp.1]; exact hm.2 y hy))
theorem row_foldl {n : Nat} : ∀ (ps : List (List Nat)) (m : List Nat), Row n m → (∀ p ∈ ps, Row n p) → Row n (ps.foldl mul m)
  | [], _, h, _ => h
  | p :: ps, m, h, hp => row_foldl ps (mul m p) (row_mul h (hp p List.mem_cons_self)) fun q hq => hp q (List.mem_cons_of_mem _ hq)
theorem row_muls {n : Nat} {ps : List (List Nat)} (hp : ∀ p ∈ ps, Row n p) : Row n (muls n ps) := row_foldl ps _ (row_range n) hp
theorem muls_snoc (n : Nat) (ps : List (List Nat)) (p : List Nat) : muls n (ps ++ [p]) = mul (muls n ps) p := by
  unfold muls
  rw [List.foldl_append]
  rfl
end Hw

/-! Further rules: enumerate(t) of a tuple, lcm(a, b), len(set(t)) of equal numbers, min(t) of a tuple of numbers. -/
namespace PySem
section
set_option maxHeartbeats 1000000 in
theorem hw_enum_meets {v : Value} {ob : Obj} {HH : Heap → Prop} (B : Begins v ob HH) :
    Meets (Builtin.«enumerate.__new__» ⟨[.type "enumerate", v], []⟩) (fun _ Res sh => HH sh.heap ∧ Res (.ok (.ret (.ref (sh.heap.push ob).objs.size)))
      { sh with heap := (sh.heap.push ob).push { cls := .type "enumerate", data := .fields #[.none, .bool false, .ref sh.heap.objs.size, rawInt 0, .none, .none] } }) :=
  .of_wp fun pr wo Ar Res sh hyp => by
    obtain ⟨hp, gg, dd, tt, oo⟩ := sh
    obtain ⟨hy1, hy2⟩ := hyp
    have sub_e := sub_enumerate
    have itr : ∀ {A2 : Around} {E2 : Value → Shared → Prop} {Q2 : Value → Shared → Prop}, Q2 (.ref hp.objs.size) ⟨hp.push ob, gg, dd, tt, oo⟩ → wpAny (model pr wo) A2 (pyIter v) Q2 E2 ⟨hp, gg, dd, tt, oo⟩ :=
      fun z => B.iter pr wo _ _ ⟨hp, gg, dd, tt, oo⟩ _ hy1 z
    wp_walk using itr
    refine wpAny_stack_any fun stk => wpAny_pure ?_
    split
    · rename_i cc _ _ _ _ _
      cases (cc == Value.type "enumerate") <;> (wp_walk using itr; exact ⟨_, rfl, hy2⟩)
    · wp_walk using itr
      exact ⟨_, rfl, hy2⟩
variable {prog : Program} {w : World} {A : Around} {E : Value → Shared → Prop} {s : Shared}
theorem hw_enum_call {v : Value} {ob : Obj} {HH : Heap → Prop} {Q : Value → Shared → Prop} (B : Begins v ob HH) (hy : HH s.heap)
    (k : ∀ h', IsEnum h' (s.heap.objs.size + 1) s.heap.objs.size 0 .none → h'.get? s.heap.objs.size = some ob → (∀ b o, s.heap.get? b = some o → h'.get? b = some o) → Q (.ref (s.heap.objs.size + 1)) { s with heap := h' }) :
    wpAny (model prog w) A (call (.type "enumerate") [v]) Q E s := by
  refine callType_new F.called_enumerate (by decide) (F.typeCall_enumerate_1 _) (F.newCall_enumerate_1 _)
    (fun x => F.args_object_init_2 x _) F.entry_enumerate_new (hw_enum_meets B) ⟨hy, ?_⟩
  have size1 : (s.heap.push ob).objs.size = s.heap.objs.size + 1 := by rw [Heap.size_push]
  show _ ∧ _
  rw [size1]
  have at2 := Heap.get?_push_size (s.heap.push ob) (o := { cls := .type "enumerate", data := .fields #[.none, .bool false, .ref s.heap.objs.size, rawInt 0, .none, .none] }) rfl
  rw [size1] at at2
  exact ⟨⟨_, at2, rfl⟩, k _ at2 (Heap.get?_push_of_some _ (Heap.get?_push_size _ B.free)) fun b o z => Heap.get?_push_of_some _ (Heap.get?_push_of_some _ z)⟩
end
end PySem
namespace Hw
open PySem PySem.Spec PyProof.Rows L2
/-! ### enumerate(t) -/
def IteT (K : PySem.W.Frag) (a : Addr) : It where
  go i H := ∃ (xs : List V) (x : V), SqT K H a xs ∧ xs[i]? = some x
  yld i H v H' := ∃ T x, v = .ref T ∧ H T = none ∧ H' = upd H T (.tup [.int (i : Nat), x]) ∧ ∀ xs, SqT K H a xs → xs[i]? = some x
  stop i H := ∃ xs : List V, SqT K H a xs ∧ xs.length = i
def TnE (a e it : Addr) (i : Nat) (h : Heap) : Prop := (∃ old, IsEnum h e it ((i : Nat) : Int) old) ∧ h.IsTupleIter it a i ∧ e ≠ it ∧ a ≠ it ∧ a ≠ e
theorem turn_enumT {P : Program} {w : World} {K : PySem.W.Frag} {elts : List Expr} {kk : Nat} {tpos : Pos} (a e it : Addr) : Turn P w K (.Tuple elts kk tpos) (IteT K a) [e, it] e (TnE a e it) where
  mem := List.mem_cons_self
  obj := by
    rintro i h ⟨⟨old, he⟩, ⟨o, ho, hc, hd⟩, _⟩ b hb
    rcases List.mem_cons.mp hb with z | hb
    · exact ⟨_, by rw [z]; exact he, fun v q => by cases q⟩
    · rw [List.mem_singleton.mp hb]
      exact ⟨o, ho, fun v q => by rw [hd] at q; cases q⟩
  keep := by
    rintro i h h' ⟨⟨old, he⟩, hi, n⟩ kp
    exact ⟨⟨old, kp e List.mem_cons_self _ he⟩, hi.at fun o q => kp it (List.mem_cons_of_mem _ List.mem_cons_self) o q, n⟩
  item := by
    rintro X rfl rfl rfl calm i pins s σ H E I free ⟨⟨old, he⟩, hit, n1, n2, n3⟩ ⟨xs, x, hq, hx⟩
    obtain ⟨its, rv, tT, szl⟩ := I.tuple hq
    obtain ⟨u, hu, ru⟩ := rv.get hx
    have lt_e : e < s.heap.objs.size := Heap.lt_size he
    have lt_i : it < s.heap.objs.size := by
      obtain ⟨_, z, _⟩ := hit
      exact Heap.lt_size z
    have lt_n : i < its.toArray.size := by
      have z := (List.getElem?_eq_some_iff.mp hu).1
      simpa using z
    refine wpAny_pyNext_enum_itemD (Draws.tuple (A := X.A.in1) (I.ok.hd calm) it a n2 its.toArray) he ⟨hit, tT⟩ lt_n n1 (fun m => ?_) fun y h2 tk hy out st2 new2 sz2 keep2 => ?_
    · rcases List.mem_cons.mp m with z | m
      · exact n1 z
      · exact n3 (List.mem_singleton.mp m).symm
    have ey : y = u := by
      have z : its[i]? = some y := by simpa using hy
      rw [hu] at z
      exact (Option.some.inj z).symm
    subst ey
    refine ⟨_, rfl, wpAny_letOwnedTupleGo_enum (s := { s with heap := h2, toks := tk + 1 }) out fun h3 he3 sb => ?_⟩
    have at3 := (sb.2 _ (Nat.ne_of_gt lt_e)).trans new2
    have made : ObjOk X.prog X.w (upd H s.heap.objs.size (.tup [.int (i : Nat), x])) h3 s.heap.objs.size (.tup [.int (i : Nat), x]) := by
      refine ⟨by show 2 ≤ sizeLine; decide, [.int i tk, y], .cons ⟨_, rfl⟩ (.cons ru .nil), ⟨_, at3, rfl, _, rfl⟩⟩
    have J := I.turnedNew (h' := h3) (t' := tk + 1) (ch := [e, it]) (fun b ob nb q => (sb.2 b (fun z => nb (by simp [z]))).trans (keep2 b ob (fun z => nb (by simp [z])) (fun z => nb (by simp [z])) q)) free (Nat.le_refl _) made
    refine ⟨.ref s.heap.objs.size, _, J, rfl, ⟨_, x, rfl, I.hok.fresh (Nat.le_refl _), rfl, fun ys hy => by rw [I.tuple_inj hy hq]; exact hx⟩, ⟨⟨y, ?_⟩, st2.1.at fun o q => (sb.2 it (Ne.symm n1)).trans q, n1, n2, n3⟩, fun b hb => ?_⟩
    · have e1 : ((i + 1 : Nat) : Int) = (i : Int) + 1 := by omega
      rw [e1]
      exact he3
    · have lt_b : b < s.heap.objs.size := by
        rcases List.mem_cons.mp hb with z | hb
        · rw [z]; exact lt_e
        · rw [List.mem_singleton.mp hb]; exact lt_i
      rw [upd_ne (Nat.ne_of_lt lt_b)]
      exact (free b hb).1
  done := by
    rintro X rfl rfl rfl calm i pins s σ H E I free ⟨⟨old, he⟩, hit, n1, n2, n3⟩ ⟨xs, hq, hx⟩
    obtain ⟨its, rv, tT, szl⟩ := I.tuple hq
    have e1 : its.toArray.size = i := by
      rw [List.size_toArray, ← rv.length, hx]
    obtain ⟨f0, f1, f2, f3, f4, f5⟩ := free it (List.mem_cons_of_mem _ List.mem_cons_self)
    refine wpAny_pyNext_enum_endD (Draws.tuple (A := X.A.in1) (I.ok.hd calm) it a n2 its.toArray) he ⟨by rw [e1]; exact hit, tT⟩ fun h2 eb => ⟨rfl, ?_⟩
    exact I.turned (t' := s.toks) (fun b o hb q => eb b o hb q) f0 f1 f3 f4 f5
  self := by
    rintro A i s Q E ⟨⟨_, he⟩, _⟩ q
    exact wpAny_pyIter_enum he q
def iEnumT (K : PySem.W.Frag) (ta : TA) : TI := fun σ H R => ta σ H fun vs H1 => ∃ a xs, vs = [.ref a] ∧ SqT K H1 a xs ∧ R (IteT K a) H1
theorem pi_enumT {X : Cx} {e : Expr} {ta : TA} {p pos tpos : Pos} {elts : List Expr} {kk : Nat} (gl : Gl X "enumerate") (nm : X.mg "enumerate" = none) (arg : PA X [e] ta)
    (st : starEach [e] X.env = [(false, eval e X.env)] := by rfl) : PI X (.Tuple elts kk tpos) (.Call (.Name "enumerate" p) [e] [] pos) (iEnumT X.K ta) := by
  constructor
  intro pins s σ H R I hyp
  refine Call_ (ld_blt I gl nm boot_enumerate (PyProof.Rows.callWith_type1 (thn (arg.run pos pins s σ H _ I hyp) ?_) st rfl))
  rintro us s1 ⟨vs, H1, I1, r1, a, xs, rfl, hq, q⟩
  rw [Vals.ref1 r1]
  obtain ⟨its, rv, tT, szl⟩ := I1.tuple hq
  refine hw_enum_call (begins_tuple a its.toArray) tT fun h' he hit keep => wpAny_pyIter_enum he ?_
  have J : Inv X pins σ H1 { s1 with heap := h' } := I1.kept (t' := s1.toks) keep
  have lt_a : a < s1.heap.objs.size := by
    obtain ⟨_, z, _⟩ := tT
    exact Heap.lt_size z
  refine ⟨s1.heap.objs.size + 1, [s1.heap.objs.size + 1, s1.heap.objs.size], _, _, H1, rfl, J, turn_enumT a (s1.heap.objs.size + 1) s1.heap.objs.size,
    ⟨⟨.none, he⟩, ⟨_, hit, rfl, rfl⟩, Nat.succ_ne_self _, Nat.ne_of_lt lt_a, Nat.ne_of_lt (Nat.lt_succ_of_lt lt_a)⟩, fun b hb => ?_, q⟩
  have le_b : s1.heap.objs.size ≤ b := by
    rcases List.mem_cons.mp hb with z | hb
    · rw [z]; exact Nat.le_succ _
    · rw [List.mem_singleton.mp hb]; exact Nat.le_refl _
  exact I1.fpOk le_b (I1.hok.fresh le_b)
theorem walk_enumT {K : PySem.W.Frag} {a : Addr} {xs : List V} : Walk (IteT K a) xs.length (fun H => SqT K H a xs) (YPair (fun i => some (.int (i : Nat))) (fun i => xs[i]?)) where
  goes i H hi q := ⟨xs, xs[i], q, by simp [hi]⟩
  stops H q := ⟨xs, q, rfl⟩
  yields := by
    rintro i H x H' hi q ⟨T, y, rfl, n, rfl, hy⟩
    exact ⟨T, _, y, rfl, n, rfl, rfl, hy xs q⟩
/-! ### lcm -/
section
variable {X : Cx}
def rLcm : List V → Hp → VK → Prop := fun vs H Q => ∃ a b : Nat, vs = [.int (a : Int), .int (b : Int)] ∧ a < 2 ^ 60 ∧ b < 2 ^ 60 ∧ Nat.lcm a b < 2 ^ 60 ∧ Q (.int ((Nat.lcm a b : Nat) : Int)) H
theorem small_log {n : Nat} (h : n < 2 ^ 60) : n.log2 < bitsLine := by
  have : n.log2 ≤ 60 := by
    by_cases z : n = 0
    · subst z; decide
    · have := (Nat.log2_lt z).mpr h
      omega
  exact Nat.lt_of_le_of_lt this (by decide)
theorem cr_lcm : CallR X (.builtin "math.lcm") rLcm := by
  rintro pins s σ H vs us Q I r ⟨a, b, rfl, ha, hb, hc, q⟩
  obtain ⟨t, u, rfl⟩ := Vals.int2 r
  refine PySem.W.mg_lcm_v (c := ((Nat.lcm a b : Nat) : Int)) (by rw [Int.natAbs_natCast]; omega) (by rw [Int.natAbs_natCast]; omega) ?_ (by rw [Int.natAbs_natCast]; exact small_log hc) ⟨.int _, H, I.tok _, ⟨_, rfl⟩, q⟩
  rw [Int.natAbs_natCast, Int.natAbs_natCast]
  congr 2
  simp [Nat.lcm]
/-! ### min(t) -/
theorem reads_ints {h : Heap} : ∀ {ns : List Int} {us : List Value}, Vals (ns.map V.int) us → ReadsAll h us (ns.map PyData.int) []
  | [], _, .nil => .nil
  | n :: ns, _, .cons r t => by
    obtain ⟨k, rfl⟩ := r
    exact .cons (as := []) (bs := []) (.int n k) (reads_ints t)
theorem depth_ints : ∀ ns : List Int, PyData.depthAll (ns.map PyData.int) = 0
  | [] => rfl
  | n :: ns => by
    show max 0 (PyData.depthAll (ns.map PyData.int)) = 0
    rw [depth_ints ns]
    rfl
def rMinT (K : PySem.W.Frag) : List V → Hp → VK → Prop := fun vs H Q => ∃ (a : Addr) (n : Int) (ns : List Int), vs = [V.ref a] ∧ SqT K H a ((n :: ns).map V.int) ∧ Q (.int (ns.foldl min n)) H
theorem cr_minT (calm : X.calm = true) (hu : X.A.units + 1 < cLine) : CallR X (.builtin "min") (rMinT X.K) := by
  rintro pins s σ H vs us Q I r ⟨a, n, ns, rfl, hs, q⟩
  obtain ⟨its, rv, tT, _⟩ := I.tuple hs
  rw [Vals.ref1 r]
  have rd : ReadsAll s.heap its.toArray.toList (PyData.int n :: ns.map PyData.int) [] := reads_ints (ns := n :: ns) rv
  refine PySem.W.min_tuple_data (I.ok.hd calm) tT rd ⟨?_, ?_⟩ ?_ fun i v h' tk bs _ rv' keep => ?_
  · intro x hx y hy
    obtain ⟨x', _, rfl⟩ := List.mem_map.mp (show x ∈ (n :: ns).map PyData.int from hx)
    obtain ⟨y', _, rfl⟩ := List.mem_map.mp (show y ∈ (n :: ns).map PyData.int from hy)
    rfl
  · intro x hx
    obtain ⟨x', _, rfl⟩ := List.mem_map.mp (show x ∈ (n :: ns).map PyData.int from hx)
    exact fun z => nomatch z
  · have z := depth_ints (n :: ns)
    rw [List.map_cons] at z
    rw [z]
    exact hu
  · rw [PySem.W.minD_ints] at rv'
    cases rv' with
    | int _ t => exact ⟨.int _, H, I.kept keep, ⟨_, rfl⟩, q⟩
/-! ### len(set(t)) where there is at most one number -/
def tLenSetT (K : PySem.W.Frag) (ta : TE) : TE := fun σ H Q => ta σ H fun x H1 => ∃ (l : Addr) (ns : List Int) (n : Int), x = .ref l ∧ SqT K H1 l (ns.map V.int) ∧ (∀ m ∈ ns, m = n) ∧ ns.length ≤ 1000 ∧ ∀ c : Nat, c ≤ 1 → Q (.int (c : Int)) H1
theorem pe_lenSetT {a : Expr} {ta : TE} {p p2 q pos : Pos} (gl : Gl X "len") (nm : X.mg "len" = none) (gl2 : Gl X "set") (nm2 : X.mg "set" = none) (arg : PE X a ta) (calm : X.calm = true := by rfl)
    (na : starEach [a] X.env = (false, eval a X.env) :: starEach [] X.env := by rfl) : PE X (.Call (.Name "len" p) [.Call (.Name "set" p2) [a] [] q] [] pos) (tLenSetT X.K ta) := by
  constructor
  intro pins s σ H Q I hyp
  refine Call_ (ld_blt I gl nm boot_len (PyProof.Rows.callWith_builtin1 (PyProof.Rows.args_cons ?_ rfl) rfl rfl))
  refine Call_ (ld_blt I gl2 nm2 boot_set (PyProof.Rows.callWith_type1 (PyProof.Rows.args_cons (thn (arg.run pins s σ H _ I hyp) ?_) na) na rfl))
  rintro v s1 ⟨x, H1, I1, r1, l, ns, n, rfl, hq, al, le, q1⟩
  obtain rfl : v = Value.ref l := r1
  refine PyProof.Rows.args_nil ?_
  obtain ⟨its, rv, tT, szl⟩ := I1.tuple hq
  refine call_set_tupI ns (I1.ok.hd calm) tT (by simpa using ints_of_vals rv) (by unfold scanBound; omega) fun h' tk c R _ keep => PyProof.Rows.args_nil ?_
  have J : Inv X pins σ H1 { s1 with heap := h', toks := tk } := I1.kept keep
  obtain ⟨o, es, ep, t, ho, hex, hd, _, nd, mem, sb, hf, hn, _⟩ := R
  have c1 : es.size ≤ 1 := by
    have sub : ∀ k ∈ es.toList.map keyOf, k = n := fun k hk => by
      have z := (mem k).mpr hk
      exact al k (of_decide_eq_true z)
    have l1 : (es.toList.map keyOf).length = es.size := by rw [List.length_map, Array.length_toList]
    rw [← l1]
    cases e1 : es.toList.map keyOf with
    | nil => simp
    | cons x r =>
      cases r with
      | nil => simp
      | cons y r =>
        exfalso
        rw [e1] at nd sub
        have ex := sub x List.mem_cons_self
        have ey := sub y (List.mem_cons_of_mem _ List.mem_cons_self)
        rw [ex, ey] at nd
        simp at nd
  exact call_len_set ho hex hd hf (by omega) ⟨.int es.size, H1, J.tok _, ⟨_, rfl⟩, q1 _ c1⟩
end
end Hw

/-! sorted(t) of a tuple of tuples of numbers that rises already -/
namespace Hw
open PySem PySem.Spec PyProof.Rows L2
theorem vals_refs : ∀ {ks : List (Addr × List Int)} {us : List Value}, Vals (ks.map fun k => V.ref k.1) us → us = ks.map fun k => Value.ref k.1
  | [], _, .nil => rfl
  | k :: ks, _, .cons r t => by
    obtain rfl : _ = Value.ref k.1 := r
    rw [vals_refs t]
    rfl
theorem refs_vals : ∀ ks : List (Addr × List Int), Vals (ks.map fun k => V.ref k.1) (ks.map fun k => Value.ref k.1)
  | [] => .nil
  | k :: ks => .cons rfl (refs_vals ks)
def encT (k : Addr × List Int) : PyData := .tuple (k.2.map PyData.int)
theorem le_encT (k l : Addr × List Int) : PySem.W.dataLe false encT k l = !decide (l.2 < k.2) := by
  show (!PySem.W.dataLt (.tuple (l.2.map PyData.int)) (.tuple (k.2.map PyData.int))) = _
  rw [PySem.W.dataLt_tuple]
  show (!PySem.W.rowLt (l.2.map PyData.int) (k.2.map PyData.int)) = _
  rw [PySem.W.dataLt_ints]
theorem each_refs {R : Value → Addr × List Int → Prop} : ∀ ks : List (Addr × List Int), (∀ k ∈ ks, R (.ref k.1) k) → PySem.W.EachIs R (ks.map fun k => Value.ref k.1) ks
  | [], _ => .nil
  | k :: ks, h => .cons (h k List.mem_cons_self) (each_refs ks fun l hl => h l (List.mem_cons_of_mem _ hl))
theorem each_out : ∀ {ks : List (Addr × List Int)} {out : List Value}, PySem.W.EachIs (fun v k => v = Value.ref k.1) out ks → out = ks.map fun k => Value.ref k.1
  | [], _, .nil => rfl
  | k :: ks, _, .cons e t => by
    rw [e, each_out t]
    rfl
section
variable {X : Cx}
def rSortTT (K : PySem.W.Frag) : List V → Hp → VK → Prop := fun vs H Q => ∃ (a : Addr) (ks : List (Addr × List Int)), vs = [V.ref a] ∧ SqT K H a (ks.map fun k => V.ref k.1) ∧ (∀ k ∈ ks, SqT K H k.1 (k.2.map V.int) ∧ k.2 ≠ []) ∧
  ks.Pairwise (fun k l => ¬ l.2 < k.2) ∧ ∀ p, H p = none → Q (.ref p) (upd H p (.lst (ks.map fun k => V.ref k.1)))
theorem cr_sortTT (hu : X.A.units + 64 < cLine) : CallR X (.builtin "sorted") (rSortTT X.K) := by
  rintro pins s σ H vs us Q I r ⟨a, ks, rfl, hs, hk, pw, q⟩
  obtain ⟨its, rv, tT, szl⟩ := I.tuple hs
  have ei := vals_refs rv
  rw [Vals.ref1 r]
  obtain ⟨o, ho, hc, n, hd⟩ := tT
  have hl : its.length ≤ sizeLine := by rw [← rv.length]; exact szl
  have hl2 : ks.length ≤ sizeLine := by rw [List.length_map] at szl; exact szl
  refine PySem.Calls.call_function_entry kind_sorted plain_sorted entry_sorted (args_sorted1 _) ?_
  unfold Builtin.«sorted»
  refine wpAny_bind (m := checkCount "sorted" 1 1 _) (wpAny_pure (wpAny_bind (wpAny_collect_seq a (.inr rfl) ho hc hd (fun h' keep => ?_) (by rw [List.size_toArray]; exact hl))))
  rw [List.toList_toArray]
  refine wpAny_bind (wpAny_newList ?_ hl)
  have J : Inv X pins σ H { s with heap := h' } := I.kept (t' := s.toks) keep
  have at1 := Heap.get?_push_size h' (o := ({ cls := .type "list", data := .seq its.toArray } : Obj)) rfl
  have rd : ∀ k ∈ ks, ∃ as, Reads (h'.push { cls := .type "list", data := .seq its.toArray }) (.ref k.1) (encT k) as ∧ h'.objs.size ∉ as := fun k m => by
    obtain ⟨us2, rv2, ⟨o2, ho2, hc2, n2, hd2⟩, _⟩ := J.tuple (hk k m).1
    have r2 := reads_ints (h := h'.push { cls := .type "list", data := .seq its.toArray }) rv2
    refine ⟨[], ?_, by simp⟩
    exact Reads.tuple (Heap.get?_push_of_some _ ho2) hc2 hd2 (by simpa using r2)
  have e1 : PySem.W.EachIs (fun v (k : Addr × List Int) => v = Value.ref k.1) its ks := by
    rw [ei]
    exact each_refs ks fun _ _ => rfl
  have e2 : PySem.W.EachIs (fun v (k : Addr × List Int) => ∃ as, Reads (h'.push { cls := .type "list", data := .seq its.toArray }) v (encT k) as ∧ h'.objs.size ∉ as) its ks := by
    conv => arg 2; rw [ei]
    exact each_refs ks rd
  have al : PySem.W.AllAlike (ks.map encT) := by
    intro d hd d' hd'
    obtain ⟨k, _, rfl⟩ := List.mem_map.mp hd
    obtain ⟨l, _, rfl⟩ := List.mem_map.mp hd'
    exact PySem.W.alike_ints k.2 l.2
  have srt : PySem.W.Sortable (ks.map encT) := .inl fun d hd => by
    obtain ⟨k, m, rfl⟩ := List.mem_map.mp hd
    have ne := (hk k m).2
    unfold encT
    cases e : k.2 with
    | nil => exact absurd e ne
    | cons x r => exact ⟨_, _, rfl⟩
  refine wpAny_bind (wpAny_holding (wpAny_mono (PySem.W.list_sort_data (s := { s with heap := h'.push { cls := .type "list", data := .seq its.toArray } }) (vs := its) (bs := ks) (enc := encT) (R := fun v k => v = Value.ref k.1)
    (E := X.xe) (Q := fun _ s' => s' = { s with heap := sortedHeap (h'.push { cls := .type "list", data := .seq its.toArray }) h'.objs.size its its.toArray }) at1 e1 e2 al srt hl2 (fun k m => ?_) (fun out _ eo => ?_)) (fun u s' es => ?_) fun _ _ z => z))
  · have : (encT k).depth = 0 + 1 := by
      show PyData.depthAll (k.2.map PyData.int) + 1 = 0 + 1
      rw [Hw.depth_ints]
    rw [this]
    show X.A.units + 1 + 1 + (0 + 1) < cLine
    omega
  · have ms : ks.mergeSort (PySem.W.dataLe false encT) = ks := by
      refine List.mergeSort_of_pairwise (List.Pairwise.imp (fun {k l} n => ?_) pw)
      rw [le_encT]
      simp [n]
    rw [ms] at eo
    have := each_out eo
    rw [this, ei]
  · subst es
    obtain ⟨c, hc2⟩ := sortedHeap_at (out := its.toArray) at1
    have old : ∀ b ob, h'.get? b = some ob → (sortedHeap (h'.push { cls := .type "list", data := .seq its.toArray }) h'.objs.size its its.toArray).get? b = some ob := fun b ob e => by
      have lt2 := Heap.lt_size e
      rw [sortedHeap_old (Nat.ne_of_lt lt2) (by rw [Heap.size_push]; exact Nat.lt_succ_of_lt lt2)]
      exact Heap.get?_push_of_some _ e
    refine wpAny_pure ⟨_, rfl, .ref h'.objs.size, upd H h'.objs.size (.lst (ks.map fun k => V.ref k.1)), J.laid (t' := s.toks) old (Nat.le_refl _) ⟨szl, its, c, rv, hc2⟩, rfl, q _ (J.hok.fresh (Nat.le_refl _))⟩
end
end Hw

namespace Hw
/-! ### numbers below n -/
theorem len_le : ∀ (n : Nat) (l : List Nat), l.Nodup → (∀ x ∈ l, x < n) → l.length ≤ n
  | 0, l, _, h => by
    cases l with
    | nil => exact Nat.le_refl _
    | cons x r => exact absurd (h x List.mem_cons_self) (Nat.not_lt_zero _)
  | n + 1, l, nd, h => by
    have h1 := len_le n (l.erase n) (nd.erase n) fun x hx => by
      have e1 := (List.Nodup.mem_erase_iff nd).mp hx
      have := h x e1.2
      have := e1.1
      omega
    by_cases z : n ∈ l
    · rw [List.length_erase_of_mem z] at h1
      omega
    · rw [List.erase_of_not_mem z] at h1
      omega
theorem isP_mem {p : List Nat} (h : IsP p) {y : Nat} (hy : y < p.length) : y ∈ p := by
  by_cases z : y ∈ p
  · exact z
  · exfalso
    have := len_le p.length (y :: p) (List.nodup_cons.mpr ⟨z, h.1⟩) fun x hx => by
      rcases List.mem_cons.mp hx with e | m
      · rw [e]; exact hy
      · exact h.2 x m
    rw [List.length_cons] at this
    omega
theorem ap_inj {p : List Nat} (h : IsP p) {x y : Nat} (hx : x < p.length) (hy : y < p.length) (e : ap p x = ap p y) : x = y := by
  have h1 := ap_get hx
  have h2 := ap_get hy
  rw [e] at h1
  obtain ⟨_, e1⟩ := List.getElem?_eq_some_iff.mp h1
  obtain ⟨_, e2⟩ := List.getElem?_eq_some_iff.mp h2
  exact (List.getElem_inj (h₀ := hx) (h₁ := hy) h.1).mp (e1.trans e2.symm)
/-! ### steps -/
theorem it_lt {p : List Nat} (h : IsP p) {x : Nat} (hx : x < p.length) : ∀ k, it p k x < p.length
  | 0 => hx
  | k + 1 => ap_lt h (it_lt h hx k)
theorem it_add (p : List Nat) (x j : Nat) : ∀ k, it p (j + k) x = it p k (it p j x)
  | 0 => rfl
  | k + 1 => by
    show ap p (it p (j + k) x) = ap p (it p k (it p j x))
    rw [it_add p x j k]
theorem it_inj {p : List Nat} (h : IsP p) {x y : Nat} (hx : x < p.length) (hy : y < p.length) : ∀ k, it p k x = it p k y → x = y
  | 0, e => e
  | k + 1, e => it_inj h hx hy k (ap_inj h (it_lt h hx k) (it_lt h hy k) e)
theorem back_ex {p : List Nat} (h : IsP p) {x : Nat} (hx : x < p.length) : ∃ k, 1 ≤ k ∧ k ≤ p.length ∧ it p k x = x := by
  by_cases z : ∃ k, 1 ≤ k ∧ k ≤ p.length ∧ it p k x = x
  · exact z
  · exfalso
    have nd : ((List.range (p.length + 1)).map fun k => it p k x).Nodup := by
      rw [List.nodup_iff_pairwise_ne, List.pairwise_map]
      refine List.Pairwise.imp_of_mem (fun {i j} hi hj hij e => ?_) (List.pairwise_lt_range (n := p.length + 1))
      rw [List.mem_range] at hi hj
      apply z
      refine ⟨j - i, by omega, by omega, ?_⟩
      have e2 : j = i + (j - i) := by omega
      rw [e2, Nat.add_comm, it_add] at e
      exact (it_inj h hx (it_lt h hx _) i (by
        rw [e])).symm
    have := len_le p.length _ nd fun y hy => by
      obtain ⟨k, _, rfl⟩ := List.mem_map.mp hy
      exact it_lt h hx k
    rw [List.length_map, List.length_range] at this
    omega
theorem perF_spec (p : List Nat) (x : Nat) : ∀ m k, (∃ j, k ≤ j ∧ j < k + m ∧ it p j x = x) → k ≤ perF p x m k ∧ perF p x m k < k + m ∧ it p (perF p x m k) x = x ∧ ∀ j, k ≤ j → j < perF p x m k → it p j x ≠ x
  | 0, k, ⟨j, h1, h2, _⟩ => by omega
  | m + 1, k, ⟨j, h1, h2, h3⟩ => by
    unfold perF
    by_cases z : it p k x = x
    · rw [if_pos z]
      exact ⟨Nat.le_refl _, by omega, z, fun j a b => by omega⟩
    · rw [if_neg z]
      have hj : k + 1 ≤ j := by
        rcases Nat.lt_or_ge k j with q | q
        · exact q
        · have : j = k := by omega
          subst this
          exact absurd h3 z
      obtain ⟨a, b, c, d⟩ := perF_spec p x m (k + 1) ⟨j, hj, by omega, h3⟩
      refine ⟨by omega, by omega, c, fun i hi hi2 => ?_⟩
      rcases Nat.lt_or_ge k i with q | q
      · exact d i q hi2
      · have : i = k := by omega
        subst this
        exact z
section
variable {p : List Nat} (h : IsP p) {x y : Nat} (hx : x < p.length)
include h hx
theorem per_spec : 1 ≤ per p x ∧ per p x ≤ p.length ∧ it p (per p x) x = x ∧ ∀ j, 1 ≤ j → j < per p x → it p j x ≠ x := by
  obtain ⟨k, h1, h2, h3⟩ := back_ex h hx
  obtain ⟨a, b, c, d⟩ := perF_spec p x p.length 1 ⟨k, h1, by omega, h3⟩
  exact ⟨a, by unfold per; omega, c, d⟩
theorem it_mul (k : Nat) : it p (per p x * k) x = x := by
  induction k with
  | zero => rfl
  | succ k ih => rw [Nat.mul_succ, it_add, ih, (per_spec h hx).2.2.1]
theorem it_mod (k : Nat) : it p k x = it p (k % per p x) x := by
  have e := Nat.div_add_mod k (per p x)
  calc it p k x = it p (per p x * (k / per p x) + k % per p x) x := by rw [e]
    _ = it p (k % per p x) x := by rw [it_add, it_mul h hx]
theorem it_back_iff (k : Nat) : it p k x = x ↔ per p x ∣ k := by
  have hp := (per_spec h hx)
  constructor
  · intro e
    rw [it_mod h hx] at e
    have lt := Nat.mod_lt k (show 0 < per p x from hp.1)
    rcases Nat.eq_zero_or_pos (k % per p x) with z | z
    · exact Nat.dvd_of_mod_eq_zero z
    · exact absurd e (hp.2.2.2 _ z lt)
  · rintro ⟨c, rfl⟩
    exact it_mul h hx c
theorem it_eq_iff {i j : Nat} (hi : i < per p x) (hj : j < per p x) (e : it p i x = it p j x) : i = j := by
  have main : ∀ i j, i < j → j < per p x → it p i x = it p j x → False := fun i j hij hj e => by
    have e2 : j = (j - i) + i := by omega
    rw [e2, it_add] at e
    have e3 := it_inj h hx (it_lt h hx (j - i)) i e
    exact (per_spec h hx).2.2.2 (j - i) (by omega) (by omega) e3.symm
  rcases Nat.lt_trichotomy i j with z | z | z
  · exact (main i j z hj e).elim
  · exact z
  · exact (main j i z hi e.symm).elim
theorem orb_len : (orb p x).length = per p x := by unfold orb; rw [List.length_map, List.length_range]
theorem orb_get {k : Nat} (hk : k < per p x) : (orb p x)[k]? = some (it p k x) := by
  unfold orb
  rw [List.getElem?_map, List.getElem?_range hk]
  rfl
theorem orb_nodup : (orb p x).Nodup := by
  unfold orb
  rw [List.nodup_iff_pairwise_ne, List.pairwise_map]
  refine List.Pairwise.imp_of_mem (fun {i j} hi hj hij e => ?_) (List.pairwise_lt_range (n := per p x))
  rw [List.mem_range] at hi hj
  have := it_eq_iff h hx hi hj e
  omega
theorem mem_orb : y ∈ orb p x ↔ ∃ k, it p k x = y := by
  constructor
  · intro z
    obtain ⟨k, _, e⟩ := List.mem_map.mp z
    exact ⟨k, e⟩
  · rintro ⟨k, rfl⟩
    rw [it_mod h hx]
    exact List.mem_map.mpr ⟨_, List.mem_range.mpr (Nat.mod_lt _ (per_spec h hx).1), rfl⟩
theorem orb_lt (z : y ∈ orb p x) : y < p.length := by
  obtain ⟨k, rfl⟩ := (mem_orb h hx).mp z
  exact it_lt h hx k
theorem self_orb : x ∈ orb p x := (mem_orb h hx).mpr ⟨0, rfl⟩
theorem orb_symm (z : y ∈ orb p x) : x ∈ orb p y := by
  have hy := orb_lt h hx z
  obtain ⟨k, rfl⟩ := (mem_orb h hx).mp z
  refine (mem_orb h hy).mpr ⟨per p x * k - k, ?_⟩
  have hk : k ≤ per p x * k := Nat.le_mul_of_pos_left k (per_spec h hx).1
  rw [← it_add, Nat.add_sub_cancel' hk, it_mul h hx]
theorem orb_trans {z : Nat} (a : y ∈ orb p x) (b : z ∈ orb p y) : z ∈ orb p x := by
  have hy := orb_lt h hx a
  obtain ⟨k, rfl⟩ := (mem_orb h hx).mp a
  obtain ⟨j, rfl⟩ := (mem_orb h hy).mp b
  exact (mem_orb h hx).mpr ⟨k + j, it_add p x k j⟩
end
/-! ### what is seen -/
theorem sn_iff {p : List Nat} {i j : Nat} : sn p i j = true ↔ ∃ f, f < i ∧ j ∈ orb p f := by
  unfold sn
  simp only [List.any_eq_true, List.mem_range, decide_eq_true_eq]
theorem sn_succ (p : List Nat) (i j : Nat) : sn p (i + 1) j = (sn p i j || decide (j ∈ orb p i)) := by
  unfold sn
  rw [List.range_succ, List.any_append]
  simp
theorem sn_seen {p : List Nat} (h : IsP p) {i : Nat} (hi : i < p.length) (s : sn p i i = true) (j : Nat) : sn p (i + 1) j = sn p i j := by
  rw [sn_succ]
  by_cases z : j ∈ orb p i
  · obtain ⟨f, hf, hm⟩ := sn_iff.mp s
    have hfl : f < p.length := by omega
    have : sn p i j = true := sn_iff.mpr ⟨f, hf, orb_trans h hfl hm z⟩
    rw [this]
    rfl
  · simp [z]
theorem sn_fresh {p : List Nat} (h : IsP p) {i : Nat} (hi : i < p.length) (s : sn p i i = false) {j : Nat} (z : j ∈ orb p i) : sn p i j = false := by
  cases e : sn p i j with
  | false => rfl
  | true =>
    obtain ⟨f, hf, hm⟩ := sn_iff.mp e
    have hfl : f < p.length := by omega
    have : sn p i i = true := sn_iff.mpr ⟨f, hf, orb_trans h hfl hm (orb_symm h hi z)⟩
    rw [s] at this
    cases this
theorem cycF_succ (p : List Nat) (i : Nat) : cycF p (i + 1) = cycF p i ++ if (!sn p i i && decide (1 < per p i)) = true then [orb p i] else [] := by
  unfold cycF
  rw [List.range_succ, List.filter_append, List.map_append]
  congr 1
  simp only [List.filter_cons, List.filter_nil]
  split <;> rfl
end Hw

namespace Hw
/-! ### products -/
theorem isP_range (n : Nat) : IsP (List.range n) := ⟨List.nodup_range, fun x hx => by rw [List.length_range]; exact List.mem_range.mp hx⟩
theorem ext_ap {p q : List Nat} (hl : p.length = q.length) (h : ∀ x, x < p.length → ap p x = ap q x) : p = q := by
  apply List.ext_getElem?
  intro x
  by_cases hx : x < p.length
  · rw [ap_get hx, ap_get (by rw [← hl]; exact hx), h x hx]
  · rw [List.getElem?_eq_none (by omega), List.getElem?_eq_none (by omega)]
theorem ap_map {n x : Nat} (f : Nat → Nat) (h : x < n) : ap ((List.range n).map f) x = f x := by
  unfold ap
  rw [List.getD_eq_getElem?_getD, List.getElem?_map, List.getElem?_range h]
  rfl
theorem ap_range {n x : Nat} (h : x < n) : ap (List.range n) x = x := by
  unfold ap
  rw [List.getD_eq_getElem?_getD, List.getElem?_range h]
  rfl
theorem ap_mul {p q : List Nat} {x : Nat} (h : x < p.length) : ap (mul p q) x = ap q (ap p x) := by
  unfold mul
  conv => lhs; unfold ap
  rw [List.getD_eq_getElem?_getD, List.getElem?_map, ap_get h]
  rfl
theorem isP_of_inj {p : List Nat} (h1 : ∀ x, x < p.length → ap p x < p.length) (h2 : ∀ x y, x < p.length → y < p.length → ap p x = ap p y → x = y) : IsP p := by
  refine ⟨?_, fun x hx => ?_⟩
  · rw [List.nodup_iff_pairwise_ne, List.pairwise_iff_getElem]
    intro i j hi hj hij e
    have a1 := ap_get hi
    have a2 := ap_get hj
    rw [List.getElem?_eq_getElem hi] at a1
    rw [List.getElem?_eq_getElem hj] at a2
    have := h2 i j hi hj (by rw [← Option.some.inj a1, ← Option.some.inj a2, e])
    omega
  · obtain ⟨i, hi, e⟩ := List.getElem_of_mem hx
    have a1 := ap_get hi
    rw [List.getElem?_eq_getElem hi] at a1
    rw [← e, Option.some.inj a1]
    exact h1 i hi
theorem isP_mul {p q : List Nat} (hp : IsP p) (hq : IsP q) (hl : p.length = q.length) : IsP (mul p q) := by
  have lt : ∀ x, x < p.length → ap p x < q.length := fun x hx => by rw [← hl]; exact ap_lt hp hx
  refine isP_of_inj (fun x hx => ?_) (fun x y hx hy e => ?_)
  · rw [mul_len] at hx ⊢
    rw [ap_mul hx, hl]
    exact ap_lt hq (lt x hx)
  · rw [mul_len] at hx hy
    rw [ap_mul hx, ap_mul hy] at e
    exact ap_inj hp hx hy (ap_inj hq (lt x hx) (lt y hy) e)
theorem mul_range_left {p : List Nat} {n : Nat} (h : p.length = n) : mul (List.range n) p = p := by
  refine ext_ap (by rw [mul_len, List.length_range, h]) fun x hx => ?_
  rw [mul_len] at hx
  have hx' : x < n := by rw [List.length_range] at hx; exact hx
  rw [ap_mul hx, ap_range hx']
theorem mul_range_right {p : List Nat} {n : Nat} (hp : IsP p) (h : p.length = n) : mul p (List.range n) = p := by
  refine ext_ap (by rw [mul_len]) fun x hx => ?_
  rw [mul_len] at hx
  rw [ap_mul hx, ap_range (by rw [← h]; exact ap_lt hp hx)]
theorem mul_assoc' {p q r : List Nat} (hp : IsP p) (h : p.length = q.length) : mul (mul p q) r = mul p (mul q r) := by
  refine ext_ap (by rw [mul_len, mul_len, mul_len]) fun x hx => ?_
  rw [mul_len, mul_len] at hx
  rw [ap_mul (by rw [mul_len]; exact hx), ap_mul hx, ap_mul hx, ap_mul (by rw [← h]; exact ap_lt hp hx)]
theorem inv_len (p : List Nat) : (inv p).length = p.length := by unfold inv; rw [List.length_map, List.length_range]
theorem ap_inv {p : List Nat} (hp : IsP p) {x : Nat} (hx : x < p.length) : ap (inv p) (ap p x) = x := by
  have hy := ap_lt hp hx
  unfold inv
  rw [ap_map _ hy]
  have h1 : p.idxOf (ap p x) < p.length := List.idxOf_lt_length_iff.mpr (ap_mem hx)
  have h2 : p[p.idxOf (ap p x)] = ap p x := List.getElem_idxOf h1
  have h3 := ap_get hx
  rw [List.getElem?_eq_getElem hx] at h3
  exact (List.getElem_inj (h₀ := h1) (h₁ := hx) hp.1).mp (by rw [h2, Option.some.inj h3])
theorem ap_surj {p : List Nat} (hp : IsP p) {y : Nat} (hy : y < p.length) : ∃ x, x < p.length ∧ ap p x = y := by
  obtain ⟨i, hi, e⟩ := List.getElem_of_mem (isP_mem hp hy)
  have h3 := ap_get hi
  rw [List.getElem?_eq_getElem hi] at h3
  exact ⟨i, hi, by rw [← Option.some.inj h3, e]⟩
theorem ap_inv' {p : List Nat} (hp : IsP p) {y : Nat} (hy : y < p.length) : ap p (ap (inv p) y) = y := by
  obtain ⟨x, hx, rfl⟩ := ap_surj hp hy
  rw [ap_inv hp hx]
theorem isP_inv {p : List Nat} (hp : IsP p) : IsP (inv p) := by
  refine isP_of_inj (fun x hx => ?_) (fun x y hx hy e => ?_)
  · rw [inv_len] at hx ⊢
    obtain ⟨z, hz, rfl⟩ := ap_surj hp hx
    rw [ap_inv hp hz]
    exact hz
  · rw [inv_len] at hx hy
    rw [← ap_inv' hp hx, ← ap_inv' hp hy, e]
theorem mul_inv {p : List Nat} (hp : IsP p) : mul p (inv p) = List.range p.length := by
  refine ext_ap (by rw [mul_len, List.length_range]) fun x hx => ?_
  rw [mul_len] at hx
  rw [ap_mul hx, ap_inv hp hx, ap_range hx]
theorem inv_mul {p : List Nat} (hp : IsP p) : mul (inv p) p = List.range p.length := by
  refine ext_ap (by rw [mul_len, inv_len, List.length_range]) fun x hx => ?_
  rw [mul_len] at hx
  have hx' := hx
  rw [inv_len] at hx'
  rw [ap_mul hx, ap_inv' hp hx', ap_range hx']
theorem inv_inv' {p : List Nat} (hp : IsP p) : inv (inv p) = p := by
  refine ext_ap (by rw [inv_len, inv_len]) fun x hx => ?_
  rw [inv_len, inv_len] at hx
  have h1 := ap_inv (isP_inv hp) (x := ap p x) (by rw [inv_len]; exact ap_lt hp hx)
  rw [ap_inv hp hx] at h1
  exact h1
/-- an inverse is known by its product -/
theorem inv_of {p q : List Nat} (hp : IsP p) (hl : q.length = p.length) (h : ∀ x, x < p.length → ap q (ap p x) = x) : q = inv p := by
  refine ext_ap (by rw [inv_len, hl]) fun y hy => ?_
  rw [hl] at hy
  obtain ⟨x, hx, rfl⟩ := ap_surj hp hy
  rw [h x hx, ap_inv hp hx]
/-! ### powers, order -/
theorem it_succ' (p : List Nat) (k x : Nat) : it p (k + 1) x = it p k (ap p x) := by
  rw [Nat.add_comm, it_add]
  rfl
section
variable {p : List Nat} (h : IsP p)
include h
theorem per_orb {f x : Nat} (hf : f < p.length) (hx : x ∈ orb p f) : per p x = per p f := by
  have hxl := orb_lt h hf hx
  obtain ⟨j, rfl⟩ := (mem_orb h hf).mp hx
  have key : ∀ k, per p (it p j f) ∣ k ↔ per p f ∣ k := fun k => by
    rw [← it_back_iff h hxl, ← it_back_iff h hf, ← it_add, Nat.add_comm, it_add]
    exact ⟨fun e => it_inj h (it_lt h hf k) hf j e, fun e => by rw [e]⟩
  exact Nat.dvd_antisymm ((key _).mpr (Nat.dvd_refl _)) ((key _).mp (Nat.dvd_refl _))
/-- everyone lies on the way of a least one -/
theorem low_ex {x : Nat} (hx : x < p.length) : ∃ f, f ≤ x ∧ sn p f f = false ∧ x ∈ orb p f := by
  have main : ∀ m f, f ≤ m → f ≤ x → x ∈ orb p f → ∃ f, f ≤ x ∧ sn p f f = false ∧ x ∈ orb p f := by
    intro m
    induction m with
    | zero =>
      intro f hf hfx hm
      have : f = 0 := by omega
      subst this
      exact ⟨0, by omega, rfl, hm⟩
    | succ m ih =>
      intro f hf hfx hm
      cases e : sn p f f with
      | false => exact ⟨f, hfx, e, hm⟩
      | true =>
        obtain ⟨g, hg, hgm⟩ := sn_iff.mp e
        exact ih g (by omega) (by omega) (orb_trans h (by omega) hgm hm)
  exact main x x (Nat.le_refl _) (Nat.le_refl _) (self_orb h hx)
theorem mem_cyc {c : List Nat} : c ∈ cyc p ↔ ∃ f, f < p.length ∧ sn p f f = false ∧ 1 < per p f ∧ c = orb p f := by
  unfold cyc cycF
  simp only [List.mem_map, List.mem_filter, List.mem_range, Bool.and_eq_true, Bool.not_eq_true', decide_eq_true_eq]
  constructor
  · rintro ⟨f, ⟨hf, h1, h2⟩, rfl⟩
    exact ⟨f, hf, h1, h2, rfl⟩
  · rintro ⟨f, hf, h1, h2, rfl⟩
    exact ⟨f, ⟨hf, h1, h2⟩, rfl⟩
theorem lcm_fold (k : Nat) : ∀ (cs : List (List Nat)) (r : Nat), cs.foldl (fun r c => Nat.lcm r c.length) r ∣ k ↔ r ∣ k ∧ ∀ c ∈ cs, c.length ∣ k
  | [], r => by simp
  | c :: cs, r => by
    rw [List.foldl_cons, lcm_fold k cs, Nat.lcm_dvd_iff]
    simp only [List.mem_cons, forall_eq_or_imp]
    exact ⟨fun ⟨⟨a, b⟩, c⟩ => ⟨a, b, c⟩, fun ⟨a, b, c⟩ => ⟨⟨a, b⟩, c⟩⟩
theorem ord_dvd (k : Nat) : ord p ∣ k ↔ ∀ x, x < p.length → it p k x = x := by
  unfold ord
  rw [lcm_fold h]
  constructor
  · rintro ⟨_, hc⟩ x hx
    obtain ⟨f, hfx, hs, hm⟩ := low_ex h hx
    have hf : f < p.length := by omega
    rw [it_back_iff h hx, per_orb h hf hm]
    by_cases z : 1 < per p f
    · have := hc (orb p f) ((mem_cyc h).mpr ⟨f, hf, hs, z, rfl⟩)
      rw [orb_len h hf] at this
      exact this
    · have := (per_spec h hf).1
      have e : per p f = 1 := by omega
      rw [e]
      exact Nat.one_dvd _
  · intro hk
    refine ⟨Nat.one_dvd _, fun c hc => ?_⟩
    obtain ⟨f, hf, _, _, rfl⟩ := (mem_cyc h).mp hc
    rw [orb_len h hf, ← it_back_iff h hf]
    exact hk f hf
theorem fold_pos : ∀ (cs : List (List Nat)) (r : Nat), 0 < r → (∀ c ∈ cs, 0 < c.length) → 0 < cs.foldl (fun r c => Nat.lcm r c.length) r
  | [], _, hr, _ => hr
  | c :: cs, r, hr, hc => fold_pos cs _ (Nat.lcm_pos hr (hc c List.mem_cons_self)) fun d hd => hc d (List.mem_cons_of_mem _ hd)
theorem cyc_len {c : List Nat} (hc : c ∈ cyc p) : 2 ≤ c.length ∧ c.length ≤ p.length := by
  obtain ⟨f, hf, _, h1, rfl⟩ := (mem_cyc h).mp hc
  rw [orb_len h hf]
  exact ⟨h1, (per_spec h hf).2.1⟩
theorem ord_pos : 0 < ord p := by
  unfold ord
  refine fold_pos h _ 1 (by omega) fun c hc => ?_
  have := cyc_len h hc
  omega
theorem cyc_dvd (hl : p.length ≤ 12) {c : List Nat} (hc : c ∈ cyc p) : c.length ∣ 27720 := by
  have h1 := cyc_len h hc
  have h2 : ∀ k, k ≤ 12 → 2 ≤ k → k ∣ 27720 := by decide
  exact h2 _ (by omega) h1.1
/-- p done j + 1 times -/
def tn (p : List Nat) (j : Nat) : List Nat := (List.range p.length).map fun x => it p (j + 1) x
omit h in
theorem tn_len (j : Nat) : (tn p j).length = p.length := by unfold tn; rw [List.length_map, List.length_range]
omit h in
theorem tn_zero : tn p 0 = p := by
  refine ext_ap (tn_len 0) fun x hx => ?_
  rw [tn_len] at hx
  unfold tn
  rw [ap_map _ hx]
  rfl
theorem tn_succ (j : Nat) : mul (tn p j) p = tn p (j + 1) := by
  refine ext_ap (by rw [mul_len, tn_len, tn_len]) fun x hx => ?_
  rw [mul_len, tn_len] at hx
  rw [ap_mul (by rw [tn_len]; exact hx)]
  unfold tn
  rw [ap_map _ hx, ap_map _ hx]
  rfl
theorem isP_tn : ∀ j, IsP (tn p j)
  | 0 => by rw [tn_zero]; exact h
  | j + 1 => by
    rw [← tn_succ h]
    exact isP_mul (isP_tn j) h (tn_len j)
theorem tn_idle (j : Nat) : tn p j = List.range p.length ↔ ord p ∣ j + 1 := by
  rw [ord_dvd h]
  constructor
  · intro e x hx
    have := congrArg (fun l => ap l x) e
    have this : ap (tn p j) x = ap (List.range p.length) x := this
    unfold tn at this
    rw [ap_map _ hx, ap_range hx] at this
    exact this
  · intro hk
    refine ext_ap (by rw [tn_len, List.length_range]) fun x hx => ?_
    rw [tn_len] at hx
    unfold tn
    rw [ap_map _ hx, ap_range hx, hk x hx]
theorem it_inv {x : Nat} (hx : x < p.length) : ∀ k, it p k (it (inv p) k x) = x
  | 0 => rfl
  | k + 1 => by
    have hq := isP_inv h
    have hlt := it_lt hq (x := x) (by rw [inv_len]; exact hx) k
    rw [inv_len] at hlt
    rw [it_succ']
    show it p k (ap p (ap (inv p) (it (inv p) k x))) = x
    rw [ap_inv' h hlt]
    exact it_inv hx k
theorem ord_inv : ord (inv p) = ord p := by
  have hq := isP_inv h
  have one : ∀ p : List Nat, IsP p → ∀ k, ord p ∣ k → ord (inv p) ∣ k := fun p h k hk => by
    rw [ord_dvd h] at hk
    rw [ord_dvd (isP_inv h), inv_len]
    intro x hx
    have hlt := it_lt (isP_inv h) (x := x) (by rw [inv_len]; exact hx) k
    rw [inv_len] at hlt
    have e1 := hk _ hlt
    rw [it_inv h hx k] at e1
    exact e1.symm
  refine Nat.dvd_antisymm (one p h _ (Nat.dvd_refl _)) ?_
  have := one (inv p) hq (ord (inv p)) (Nat.dvd_refl _)
  rw [inv_inv' h] at this
  exact this
end
/-- the same powers, the same order -/
theorem ord_eq {p q : List Nat} (hp : IsP p) (hq : IsP q) (h : ∀ k, (∀ x, x < p.length → it p k x = x) ↔ ∀ x, x < q.length → it q k x = x) : ord p = ord q := by
  refine Nat.dvd_antisymm ?_ ?_
  · rw [ord_dvd hp, h, ← ord_dvd hq]
    exact Nat.dvd_refl _
  · rw [ord_dvd hq, ← h, ← ord_dvd hp]
    exact Nat.dvd_refl _
/-! ### one cycle alone -/
def mvF (p : List Nat) (s : List Nat) (x : Nat) : Nat := if x ∈ s then ap p x else x
/-- only those of s are moved -/
def mv (p : List Nat) (s : List Nat) : List Nat := (List.range p.length).map (mvF p s)
theorem mv_len (p s : List Nat) : (mv p s).length = p.length := by unfold mv; rw [List.length_map, List.length_range]
theorem ap_mv {p s : List Nat} {x : Nat} (hx : x < p.length) : ap (mv p s) x = mvF p s x := by unfold mv; rw [ap_map _ hx]
section
variable {p : List Nat} (h : IsP p) {s : List Nat} (hs : ∀ x, x < p.length → (x ∈ s ↔ ap p x ∈ s))
include h hs
theorem isP_mv : IsP (mv p s) := by
  refine isP_of_inj (fun x hx => ?_) (fun x y hx hy e => ?_)
  · rw [mv_len] at hx ⊢
    rw [ap_mv hx]
    unfold mvF
    split
    · exact ap_lt h hx
    · exact hx
  · rw [mv_len] at hx hy
    rw [ap_mv hx, ap_mv hy] at e
    unfold mvF at e
    by_cases a : x ∈ s
    · by_cases b : y ∈ s
      · rw [if_pos a, if_pos b] at e
        exact ap_inj h hx hy e
      · rw [if_pos a, if_neg b] at e
        have := (hs x hx).mp a
        rw [e] at this
        exact absurd this b
    · by_cases b : y ∈ s
      · rw [if_neg a, if_pos b] at e
        have := (hs y hy).mp b
        rw [← e] at this
        exact absurd this a
      · rw [if_neg a, if_neg b] at e
        exact e
theorem it_mv {x : Nat} (hx : x < p.length) : ∀ k, it (mv p s) k x = if x ∈ s then it p k x else x
  | 0 => by split <;> rfl
  | k + 1 => by
    have ih := it_mv hx k
    show ap (mv p s) (it (mv p s) k x) = _
    rw [ih]
    by_cases a : x ∈ s
    · rw [if_pos a, if_pos a]
      have hlt := it_lt h hx k
      have inS : ∀ k, it p k x ∈ s := fun k => by
        induction k with
        | zero => exact a
        | succ k ih2 => exact (hs _ (it_lt h hx k)).mp ih2
      rw [ap_mv hlt]
      unfold mvF
      rw [if_pos (inS k)]
      rfl
    · rw [if_neg a, if_neg a, ap_mv hx]
      unfold mvF
      rw [if_neg a]
end
theorem orb_step {p : List Nat} (h : IsP p) {f : Nat} (hf : f < p.length) {x : Nat} (hx : x < p.length) : x ∈ orb p f ↔ ap p x ∈ orb p f := by
  constructor
  · intro m
    obtain ⟨k, rfl⟩ := (mem_orb h hf).mp m
    exact (mem_orb h hf).mpr ⟨k + 1, rfl⟩
  · intro m
    have hy := ap_lt h hx
    have m1 : ap p x ∈ orb p x := (mem_orb h hx).mpr ⟨1, rfl⟩
    exact orb_trans h hf m (orb_symm h hx m1)
theorem ord_mv {p : List Nat} (h : IsP p) {f : Nat} (hf : f < p.length) : ord (mv p (orb p f)) = per p f := by
  have hs : ∀ x, x < p.length → (x ∈ orb p f ↔ ap p x ∈ orb p f) := fun x hx => orb_step h hf hx
  have key : ∀ k, ord (mv p (orb p f)) ∣ k ↔ per p f ∣ k := fun k => by
    rw [ord_dvd (isP_mv h hs), mv_len, ← it_back_iff h hf]
    constructor
    · intro hk
      have := hk f hf
      rw [it_mv h hs hf, if_pos (self_orb h hf)] at this
      exact this
    · intro e x hx
      rw [it_mv h hs hx]
      split
      · rename_i m
        rw [it_back_iff h hx, per_orb h hf m, ← it_back_iff h hf]
        exact e
      · rfl
  exact Nat.dvd_antisymm ((key _).mpr (Nat.dvd_refl _)) ((key _).mp (Nat.dvd_refl _))
end Hw

namespace Hw
/-! ### sums -/
def sm (n : Nat) (F : Nat → Int) : Int := ((List.range n).map F).sum
theorem sm_zero (F : Nat → Int) : sm 0 F = 0 := rfl
theorem sm_succ (n : Nat) (F : Nat → Int) : sm (n + 1) F = sm n F + F n := by
  unfold sm
  rw [List.range_succ, List.map_append, List.sum_append]
  simp
theorem sm_congr {n : Nat} {F G : Nat → Int} (h : ∀ i, i < n → F i = G i) : sm n F = sm n G := by
  unfold sm
  congr 1
  exact List.map_congr_left fun i hi => h i (List.mem_range.mp hi)
theorem sm_add (F G : Nat → Int) : ∀ n, sm n (fun i => F i + G i) = sm n F + sm n G
  | 0 => rfl
  | n + 1 => by
    rw [sm_succ, sm_succ, sm_succ, sm_add F G n]
    omega
theorem sm_comb (F G T : Nat → Int) : ∀ n, sm n (fun i => F i + G i - 2 * T i) = sm n F + sm n G - 2 * sm n T
  | 0 => rfl
  | n + 1 => by
    rw [sm_succ, sm_succ, sm_succ, sm_succ, sm_comb F G T n]
    omega
def dd (n : Nat) (y : Nat → Nat → Int) : Int := sm n fun i => sm n fun j => y i j
theorem dd_sym {y : Nat → Nat → Int} (hs : ∀ i j, y i j = y j i) (h0 : ∀ i, y i i = 0) : ∀ n, dd n y = 2 * sm n fun j => sm j fun i => y i j
  | 0 => rfl
  | n + 1 => by
    have ih := dd_sym hs h0 n
    unfold dd at ih ⊢
    rw [sm_succ, sm_succ, sm_succ, h0]
    have e1 : (sm n fun i => sm (n + 1) fun j => y i j) = (sm n fun i => sm n fun j => y i j) + sm n fun i => y i n := by
      rw [← sm_add]
      exact sm_congr fun i _ => sm_succ n _
    have e2 : (sm n fun j => y n j) = sm n fun i => y i n := sm_congr fun i _ => hs n i
    rw [e1, e2, ih]
    omega
theorem perm_sum {l m : List Int} (h : l.Perm m) : l.sum = m.sum := by
  induction h with
  | nil => rfl
  | cons x _ ih => rw [List.sum_cons, List.sum_cons, ih]
  | swap x y l => simp only [List.sum_cons]; omega
  | trans _ _ a b => rw [a, b]
theorem nodup_count {l : List Nat} (h : l.Nodup) (a : Nat) : l.count a = if a ∈ l then 1 else 0 := by
  induction l with
  | nil => rfl
  | cons x r ih =>
    obtain ⟨h1, h2⟩ := List.nodup_cons.mp h
    rw [List.count_cons, ih h2]
    by_cases e : x = a
    · subst e
      simp [h1]
    · have e' : ¬ a = x := fun z => e z.symm
      simp [e, e']
theorem perm_of_mem {l m : List Nat} (hl : l.Nodup) (hm : m.Nodup) (h : ∀ x, x ∈ l ↔ x ∈ m) : l.Perm m := by
  rw [List.perm_iff_count]
  intro a
  rw [nodup_count hl, nodup_count hm]
  simp only [h a]
theorem perm_range {p : List Nat} (hp : IsP p) : p.Perm (List.range p.length) :=
  perm_of_mem hp.1 List.nodup_range fun x => ⟨fun m => List.mem_range.mpr (hp.2 x m), fun m => isP_mem hp (List.mem_range.mp m)⟩
theorem map_ap (p : List Nat) : (List.range p.length).map (ap p) = p := by
  refine ext_ap (by rw [List.length_map, List.length_range]) fun x hx => ?_
  rw [List.length_map, List.length_range] at hx
  rw [ap_map _ hx]
theorem sm_perm {p : List Nat} (hp : IsP p) (F : Nat → Int) : (sm p.length fun i => F (ap p i)) = sm p.length F := by
  unfold sm
  have e : (List.range p.length).map (fun i => F (ap p i)) = p.map F := by
    conv => rhs; rw [← map_ap p]
    rw [List.map_map]
    rfl
  rw [e]
  exact perm_sum ((perm_range hp).map F)
/-! ### pairs that stand the other way -/
def xx (p : List Nat) (i j : Nat) : Int := if decide (i < j) = decide (ap p i < ap p j) then 0 else 1
theorem xx_self (p : List Nat) (i : Nat) : xx p i i = 0 := by unfold xx; simp
theorem xx_sym {p : List Nat} (hp : IsP p) {i j : Nat} (hi : i < p.length) (hj : j < p.length) : xx p i j = xx p j i := by
  unfold xx
  by_cases e : i = j
  · subst e; rfl
  · have ne : ap p i ≠ ap p j := fun z => e (ap_inj hp hi hj z)
    have a : decide (i < j) = !decide (j < i) := by
      by_cases q : i < j
      · have : ¬ j < i := by omega
        simp [q, this]
      · have : j < i := by omega
        simp [q, this]
    have b : decide (ap p i < ap p j) = !decide (ap p j < ap p i) := by
      by_cases q : ap p i < ap p j
      · have : ¬ ap p j < ap p i := by omega
        simp [q, this]
      · have : ap p j < ap p i := by omega
        simp [q, this]
    rw [a, b]
    cases decide (j < i) <;> cases decide (ap p j < ap p i) <;> rfl
/-- xx within n, else nothing: symmetric everywhere -/
def xn (n : Nat) (y : Nat → Nat → Int) (i j : Nat) : Int := if i < n ∧ j < n then y i j else 0
theorem dd_xn (n : Nat) (y : Nat → Nat → Int) : dd n (xn n y) = dd n y := by
  unfold dd
  refine sm_congr fun i hi => sm_congr fun j hj => ?_
  unfold xn
  rw [if_pos ⟨hi, hj⟩]
theorem dd_half {n : Nat} {y : Nat → Nat → Int} (hs : ∀ i j, i < n → j < n → y i j = y j i) (h0 : ∀ i, y i i = 0) : dd n y = 2 * sm n fun j => sm j fun i => y i j := by
  rw [← dd_xn, dd_sym (y := xn n y)]
  · congr 1
    refine sm_congr fun j hj => sm_congr fun i hi => ?_
    unfold xn
    rw [if_pos ⟨by omega, hj⟩]
  · intro i j
    unfold xn
    by_cases q : i < n ∧ j < n
    · rw [if_pos q, if_pos ⟨q.2, q.1⟩]
      exact hs i j q.1 q.2
    · rw [if_neg q, if_neg (fun z => q ⟨z.2, z.1⟩)]
  · intro i
    unfold xn
    split
    · exact h0 i
    · rfl
theorem len_filter (P : Nat → Bool) : ∀ l : List Nat, ((l.filter P).length : Int) = (l.map fun x => if P x = true then (1 : Int) else 0).sum
  | [] => rfl
  | x :: r => by
    rw [List.map_cons, List.sum_cons, ← len_filter P r, List.filter_cons]
    by_cases e : P x = true
    · rw [if_pos e, if_pos e, List.length_cons]
      omega
    · rw [if_neg e, if_neg e]
      omega
theorem take_ap {p : List Nat} {j : Nat} (hj : j ≤ p.length) : p.take j = (List.range j).map (ap p) := by
  conv => lhs; rw [← map_ap p]
  rw [← List.map_take, List.take_range, Nat.min_eq_left hj]
theorem invs_sm {p : List Nat} (hp : IsP p) : (invs p : Int) = sm p.length fun j => sm j fun i => xx p i j := by
  unfold invs
  have e : ∀ l : List Nat, (((l.map (invAt p)).sum : Nat) : Int) = (l.map fun j => (invAt p j : Int)).sum := by
    intro l
    induction l with
    | nil => rfl
    | cons x r ih =>
      rw [List.map_cons, List.map_cons, List.sum_cons, List.sum_cons, ← ih]
      omega
  rw [e]
  refine sm_congr fun j hj => ?_
  unfold invAt
  rw [len_filter, take_ap (by omega), List.map_map]
  refine sm_congr fun i hi => ?_
  show (if decide (ap p j < ap p i) = true then (1 : Int) else 0) = xx p i j
  unfold xx
  have ne : ap p i ≠ ap p j := fun z => by
    have := ap_inj hp (by omega) hj z
    omega
  by_cases q : ap p j < ap p i
  · have q2 : ¬ ap p i < ap p j := by omega
    simp [q, q2, hi]
  · have q2 : ap p i < ap p j := by omega
    simp [q, q2, hi]
theorem dd_invs {p : List Nat} (hp : IsP p) : dd p.length (xx p) = 2 * (invs p : Int) := by
  rw [invs_sm hp]
  exact dd_half (fun i j hi hj => xx_sym hp hi hj) (xx_self p)
theorem bool3 (a b c : Bool) : (if a = c then (0 : Int) else 1) = (if a = b then (0 : Int) else 1) + (if b = c then (0 : Int) else 1) - 2 * ((if a = b then (0 : Int) else 1) * (if b = c then (0 : Int) else 1)) := by
  cases a <;> cases b <;> cases c <;> decide
theorem invs_mul {p q : List Nat} (hp : IsP p) (hq : IsP q) (hl : p.length = q.length) : ∃ t : Int, (invs (mul p q) : Int) = invs p + invs q - 2 * t := by
  have hpq := isP_mul hp hq hl
  have lt : ∀ i, i < p.length → ap p i < q.length := fun i hi => by rw [← hl]; exact ap_lt hp hi
  have e1 := dd_invs hpq
  rw [mul_len] at e1
  have e2 : dd p.length (xx (mul p q)) = dd p.length (xx p) + dd p.length (fun i j => xx q (ap p i) (ap p j)) - 2 * dd p.length (fun i j => xx p i j * xx q (ap p i) (ap p j)) := by
    unfold dd
    rw [← sm_comb]
    refine sm_congr fun i hi => ?_
    rw [← sm_comb]
    refine sm_congr fun j hj => ?_
    unfold xx
    rw [ap_mul hi, ap_mul hj]
    exact bool3 _ _ _
  have e3 : dd p.length (fun i j => xx q (ap p i) (ap p j)) = dd q.length (xx q) := by
    unfold dd
    have a : (sm p.length fun i => sm p.length fun j => xx q (ap p i) (ap p j)) = sm p.length fun i => sm p.length fun j => xx q (ap p i) j :=
      sm_congr fun i _ => sm_perm hp fun j => xx q (ap p i) j
    rw [a, sm_perm hp (fun i => sm p.length fun j => xx q i j), hl]
  have e4 := dd_half (n := p.length) (y := fun i j => xx p i j * xx q (ap p i) (ap p j)) (fun i j hi hj => by
    rw [xx_sym hp hi hj, xx_sym hq (lt i hi) (lt j hj)]) (fun i => by rw [xx_self]; simp)
  rw [dd_invs hp, e3, dd_invs hq, e4, e1] at e2
  exact ⟨sm p.length fun j => sm j fun i => xx p i j * xx q (ap p i) (ap p j), by omega⟩
theorem sgn_mul {p q : List Nat} (hp : IsP p) (hq : IsP q) (hl : p.length = q.length) : (invs (mul p q) : Int) % 2 = ((invs p : Int) + invs q) % 2 := by
  obtain ⟨t, e⟩ := invs_mul hp hq hl
  omega
end Hw

namespace Hw
/-! ### exchanges of two -/
def swF (i j x : Nat) : Nat := if x = i then j else if x = j then i else x
def sw (n i j : Nat) : List Nat := (List.range n).map (swF i j)
theorem sw_len (n i j : Nat) : (sw n i j).length = n := by unfold sw; rw [List.length_map, List.length_range]
theorem ap_sw {n i j x : Nat} (h : x < n) : ap (sw n i j) x = swF i j x := by unfold sw; rw [ap_map _ h]
theorem isP_sw {n i j : Nat} (hi : i < n) (hj : j < n) : IsP (sw n i j) := by
  refine isP_of_inj (fun x hx => ?_) (fun x y hx hy e => ?_)
  · rw [sw_len] at hx ⊢
    rw [ap_sw hx]
    unfold swF
    split
    · exact hj
    · split
      · exact hi
      · exact hx
  · rw [sw_len] at hx hy
    rw [ap_sw hx, ap_sw hy] at e
    unfold swF at e
    repeat (first | omega | split at e)
theorem sw_all : ∀ n, n ≤ 12 → ∀ i, i < n → ∀ j, j < n → i ≠ j → invs (sw n i j) % 2 = 1 := by decide +kernel
theorem sgn_sw {n i j : Nat} (hn : n ≤ 12) (hi : i < n) (hj : j < n) (h : i ≠ j) : (invs (sw n i j) : Int) % 2 = 1 := by
  have := sw_all n hn i hi j hj h
  omega
theorem invs_range_all : ∀ n, n ≤ 12 → invs (List.range n) = 0 := by decide +kernel
/-! ### a cycle, exchange by exchange -/
def ptF (p : List Nat) (f k x : Nat) : Nat := if x ∈ (orb p f).take k then (if x = it p (k - 1) f then f else ap p x) else x
def pt (p : List Nat) (f k : Nat) : List Nat := (List.range p.length).map (ptF p f k)
theorem pt_len (p : List Nat) (f k : Nat) : (pt p f k).length = p.length := by unfold pt; rw [List.length_map, List.length_range]
theorem ap_pt {p : List Nat} {f k x : Nat} (hx : x < p.length) : ap (pt p f k) x = ptF p f k x := by unfold pt; rw [ap_map _ hx]
section
variable {p : List Nat} (h : IsP p) {f : Nat} (hf : f < p.length)
include h hf
theorem mem_orb_take {k x : Nat} (hk : k ≤ per p f) : x ∈ (orb p f).take k ↔ ∃ i, i < k ∧ it p i f = x := by
  rw [List.mem_take_iff_getElem]
  constructor
  · rintro ⟨j, hj, e⟩
    have h1 := orb_get h hf (k := j) (by omega)
    have h2 := List.getElem?_eq_getElem (l := orb p f) (i := j) (by omega)
    rw [h1] at h2
    exact ⟨j, by omega, by rw [Option.some.inj h2, e]⟩
  · rintro ⟨i, hi, rfl⟩
    have hl := orb_len h hf
    refine ⟨i, by omega, ?_⟩
    have h1 := orb_get h hf (k := i) (by omega)
    have h2 := List.getElem?_eq_getElem (l := orb p f) (i := i) (by omega)
    rw [h1] at h2
    exact (Option.some.inj h2).symm
theorem pt_one : pt p f 1 = List.range p.length := by
  have ps := per_spec h hf
  refine ext_ap (by rw [pt_len, List.length_range]) fun x hx => ?_
  rw [pt_len] at hx
  rw [ap_pt hx, ap_range hx]
  unfold ptF
  by_cases m : x ∈ (orb p f).take 1
  · rw [if_pos m]
    obtain ⟨i, hi, e⟩ := (mem_orb_take h hf ps.1).mp m
    have : i = 0 := by omega
    subst this
    have e' : f = x := e
    show (if x = f then f else ap p x) = x
    rw [if_pos e'.symm]
    exact e'
  · rw [if_neg m]
theorem pt_succ {k : Nat} (h1 : 1 ≤ k) (h2 : k < per p f) : pt p f (k + 1) = mul (pt p f k) (sw p.length f (it p k f)) := by
  have hk := it_lt h hf k
  have ptlt : ∀ x, x < p.length → ptF p f k x < p.length := fun x hx => by
    unfold ptF
    repeat (first | exact ap_lt h hx | exact hf | exact hx | split)
  refine ext_ap (by rw [pt_len, mul_len, pt_len]) fun x hx => ?_
  rw [pt_len] at hx
  rw [ap_pt hx, ap_mul (by rw [pt_len]; exact hx), ap_pt hx, ap_sw (ptlt x hx)]
  have inj : ∀ {i j}, i < per p f → j < per p f → it p i f = it p j f → i = j := fun hi hj e => it_eq_iff h hf hi hj e
  by_cases m : x ∈ (orb p f).take k
  · obtain ⟨i, hi, rfl⟩ := (mem_orb_take h hf (by omega)).mp m
    have m2 : it p i f ∈ (orb p f).take (k + 1) := (mem_orb_take h hf (by omega)).mpr ⟨i, by omega, rfl⟩
    have nk : it p i f ≠ it p k f := fun e => by
      have := inj (by omega) h2 e
      omega
    have a1 : ptF p f (k + 1) (it p i f) = it p (i + 1) f := by
      unfold ptF
      rw [if_pos m2, Nat.add_sub_cancel, if_neg nk]
      rfl
    rw [a1]
    by_cases e : i = k - 1
    · have a2 : ptF p f k (it p i f) = f := by
        unfold ptF
        rw [if_pos m, e, if_pos rfl]
      rw [a2]
      unfold swF
      rw [if_pos rfl]
      have : i + 1 = k := by omega
      rw [this]
    · have ne : it p i f ≠ it p (k - 1) f := fun z => e (inj (by omega) (by omega) z)
      have a2 : ptF p f k (it p i f) = it p (i + 1) f := by
        unfold ptF
        rw [if_pos m, if_neg ne]
        rfl
      rw [a2]
      unfold swF
      rw [if_neg (fun z => by
        have := inj (i := i + 1) (j := 0) (by omega) (by omega) z
        omega), if_neg (fun z => by
        have := inj (i := i + 1) (j := k) (by omega) (by omega) z
        omega)]
  · have a2 : ptF p f k x = x := by
      unfold ptF
      rw [if_neg m]
    rw [a2]
    have nf : x ≠ f := fun e => m ((mem_orb_take h hf (by omega)).mpr ⟨0, by omega, e.symm⟩)
    by_cases e : x = it p k f
    · have m2 : x ∈ (orb p f).take (k + 1) := (mem_orb_take h hf (by omega)).mpr ⟨k, by omega, e.symm⟩
      unfold ptF swF
      rw [if_pos m2, Nat.add_sub_cancel, if_pos e, if_neg nf, if_pos e]
    · have m2 : x ∉ (orb p f).take (k + 1) := fun z => by
        obtain ⟨i, hi, e2⟩ := (mem_orb_take h hf (by omega)).mp z
        by_cases q : i = k
        · exact e (by rw [← e2, q])
        · exact m ((mem_orb_take h hf (by omega)).mpr ⟨i, by omega, e2⟩)
      unfold ptF swF
      rw [if_neg m2, if_neg nf, if_neg e]
theorem pt_all : pt p f (per p f) = mv p (orb p f) := by
  have ps := per_spec h hf
  refine ext_ap (by rw [pt_len, mv_len]) fun x hx => ?_
  rw [pt_len] at hx
  rw [ap_pt hx, ap_mv hx]
  unfold ptF mvF
  have e1 : (orb p f).take (per p f) = orb p f := by rw [← orb_len h hf, List.take_length]
  rw [e1]
  by_cases m : x ∈ orb p f
  · rw [if_pos m, if_pos m]
    by_cases e : x = it p (per p f - 1) f
    · rw [if_pos e, e]
      have : per p f = (per p f - 1) + 1 := by omega
      have e2 := ps.2.2.1
      rw [this] at e2
      exact e2.symm
    · rw [if_neg e]
  · rw [if_neg m, if_neg m]
theorem pt_sgn (hn : p.length ≤ 12) : ∀ k, k + 1 ≤ per p f → IsP (pt p f (k + 1)) ∧ (invs (pt p f (k + 1)) : Int) % 2 = (k : Int) % 2
  | 0, _ => by
    rw [pt_one h hf]
    refine ⟨isP_range _, ?_⟩
    rw [invs_range_all _ hn]
  | k + 1, hk => by
    obtain ⟨i1, i2⟩ := pt_sgn hn k (by omega)
    have hs := isP_sw hf (it_lt h hf (k + 1))
    have hl : (pt p f (k + 1)).length = (sw p.length f (it p (k + 1) f)).length := by rw [pt_len, sw_len]
    rw [pt_succ h hf (by omega) (by omega)]
    refine ⟨isP_mul i1 hs hl, ?_⟩
    rw [sgn_mul i1 hs hl]
    have ne : f ≠ it p (k + 1) f := fun e => by
      have := it_eq_iff h hf (i := 0) (j := k + 1) (by omega) (by omega) e
      omega
    have := sgn_sw hn hf (it_lt h hf (k + 1)) ne
    omega
theorem sgn_mv (hn : p.length ≤ 12) : (invs (mv p (orb p f)) : Int) % 2 = ((per p f : Int) - 1) % 2 := by
  have ps := per_spec h hf
  have := (pt_sgn h hf hn (per p f - 1) (by omega)).2
  rw [show per p f - 1 + 1 = per p f by omega, pt_all h hf] at this
  omega
end
end Hw

namespace Hw
/-! ### all cycles -/
section
variable {p : List Nat} (h : IsP p)
include h
theorem orb_disj {f g : Nat} (hf : f < p.length) (hg : g < p.length) (hfg : f < g) (sg : sn p g g = false) {x : Nat} (a : x ∈ orb p f) : x ∉ orb p g := fun b => by
  have : sn p g g = true := sn_iff.mpr ⟨f, hfg, orb_trans h hf a (orb_symm h hg b)⟩
  rw [sg] at this
  cases this
theorem cyc_pw : (cyc p).Pairwise fun c d => ∃ f g, f < p.length ∧ g < p.length ∧ f < g ∧ sn p f f = false ∧ sn p g g = false ∧ c = orb p f ∧ d = orb p g := by
  unfold cyc cycF
  rw [List.pairwise_map]
  refine List.Pairwise.imp_of_mem (fun {f g} hf hg hfg => ?_) (List.Pairwise.filter _ (List.pairwise_lt_range (n := p.length)))
  obtain ⟨a1, a2⟩ := List.mem_filter.mp hf
  obtain ⟨b1, b2⟩ := List.mem_filter.mp hg
  rw [List.mem_range] at a1 b1
  simp only [Bool.and_eq_true, Bool.not_eq_true'] at a2 b2
  exact ⟨f, g, a1, b1, hfg, a2.1, b2.1, rfl, rfl⟩
theorem cyc_disj {i j : Nat} {c d : List Nat} (hij : i < j) (hc : (cyc p)[i]? = some c) (hd : (cyc p)[j]? = some d) {x : Nat} (a : x ∈ c) : x ∉ d := by
  obtain ⟨hi, e1⟩ := List.getElem?_eq_some_iff.mp hc
  obtain ⟨hj, e2⟩ := List.getElem?_eq_some_iff.mp hd
  obtain ⟨f, g, hf, hg, hfg, _, sg, ec, ed⟩ := List.pairwise_iff_getElem.mp (cyc_pw h) i j hi hj hij
  rw [e1] at ec
  rw [e2] at ed
  rw [ec] at a
  rw [ed]
  exact orb_disj h hf hg hfg sg a
theorem flat_nodup : (cyc p).flatten.Nodup := by
  rw [List.nodup_iff_pairwise_ne, List.pairwise_flatten]
  refine ⟨fun c hc => ?_, List.Pairwise.imp (fun {c d} => ?_) (cyc_pw h)⟩
  · obtain ⟨f, hf, _, _, rfl⟩ := (mem_cyc h).mp hc
    exact List.nodup_iff_pairwise_ne.mp (orb_nodup h hf)
  · rintro ⟨f, g, hf, hg, hfg, _, sg, rfl, rfl⟩ x hx y hy e
    subst e
    exact orb_disj h hf hg hfg sg hx hy
theorem mem_flat {x : Nat} (hx : x < p.length) : x ∈ (cyc p).flatten ↔ ap p x ≠ x := by
  rw [List.mem_flatten]
  constructor
  · rintro ⟨c, hc, m⟩
    obtain ⟨f, hf, _, h1, rfl⟩ := (mem_cyc h).mp hc
    intro e
    have : per p x ∣ 1 := (it_back_iff h hx 1).mp e
    rw [per_orb h hf m] at this
    have := Nat.le_of_dvd (by omega) this
    omega
  · intro ne
    obtain ⟨f, hfx, hs, m⟩ := low_ex h hx
    have hf : f < p.length := by omega
    refine ⟨orb p f, (mem_cyc h).mpr ⟨f, hf, hs, ?_, rfl⟩, m⟩
    have ps := per_spec h hf
    rcases Nat.lt_or_ge 1 (per p f) with z | z
    · exact z
    · exfalso
      have e : per p f = 1 := by omega
      apply ne
      exact (it_back_iff h hx 1).mpr (by rw [per_orb h hf m, e]; exact Nat.dvd_refl _)
theorem flat_lt {x : Nat} (m : x ∈ (cyc p).flatten) : x < p.length := by
  obtain ⟨c, hc, m⟩ := List.mem_flatten.mp m
  obtain ⟨f, hf, _, _, rfl⟩ := (mem_cyc h).mp hc
  exact orb_lt h hf m
theorem take_closed (i : Nat) {x : Nat} (hx : x < p.length) : x ∈ ((cyc p).take i).flatten ↔ ap p x ∈ ((cyc p).take i).flatten := by
  rw [List.mem_flatten, List.mem_flatten]
  constructor
  · rintro ⟨c, hc, m⟩
    obtain ⟨f, hf, _, _, rfl⟩ := (mem_cyc h).mp (List.mem_of_mem_take hc)
    exact ⟨_, hc, (orb_step h hf hx).mp m⟩
  · rintro ⟨c, hc, m⟩
    obtain ⟨f, hf, _, _, rfl⟩ := (mem_cyc h).mp (List.mem_of_mem_take hc)
    exact ⟨_, hc, (orb_step h hf hx).mpr m⟩
theorem isP_take (i : Nat) : IsP (mv p ((cyc p).take i).flatten) := isP_mv h fun x hx => take_closed h i hx
theorem isP_cyc {c : List Nat} (hc : c ∈ cyc p) : IsP (mv p c) := by
  obtain ⟨f, hf, _, _, rfl⟩ := (mem_cyc h).mp hc
  exact isP_mv h fun x hx => orb_step h hf hx
theorem mv_next {i : Nat} {c : List Nat} (hc : (cyc p)[i]? = some c) : mul (mv p ((cyc p).take i).flatten) (mv p c) = mv p ((cyc p).take (i + 1)).flatten := by
  have hm := List.mem_of_getElem? hc
  obtain ⟨f, hf, _, _, ec⟩ := (mem_cyc h).mp hm
  have stp : ∀ x, x < p.length → (x ∈ c ↔ ap p x ∈ c) := fun x hx => by rw [ec]; exact orb_step h hf hx
  have dis : ∀ x, x ∈ ((cyc p).take i).flatten → x ∉ c := fun x m => by
    obtain ⟨d, hd, md⟩ := List.mem_flatten.mp m
    obtain ⟨j, hj, e⟩ := List.mem_take_iff_getElem.mp hd
    exact cyc_disj h (by omega) (List.getElem?_eq_some_iff.mpr ⟨by omega, e⟩) hc md
  refine ext_ap (by rw [mul_len, mv_len, mv_len]) fun x hx => ?_
  rw [mul_len, mv_len] at hx
  rw [ap_mul (by rw [mv_len]; exact hx), ap_mv hx, ap_mv hx]
  have e1 : ((cyc p).take (i + 1)).flatten = ((cyc p).take i).flatten ++ c := by
    rw [List.take_add_one, hc, List.flatten_append]
    simp
  rw [e1]
  unfold mvF
  by_cases m : x ∈ ((cyc p).take i).flatten
  · have m2 := (take_closed h i hx).mp m
    rw [if_pos m, ap_mv (ap_lt h hx), if_pos (List.mem_append_left _ m)]
    unfold mvF
    rw [if_neg (dis _ m2)]
  · rw [if_neg m, ap_mv hx]
    unfold mvF
    by_cases m3 : x ∈ c
    · rw [if_pos m3, if_pos (List.mem_append_right _ m3)]
    · rw [if_neg m3, if_neg (fun z => (List.mem_append.mp z).elim m m3)]
theorem mv_nil : mv p [] = List.range p.length := by
  refine ext_ap (by rw [mv_len, List.length_range]) fun x hx => ?_
  rw [mv_len] at hx
  rw [ap_mv hx, ap_range hx]
  unfold mvF
  rw [if_neg (by simp)]
theorem mv_flat : mv p (cyc p).flatten = p := by
  refine ext_ap (mv_len _ _) fun x hx => ?_
  rw [mv_len] at hx
  rw [ap_mv hx]
  unfold mvF
  by_cases m : x ∈ (cyc p).flatten
  · rw [if_pos m]
  · rw [if_neg m]
    exact (Classical.not_not.mp fun z => m ((mem_flat h hx).mpr z)).symm
theorem sgn_take (hn : p.length ≤ 12) : ∀ i, i ≤ (cyc p).length → (invs (mv p ((cyc p).take i).flatten) : Int) % 2 = (((cyc p).take i).map fun c => (c.length : Int) - 1).sum % 2
  | 0, _ => by
    have e : ((cyc p).take 0).flatten = [] := by simp
    rw [e, mv_nil h, invs_range_all _ hn]
    rfl
  | i + 1, hi => by
    have ih := sgn_take hn i (by omega)
    obtain ⟨c, hc⟩ : ∃ c, (cyc p)[i]? = some c := ⟨_, List.getElem?_eq_getElem (by omega)⟩
    have hm := List.mem_of_getElem? hc
    rw [← mv_next h hc, sgn_mul (isP_take h i) (isP_cyc h hm) (by rw [mv_len, mv_len])]
    obtain ⟨f, hf, _, _, ec⟩ := (mem_cyc h).mp hm
    have h1 := sgn_mv h hf hn
    have e1 : (cyc p).take (i + 1) = (cyc p).take i ++ [c] := by
      rw [List.take_add_one, hc]
      rfl
    rw [e1, List.map_append, List.sum_append]
    have hl : (c.length : Int) = per p f := by rw [ec, orb_len h hf]
    rw [← ec] at h1
    simp only [List.map_cons, List.map_nil, List.sum_cons, List.sum_nil]
    omega
theorem even_sgn (hn : p.length ≤ 12) : evenP p = decide ((invs p : Int) % 2 = 0) := by
  have := sgn_take h hn (cyc p).length (Nat.le_refl _)
  rw [List.take_length, mv_flat h] at this
  unfold evenP
  rw [← this]
theorem even_mul {q : List Nat} (hq : IsP q) (hl : p.length = q.length) (hn : p.length ≤ 12) : evenP (mul p q) = (evenP p == evenP q) := by
  rw [even_sgn (isP_mul h hq hl) (by rw [mul_len]; exact hn), even_sgn h hn, even_sgn hq (by rw [← hl]; exact hn), sgn_mul h hq hl]
  have h1 : (invs p : Int) % 2 = 0 ∨ (invs p : Int) % 2 = 1 := by omega
  have h2 : (invs q : Int) % 2 = 0 ∨ (invs q : Int) % 2 = 1 := by omega
  rcases h1 with a | a <;> rcases h2 with b | b
  · have : ((invs p : Int) + invs q) % 2 = 0 := by omega
    simp [a, b, this]
  · have : ((invs p : Int) + invs q) % 2 = 1 := by omega
    simp [a, b, this]
  · have : ((invs p : Int) + invs q) % 2 = 1 := by omega
    simp [a, b, this]
  · have : ((invs p : Int) + invs q) % 2 = 0 := by omega
    simp [a, b, this]
theorem even_inv (hn : p.length ≤ 12) : evenP (inv p) = evenP p := by
  have e := even_mul h (isP_inv h) (inv_len p).symm hn
  rw [mul_inv h, even_sgn (isP_range _) (by rw [List.length_range]; exact hn), invs_range_all _ hn] at e
  have e' : true = (evenP p == evenP (inv p)) := e
  revert e'
  cases evenP p <;> cases evenP (inv p) <;> decide
end
theorem even_sw {n i j : Nat} (hn : n ≤ 12) (hi : i < n) (hj : j < n) : evenP (sw n i j) = decide (i = j) := by
  rw [even_sgn (isP_sw hi hj) (by rw [sw_len]; exact hn)]
  by_cases e : i = j
  · subst e
    have : sw n i i = List.range n := by
      refine ext_ap (by rw [sw_len, List.length_range]) fun x hx => ?_
      rw [sw_len] at hx
      rw [ap_sw hx, ap_range hx]
      unfold swF
      by_cases z : x = i
      · rw [if_pos z, z]
      · rw [if_neg z, if_neg z]
    rw [this, invs_range_all _ hn]
    simp
  · have := sgn_sw hn hi hj e
    simp [e, this]
end Hw

namespace Hw
open PySem PySem.Spec PyProof.Rows L2
/-- the same rule, its reading by a name -/
def tCal (sp : Sp) (t : TA) : TE := fun σ H Q => t σ H fun vs H1 => sp vs H1 Q E0
theorem pe_cl {X : Cx} {k : Nat} {sp : Sp} {x : Str} {p pos : Pos} {e : Expr} {es : List Expr} {t : TA} (c : Cal X.prog X.w X.K X.mg X.base x k sp) (hr : Room k X.A) (hg : Gl X x) (ha : PA X (e :: es) t) (hdb : (x == ("__debug__" : Str)) = false := by decide)
    (he : starEach (e :: es) X.env = (false, eval e X.env) :: starEach es X.env := by rfl) (hpl : (backTo pos (starEach es X.env)).any (·.1) = false := by rfl) :
    PE X (.Call (.Name x p) (e :: es) [] pos) (tCal sp t) := pe_cal c hr hg ha hdb he hpl
/-- numbers as values -/
def NV (p : List Nat) : List V := p.map fun n : Nat => V.int (n : Int)
theorem NV_len (p : List Nat) : (NV p).length = p.length := by unfold NV; rw [List.length_map]
theorem NV_get {p : List Nat} {i x : Nat} (h : p[i]? = some x) : (NV p)[i]? = some (.int (x : Int)) := by
  unfold NV
  rw [List.getElem?_map, h]
  rfl
theorem NV_get' {p : List Nat} {i : Nat} {v : V} (h : (NV p)[i]? = some v) : ∃ x : Nat, p[i]? = some x ∧ v = .int (x : Int) := by
  unfold NV at h
  rw [List.getElem?_map] at h
  cases e : p[i]? with
  | none => rw [e] at h; cases h
  | some x => rw [e] at h; exact ⟨x, rfl, (Option.some.inj h).symm⟩
theorem NV_range (n : Nat) : rgV 0 (n : Int) = NV (List.range n) := by
  unfold rgV NV
  rw [show ((n : Int) - 0).toNat = n by omega]
  apply List.map_congr_left
  intro i _
  congr 1
  omega
theorem NV_snoc (p : List Nat) (x : Nat) : NV (p ++ [x]) = NV p ++ [V.int (x : Int)] := by unfold NV; rw [List.map_append]; rfl
theorem walk_rg0 {n : Nat} : Walk (Itr 0 n) n (fun _ => True) (fun i H x H' => H' = H ∧ x = .int (i : Nat)) :=
  (walk_range (lo := 0) (n := n)).mono (fun _ z => z) fun i H x H' _ _ y => ⟨y.1, by rw [y.2]; show V.int (0 + (i : Int)) = _; rw [show (0 : Int) + (i : Int) = (i : Int) by omega]⟩
/-- a tuple of numbers at a -/
abbrev Tp (H : Hp) (a : Addr) (p : List Nat) : Prop := H a = some (.tup (NV p))
theorem same_upd {H : Hp} {p : Addr} {o : HO} (h : H p = none) : Same H (upd H p o) := fun b x e => by
  rw [upd_ne (ne_of_none e h)]
  exact e
theorem sq_of {K : PySem.W.Frag} {H : Hp} {a : Addr} {xs : List V} (h : H a = some (.tup xs)) : SqT K H a xs := .inl (.inl h)
theorem sl_of {K : PySem.W.Frag} {H : Hp} {a : Addr} {xs : List V} (h : H a = some (.lst xs)) : SqL K H a xs := .inl (.inl h)
theorem fresh_of {p : List Nat} {i x : Nat} (hd : p.Nodup) (h : p[i]? = some x) : x ∉ p.take i := by
  intro z
  obtain ⟨j, hj, e⟩ := List.mem_take_iff_getElem.mp z
  obtain ⟨hi, e2⟩ := List.getElem?_eq_some_iff.mp h
  have hj' : j < p.length := by omega
  have := (List.getElem_inj (h₀ := hj') (h₁ := hi) hd).mp (by rw [e, e2])
  omega
theorem NV_set (p : List Nat) (x v : Nat) : (NV p).set x (V.int (v : Int)) = NV (p.set x v) := by unfold NV; rw [List.map_set]
theorem NV_rep (n x : Nat) : NV (List.replicate n x) = List.replicate n (V.int (x : Int)) := by unfold NV; rw [List.map_replicate]
theorem rep_flat {v : V} (n : Nat) : (List.replicate (Int.toNat (n : Int)) [v]).flatten = List.replicate n v := by
  rw [Int.toNat_natCast, List.flatten_replicate_singleton]
theorem tp_upd {H : Hp} {b l : Addr} {c : List Nat} {xs : List V} {o : HO} (h : Tp H b c) (hl : H l = some (.lst xs)) : Tp (upd H l o) b c := by
  show upd H l o b = _
  rw [upd_ne (ne_of h hl (by intro q; cases q))]
  exact h
theorem tp_new {H : Hp} {b l : Addr} {c : List Nat} {o : HO} (h : Tp H b c) (hl : H l = none) : Tp (upd H l o) b c := same_upd hl _ _ h
theorem same_in {H H' : Hp} {l : Addr} {o : HO} (sm : Same H H') (h : H l = none) : Same H (upd H' l o) := fun b u e => by
  rw [upd_ne (ne_of_none e h)]
  exact sm _ _ e
theorem cut_to (xs : List V) (k : Nat) : cutV xs none (some (k : Int)) = xs.take k := by
  unfold cutV
  rw [show HT.sIx xs.length 0 none = 0 from HT.sIx_none _ _, show HT.sIx xs.length xs.length (some (k : Int)) = min k xs.length from HT.sIx_nat _ _ _, List.drop_zero, Nat.sub_zero]
  rcases Nat.le_total k xs.length with h | h
  · rw [Nat.min_eq_left h]
  · rw [Nat.min_eq_right h, List.take_length, List.take_of_length_le h]
theorem cut_from (xs : List V) (k : Nat) : cutV xs (some (k : Int)) none = xs.drop k := by
  unfold cutV
  rw [show HT.sIx xs.length 0 (some (k : Int)) = min k xs.length from HT.sIx_nat _ _ _, show HT.sIx xs.length xs.length none = xs.length from HT.sIx_none _ _]
  rcases Nat.le_total k xs.length with h | h
  · rw [Nat.min_eq_left h]
    exact List.take_of_length_le (by rw [List.length_drop]; exact Nat.le_refl _)
  · rw [Nat.min_eq_right h, Nat.sub_self, List.drop_of_length_le h]
    rfl
theorem NV_take (p : List Nat) (k : Nat) : (NV p).take k = NV (p.take k) := by unfold NV; rw [List.map_take]
theorem NV_drop (p : List Nat) (k : Nat) : (NV p).drop k = NV (p.drop k) := by unfold NV; rw [List.map_drop]
theorem nv_len {ps : List (Addr × List Nat)} : (ps.map fun p => V.ref p.1).length = ps.length := by rw [List.length_map]
theorem refs_get {ps : List (Addr × List Nat)} {i : Nat} {v : V} (h : (ps.map fun p => V.ref p.1)[i]? = some v) : ∃ p, ps[i]? = some p ∧ v = .ref p.1 := by
  rw [List.getElem?_map] at h
  cases e : ps[i]? with
  | none => rw [e] at h; cases h
  | some p => rw [e] at h; exact ⟨p, rfl, (Option.some.inj h).symm⟩
theorem at_int {cs : List Int} {i : Nat} {c x : Int} (h : cs[i]? = some c) (e : x = (i : Int)) : atI (cs.map V.int) x = some (.int c) := by
  rw [e]
  refine atI_nat ?_
  rw [List.getElem?_map, h]
  rfl
theorem ix_at {n i : Nat} {x : Int} (h : i < n) (e : x = (i : Int)) : ixN n x = some i := by
  rw [e]
  unfold ixN
  rw [if_pos (by omega), if_pos (by omega)]
  rfl
theorem set_int (cs : List Int) (i : Nat) (x : Int) : (cs.map V.int).set i (V.int x) = (cs.set i x).map V.int := by rw [List.map_set]
/-! ### what is compared -/
theorem lay_ints : ∀ ns : List Int, PyData.canLayAll0 (ns.map PyData.int) = true
  | [] => rfl
  | n :: ns => by
    show (PyData.canLay0 (.int n) && PyData.canLayAll0 (ns.map PyData.int)) = true
    rw [lay_ints ns]
    rfl
theorem shaped_li (ns : List Int) : SeqAt.shaped (.list (ns.map PyData.int)) = true := by
  unfold SeqAt.shaped
  have e : (PyData.list (ns.map PyData.int)).depth = 0 + 1 := by
    show PyData.depthAll (ns.map PyData.int) + 1 = 0 + 1
    rw [depth_ints]
  rw [e]
  show (PyData.canLayAll0 (ns.map PyData.int) && _) = true
  rw [lay_ints]
  rfl
theorem shaped_ti (ns : List Int) : SeqAt.shaped (.tuple (ns.map PyData.int)) = true := by
  unfold SeqAt.shaped
  have e : (PyData.tuple (ns.map PyData.int)).depth = 0 + 1 := by
    show PyData.depthAll (ns.map PyData.int) + 1 = 0 + 1
    rw [depth_ints]
  rw [e]
  show (PyData.canLayAll0 (ns.map PyData.int) && _) = true
  rw [lay_ints]
  rfl
theorem eqv_ints : ∀ ns ms : List Int, PyData.eqvAll (ns.map PyData.int) (ms.map PyData.int) = decide (ns = ms)
  | [], [] => by simp [PyData.eqvAll]
  | [], m :: ms => by simp [PyData.eqvAll]
  | n :: ns, [] => by simp [PyData.eqvAll]
  | n :: ns, m :: ms => by
    show (PyData.eqv (.int n) (.int m) && PyData.eqvAll (ns.map PyData.int) (ms.map PyData.int)) = _
    rw [eqv_ints ns ms]
    by_cases e : n = m
    · by_cases e2 : ns = ms <;> simp [PyData.eqv, e, e2]
    · simp [PyData.eqv, e]
theorem eqv_li (ns ms : List Int) : PyData.eqv (.list (ns.map PyData.int)) (.list (ms.map PyData.int)) = decide (ns = ms) := eqv_ints ns ms
theorem eqv_ti (ns ms : List Int) : PyData.eqv (.tuple (ns.map PyData.int)) (.tuple (ms.map PyData.int)) = decide (ns = ms) := eqv_ints ns ms
theorem dpa_ints {K : PySem.W.Frag} {H : Hp} : ∀ ns : List Int, DpAll K H (ns.map V.int) (ns.map PyData.int)
  | [] => .nil
  | n :: ns => .cons (.int n) (dpa_ints ns)
theorem dp_li {K : PySem.W.Frag} {H : Hp} {a : Addr} {ns : List Int} (h : SqL K H a (ns.map V.int)) : Dp K H (.ref a) (.list (ns.map PyData.int)) := .lst h (dpa_ints ns)
theorem dp_ti {K : PySem.W.Frag} {H : Hp} {a : Addr} {ns : List Int} (h : SqT K H a (ns.map V.int)) : Dp K H (.ref a) (.tuple (ns.map PyData.int)) := .tup h (dpa_ints ns)
theorem perm_out {α : Type} {xs : List α} {d : Nat} {y : α} (h : xs[d]? = some y) : (y :: xs.eraseIdx d).Perm xs := by
  obtain ⟨hd, e⟩ := List.getElem?_eq_some_iff.mp h
  rw [List.eraseIdx_eq_take_drop_succ]
  have e2 : xs = xs.take d ++ y :: xs.drop (d + 1) := by
    rw [← e, List.getElem_cons_drop, List.take_append_drop]
  have p := (List.perm_middle (a := y) (l₁ := xs.take d) (l₂ := xs.drop (d + 1))).symm
  rw [← e2] at p
  exact p
theorem seq_ix {d n : Nat} (h : d < n) : seqIndex? (d : Int) n = some d := by
  unfold seqIndex?
  have h1 : ¬ ((d : Int) < 0) := by omega
  have h2 : (0 : Int) ≤ (d : Int) := by omega
  have h3 : (d : Int) < (n : Int) := by omega
  simp [h1, h2, h3]
def numOf : V → Nat
  | .int i => i.toNat
  | _ => 0
theorem numOf_NV (p : List Nat) : (NV p).map numOf = p := by
  unfold NV
  rw [List.map_map]
  have : (numOf ∘ fun n : Nat => V.int (n : Int)) = id := by
    funext n
    show ((n : Int)).toNat = n
    omega
  rw [this, List.map_id]
theorem perm_NV {ys : List V} {l : List Nat} (h : ys.Perm (NV l)) : ∃ p, ys = NV p ∧ p.Perm l := by
  refine ⟨ys.map numOf, ?_, ?_⟩
  · unfold NV
    rw [List.map_map]
    conv => lhs; rw [← List.map_id ys]
    apply List.map_congr_left
    intro v hv
    obtain ⟨n, _, rfl⟩ := List.mem_map.mp (h.mem_iff.mp hv)
    show V.int (n : Int) = V.int ((((n : Int)).toNat : Nat) : Int)
    rw [Int.toNat_natCast]
  · have := h.map numOf
    rw [numOf_NV] at this
    exact this
def NI (p : List Nat) : List Int := p.map fun n : Nat => (n : Int)
theorem NV_NI (p : List Nat) : NV p = (NI p).map V.int := by
  unfold NV NI
  rw [List.map_map]
  rfl
theorem NI_inj : ∀ {p q : List Nat}, NI p = NI q → p = q
  | [], [], _ => rfl
  | [], _ :: _, h => by cases h
  | _ :: _, [], h => by cases h
  | x :: p, y :: q, h => by
    have h' : ((x : Int) :: NI p) = (y : Int) :: NI q := h
    injection h' with h1 h2
    rw [NI_inj h2, Int.ofNat.inj h1]
theorem dp_tp {K : PySem.W.Frag} {H : Hp} {a : Addr} {p : List Nat} (h : Tp H a p) : Dp K H (.ref a) (.tuple ((NI p).map PyData.int)) :=
  dp_ti (sq_of (by rw [← NV_NI]; exact h))
theorem eqv_tp (p q : List Nat) : PyData.eqv (.tuple ((NI p).map PyData.int)) (.tuple ((NI q).map PyData.int)) = decide (p = q) := by
  rw [eqv_ti]
  by_cases e : p = q
  · rw [decide_eq_true e, e]
    exact decide_eq_true rfl
  · rw [decide_eq_false e]
    exact decide_eq_false fun z => e (NI_inj z)
/-! ### tuples of tuples as data -/
def dC (cs : List (List Nat)) : PyData := .list (cs.map fun c => .tuple ((NI c).map PyData.int))
theorem lay_cs : ∀ cs : List (List Nat), PyData.canLayAll0 (cs.map fun c => PyData.tuple ((NI c).map PyData.int)) = true
  | [] => rfl
  | c :: cs => by
    show (PyData.canLayAll0 ((NI c).map PyData.int) && PyData.canLayAll0 (cs.map fun c => PyData.tuple ((NI c).map PyData.int))) = true
    rw [lay_ints, lay_cs cs]
    rfl
theorem depth_cs : ∀ cs : List (List Nat), PyData.depthAll (cs.map fun c => PyData.tuple ((NI c).map PyData.int)) ≤ 1
  | [] => Nat.zero_le _
  | c :: cs => by
    show max (PyData.depthAll ((NI c).map PyData.int) + 1) (PyData.depthAll (cs.map fun c => PyData.tuple ((NI c).map PyData.int))) ≤ 1
    rw [depth_ints]
    exact Nat.max_le.mpr ⟨Nat.le_refl _, depth_cs cs⟩
theorem shaped_cs (cs : List (List Nat)) : SeqAt.shaped (dC cs) = true := by
  unfold SeqAt.shaped
  have e : (dC cs).depth ≤ 64 := by
    show PyData.depthAll (cs.map fun c => PyData.tuple ((NI c).map PyData.int)) + 1 ≤ 64
    have := depth_cs cs
    omega
  show (PyData.canLayAll0 (cs.map fun c => PyData.tuple ((NI c).map PyData.int)) && _) = true
  rw [lay_cs, decide_eq_true e]
  rfl
theorem eqv_cs (cs : List (List Nat)) : PyData.eqv (dC cs) (dC cs) = true := SeqAt.eqv_refl _ (lay_cs cs)
theorem dpa_cs {K : PySem.W.Frag} {H : Hp} : ∀ ks : List (Addr × List Nat), (∀ k ∈ ks, Tp H k.1 k.2) → DpAll K H (ks.map fun k => V.ref k.1) ((ks.map (·.2)).map fun c => PyData.tuple ((NI c).map PyData.int))
  | [], _ => .nil
  | k :: ks, h => .cons (dp_tp (h k List.mem_cons_self)) (dpa_cs ks fun l hl => h l (List.mem_cons_of_mem _ hl))
theorem dp_cs {K : PySem.W.Frag} {H : Hp} {a : Addr} {ks : List (Addr × List Nat)} {cs : List (List Nat)} (h : SqL K H a (ks.map fun k => V.ref k.1)) (hk : ∀ k ∈ ks, Tp H k.1 k.2) (e : ks.map (·.2) = cs) : Dp K H (.ref a) (dC cs) := by
  have := Dp.lst h (dpa_cs (K := K) ks hk)
  rw [e] at this
  exact this
theorem foldl_min : ∀ (ns : List Int) (n : Int), (∀ y ∈ ns, n ≤ y) → ns.foldl min n = n
  | [], _, _ => rfl
  | m :: ns, n, h => by
    have h1 := h m List.mem_cons_self
    show ns.foldl min (min n m) = n
    rw [show min n m = n from Int.min_eq_left h1]
    exact foldl_min ns n fun y hy => h y (List.mem_cons_of_mem _ hy)
theorem NI_nodup {l : List Nat} (h : l.Nodup) : (NI l).Nodup := by
  unfold NI
  rw [List.nodup_iff_pairwise_ne, List.pairwise_map]
  exact List.Pairwise.imp (fun {x y} h e => h (Int.ofNat.inj e)) (List.nodup_iff_pairwise_ne.mp h)
theorem NI_len (l : List Nat) : (NI l).length = l.length := by unfold NI; rw [List.length_map]
theorem mem_NI {l : List Nat} {y : Int} (h : y ∈ NI l) : ∃ x, x ∈ l ∧ y = (x : Int) := by
  obtain ⟨x, hx, rfl⟩ := List.mem_map.mp h
  exact ⟨x, hx, rfl⟩
/-- the same numbers, both rising -/
theorem sorted_is {ns : List Int} {l m : List Nat} (h1 : ns.Perm (NI l)) (h2 : ns.Pairwise (· ≤ ·)) (h3 : m.Perm l) (h4 : m.Pairwise (· ≤ ·)) : ns = NI m := by
  refine List.Perm.eq_of_pairwise (fun a b _ _ x y => Int.le_antisymm x y) h2 ?_ (h1.trans (h3.symm.map _))
  unfold NI
  rw [List.pairwise_map]
  exact List.Pairwise.imp (fun h => by omega) h4
end Hw

namespace Hw
open PySem PySem.Spec PyProof.Rows L2
section
variable {P : Program} {w : World} {K : PySem.W.Frag} {mg : Str → Option Value} {base : Heap}
def spWhole : Sp := fun vs H Q _ => ∃ i : Int, vs = [.int i] ∧ Q (.bl true) H
theorem scWhole : FnScope ["value"] ["value"] (defScope sWhole) := ⟨rfl, rfl, rfl, by decide +kernel, rfl, by decide +kernel, by decide +kernel⟩
theorem cal_whole (T : Txt mg) (D : Df K mg "is_whole" sWhole ["value"]) : Cal P w K mg base "is_whole" 1 spWhole := by
  refine cal_of D scWhole (fun vs H Q E h => ?_) (fun f cdv A outer s H vs Q E hr h => ?_)
  · obtain ⟨i, rfl, _⟩ := h
    rfl
  · obtain ⟨i, rfl, q⟩ := h
    refine ⟨_, pss_one (ps_ret (pe_and (pe_callB call_isi (by rfl) T.isinstance (by decide +kernel) (pa_cons (pv 0) (pa_cons (pe_bltn (v := .ty "int") (by rfl) T.int (by decide +kernel) rfl) pa_nil)))
      (pe_one (pe_not (pe_callB call_isi (by rfl) T.isinstance (by decide +kernel) (pa_cons (pv 0) (pa_cons (pe_bltn (v := .ty "bool") (by rfl) T.bool (by decide +kernel) rfl) pa_nil))))))), ?_⟩
    refine ⟨_, rfl, _, _, _, _, true, rfl, .ty _, .base (.int i), kit_ty (by decide +kernel), true, rfl, iteT ?_⟩
    refine ⟨_, rfl, _, _, _, _, false, rfl, .ty _, .base (.int i), kit_ty (by decide +kernel), false, rfl, ?_⟩
    exact q
def spIndex : Sp := fun vs H Q _ => ∃ (i c : Int), vs = [.int i, .int c] ∧ Q (.bl (decide (0 ≤ i ∧ i < c))) H
theorem scIndex : FnScope ["value", "count"] ["value", "count"] (defScope sIndex) := ⟨rfl, rfl, rfl, by decide +kernel, rfl, by decide +kernel, by decide +kernel⟩
theorem cal_index (T : Txt mg) (GW : Cal P w K mg base "is_whole" 1 spWhole) (D : Df K mg "is_index" sIndex ["value", "count"]) : Cal P w K mg base "is_index" 2 spIndex := by
  refine cal_of D scIndex (fun vs H Q E h => ?_) (fun f cdv A outer s H vs Q E hr h => ?_)
  · obtain ⟨i, c, rfl, _⟩ := h
    rfl
  · obtain ⟨i, c, rfl, q⟩ := h
    refine ⟨_, pss_one (ps_ret (pe_and (pe_cal GW hr (by rfl) (pa_cons (pv 0) pa_nil)) (pe_one (pe_chain op_le op_lt pe_int (pv 0) (pv 1))))), ?_⟩
    refine ⟨_, rfl, i, rfl, true, rfl, iteT ?_⟩
    refine ⟨_, rfl, _, _, rfl, rfl, _, rfl, ite2 (fun h => ?_) (fun h => ?_)⟩
    · refine ⟨_, rfl, _, _, rfl, rfl, ?_⟩
      have h' : (0 : Int) ≤ i := of_decide_eq_true h
      have e : decide (i < c) = decide (0 ≤ i ∧ i < c) := by
        by_cases z : i < c <;> simp [z, h']
      show Q (V.bl (decide (i < c))) H
      rw [e]
      exact q
    · have h' : ¬ (0 : Int) ≤ i := fun z => h (decide_eq_true z)
      have e : false = decide (0 ≤ i ∧ i < c) := by simp [h']
      show Q (V.bl false) H
      rw [e]
      exact q
end
end Hw

namespace Hw
open PySem PySem.Spec PyProof.Rows L2
section
variable {P : Program} {w : World} {K : PySem.W.Frag} {mg : Str → Option Value} {base : Heap}
theorem mixed_ok (x : Int) : 0 ≤ x % 2147483629 / 7 ∧ x % 2147483629 / 7 < 2 ^ 31 := by omega
def spMixed : Sp := fun vs H Q _ => ∃ (c n : Int), vs = [.int c, .int n] ∧ 0 ≤ c ∧ c < 2 ^ 40 ∧ 0 ≤ n ∧ n < 2 ^ 20 ∧ ∀ v : Int, 0 ≤ v → v < 2 ^ 31 → Q (.int v) H
theorem scMixed : FnScope ["_law_cell", "_law_n", "_law_turned"] ["_law_cell", "_law_n"] (defScope sMixed) := ⟨rfl, rfl, rfl, by decide +kernel, rfl, by decide +kernel, by decide +kernel⟩
theorem cal_mixed (D : Df K mg "_law_mixed" sMixed ["_law_cell", "_law_n"]) : Cal P w K mg base "_law_mixed" 1 spMixed := by
  have nd := scMixed.nd
  refine cal_of D scMixed (fun vs H Q E h => ?_) (fun f cdv A outer s H vs Q E hr h => ?_)
  · obtain ⟨c, n, rfl, _⟩ := h
    rfl
  · obtain ⟨c, n, rfl, c0, c1, n0, n1, q⟩ := h
    refine ⟨_, pss_cons (ps_set (i := 2) nd rfl (.inl rfl) (pe_op op_add (pe_op op_add (pe_op op_mod (pe_op op_mul (pe_op op_mul (pv 0) (pe_op op_add pe_int (pe_op op_mul pe_int (pv 1)))) pe_int) pe_int) (pe_op op_mul (pe_op op_mul pe_int (pv 1)) (pv 1))) (pe_op op_mul pe_int (pv 1))))
      <| pss_one (ps_ret (pe_op op_fdiv (pe_op op_mod (pe_op op_mul (pv 2) pe_int) pe_int) pe_int)), ?_⟩
    refine ⟨_, rfl, _, rfl, _, _, rfl, rfl, .inl ⟨by decide, by decide⟩, _, _, rfl, rfl, _, _, rfl, rfl, .inl ⟨by omega, by omega⟩, _, _, rfl, rfl, .inr ⟨by decide, by decide⟩, _, _, rfl, rfl, (by show (0 : Int) < _; decide), ?_⟩
    refine ⟨_, rfl, _, _, rfl, rfl, .inl ⟨by decide, by decide⟩, _, rfl, _, _, rfl, rfl, .inr ⟨by omega, by omega⟩, _, _, rfl, rfl, _, rfl, _, _, rfl, rfl, .inl ⟨by decide, by decide⟩, _, _, rfl, rfl, ?_⟩
    refine ⟨_, rfl, _, _, rfl, rfl, .inr ⟨by decide, by decide⟩, _, _, rfl, rfl, (by show (0 : Int) < _; decide), _, _, rfl, rfl, ⟨by decide, by decide⟩, ?_⟩
    exact q _ (mixed_ok _).1 (mixed_ok _).2
/-! ### the cells -/
def Cells (cs : List Int) : Prop := cs.length = 64 ∧ ∀ c ∈ cs, 0 ≤ c ∧ c < 2 ^ 31
theorem cells_set {cs : List Int} (h : Cells cs) (i : Nat) (x : Int) : Cells (cs.set i (x % 2147483647)) := by
  refine ⟨by rw [List.length_set]; exact h.1, fun c hc => ?_⟩
  rcases List.mem_or_eq_of_mem_set hc with z | z
  · exact h.2 c z
  · rw [z]; omega
theorem cells_get {cs : List Int} (h : Cells cs) {i : Nat} (hi : i < 64) : ∃ c, cs[i]? = some c ∧ 0 ≤ c ∧ c < 2 ^ 31 := by
  have hl : i < cs.length := by rw [h.1]; exact hi
  exact ⟨cs[i], List.getElem?_eq_getElem hl, h.2 _ (List.getElem_mem hl)⟩
def spFolded (K : PySem.W.Frag) : Sp := fun vs H Q _ => ∃ (a : Addr) (ns : List Int), vs = [.ref a] ∧ SqL K H a (ns.map V.int) ∧ ns.length ≤ 63 ∧ ∀ H' r cs, Same H H' → H r = none → H' r = some (.lst (cs.map V.int)) → Cells cs → Q (.ref r) H'
theorem scFolded : FnScope ["_law_script", "_law_n", "_law_found", "_law_cell"] ["_law_script"] (defScope sFolded) := ⟨rfl, rfl, rfl, by decide +kernel, rfl, by decide +kernel, by decide +kernel⟩
theorem cal_folded (T : Txt mg) (D : Df K mg "_law_folded" sFolded ["_law_script"]) : Cal P w K mg base "_law_folded" 1 (spFolded K) := by
  have nd := scFolded.nd
  refine cal_of D scFolded (fun vs H Q E h => ?_) (fun f cdv A outer s H vs Q E hr h => ?_)
  · obtain ⟨a, ns, rfl, _⟩ := h
    rfl
  · obtain ⟨a, ns, rfl, ha, hl, q⟩ := h
    refine ⟨_, pss_cons (ps_setLc (i := 2) (own := [("_law_n", 1)]) (g := gName 1) (by rfl) nd rfl rfl (sw_true rfl rfl rfl (by decide +kernel)) (pi_range1 (by rfl) T.range (pa_cons pe_int pa_nil))
        (blkOk_by (own := [("_law_n", 1)]) (N := ["_law_script", "_law_n", "_law_found", "_law_cell"]) (sc := defScope sFolded) (by decide +kernel)) (fun _ _ _ _ _ => pg_name (i := 1) nd rfl (.inl rfl)) (fun _ _ _ _ _ => pts_nil)
        (fun _ _ _ _ _ => pe_op op_add pe_int (pv 1)))
      <| pss_cons (ps_for PassesOwn.never rfl (pi_enum (by rfl) T.enumerate (pa_cons (pv 0) pa_nil)) (pg_tup rfl (pgs_cons (pg_name (i := 1) nd rfl (.inl rfl)) (pgs_cons (pg_name (i := 3) nd rfl (.inl rfl)) pgs_nil)))
          (pss_one (ps_asg (pe_op op_mod (pe_op op_add (pe_op op_mul (pe_ix ix_list (pv 2) (pe_op op_mod (pv 1) pe_int) (fun _ _ => rfl)) pe_int) (pv 3)) pe_int) (pg_sub (pv 2) (pe_op op_mod (pv 1) pe_int) set_list))))
      <| pss_cons (ps_for PassesOwn.never rfl (pi_range2 (by rfl) T.range (pa_cons pe_int (pa_cons pe_int pa_nil))) (pg_name (i := 1) nd rfl (.inl rfl))
          (pss_one (ps_asg (pe_op op_mod (pe_op op_add (pe_ix ix_list (pv 2) (pv 1) (fun _ _ => rfl)) (pe_op op_mul (pe_ix ix_list (pv 2) (pe_op op_sub (pv 1) pe_int) (fun _ _ => rfl)) pe_int)) pe_int) (pg_sub (pv 2) (pv 1) set_list))))
      <| pss_one (ps_ret (pv 2)), ?_⟩
    refine ⟨_, rfl, by decide, by decide, fun D nD => lc_it (walk_rg0 (n := 64)) (fun i H' => Same H H' ∧ H' D = some (.lst (((List.range i).map fun j : Nat => (17 + (j : Int))).map V.int))) ⟨same_upd nD, upd_same⟩ (fun _ _ _ _ => trivial) ?_ ?_⟩
    · rintro i x _ H2 hi ⟨sm, hD⟩ ⟨rfl, rfl⟩
      refine ⟨rfl, _, rfl, _, _, rfl, rfl, _, hD, ?_, ?_, ?_⟩
      · rw [List.length_map, List.length_map, List.length_range]
        exact small1000 (by omega)
      · exact fun b o e => by rw [upd_ne (ne_of_none e nD)]; exact sm _ _ e
      · rw [upd_same, List.range_succ, List.map_append, List.map_append]
        rfl
    · rintro H2 ⟨sm2, hD⟩
      have c0 : Cells ((List.range 64).map fun j : Nat => (17 + (j : Int))) := by
        refine ⟨by rw [List.length_map, List.length_range], fun c hc => ?_⟩
        obtain ⟨j, hj, rfl⟩ := List.mem_map.mp hc
        rw [List.mem_range] at hj
        omega
      refine ⟨_, rfl, a, _, rfl, sm2.seq ha, for_it (walk_enum (xs := ns.map V.int)) (fun i σ H' => ∃ v1 v3 cs, σ = [some (.ref a), v1, some (.ref D), v3] ∧ Same H H' ∧ H' D = some (.lst (cs.map V.int)) ∧ Cells cs) ⟨_, _, _, rfl, sm2, hD, c0⟩ (fun i σ H' _ ⟨_, _, _, _, sm, _⟩ => sm.seq ha) ?_ ?_⟩
      · rintro i x σ H3 H4 hi ⟨v1, v3, cs, rfl, sm, hL, hc⟩ ⟨T1, i', y, rfl, nT, rfl, ei, ey⟩
        obtain rfl : V.int (i : Int) = i' := Option.some.inj ei
        have ey : (ns.map V.int)[i]? = some y := ey
        rw [List.getElem?_map] at ey
        obtain ⟨c, hc1, rfl⟩ : ∃ c, ns[i]? = some c ∧ y = V.int c := by
          cases e : ns[i]? with
          | none => rw [e] at ey; cases ey
          | some c => rw [e] at ey; exact ⟨c, rfl, (Option.some.inj ey).symm⟩
        rw [List.length_map] at hi
        have i64 : i < 64 := by omega
        obtain ⟨z, hz, z0, z1⟩ := cells_get hc i64
        have hL' : upd H3 T1 (.tup [V.int (i : Int), V.int c]) D = some (.lst (cs.map V.int)) := by
          rw [upd_ne (ne_of_none hL nT)]
          exact hL
        have smT := sm.trans (same_upd (o := .tup [V.int (i : Int), V.int c]) nT)
        refine ⟨T1, _, rfl, .inl (.inl upd_same), rfl, _, _, rfl, _, _, rfl, rfl, ?_⟩
        refine ⟨_, rfl, _, rfl, _, _, rfl, rfl, (by show (0 : Int) < 64; decide), D, _, _, _, rfl, rfl, sl_of hL', at_int hz (by omega), ?_⟩
        refine ⟨_, _, rfl, rfl, .inl ⟨by omega, by omega⟩, _, rfl, _, _, rfl, rfl, _, _, rfl, rfl, (by show (0 : Int) < 2147483647; decide), ?_⟩
        refine ⟨_, rfl, _, rfl, _, _, rfl, rfl, (by show (0 : Int) < 64; decide), D, _, _, i, rfl, rfl, hL', ix_at (by rw [List.length_map, hc.1]; exact i64) (by omega), ?_⟩
        refine ⟨_, _, cs.set i ((z * 48271 + c) % 2147483647), rfl, same_in smT nD, ?_, cells_set hc i _⟩
        rw [upd_same, set_int]
      · rintro σ H3 ⟨v1, v3, cs, rfl, sm, hL, hc⟩
        refine ⟨_, _, rfl, by decide, ?_⟩
        refine for_it (walk_range (lo := 1) (n := 63)) (fun i σ H' => ∃ v1 cs, σ = [some (.ref a), v1, some (.ref D), v3] ∧ Same H H' ∧ H' D = some (.lst (cs.map V.int)) ∧ Cells cs) ⟨_, _, rfl, sm, hL, hc⟩ (fun _ _ _ _ _ => trivial) ?_ ?_
        · rintro i x σ _ H4 hi ⟨v1, cs, rfl, sm, hL, hc⟩ ⟨rfl, rfl⟩
          obtain ⟨z, hz, z0, z1⟩ := cells_get hc (i := i + 1) (by omega)
          obtain ⟨y, hy, y0, y1⟩ := cells_get hc (i := i) (by omega)
          refine ⟨_, rfl, _, rfl, D, _, _, _, rfl, rfl, sl_of hL, at_int hz (by omega), ?_⟩
          refine ⟨_, rfl, _, rfl, _, _, rfl, rfl, D, _, _, _, rfl, rfl, sl_of hL, at_int hy (by omega), ?_⟩
          refine ⟨_, _, rfl, rfl, .inl ⟨by omega, by omega⟩, _, _, rfl, rfl, _, _, rfl, rfl, (by show (0 : Int) < 2147483647; decide), ?_⟩
          refine ⟨_, rfl, _, rfl, D, _, _, i + 1, rfl, rfl, hL, ix_at (by rw [List.length_map, hc.1]; omega) (by omega), ?_⟩
          refine ⟨_, cs.set (i + 1) ((z + y * 16807) % 2147483647), rfl, same_in sm nD, ?_, cells_set hc (i + 1) _⟩
          rw [upd_same, set_int]
        · rintro σ H4 ⟨v1, cs, rfl, sm, hL, hc⟩
          exact ⟨_, rfl, q H4 D cs sm nD hL hc⟩
end
end Hw

namespace Hw
open PySem PySem.Spec PyProof.Rows L2
/-! ### the law's source of numbers -/
def dV (lc lg : Addr) (s : Int) : List (Key × V) := [(.inr "cells", .ref lc), (.inr "great", .ref lg), (.inr "spot", .int s)]
theorem dV_cells (lc lg : Addr) (s : Int) : valV (dV lc lg s) (.inr "cells") = some (.ref lc) := by rfl
theorem dV_great (lc lg : Addr) (s : Int) : valV (dV lc lg s) (.inr "great") = some (.ref lg) := by rfl
theorem dV_spot (lc lg : Addr) (s : Int) : valV (dV lc lg s) (.inr "spot") = some (.int s) := by rfl
theorem dV_put (lc lg : Addr) (s t : Int) : putK (dV lc lg s) (.inr "spot") (.int t) = dV lc lg t := by rfl
/-- at m the source stands, its great numbers at lg; s draws were made -/
def MOk (H : Hp) (m lg lc : Addr) (s : Nat) : Prop := ∃ (cs gs : List Int), H m = some (.dK (dV lc lg (s : Int))) ∧ H lc = some (.lst (cs.map V.int)) ∧ H lg = some (.lst (gs.map V.int)) ∧ Cells cs ∧ gs.length ≤ 63 ∧ lc ≠ lg
/-- all but the source is as it was -/
def Kp (m lg : Addr) (H H' : Hp) : Prop := ∀ b o, b ≠ m → b ≠ lg → H b = some o → H' b = some o
theorem Kp.refl (m lg : Addr) (H : Hp) : Kp m lg H H := fun _ _ _ _ h => h
theorem Kp.trans {m lg : Addr} {H H1 H2 : Hp} (a : Kp m lg H H1) (b : Kp m lg H1 H2) : Kp m lg H H2 := fun c o h1 h2 h => b c o h1 h2 (a c o h1 h2 h)
theorem Kp.same {m lg : Addr} {H H' : Hp} (a : Same H H') : Kp m lg H H' := fun b o _ _ h => a b o h
/-- a tuple stays -/
theorem Kp.tup {m lg lc : Addr} {H H' : Hp} {s : Nat} (k : Kp m lg H H') (M : MOk H m lg lc s) {b : Addr} {xs : List V} (h : H b = some (.tup xs)) : H' b = some (.tup xs) := by
  obtain ⟨cs, gs, h1, h2, h3, _⟩ := M
  exact k b _ (ne_of h h1 (by intro q; cases q)) (ne_of h h3 (by intro q; cases q)) h
/-- a list other than the source's stays -/
theorem Kp.lst {m lg lc : Addr} {H H' : Hp} {s : Nat} (k : Kp m lg H H') (M : MOk H m lg lc s) {b : Addr} {xs : List V} (n : b ≠ lg) (h : H b = some (.lst xs)) : H' b = some (.lst xs) := by
  obtain ⟨cs, gs, h1, h2, h3, _⟩ := M
  exact k b _ (ne_of h h1 (by intro q; cases q)) n h
theorem MOk.same {m lg lc : Addr} {H H' : Hp} {s : Nat} (M : MOk H m lg lc s) (sm : Same H H') : MOk H' m lg lc s := by
  obtain ⟨cs, gs, h1, h2, h3, r⟩ := M
  exact ⟨cs, gs, sm _ _ h1, sm _ _ h2, sm _ _ h3, r⟩
theorem MOk.new {m lg lc l : Addr} {H : Hp} {s : Nat} (M : MOk H m lg lc s) (h : H l = none) : l ≠ lg ∧ l ≠ m ∧ l ≠ lc := by
  obtain ⟨cs, gs, h1, h2, h3, r⟩ := M
  exact ⟨fun e => (ne_of_none h3 h) e.symm, fun e => (ne_of_none h1 h) e.symm, fun e => (ne_of_none h2 h) e.symm⟩
theorem MOk.upd {m lg lc l : Addr} {H : Hp} {o : HO} {s : Nat} (M : MOk H m lg lc s) (n : l ≠ lg ∧ l ≠ m ∧ l ≠ lc) : MOk (upd H l o) m lg lc s := by
  obtain ⟨cs, gs, h1, h2, h3, r⟩ := M
  exact ⟨cs, gs, by rw [upd_ne n.2.1.symm]; exact h1, by rw [upd_ne n.2.2.symm]; exact h2, by rw [upd_ne n.1.symm]; exact h3, r⟩
theorem Kp.free {m lg lc r : Addr} {H H' : Hp} {s : Nat} (k : Kp m lg H H') (M : MOk H' m lg lc s) (nr : H' r = none) : H r = none := by
  cases e : H r with
  | none => rfl
  | some o =>
    obtain ⟨n1, n2, _⟩ := M.new nr
    rw [k r o n2 n1 e] at nr
    cases nr
section
variable {P : Program} {w : World} {K : PySem.W.Frag} {mg : Str → Option Value} {base : Heap}
def spDraw : Sp := fun vs H Q _ => ∃ (m lg lc : Addr) (s t : Nat), vs = [.ref m, .int (t : Int)] ∧ MOk H m lg lc s ∧ s ≤ 100000 ∧ 1 ≤ t ∧ t ≤ 100000 ∧ ∀ (H' : Hp) (d : Nat), d < t → Kp m lg H H' → MOk H' m lg lc (s + 1) → Q (.int (d : Int)) H'
theorem scDraw : FnScope ["_law_m", "_law_top_here", "_law_n", "_law_at", "_law_cell"] ["_law_m", "_law_top_here"] (defScope sDraw) := ⟨rfl, rfl, rfl, by decide +kernel, rfl, by decide +kernel, by decide +kernel⟩
theorem cal_draw (T : Txt mg) (GM : Cal P w K mg base "_law_mixed" 1 spMixed) (D : Df K mg "_law_draw" sDraw ["_law_m", "_law_top_here"]) : Cal P w K mg base "_law_draw" 2 spDraw := by
  have nd := scDraw.nd
  refine cal_of D scDraw (fun vs H Q E h => ?_) (fun f cdv A outer s0 H vs Q E hr h => ?_)
  · obtain ⟨m, lg, lc, s, t, rfl, _⟩ := h
    rfl
  · obtain ⟨m, lg, lc, s, t, rfl, ⟨cs, gs, h1, h2, h3, hc, hg, hne⟩, hs, t1, t2, q⟩ := h
    have hu := hu_of hr
    refine ⟨_, pss_cons (ps_set (i := 2) nd rfl (.inl rfl) (pe_dget hu (pv 0) pe_str (fun _ _ => rfl)))
      <| pss_cons (ps_dput hu (pv 0) pe_str (pe_op op_add (pv 2) pe_int) rfl)
      <| pss_cons (ps_if (pt_cmpR (op_neD hr.units) (pe_dget hu (pv 0) pe_str (fun _ _ => rfl)) (pe_lst pa_nil) (nomark _))
          (pss_cons (ps_set (i := 3) nd rfl (.inl rfl) (pe_op op_mod (pv 2) (pe_callB cr_len (by rfl) T.len PySem.boot_len (pa_cons (pe_dget hu (pv 0) pe_str (fun _ _ => rfl)) pa_nil))))
          <| pss_cons (ps_set (i := 4) nd rfl (.inl rfl) (pe_ix ix_list (pe_dget hu (pv 0) pe_str (fun _ _ => rfl)) (pv 3) (fun _ _ => rfl)))
          <| pss_one (ps_if (pt_cmpR op_gt (pv 4) pe_int (nomark _))
              (pss_cons (ps_asg (pe_op op_fdiv (pv 4) (pv 1)) (pg_sub (pe_dget hu (pv 0) pe_str (fun _ _ => rfl)) (pv 3) set_list))
              <| pss_one (ps_ret (pe_op op_mod (pv 4) (pv 1)))) pss_nil)) pss_nil)
      <| pss_one (ps_ret (pe_op op_mod (pe_cal GM hr (by rfl) (pa_cons (pe_cal GM hr (by rfl) (pa_cons (pe_op op_add (pe_ix ix_list (pe_dget hu (pv 0) pe_str (fun _ _ => rfl)) (pe_op op_mod (pv 2) pe_int) (fun _ _ => rfl)) (pe_op op_mul pe_int (pe_op op_fdiv (pv 2) pe_int))) (pa_cons (pv 2) pa_nil)))
          (pa_cons (pe_op op_add (pv 2) pe_int) pa_nil))) (pv 1))), ?_⟩
    refine ⟨_, rfl, m, _, rfl, by rw [← dV_spot lc lg (s : Int)]; exact DGet.k (k := Sum.inr "spot") h1, ?_⟩
    refine ⟨_, rfl, _, _, rfl, rfl, _, rfl, m, _, rfl, DPut.k (k := Sum.inr "spot") h1 (by show 3 < sizeLine; decide), ?_⟩
    rw [dV_put]
    have nlm : lc ≠ m := ne_of h2 h1 (by intro q; cases q)
    have ngm : lg ≠ m := ne_of h3 h1 (by intro q; cases q)
    generalize eH : upd H m (.dK (dV lc lg ((s : Int) + 1))) = H1
    have g1 : H1 m = some (.dK (dV lc lg ((s : Int) + 1))) := by rw [← eH, upd_same]
    have g2 : H1 lc = some (.lst (cs.map V.int)) := by rw [← eH, upd_ne nlm]; exact h2
    have g3 : H1 lg = some (.lst (gs.map V.int)) := by rw [← eH, upd_ne ngm]; exact h3
    have k1 : Kp m lg H H1 := fun b o n1 n2 e => by rw [← eH, upd_ne n1]; exact e
    refine ⟨_, rfl, m, _, rfl, by rw [← dV_great lc lg ((s : Int) + 1)]; exact DGet.k (k := Sum.inr "great") g1, Nat.zero_le _, fun l0 n0 => ?_⟩
    have sm := same_upd (o := .lst []) n0
    generalize eH2 : upd H1 l0 (.lst []) = H2 at *
    have f1 := sm _ _ g1
    have f2 := sm _ _ g2
    have f3 := sm _ _ g3
    have k2 : Kp m lg H H2 := k1.trans (Kp.same sm)
    have MH : ∀ (H3 : Hp) (gs' : List Int), H3 m = some (.dK (dV lc lg ((s : Int) + 1))) → H3 lc = some (.lst (cs.map V.int)) → H3 lg = some (.lst (gs'.map V.int)) → gs'.length ≤ 63 → MOk H3 m lg lc (s + 1) := fun H3 gs' a1 a2 a3 a4 =>
      ⟨cs, gs', by rw [a1]; rfl, a2, a3, hc, a4, hne⟩
    have G1 := DGet.k (k := Sum.inr "great") f1
    have G2 := DGet.k (k := Sum.inr "cells") f1
    rw [dV_great] at G1
    rw [dV_cells] at G2
    have fin : ∀ (H3 : Hp) (gs' : List Int) (x : Int), Kp m lg H H3 → H3 m = some (.dK (dV lc lg ((s : Int) + 1))) → H3 lc = some (.lst (cs.map V.int)) → H3 lg = some (.lst (gs'.map V.int)) → gs'.length ≤ 63 → Q (.int (x % (t : Int))) H3 := fun H3 gs' x a0 a1 a2 a3 a4 => by
      have t0 : (0 : Int) < (t : Int) := by omega
      have b1 := Int.emod_nonneg x (show (t : Int) ≠ 0 by omega)
      have b2 := Int.emod_lt_of_pos x t0
      obtain ⟨d, hd⟩ : ∃ d : Nat, (d : Int) = x % (t : Int) := ⟨(x % (t : Int)).toNat, by omega⟩
      rw [← hd]
      exact q H3 d (by omega) a0 (MH H3 gs' a1 a2 a3 a4)
    refine ⟨_, _, dp_li (sl_of f3), dp_li (ns := []) (sl_of (by rw [← eH2]; exact upd_same)), shaped_li _, shaped_li _, _, rfl, ?_⟩
    rw [eqv_li]
    have fin0 := fun x => fin H2 gs x k2 f1 f2 f3 hg
    by_cases z : gs = []
    case' pos =>
      rw [decide_eq_true z]
      refine iteF ?_
    case' neg =>
      rw [decide_eq_false z]
      have gl : 0 < gs.length := List.length_pos_iff.mpr z
      refine iteT ?_
      refine ⟨_, rfl, _, rfl, _, _, rfl, G1, lg, _, rfl, .inl (sl_of f3), _, _, rfl, rfl, (by rw [List.length_map]; omega), ?_⟩
      rw [List.length_map]
      obtain ⟨j, hj⟩ : ∃ j : Nat, (j : Int) = (s : Int) % (gs.length : Int) := ⟨s % gs.length, by omega⟩
      have jl : j < gs.length := by
        have := Int.emod_lt_of_pos (s : Int) (show (0 : Int) < (gs.length : Int) by omega)
        omega
      obtain ⟨c, hc1⟩ : ∃ c, gs[j]? = some c := ⟨gs[j], List.getElem?_eq_getElem jl⟩
      refine ⟨_, rfl, _, _, rfl, G1, _, rfl, lg, _, _, _, rfl, rfl, sl_of f3, at_int hc1 hj.symm, ?_⟩
      refine ⟨_, rfl, _, _, rfl, rfl, _, rfl, ite2 (fun z2 => ?hit) (fun z2 => ?_)⟩
      case hit =>
        refine ⟨_, rfl, _, rfl, _, _, rfl, rfl, ⟨by omega, by omega⟩, _, rfl, _, _, rfl, G1, _, rfl, lg, _, _, j, rfl, rfl, f3, ix_at (by rw [List.length_map]; exact jl) hj.symm, ?_⟩
        rw [set_int]
        refine ⟨_, rfl, _, rfl, _, _, rfl, rfl, by omega, ?_⟩
        refine fin _ (gs.set j (c / (t : Int))) c (fun b o n1 n2 e => by rw [upd_ne n2]; exact k2 b o n1 n2 e) ?_ ?_ upd_same (by rw [List.length_set]; exact hg)
        · rw [upd_ne ngm.symm]
          exact f1
        · rw [upd_ne hne]
          exact f2
    all_goals
      obtain ⟨y, hy, y0, y1⟩ := cells_get hc (i := s % 64) (by omega)
      refine ⟨_, rfl, _, _, rfl, G2, _, rfl, _, _, rfl, rfl, (by show (0 : Int) < 64; decide), lc, _, _, _, rfl, rfl, sl_of f2, at_int hy (by omega), ?_⟩
      refine ⟨_, rfl, _, _, rfl, rfl, ⟨by decide, by decide⟩, _, _, rfl, rfl, .inl ⟨by decide, by decide⟩, _, _, rfl, rfl, _, rfl, _, _, rfl, by omega, by omega, by omega, by omega, fun v v0 v1 => ?_⟩
      refine ⟨_, rfl, _, _, rfl, rfl, _, _, rfl, by omega, by omega, by omega, by omega, fun v' v0' v1' => ?_⟩
      exact ⟨_, rfl, _, _, rfl, rfl, by omega, fin0 v'⟩
end
end Hw

namespace Hw
open PySem PySem.Spec PyProof.Rows L2
section
variable {P : Program} {w : World} {K : PySem.W.Frag} {mg : Str → Option Value} {base : Heap}
def spBegun (K : PySem.W.Frag) : Sp := fun vs H Q _ => ∃ (a : Addr) (ns : List Int), vs = [.ref a] ∧ SqL K H a (ns.map V.int) ∧ ns.length ≤ 63 ∧ ∀ H' m lg lc, Same H H' → MOk H' m lg lc 0 → Q (.ref m) H'
theorem scBegun : FnScope ["_law_script", "_law_m", "_law_cell"] ["_law_script"] (defScope sBegun) := ⟨rfl, rfl, rfl, by decide +kernel, rfl, by decide +kernel, by decide +kernel⟩
theorem cal_begun (T : Txt mg) (GF : Cal P w K mg base "_law_folded" 1 (spFolded K)) (D : Df K mg "_law_begun" sBegun ["_law_script"]) : Cal P w K mg base "_law_begun" 2 (spBegun K) := by
  have nd := scBegun.nd
  refine cal_of D scBegun (fun vs H Q E h => ?_) (fun f cdv A outer s0 H vs Q E hr h => ?_)
  · obtain ⟨a, ns, rfl, _⟩ := h
    rfl
  · obtain ⟨a, ns, rfl, ha, hl, q⟩ := h
    have hu := hu_of hr
    refine ⟨_, pss_cons (ps_set (i := 1) nd rfl (.inl rfl) (pe_disp (pps_cons pe_str (pe_cal GF hr (by rfl) (pa_cons (pv 0) pa_nil)) (pps_cons pe_str (pe_lst pa_nil) (pps_cons pe_str pe_int pps_nil))) (by rfl) (by rfl) (fun z => by cases z) (by decide)))
      <| pss_cons (ps_dput hu (pv 1) pe_str (pe_lc (own := [("_law_cell", 2)]) (g := gName 2) (by rfl) nd (pi_list (pv 0))
          (blkOk_by (own := [("_law_cell", 2)]) (N := ["_law_script", "_law_m", "_law_cell"]) (sc := defScope sBegun) (by decide +kernel)) (fun _ _ _ _ _ => pg_name (i := 2) nd rfl (.inl rfl)) (fun _ _ _ _ _ => pts_nil)
          (fun _ _ _ _ _ => pe_ifExp (pt_cmpR op_ge (pv 2) (pe_op op_pow pe_int pe_int) (nomark _)) (pv 2) pe_int)) rfl)
      <| pss_one (ps_ret (pv 1)), ?_⟩
    intro m nm
    have sm0 := same_upd (o := .dK []) nm
    refine ⟨_, rfl, a, ns, rfl, sm0.seq ha, hl, fun H1 lc cs sm1 nlc hlc hcs => ?_⟩
    have h1m : H1 m = some (.dK []) := sm1 _ _ upd_same
    refine ⟨Nat.zero_le _, fun l0 n0 => ?_⟩
    have sm2 := sm1.trans (same_upd (o := .lst []) n0)
    have h2m : upd H1 l0 (.lst []) m = some (.dK []) := sm2 _ _ upd_same
    have h2c : upd H1 l0 (.lst []) lc = some (.lst (cs.map V.int)) := same_upd n0 _ _ hlc
    refine ⟨h2m, [(.inr "cells", .ref lc), (.inr "great", .ref l0), (.inr "spot", .int 0)], rfl, by show 3 ≤ 15; decide, ?_⟩
    have em : mergeK [] [(Sum.inr "cells", V.ref lc), (Sum.inr "great", V.ref l0), (Sum.inr "spot", V.int 0)] = dV lc l0 0 := rfl
    rw [em]
    have smA : Same H (upd (upd H1 l0 (.lst [])) m (.dK (dV lc l0 0))) := fun b o e => by
      rw [upd_ne (ne_of_none e nm)]
      exact sm2 _ _ (sm0 _ _ e)
    generalize eH2 : upd (upd H1 l0 (.lst [])) m (.dK (dV lc l0 0)) = H2 at *
    have g1 : H2 m = some (.dK (dV lc l0 0)) := by rw [← eH2, upd_same]
    have g2 : H2 lc = some (.lst (cs.map V.int)) := by
      rw [← eH2, upd_ne (ne_of h2c h2m (by intro q; cases q))]
      exact h2c
    refine ⟨_, rfl, a, rfl, ⟨_, smA.seq ha⟩, fun D nD => lc_it (walk_list (xs := ns.map V.int)) (fun i H' => Same H2 H' ∧ ∃ gs : List Int, gs.length = i ∧ H' D = some (.lst (gs.map V.int))) ⟨same_upd nD, [], rfl, upd_same⟩ (fun i H' _ ⟨sm, _⟩ => (smA.trans sm).seq ha) ?_ ?_⟩
    · rintro i x _ H3 hi ⟨sm, gs, hgl, hD⟩ ⟨rfl, hx⟩
      rw [List.length_map] at hi
      rw [List.getElem?_map] at hx
      obtain ⟨c, hc1, rfl⟩ : ∃ c, ns[i]? = some c ∧ x = V.int c := by
        cases e : ns[i]? with
        | none => rw [e] at hx; cases hx
        | some c => rw [e] at hx; exact ⟨c, rfl, (Option.some.inj hx).symm⟩
      have fin : ∀ y : Int, ∃ acc, H3 D = some (.lst acc) ∧ acc.length < sizeLine ∧ (Same H2 (upd H3 D (.lst (acc ++ [V.int y]))) ∧ ∃ gs : List Int, gs.length = i + 1 ∧ upd H3 D (.lst (acc ++ [V.int y])) D = some (.lst (gs.map V.int))) := fun y => by
        refine ⟨_, hD, by rw [List.length_map]; exact small1000 (by omega), fun b o e => ?_, gs ++ [y], by rw [List.length_append, hgl]; rfl, by rw [upd_same, List.map_append]; rfl⟩
        rw [upd_ne (ne_of_none e nD)]
        exact sm _ _ e
      refine ⟨rfl, _, rfl, _, _, rfl, rfl, ⟨by decide, by decide, by decide⟩, _, _, rfl, rfl, _, rfl, ite2 (fun _ => ?_) (fun _ => ?_)⟩
      · exact ⟨_, rfl, fin c⟩
      · exact fin 0
    · rintro H3 ⟨sm, gs, hgl, hD⟩
      rw [List.length_map] at hgl
      have f1 := sm _ _ g1
      refine ⟨_, rfl, m, _, rfl, DPut.k (k := Sum.inr "great") f1 (by show 3 < sizeLine; decide), ?_⟩
      have ep : putK (dV lc l0 0) (.inr "great") (V.ref D) = dV lc D 0 := rfl
      rw [ep]
      refine ⟨_, rfl, q _ m D lc (fun b o e => ?_) ⟨cs, gs, upd_same, ?_, ?_, hcs, by omega, ?_⟩⟩
      · rw [upd_ne (ne_of_none e nm)]
        exact sm _ _ (smA _ _ e)
      · rw [upd_ne (ne_of (sm _ _ g2) f1 (by intro q; cases q))]
        exact sm _ _ g2
      · rw [upd_ne (ne_of hD f1 (by intro q; cases q))]
        exact hD
      · exact ne_of_none g2 nD
end
end Hw

namespace Hw
open PySem PySem.Spec PyProof.Rows L2
section
variable {P : Program} {w : World} {K : PySem.W.Frag} {mg : Str → Option Value} {base : Heap}
def spMixedUp (K : PySem.W.Frag) : Sp := fun vs H Q _ => ∃ (m lg lc a : Addr) (s : Nat) (xs : List V), vs = [.ref m, .ref a] ∧ MOk H m lg lc s ∧ (SqL K H a xs ∨ SqT K H a xs) ∧ xs.length ≤ 1000 ∧ s + xs.length ≤ 100000 ∧
  ∀ H' r ys, ys.Perm xs → Kp m lg H H' → H r = none → H' r = some (.lst ys) → MOk H' m lg lc (s + xs.length) → Q (.ref r) H'
theorem scMixedUp : FnScope ["_law_m", "_law_things", "_law_stock", "_law_found", "_law_n"] ["_law_m", "_law_things"] (defScope sMixedUp) := ⟨rfl, rfl, rfl, by decide +kernel, rfl, by decide +kernel, by decide +kernel⟩
theorem cal_mixedUp (T : Txt mg) (GD : Cal P w K mg base "_law_draw" 2 spDraw) (D : Df K mg "_law_mixed_up" sMixedUp ["_law_m", "_law_things"]) : Cal P w K mg base "_law_mixed_up" 3 (spMixedUp K) := by
  have nd := scMixedUp.nd
  refine cal_of D scMixedUp (fun vs H Q E h => ?_) (fun f cdv A outer s0 H vs Q E hr h => ?_)
  · obtain ⟨m, lg, lc, a, s, xs, rfl, _⟩ := h
    rfl
  · obtain ⟨m, lg, lc, a, s, xs, rfl, M0, ha, hl, hs, q⟩ := h
    refine ⟨_, pss_cons (ps_par (i := 2) (j := 3) (by rfl) nd rfl rfl (by decide) rfl rfl (pa_cons (pe_callTy call_list_of (by rfl) T.list (by decide +kernel) (pa_cons (pv 1) pa_nil)) (pa_cons (pe_lst pa_nil) pa_nil)) (by rfl))
      <| pss_cons (ps_for PassesOwn.never rfl (pi_range1 (by rfl) T.range (pa_cons (pe_callB cr_len (by rfl) T.len PySem.boot_len (pa_cons (pv 2) pa_nil)) pa_nil)) (pg_name (i := 4) nd rfl (.inl rfl))
          (pss_one (ps_expr (pe_bm PySem.F.plainAttrs_list PySem.F.slot_list_append PySem.F.type_list_append mt_append (pv 3)
            (pa_cons (pe_bm PySem.F.plainAttrs_list PySem.F.slot_list_pop PySem.F.type_list_pop mt_popAt (pv 2) (pa_cons (pe_cal GD hr (by rfl) (pa_cons (pv 0) (pa_cons (pe_callB cr_len (by rfl) T.len PySem.boot_len (pa_cons (pv 2) pa_nil)) pa_nil))) pa_nil)) pa_nil)))))
      <| pss_one (ps_ret (pv 3)), ?_⟩
    refine ⟨_, rfl, a, xs, rfl, ha, fun l1 n1 => ?_⟩
    have sm1 := same_upd (o := .lst xs) n1
    refine ⟨Nat.zero_le _, fun l2 n2 => ?_⟩
    have sm2 := sm1.trans (same_upd (o := .lst []) n2)
    have n12 : l1 ≠ l2 := ne_of_none upd_same n2
    have n2' : H l2 = none := sm1.free n2
    refine ⟨_, _, rfl, ?_⟩
    have h1 : upd (upd H l1 (.lst xs)) l2 (.lst []) l1 = some (.lst xs) := by rw [upd_ne n12, upd_same]
    have a1 := M0.new n1
    have a2 := M0.new n2'
    refine ⟨_, rfl, l1, xs, rfl, .inl (sl_of h1), _, rfl, by omega, by omega, ?_⟩
    rw [Int.toNat_natCast]
    refine for_it walk_rg0 (fun i σ H' => ∃ v4 rest got, σ = [some (.ref m), some (.ref a), some (.ref l1), some (.ref l2), v4] ∧ Kp m lg H H' ∧ MOk H' m lg lc (s + i) ∧ H' l1 = some (.lst rest) ∧ H' l2 = some (.lst got) ∧ rest.length + i = xs.length ∧ got.length = i ∧ (got ++ rest).Perm xs)
      ⟨none, xs, [], rfl, Kp.same sm2, M0.same sm2, h1, upd_same, by omega, rfl, .refl _⟩ (fun _ _ _ _ _ => trivial) ?_ ?_
    · rintro i x σ _ H2 hi ⟨v4, rest, got, rfl, kp, M, g1, g2, hlen, hgot, hp⟩ ⟨rfl, rfl⟩
      refine ⟨_, rfl, .inl ⟨rfl, _, sl_of g2⟩, _, rfl, .inl ⟨rfl, _, sl_of g1⟩, _, rfl, _, rfl, l1, rest, rfl, .inl (sl_of g1), ?_⟩
      refine ⟨m, lg, lc, s + i, rest.length, rfl, M, by omega, by omega, by omega, fun H3 d hd kp3 M3 => ?_⟩
      have f1 := kp3.lst M a1.1 g1
      have f2 := kp3.lst M a2.1 g2
      have hy : rest[d]? = some rest[d] := List.getElem?_eq_getElem hd
      refine ⟨l1, rest, _, d, rest[d], rfl, rfl, f1, by omega, by omega, seq_ix hd, hy, ?_⟩
      have n21 := n12.symm
      refine ⟨l2, got, _, rfl, rfl, (by rw [upd_ne n21]; exact f2), by rw [hgot]; exact small1000 (by omega), ?_⟩
      refine ⟨_, rest.eraseIdx d, got ++ [rest[d]], rfl, fun b o e1 e2 e => ?_, ?_, ?_, upd_same, ?_, ?_, ?_⟩
      · rw [upd_ne (ne_of_none e n2'), upd_ne (ne_of_none e n1)]
        exact kp3 b o e1 e2 (kp b o e1 e2 e)
      · exact (M3.upd a1).upd a2
      · rw [upd_ne n12, upd_same]
      · rw [List.length_eraseIdx_of_lt hd]
        omega
      · rw [List.length_append, hgot]
        rfl
      · refine List.Perm.trans ?_ hp
        rw [List.append_assoc]
        exact List.Perm.append_left got (perm_out hy)
    · rintro σ H2 ⟨v4, rest, got, rfl, kp, M, g1, g2, hlen, hgot, hp⟩
      have : rest = [] := List.length_eq_zero_iff.mp (by omega)
      subst this
      rw [List.append_nil] at hp
      exact ⟨_, rfl, q H2 l2 got hp kp n2' g2 M⟩
end
end Hw

/-! Places and passages: what is joined. No Python here. -/
namespace Hw
abbrev Ed := Nat × Nat
def adj (es : List Ed) (u v : Nat) : Prop := (u, v) ∈ es ∨ (v, u) ∈ es
inductive Rch (es : List Ed) : Nat → Nat → Prop where
  | refl (u : Nat) : Rch es u u
  | step {u v x : Nat} (h : Rch es u v) (a : adj es v x) : Rch es u x
theorem adj_symm {es : List Ed} {u v : Nat} (h : adj es u v) : adj es v u := h.elim .inr .inl
theorem Rch.trans {es : List Ed} {u v x : Nat} (a : Rch es u v) (b : Rch es v x) : Rch es u x := by
  induction b with
  | refl => exact a
  | step _ q ih => exact ih.step q
theorem Rch.one {es : List Ed} {u v : Nat} (a : adj es u v) : Rch es u v := (Rch.refl u).step a
theorem Rch.symm {es : List Ed} {u v : Nat} (a : Rch es u v) : Rch es v u := by
  induction a with
  | refl => exact .refl _
  | step _ q ih => exact (Rch.one (adj_symm q)).trans ih
theorem Rch.mono {es fs : List Ed} (h : ∀ e ∈ es, e ∈ fs) {u v : Nat} (a : Rch es u v) : Rch fs u v := by
  induction a with
  | refl => exact .refl _
  | step _ q ih => exact ih.step (q.elim (fun m => .inl (h _ m)) fun m => .inr (h _ m))
theorem Rch.map {es fs : List Ed} (f : Nat → Nat) (h : ∀ e ∈ es, adj fs (f e.1) (f e.2)) {u v : Nat} (a : Rch es u v) : Rch fs (f u) (f v) := by
  induction a with
  | refl => exact .refl _
  | step _ q ih =>
    rcases q with m | m
    · exact ih.step (h _ m)
    · exact ih.step (adj_symm (h _ m))
/-- every passage rises and lies within n places -/
def VE (n : Nat) (es : List Ed) : Prop := ∀ e ∈ es, e.1 ≤ e.2 ∧ e.2 < n
def conn (n : Nat) (es : List Ed) : Prop := ∀ v, v < n → Rch es 0 v
def CN (n : Nat) (es : List Ed) : Prop := 1 ≤ n ∧ VE n es ∧ conn n es
def tieF (a b : Nat) : Ed := (min a b, max a b)
theorem tie_cases (a b : Nat) : tieF a b = (a, b) ∨ tieF a b = (b, a) := by
  unfold tieF
  rcases Nat.le_total a b with h | h
  · left; rw [Nat.min_eq_left h, Nat.max_eq_right h]
  · right; rw [Nat.min_eq_right h, Nat.max_eq_left h]
theorem adj_tie {es : List Ed} {a b : Nat} (h : tieF a b ∈ es) : adj es a b := by
  rcases tie_cases a b with e | e
  · rw [e] at h; exact .inl h
  · rw [e] at h; exact .inr h
theorem tie_ok {a b n : Nat} (ha : a < n) (hb : b < n) : (tieF a b).1 ≤ (tieF a b).2 ∧ (tieF a b).2 < n := by
  rcases tie_cases a b with e | e <;> (unfold tieF at e ⊢; simp only; omega)
theorem VE.app {n : Nat} {es fs : List Ed} (a : VE n es) (b : VE n fs) : VE n (es ++ fs) := fun e m => (List.mem_append.mp m).elim (a e) (b e)
theorem VE.mono {n k : Nat} {es : List Ed} (a : VE n es) (h : n ≤ k) : VE k es := fun e m => ⟨(a e m).1, Nat.lt_of_lt_of_le (a e m).2 h⟩
/-- the greatest place that is named, plus 1 -/
def topOf (es : List Ed) : Nat := (es.map (·.2)).foldl max 0 + 1
theorem fold_max_le : ∀ (l : List Nat) (a k : Nat), a ≤ k → (∀ x ∈ l, x ≤ k) → l.foldl max a ≤ k
  | [], _, _, h, _ => h
  | x :: l, a, k, h, hl => fold_max_le l _ k (Nat.max_le.mpr ⟨h, hl x List.mem_cons_self⟩) fun y hy => hl y (List.mem_cons_of_mem _ hy)
theorem fold_max_ge : ∀ (l : List Nat) (a : Nat), a ≤ l.foldl max a
  | [], _ => Nat.le_refl _
  | x :: l, a => Nat.le_trans (Nat.le_max_left a x) (fold_max_ge l (max a x))
theorem fold_max_mem : ∀ (l : List Nat) (a x : Nat), x ∈ l → x ≤ l.foldl max a
  | y :: l, a, x, h => by
    rcases List.mem_cons.mp h with e | m
    · rw [e]; exact Nat.le_trans (Nat.le_max_right a y) (fold_max_ge l (max a y))
    · exact fold_max_mem l (max a y) x m
theorem Rch.last {es : List Ed} {u v : Nat} (a : Rch es u v) (h : u ≠ v) : ∃ x, adj es x v := by
  cases a with
  | refl => exact absurd rfl h
  | step _ q => exact ⟨_, q⟩
theorem top_eq {n : Nat} {es : List Ed} (h : CN n es) : topOf es = n := by
  obtain ⟨h1, h2, h3⟩ := h
  unfold topOf
  have le : (es.map (·.2)).foldl max 0 ≤ n - 1 := fold_max_le _ _ _ (Nat.zero_le _) fun x hx => by
    obtain ⟨e, he, rfl⟩ := List.mem_map.mp hx
    have := (h2 e he).2
    omega
  have ge : n - 1 ≤ (es.map (·.2)).foldl max 0 := by
    by_cases z : n = 1
    · omega
    · obtain ⟨x, q⟩ := (h3 (n - 1) (by omega)).last (by omega)
      rcases q with m | m
      · exact fold_max_mem _ _ _ (List.mem_map.mpr ⟨_, m, rfl⟩)
      · have b := h2 _ m
        have c := fold_max_mem (es.map (·.2)) 0 x (List.mem_map.mpr ⟨_, m, rfl⟩)
        simp only at b
        omega
  omega
/-- a further place at a passage -/
theorem CN.leaf {n d : Nat} {es : List Ed} (h : CN n es) (hd : d < n) : CN (n + 1) (es ++ [(d, n)]) := by
  obtain ⟨h1, h2, h3⟩ := h
  refine ⟨by omega, (h2.mono (Nat.le_succ _)).app ?_, fun v hv => ?_⟩
  · intro e m
    rw [List.mem_singleton.mp m]
    exact ⟨Nat.le_of_lt hd, Nat.lt_succ_self _⟩
  · have up : ∀ {u x}, Rch es u x → Rch (es ++ [(d, n)]) u x := fun a => a.mono fun e m => List.mem_append_left _ m
    by_cases z : v = n
    · subst z
      exact (up (h3 d hd)).step (.inl (List.mem_append_right _ List.mem_cons_self))
    · exact up (h3 v (by omega))
theorem CN.more {n a b : Nat} {es : List Ed} (h : CN n es) (ha : a < n) (hb : b < n) : CN n (es ++ [tieF a b]) := by
  obtain ⟨h1, h2, h3⟩ := h
  refine ⟨h1, h2.app fun e m => ?_, fun v hv => (h3 v hv).mono fun e m => List.mem_append_left _ m⟩
  rw [List.mem_singleton.mp m]
  exact tie_ok ha hb
/-- tails: place low + i hangs at one below it -/
theorem CN.tree {low : Nat} {es : List Ed} (h : CN low es) (f : Nat → Nat) : ∀ k, (∀ i, i < k → f i < low + i) → CN (low + k) (es ++ (List.range k).map fun i => (f i, low + i))
  | 0, _ => by simpa using h
  | k + 1, hf => by
    have ih := CN.tree h f k fun i hi => hf i (by omega)
    rw [List.range_succ, List.map_append, ← List.append_assoc]
    exact ih.leaf (hf k (by omega))
def nmF (low hinge x : Nat) : Nat := if x = 0 then hinge else low + x - 1
def shiftE (low hinge : Nat) (es : List Ed) : List Ed := es.map fun e => tieF (nmF low hinge e.1) (nmF low hinge e.2)
/-- a core hung at a place -/
theorem CN.core {n k hinge : Nat} {es c : List Ed} (h : CN n es) (hc : CN k c) (hh : hinge < n) : CN (n + k - 1) (es ++ shiftE n hinge c) := by
  obtain ⟨h1, h2, h3⟩ := h
  obtain ⟨c1, c2, c3⟩ := hc
  have nb : ∀ x, x < k → nmF n hinge x < n + k - 1 := fun x hx => by
    unfold nmF
    split <;> omega
  refine ⟨by omega, (h2.mono (by omega)).app fun e m => ?_, fun v hv => ?_⟩
  · obtain ⟨d, hd, rfl⟩ := List.mem_map.mp m
    have := c2 d hd
    exact tie_ok (nb _ (by omega)) (nb _ (by omega))
  · have up : ∀ {u x}, Rch es u x → Rch (es ++ shiftE n hinge c) u x := fun a => a.mono fun e m => List.mem_append_left _ m
    by_cases z : v < n
    · exact up (h3 v z)
    · have q := (c3 (v - n + 1) (by omega)).map (fs := es ++ shiftE n hinge c) (nmF n hinge) fun e m =>
        adj_tie (List.mem_append_right _ (List.mem_map.mpr ⟨e, m, rfl⟩))
      have e1 : nmF n hinge 0 = hinge := rfl
      have e2 : nmF n hinge (v - n + 1) = v := by
        unfold nmF
        rw [if_neg (by omega)]
        omega
      rw [e1, e2] at q
      exact (up (h3 hinge hh)).trans q
/-- the order of the passages -/
theorem CN.perm {n : Nat} {es fs : List Ed} (h : CN n es) (p : fs.Perm es) : CN n fs :=
  ⟨h.1, fun e m => h.2.1 e (p.mem_iff.mp m), fun v hv => (h.2.2 v hv).mono fun e m => p.mem_iff.mpr m⟩
/-- other names of the places -/
def renE (p : List Nat) (es : List Ed) : List Ed := es.map fun e => tieF (ap p e.1) (ap p e.2)
theorem Rch.ren {es : List Ed} (p : List Nat) {u v : Nat} (a : Rch es u v) : Rch (renE p es) (ap p u) (ap p v) :=
  a.map (ap p) fun e m => adj_tie (List.mem_map.mpr ⟨e, m, rfl⟩)
theorem CN.ren {n : Nat} {es : List Ed} {p : List Nat} (h : CN n es) (hp : IsP p) (hl : p.length = n) : CN n (renE p es) := by
  obtain ⟨h1, h2, h3⟩ := h
  have lt : ∀ x, x < n → ap p x < n := fun x hx => by rw [← hl]; exact ap_lt hp (by omega)
  refine ⟨h1, fun e m => ?_, fun v hv => ?_⟩
  · obtain ⟨d, hd, rfl⟩ := List.mem_map.mp m
    have := h2 d hd
    exact tie_ok (lt _ (by omega)) (lt _ (by omega))
  · obtain ⟨x, hx, ex⟩ := ap_surj hp (y := v) (by omega)
    obtain ⟨z, hz, ez⟩ := ap_surj hp (y := 0) (by omega)
    have q := ((h3 z (by omega)).symm.trans (h3 x (by omega))).ren p
    rw [ex, ez] at q
    exact q
/-! ### rings and the other cores -/
def ringE (sp : List Nat) : List Ed := (List.range sp.length).map fun n => tieF (sp.getD ((n + sp.length - 1) % sp.length) 0) (sp.getD n 0)
def coreMenu : List (List Ed) :=
  (List.range 5).map (fun d => ringE (List.range (1 + d))) ++
  (List.range 3).flatMap (fun d => (List.range 3).map fun e => ringE (List.range (1 + d)) ++ ringE (0 :: (List.range e).map (fun i => 1 + d + i))) ++
  [[(0, 1), (0, 2), (0, 3), (1, 2), (1, 3)], [(0, 2), (1, 2), (0, 3), (1, 3), (0, 4), (1, 4)]] ++
  (List.range 3).map (fun d => List.replicate (2 + d) ((0, 1) : Ed)) ++
  (List.range 2).map (fun d => ringE (List.range (3 + d)) ++ [(0, 2)])
/-! ### least labels -/
def ljStep (least : List Nat) (e : Ed) : List Nat :=
  let lo := min (least.getD e.1 0) (least.getD e.2 0)
  let hi := max (least.getD e.1 0) (least.getD e.2 0)
  least.map fun x => if x = hi then lo else x
def lj (n : Nat) (es : List Ed) : List Nat := es.foldl ljStep (List.range n)
end Hw

namespace Hw
structure Lb (n : Nat) (es : List Ed) (L : List Nat) : Prop where
  len : L.length = n
  le : ∀ u, u < n → ap L u ≤ u
  to : ∀ u, u < n → Rch es u (ap L u)
  eq : ∀ u v, Rch es u v → u < n → v < n ∧ ap L u = ap L v
theorem ap_map' {l : List Nat} (f : Nat → Nat) {x : Nat} (h : x < l.length) : ap (l.map f) x = f (ap l x) := by
  have := ap_get h
  unfold ap at *
  rw [List.getD_eq_getElem?_getD, List.getElem?_map, this]
  rfl
theorem Rch.nil {u v : Nat} (h : Rch [] u v) : u = v := by
  induction h with
  | refl => rfl
  | step _ a _ => rcases a with m | m <;> cases m
theorem lb_zero (n : Nat) : Lb n [] (List.range n) :=
  ⟨List.length_range, fun u hu => by rw [ap_range hu]; exact Nat.le_refl _, fun u hu => by rw [ap_range hu]; exact .refl _, fun u v h hu => by
    have := h.nil
    subst this
    exact ⟨hu, rfl⟩⟩
theorem lb_step {n : Nat} {es : List Ed} {L : List Nat} (h : Lb n es L) {e : Ed} (ha : e.1 < n) (hb : e.2 < n) : Lb n (es ++ [e]) (ljStep L e) := by
  have up : ∀ {u x}, Rch es u x → Rch (es ++ [e]) u x := fun a => a.mono fun e m => List.mem_append_left _ m
  have eab : adj (es ++ [e]) e.1 e.2 := .inl (List.mem_append_right _ (by simp))
  have e1 : ∀ u, u < n → ap (ljStep L e) u = if ap L u = max (ap L e.1) (ap L e.2) then min (ap L e.1) (ap L e.2) else ap L u := fun u hu => by
    unfold ljStep
    rw [ap_map' _ (by rw [h.len]; exact hu)]
    rfl
  have ab : Rch (es ++ [e]) (max (ap L e.1) (ap L e.2)) (min (ap L e.1) (ap L e.2)) := by
    have q : Rch (es ++ [e]) (ap L e.1) (ap L e.2) := ((up (h.to _ ha)).symm.step eab).trans (up (h.to _ hb))
    rcases Nat.le_total (ap L e.1) (ap L e.2) with z | z
    · rw [Nat.max_eq_right z, Nat.min_eq_left z]; exact q.symm
    · rw [Nat.max_eq_left z, Nat.min_eq_right z]; exact q
  refine ⟨by unfold ljStep; rw [List.length_map]; exact h.len, fun u hu => ?_, fun u hu => ?_, fun u v r hu => ?_⟩
  · rw [e1 u hu]
    have := h.le u hu
    split
    · rename_i z
      have : min (ap L e.1) (ap L e.2) ≤ max (ap L e.1) (ap L e.2) := by omega
      omega
    · exact this
  · rw [e1 u hu]
    split
    · rename_i z
      have q := up (h.to u hu)
      rw [z] at q
      exact q.trans ab
    · exact up (h.to u hu)
  · induction r with
    | refl => exact ⟨hu, rfl⟩
    | @step v x _ a ih =>
      obtain ⟨hv, ev⟩ := ih
      have main : x < n ∧ ap (ljStep L e) v = ap (ljStep L e) x := by
        have old : adj es v x → x < n ∧ ap (ljStep L e) v = ap (ljStep L e) x := fun q => by
          obtain ⟨hx, ex⟩ := h.eq v x (Rch.one q) hv
          exact ⟨hx, by rw [e1 v hv, e1 x hx, ex]⟩
        have both : ap (ljStep L e) e.1 = ap (ljStep L e) e.2 := by
          rw [e1 _ ha, e1 _ hb]
          rcases Nat.le_total (ap L e.1) (ap L e.2) with z | z
          · rw [Nat.max_eq_right z, Nat.min_eq_left z, if_pos rfl]
            split <;> rfl
          · rw [Nat.max_eq_left z, Nat.min_eq_right z, if_pos rfl]
            split <;> rfl
        rcases a with m | m
        · rcases List.mem_append.mp m with m | m
          · exact old (.inl m)
          · have : (v, x) = e := List.mem_singleton.mp m
            subst this
            exact ⟨hb, both⟩
        · rcases List.mem_append.mp m with m | m
          · exact old (.inr m)
          · have : (x, v) = e := List.mem_singleton.mp m
            subst this
            exact ⟨ha, both.symm⟩
      exact ⟨main.1, ev.trans main.2⟩
theorem lb_fold {n : Nat} : ∀ (fs es : List Ed) (L : List Nat), Lb n es L → (∀ e ∈ fs, e.1 < n ∧ e.2 < n) → Lb n (es ++ fs) (fs.foldl ljStep L)
  | [], es, L, h, _ => by rw [List.append_nil]; exact h
  | e :: fs, es, L, h, hf => by
    have b := hf e List.mem_cons_self
    have := lb_fold fs (es ++ [e]) (ljStep L e) (lb_step h b.1 b.2) fun d m => hf d (List.mem_cons_of_mem _ m)
    rw [List.append_assoc] at this
    exact this
theorem lb_lj {n : Nat} {es : List Ed} (h : VE n es) : Lb n es (lj n es) := by
  have := lb_fold es [] (List.range n) (lb_zero n) fun e m => ⟨Nat.lt_of_le_of_lt (h e m).1 (h e m).2, (h e m).2⟩
  exact this
theorem lj_same {n : Nat} {es : List Ed} (h : VE n es) {u v : Nat} (hu : u < n) (hv : v < n) : ap (lj n es) u = ap (lj n es) v ↔ Rch es u v := by
  have b := lb_lj h
  constructor
  · intro e
    have q := b.to u hu
    rw [e] at q
    exact q.trans (b.to v hv).symm
  · intro r
    exact (b.eq u v r hu).2
theorem conn_iff {n : Nat} {es : List Ed} (h : VE n es) (hn : 1 ≤ n) : conn n es ↔ lj n es = List.replicate n 0 := by
  have b := lb_lj h
  have z : ap (lj n es) 0 = 0 := by
    have := b.le 0 hn
    omega
  constructor
  · intro c
    refine ext_ap (by rw [b.len, List.length_replicate]) fun x hx => ?_
    rw [b.len] at hx
    have e := (b.eq 0 x (c x hx) hn).2
    rw [z] at e
    rw [← e]
    unfold ap
    rw [List.getD_eq_getElem?_getD, List.getElem?_replicate, if_pos hx]
    rfl
  · intro e v hv
    refine (lj_same h hn hv).mp ?_
    rw [e]
    unfold ap
    rw [List.getD_eq_getElem?_getD, List.getD_eq_getElem?_getD, List.getElem?_replicate, List.getElem?_replicate, if_pos hv, if_pos (by omega)]
def cnB (n : Nat) (es : List Ed) : Bool := decide (1 ≤ n) && es.all (fun e => decide (e.1 ≤ e.2) && decide (e.2 < n)) && decide (lj n es = List.replicate n 0)
theorem cn_of {n : Nat} {es : List Ed} (h : cnB n es = true) : CN n es := by
  unfold cnB at h
  simp only [Bool.and_eq_true, decide_eq_true_eq, List.all_eq_true] at h
  have ve : VE n es := fun e m => h.1.2 e m
  exact ⟨h.1.1, ve, (conn_iff ve h.1.1).mpr h.2⟩
theorem menu_all : coreMenu.all (fun c => cnB (topOf c) c && decide (topOf c ≤ 5) && decide (c.length ≤ 8)) = true := by decide +kernel
theorem menu_ok {c : List Ed} (h : c ∈ coreMenu) : CN (topOf c) c ∧ topOf c ≤ 5 ∧ c.length ≤ 8 := by
  have := List.all_eq_true.mp menu_all c h
  simp only [Bool.and_eq_true, decide_eq_true_eq] at this
  exact ⟨cn_of this.1.1, this.1.2, this.2⟩
end Hw

namespace Hw
open PySem PySem.Spec PyProof.Rows L2
def pl (e : Ed) : List Nat := [e.1, e.2]
/-- a list, a tuple of pairs -/
def EdL (H : Hp) (l : Addr) (es : List Ed) : Prop := ∃ ks : List (Addr × List Nat), H l = some (.lst (ks.map fun k => .ref k.1)) ∧ ks.map (·.2) = es.map pl ∧ ∀ k ∈ ks, Tp H k.1 k.2
def EdT (H : Hp) (l : Addr) (es : List Ed) : Prop := ∃ ks : List (Addr × List Nat), H l = some (.tup (ks.map fun k => .ref k.1)) ∧ ks.map (·.2) = es.map pl ∧ ∀ k ∈ ks, Tp H k.1 k.2
theorem EdL.same {H H' : Hp} {l : Addr} {es : List Ed} (h : EdL H l es) (s : Same H H') : EdL H' l es := by
  obtain ⟨ks, a, b, c⟩ := h
  exact ⟨ks, s _ _ a, b, fun k hk => s _ _ (c k hk)⟩
theorem EdT.same {H H' : Hp} {l : Addr} {es : List Ed} (h : EdT H l es) (s : Same H H') : EdT H' l es := by
  obtain ⟨ks, a, b, c⟩ := h
  exact ⟨ks, s _ _ a, b, fun k hk => s _ _ (c k hk)⟩
theorem EdL.kp {H H' : Hp} {l m lg lc : Addr} {s : Nat} {es : List Ed} (h : EdL H l es) (k : Kp m lg H H') (M : MOk H m lg lc s) (n : l ≠ lg) : EdL H' l es := by
  obtain ⟨ks, a, b, c⟩ := h
  exact ⟨ks, k.lst M n a, b, fun x hx => k.tup M (c x hx)⟩
theorem EdL.ne {H : Hp} {l m lg lc : Addr} {s : Nat} {es : List Ed} (h : EdL H l es) (M : MOk H m lg lc s) : l ≠ m := by
  obtain ⟨ks, a, _⟩ := h
  obtain ⟨cs, gs, h1, _⟩ := M
  exact ne_of a h1 (by intro q; cases q)
theorem ed_len {ks : List (Addr × List Nat)} {es : List Ed} (h : ks.map (·.2) = es.map pl) : ks.length = es.length := by
  have := congrArg List.length h
  rw [List.length_map, List.length_map] at this
  exact this
theorem ed_get {ks : List (Addr × List Nat)} {es : List Ed} (h : ks.map (·.2) = es.map pl) {i : Nat} {k : Addr × List Nat} (hk : ks[i]? = some k) : ∃ e, es[i]? = some e ∧ k.2 = pl e := by
  have := congrArg (fun l => l[i]?) h
  simp only [List.getElem?_map, hk, Option.map_some] at this
  cases e : es[i]? with
  | none => rw [e] at this; cases this
  | some d => rw [e] at this; exact ⟨d, rfl, Option.some.inj this⟩
theorem ed_at {ks : List (Addr × List Nat)} {es : List Ed} (h : ks.map (·.2) = es.map pl) {i : Nat} {e : Ed} (he : es[i]? = some e) : ∃ k, ks[i]? = some k ∧ k.2 = pl e := by
  have hi := (List.getElem?_eq_some_iff.mp he).1
  have hk0 : i < ks.length := by rw [ed_len h]; exact hi
  have hk : ks[i]? = some ks[i] := List.getElem?_eq_getElem hk0
  obtain ⟨d, hd, ed⟩ := ed_get h hk
  rw [he] at hd
  exact ⟨_, hk, by rw [ed, Option.some.inj hd]⟩
section
variable {P : Program} {w : World} {K : PySem.W.Frag} {mg : Str → Option Value} {base : Heap}
def spTie : Sp := fun vs H Q _ => ∃ a b : Nat, vs = [.int (a : Int), .int (b : Int)] ∧ ∀ H' r, Same H H' → H r = none → Tp H' r (pl (tieF a b)) → Q (.ref r) H'
theorem scTie : FnScope ["_law_one", "_law_far"] ["_law_one", "_law_far"] (defScope sTie) := ⟨rfl, rfl, rfl, by decide +kernel, rfl, by decide +kernel, by decide +kernel⟩
theorem cal_tie (T : Txt mg) (D : Df K mg "_law_tie" sTie ["_law_one", "_law_far"]) : Cal P w K mg base "_law_tie" 1 spTie := by
  have nd := scTie.nd
  refine cal_of D scTie (fun vs H Q E h => ?_) (fun f cdv A outer s0 H vs Q E hr h => ?_)
  · obtain ⟨a, b, rfl, _⟩ := h
    rfl
  · obtain ⟨a, b, rfl, q⟩ := h
    refine ⟨_, pss_one (ps_ret (pe_tup (pa_cons (pe_callB (call_min2 rfl) (by rfl) T.min (by decide +kernel) (pa_cons (pv 0) (pa_cons (pv 1) pa_nil))) (pa_cons (pe_callB (call_max2 rfl) (by rfl) T.max (by decide +kernel) (pa_cons (pv 0) (pa_cons (pv 1) pa_nil))) pa_nil)))), ?_⟩
    refine ⟨_, rfl, _, rfl, _, _, rfl, _, rfl, _, rfl, _, _, rfl, (by show 2 ≤ sizeLine; decide), fun r nr => ?_⟩
    refine q _ r (same_upd nr) nr ?_
    show upd H r _ r = _
    rw [upd_same]
    have e1 : (if (b : Int) < (a : Int) then (b : Int) else (a : Int)) = ((min a b : Nat) : Int) := by
      split <;> omega
    have e2 : (if (b : Int) > (a : Int) then (b : Int) else (a : Int)) = ((max a b : Nat) : Int) := by
      split <;> omega
    have e3 : (if (a : Int) < (b : Int) then (b : Int) else (a : Int)) = ((max a b : Nat) : Int) := by
      split <;> omega
    simp only [e1, e2, e3]
    rfl
/-- one more pair in a list that grows -/
theorem edl_snoc {H : Hp} {D r : Addr} {es : List Ed} {e : Ed} {ks : List (Addr × List Nat)} (h2 : ks.map (·.2) = es.map pl) (h3 : ∀ k ∈ ks, Tp H k.1 k.2) (hr : Tp H r (pl e)) (hD : H D = some (.lst (ks.map fun k => .ref k.1))) :
    EdL (upd H D (.lst ((ks.map fun k => V.ref k.1) ++ [V.ref r]))) D (es ++ [e]) := by
  refine ⟨ks ++ [(r, pl e)], ?_, ?_, fun k hk => ?_⟩
  · rw [upd_same, List.map_append]
    rfl
  · rw [List.map_append, List.map_append, h2]
    rfl
  · rcases List.mem_append.mp hk with hk | hk
    · exact tp_upd (h3 k hk) hD
    · rw [List.mem_singleton.mp hk]
      exact tp_upd hr hD
/-! ### ring -/
def spRing (K : PySem.W.Frag) : Sp := fun vs H Q _ => ∃ (a : Addr) (sp : List Nat), vs = [.ref a] ∧ H a = some (.lst (NV sp)) ∧ sp.length ≤ 100 ∧ ∀ H' r, Same H H' → H r = none → EdL H' r (ringE sp) → Q (.ref r) H'
theorem scRing : FnScope ["_law_spots", "_law_n"] ["_law_spots"] (defScope sRing) := ⟨rfl, rfl, rfl, by decide +kernel, rfl, by decide +kernel, by decide +kernel⟩
theorem ringE_take (sp : List Nat) (i : Nat) (hi : i < sp.length) : (ringE sp).take (i + 1) = (ringE sp).take i ++ [tieF (sp.getD ((i + sp.length - 1) % sp.length) 0) (sp.getD i 0)] := by
  rw [List.take_add_one]
  unfold ringE
  rw [List.getElem?_map, List.getElem?_range hi]
  rfl
theorem cal_ring (T : Txt mg) (GT : Cal P w K mg base "_law_tie" 1 spTie) (D : Df K mg "_law_ring" sRing ["_law_spots"]) : Cal P w K mg base "_law_ring" 2 (spRing K) := by
  have nd := scRing.nd
  refine cal_of D scRing (fun vs H Q E h => ?_) (fun f cdv A outer s0 H vs Q E hr h => ?_)
  · obtain ⟨a, sp, rfl, _⟩ := h
    rfl
  · obtain ⟨a, sp, rfl, ha, hl, q⟩ := h
    refine ⟨_, pss_one (ps_ret (pe_lc (own := [("_law_n", 1)]) (g := gName 1) (by rfl) nd (pi_range1 (by rfl) T.range (pa_cons (pe_callB cr_len (by rfl) T.len PySem.boot_len (pa_cons (pv 0) pa_nil)) pa_nil))
        (blkOk_by (own := [("_law_n", 1)]) (N := ["_law_spots", "_law_n"]) (sc := defScope sRing) (by decide +kernel)) (fun _ _ _ _ _ => pg_name (i := 1) nd rfl (.inl rfl)) (fun _ _ _ _ _ => pts_nil)
        (fun _ _ _ _ _ => pe_cl GT (by exact hr) (by rfl) (pa_cons (pe_ix (r := rIxL K) ix_list (pv 0) (pe_op op_sub (pv 1) pe_int) (fun _ _ => rfl)) (pa_cons (pe_ix (r := rIxL K) ix_list (pv 0) (pv 1) (fun _ _ => rfl)) pa_nil))))), ?_⟩
    refine ⟨_, rfl, a, NV sp, rfl, .inl (sl_of ha), _, rfl, by rw [NV_len]; omega, by rw [NV_len]; omega, ?_⟩
    rw [NV_len, Int.toNat_natCast]
    refine fun D nD => lc_it walk_rg0 (fun i H' => Same H H' ∧ EdL H' D ((ringE sp).take i)) ⟨same_upd nD, [], upd_same, rfl, fun k hk => nomatch hk⟩ (fun _ _ _ _ => trivial) ?_ ?_
    · rintro i x _ H2 hi ⟨sm, ks, hD, h2, h3⟩ ⟨rfl, rfl⟩
      have ha2 := sm _ _ ha
      have hlast : (i + sp.length - 1) % sp.length < sp.length := Nat.mod_lt _ (by omega)
      have g : ∀ j, j < sp.length → (NV sp)[j]? = some (.int ((sp.getD j 0 : Nat) : Int)) := fun j hj => NV_get (by
        rw [List.getD_eq_getElem?_getD, List.getElem?_eq_getElem hj]
        rfl)
      have at1 : atI (NV sp) ((i : Int) - 1) = some (.int ((sp.getD ((i + sp.length - 1) % sp.length) 0 : Nat) : Int)) := by
        unfold atI ixN
        rw [NV_len]
        by_cases z : i = 0
        · subst z
          have e : (0 + sp.length - 1) % sp.length = sp.length - 1 := by
            rw [Nat.zero_add]
            exact Nat.mod_eq_of_lt (by omega)
          rw [e, if_neg (by omega), if_pos (by omega)]
          show (NV sp)[(((0 : Nat) : Int) - 1 + (sp.length : Int)).toNat]? = _
          rw [show ((((0 : Nat) : Int) - 1 + (sp.length : Int)).toNat) = sp.length - 1 by omega]
          exact g _ (by omega)
        · have e : (i + sp.length - 1) % sp.length = i - 1 := by
            rw [show i + sp.length - 1 = (i - 1) + sp.length by omega, Nat.add_mod_right]
            exact Nat.mod_eq_of_lt (by omega)
          rw [e, if_pos (by omega), if_pos (by omega)]
          show (NV sp)[((i : Int) - 1).toNat]? = _
          rw [show ((i : Int) - 1).toNat = i - 1 by omega]
          exact g _ (by omega)
      refine ⟨rfl, ?_⟩
      refine ⟨_, rfl, _, rfl, _, _, rfl, rfl, a, _, _, _, rfl, rfl, sl_of ha2, at1, _, rfl, _, rfl, a, _, _, _, rfl, rfl, sl_of ha2, atI_nat (g i hi), ?_⟩
      refine ⟨_, _, rfl, fun H3 r s3 nr hr3 => ?_⟩
      refine ⟨_, s3 _ _ hD, ?_, fun b o e => ?_, ?_⟩
      · rw [nv_len, ed_len h2, List.length_take]
        unfold ringE
        rw [List.length_map, List.length_range]
        exact Nat.lt_of_le_of_lt (Nat.min_le_left _ _) (small1000 (by omega))
      · rw [upd_ne (ne_of_none e nD)]
        exact s3 _ _ (sm _ _ e)
      · rw [ringE_take sp i hi]
        exact edl_snoc h2 (fun k hk => s3 _ _ (h3 k hk)) hr3 (s3 _ _ hD)
    · rintro H2 ⟨sm, hD⟩
      have e : (ringE sp).take sp.length = ringE sp := List.take_of_length_le (by unfold ringE; simp)
      rw [e] at hD
      exact q _ D sm nD hD
end
end Hw

namespace Hw
open PySem PySem.Spec PyProof.Rows L2
theorem walk_rgN {lo n : Nat} : Walk (Itr (lo : Int) n) n (fun _ => True) (fun i H x H' => H' = H ∧ x = .int ((lo + i : Nat) : Int)) :=
  (walk_range (lo := (lo : Int)) (n := n)).mono (fun _ z => z) fun i H x H' _ _ y => ⟨y.1, by rw [y.2]; congr 1⟩
theorem tie_lt {a b : Nat} (h : a < b) : tieF a b = (a, b) := by
  unfold tieF
  rw [Nat.min_eq_left (by omega), Nat.max_eq_right (by omega)]
section
variable {P : Program} {w : World} {K : PySem.W.Frag} {mg : Str → Option Value} {base : Heap}
def tailE (f : Nat → Nat) (low k : Nat) : List Ed := (List.range k).map fun i => (f i, low + i)
theorem tailE_succ (f : Nat → Nat) (low k : Nat) : tailE f low (k + 1) = tailE f low k ++ [(f k, low + k)] := by
  unfold tailE
  rw [List.range_succ, List.map_append]
  rfl
def spTree : Sp := fun vs H Q _ => ∃ (m lg lc : Addr) (s many low : Nat), vs = [.ref m, .int (many : Int), .int (low : Int)] ∧ MOk H m lg lc s ∧ 1 ≤ low ∧ low ≤ 100 ∧ many ≤ 100 ∧ s ≤ 90000 ∧
  ∀ H' r f s', Kp m lg H H' → H r = none → (∀ i, i < many - low → f i < low + i) → EdL H' r (tailE f low (many - low)) → s' ≤ s + many → MOk H' m lg lc s' → Q (.ref r) H'
theorem scTree : FnScope ["_law_m", "_law_many", "_law_low", "_law_spot"] ["_law_m", "_law_many", "_law_low"] (defScope sTree) := ⟨rfl, rfl, rfl, by decide +kernel, rfl, by decide +kernel, by decide +kernel⟩
theorem cal_tree (T : Txt mg) (GT : Cal P w K mg base "_law_tie" 1 spTie) (GD : Cal P w K mg base "_law_draw" 2 spDraw) (D : Df K mg "_law_tree" sTree ["_law_m", "_law_many", "_law_low"]) : Cal P w K mg base "_law_tree" 3 spTree := by
  have nd := scTree.nd
  refine cal_of D scTree (fun vs H Q E h => ?_) (fun f cdv A outer s0 H vs Q E hr h => ?_)
  · obtain ⟨m, lg, lc, s, many, low, rfl, _⟩ := h
    rfl
  · obtain ⟨m, lg, lc, s, many, low, rfl, M0, hl1, hl2, hm, hs, q⟩ := h
    have hr1 := hr.mono (show 1 ≤ 2 by decide)
    refine ⟨_, pss_one (ps_ret (pe_lc (own := [("_law_spot", 3)]) (g := gName 3) (by rfl) nd (pi_range2 (by rfl) T.range (pa_cons (pe_callB (call_max2 rfl) (by rfl) T.max (by decide +kernel) (pa_cons pe_int (pa_cons (pv 2) pa_nil))) (pa_cons (pv 1) pa_nil)))
        (blkOk_by (own := [("_law_spot", 3)]) (N := ["_law_m", "_law_many", "_law_low", "_law_spot"]) (sc := defScope sTree) (by decide +kernel)) (fun _ _ _ _ _ => pg_name (i := 3) nd rfl (.inl rfl)) (fun _ _ _ _ _ => pts_nil)
        (fun _ _ _ _ _ => pe_cl GT (by exact hr1) (by rfl) (pa_cons (pe_ifExp (pt_cmpR op_gt (pv 3) pe_int (nomark _)) (pe_cl GD (by exact hr) (by rfl) (pa_cons (pv 0) (pa_cons (pv 3) pa_nil))) pe_int) (pa_cons (pv 3) pa_nil))))), ?_⟩
    have e0 : (if (low : Int) > 1 then (low : Int) else 1) = (low : Int) := by split <;> omega
    refine ⟨_, rfl, _, _, rfl, ?_⟩
    dsimp only
    rw [e0]
    refine ⟨_, rfl, _, _, rfl, by omega, ?_⟩
    rw [show ((many : Int) - (low : Int)).toNat = many - low by omega]
    refine fun D nD => lc_it walk_rgN (fun i H' => ∃ f s', Kp m lg H H' ∧ MOk H' m lg lc s' ∧ s' ≤ s + i ∧ (∀ j, j < i → f j < low + j) ∧ EdL H' D (tailE f low i)) ⟨fun _ => 0, s, Kp.same (same_upd nD), M0.same (same_upd nD), by omega, fun j hj => absurd hj (Nat.not_lt_zero _), [], upd_same, rfl, fun k hk => nomatch hk⟩ (fun _ _ _ _ => trivial) ?_ ?_
    · rintro i x _ H2 hi ⟨f1, s1, kp, M, hs1, hf, ks, hD, h2, h3⟩ ⟨rfl, rfl⟩
      have aD := M0.new nD
      refine ⟨rfl, ?_⟩
      refine ⟨_, rfl, _, _, rfl, rfl, _, rfl, ?_⟩
      rw [show decide ((0 : Int) < ((low + i : Nat) : Int)) = true from decide_eq_true (by omega)]
      refine iteT ⟨_, rfl, _, rfl, m, lg, lc, s1, low + i, rfl, M, by omega, by omega, by omega, fun H3 d hd kp3 M3 => ?_⟩
      have hD3 := kp3.lst M aD.1 hD
      refine ⟨_, rfl, d, low + i, rfl, fun H4 r s4 nr hr4 => ?_⟩
      rw [tie_lt hd] at hr4
      have kp4 := (kp.trans kp3).trans (Kp.same s4)
      have h3' : ∀ k ∈ ks, Tp H4 k.1 k.2 := fun k hk => s4 _ _ (kp3.tup M (h3 k hk))
      have et : tailE (fun j => if j = i then d else f1 j) low i = tailE f1 low i := by
        unfold tailE
        refine List.map_congr_left fun j hj => ?_
        have := List.mem_range.mp hj
        show ((if j = i then d else f1 j), low + j) = _
        rw [if_neg (by omega)]
      refine ⟨_, s4 _ _ hD3, ?_, fun j => if j = i then d else f1 j, s1 + 1, fun b o n1 n2 e => ?_, (M3.same s4).upd aD, by omega, fun j hj => ?_, ?_⟩
      · rw [nv_len, ed_len h2]
        unfold tailE
        rw [List.length_map, List.length_range]
        exact small1000 (by omega)
      · rw [upd_ne (ne_of_none e nD)]
        exact kp4 b o n1 n2 e
      · show (if j = i then d else f1 j) < low + j
        by_cases z : j = i
        · rw [if_pos z, z]; exact hd
        · rw [if_neg z]; exact hf j (by omega)
      · rw [tailE_succ, et]
        show EdL _ D (tailE f1 low i ++ [((if i = i then d else f1 i), low + i)])
        rw [if_pos rfl]
        exact edl_snoc h2 h3' hr4 (s4 _ _ hD3)
    · rintro H2 ⟨f1, s1, kp, M, hs1, hf, hD⟩
      exact q H2 D f1 s1 kp nD hf hD (by omega) M
/-! ### top -/
def spTop : Sp := fun vs H Q _ => ∃ (a : Addr) (es : List Ed), vs = [.ref a] ∧ EdL H a es ∧ es.length ≤ 1000 ∧ ∀ H', Same H H' → Q (.int ((topOf es : Nat) : Int)) H'
theorem scTop : FnScope ["_law_ties_here", "_law_one", "_law_far"] ["_law_ties_here"] (defScope sTop) := ⟨rfl, rfl, rfl, by decide +kernel, rfl, by decide +kernel, by decide +kernel⟩
theorem cal_top (T : Txt mg) (D : Df K mg "_law_top" sTop ["_law_ties_here"]) : Cal P w K mg base "_law_top" 1 spTop := by
  have nd := scTop.nd
  refine cal_of D scTop (fun vs H Q E h => ?_) (fun f cdv A outer s0 H vs Q E hr h => ?_)
  · obtain ⟨a, es, rfl, _⟩ := h
    rfl
  · obtain ⟨a, es, rfl, ⟨ks, hk1, hk2, hk3⟩, hl, q⟩ := h
    have kl := ed_len hk2
    refine ⟨_, pss_one (ps_ret (pe_op op_add (pe_callB (cr_max rfl) (by rfl) T.max (by decide +kernel) (pa_cons (pe_op op_cat (pe_lst (pa_cons pe_int pa_nil))
        (pe_lc (own := [("_law_one", 1), ("_law_far", 2)]) (g := gTup K 2 (gCons (gName 1) (gCons (gName 2) gNil))) (by rfl) nd (pi_list (pv 0))
        (blkOk_by (own := [("_law_one", 1), ("_law_far", 2)]) (N := ["_law_ties_here", "_law_one", "_law_far"]) (sc := defScope sTop) (by decide +kernel)) (fun _ _ _ _ _ => pg_tup rfl (pgs_cons (pg_name (i := 1) nd rfl (.inl rfl)) (pgs_cons (pg_name (i := 2) nd rfl (.inl rfl)) pgs_nil))) (fun _ _ _ _ _ => pts_nil)
        (fun _ _ _ _ _ => pv 2))) pa_nil)) pe_int)), ?_⟩
    refine ⟨by show 1 ≤ sizeLine; decide, fun l0 n0 => ?_⟩
    have s1 := same_upd (o := .lst [V.int 0]) n0
    have hl0 : upd H l0 (.lst [V.int 0]) l0 = some (.lst [V.int 0]) := upd_same
    generalize upd H l0 (.lst [V.int 0]) = H1 at *
    refine ⟨_, rfl, a, rfl, ⟨_, sl_of (s1 _ _ hk1)⟩, fun D nD => lc_it (walk_list (xs := ks.map fun k => V.ref k.1)) (fun i H' => Same H1 H' ∧ H' D = some (.lst (NV ((es.take i).map (·.2))))) ⟨same_upd nD, upd_same⟩ (fun i H' _ ⟨sm, _⟩ => sl_of (sm _ _ (s1 _ _ hk1))) ?_ ?_⟩
    · rintro i x _ H2 hi ⟨sm, hD⟩ ⟨rfl, hx⟩
      obtain ⟨k, hk, rfl⟩ := refs_get hx
      obtain ⟨e, he, ek⟩ := ed_get hk2 hk
      have tk : Tp H2 k.1 (pl e) := by
        rw [← ek]
        exact sm _ _ (s1 _ _ (hk3 k (List.mem_of_getElem? hk)))
      refine ⟨k.1, _, rfl, sq_of tk, rfl, _, _, rfl, _, _, rfl, rfl, rfl, _, rfl, _, hD, ?_, fun b o e => ?_, ?_⟩
      · rw [NV_len, List.length_map, List.length_take]
        exact Nat.lt_of_le_of_lt (Nat.min_le_right _ _) (small1000 hl)
      · rw [upd_ne (ne_of_none e nD)]
        exact sm _ _ e
      · rw [upd_same, ← NV_snoc, List.take_add_one, he, List.map_append]
        rfl
    · rintro H2 ⟨sm, hD⟩
      rw [nv_len, kl, List.take_length] at hD
      refine ⟨l0, D, _, _, rfl, rfl, sm _ _ hl0, hD, ?_, fun l2 n2 => ?_⟩
      · rw [NV_len, List.length_map]
        exact Nat.le_of_lt (Nat.lt_of_le_of_lt (show [V.int 0].length + es.length ≤ 1001 by show 1 + es.length ≤ 1001; omega) (by decide))
      have s2 := same_upd (o := .lst ([V.int 0] ++ NV (es.map (·.2)))) n2
      have e1 : [V.int 0] ++ NV (es.map (·.2)) = (NI (0 :: es.map (·.2))).map V.int := by
        rw [← NV_NI]
        rfl
      refine ⟨l2, NI (0 :: es.map (·.2)), rfl, sl_of (by rw [← e1]; exact upd_same), by rw [NI_len]; exact Nat.succ_pos _, fun mx hm1 hm2 => ?_⟩
      obtain ⟨z, hz, rfl⟩ := mem_NI hm1
      have ez : z + 1 = topOf es := by
        unfold topOf
        have ge : (es.map (·.2)).foldl max 0 ≤ z := fold_max_le _ _ _ (Nat.zero_le _) fun y hy => by
          have := hm2 ((y : Nat) : Int) (List.mem_map.mpr ⟨y, List.mem_cons_of_mem _ hy, rfl⟩)
          omega
        have le : z ≤ (es.map (·.2)).foldl max 0 := by
          rcases List.mem_cons.mp hz with e | m
          · omega
          · exact fold_max_mem _ _ _ m
        omega
      refine ⟨_, _, rfl, rfl, ?_⟩
      have e2 : (z : Int) + 1 = ((topOf es : Nat) : Int) := by omega
      show Q (V.int ((z : Int) + 1)) _
      rw [e2]
      exact q _ ((s1.trans sm).trans s2)
end
end Hw

namespace Hw
open PySem PySem.Spec PyProof.Rows L2
theorem rgV_at (low : Nat) (k : Nat) : rgV (low : Int) ((low : Int) + (k : Int)) = NV ((List.range k).map fun i => low + i) := by
  unfold rgV NV
  rw [show ((low : Int) + (k : Int) - (low : Int)).toNat = k by omega, List.map_map]
  refine List.map_congr_left fun i _ => ?_
  show V.int ((low : Int) + (i : Int)) = V.int ((low + i : Nat) : Int)
  congr 1
theorem nm_get {low hinge x k : Nat} (h : x < k + 1) : (hinge :: (List.range k).map fun i => low + i)[x]? = some (nmF low hinge x) := by
  unfold nmF
  cases x with
  | zero => rfl
  | succ y =>
    rw [List.getElem?_cons_succ, List.getElem?_map, List.getElem?_range (by omega), if_neg (by omega)]
    show some (low + y) = some (low + (y + 1) - 1)
    congr 1
section
variable {P : Program} {w : World} {K : PySem.W.Frag} {mg : Str → Option Value} {base : Heap}
def spShifted : Sp := fun vs H Q _ => ∃ (a : Addr) (c : List Ed) (low hinge : Nat), vs = [.ref a, .int (low : Int), .int (hinge : Int)] ∧ EdL H a c ∧ VE 21 c ∧ c.length ≤ 100 ∧ low ≤ 1000 ∧ ∀ H' r, Same H H' → H r = none → EdL H' r (shiftE low hinge c) → Q (.ref r) H'
abbrev nSh : List Str := ["_law_ties_here", "_law_low", "_law_hinge", "_law_names", "_law_one", "_law_far"]
theorem scShifted : FnScope nSh ["_law_ties_here", "_law_low", "_law_hinge"] (defScope sShifted) := ⟨rfl, rfl, rfl, by decide +kernel, rfl, by decide +kernel, by decide +kernel⟩
theorem cal_shifted (T : Txt mg) (GT : Cal P w K mg base "_law_tie" 1 spTie) (D : Df K mg "_law_shifted" sShifted ["_law_ties_here", "_law_low", "_law_hinge"]) : Cal P w K mg base "_law_shifted" 2 spShifted := by
  have nd := scShifted.nd
  refine cal_of D scShifted (fun vs H Q E h => ?_) (fun f cdv A outer s0 H vs Q E hr h => ?_)
  · obtain ⟨a, c, low, hinge, rfl, _⟩ := h
    rfl
  · obtain ⟨a, c, low, hinge, rfl, hc, ve, hl, hlow, q⟩ := h
    refine ⟨_, pss_cons (ps_set (i := 3) nd rfl (.inr rfl) (pe_op op_cat (pe_lst (pa_cons (pv 2) pa_nil)) (pe_listRg (by rfl) (by rfl) T.list (prg_2 (by rfl) T.range (pv 1) (pe_op op_add (pv 1) pe_int)))))
      <| pss_one (ps_ret (pe_lc (own := [("_law_one", 4), ("_law_far", 5)]) (g := gTup K 2 (gCons (gName 4) (gCons (gName 5) gNil))) (by rfl) nd (pi_list (pv 0))
        (blkOk_by (own := [("_law_one", 4), ("_law_far", 5)]) (N := nSh) (sc := defScope sShifted) (by decide +kernel)) (fun _ _ _ _ _ => pg_tup rfl (pgs_cons (pg_name (i := 4) nd rfl (.inl rfl)) (pgs_cons (pg_name (i := 5) nd rfl (.inl rfl)) pgs_nil))) (fun _ _ _ _ _ => pts_nil)
        (fun _ _ _ _ _ => pe_cl GT (by exact hr) (by rfl) (pa_cons (pe_ix (r := rIxL K) ix_list (pv 3) (pv 4) (fun _ _ => rfl)) (pa_cons (pe_ix (r := rIxL K) ix_list (pv 3) (pv 5) (fun _ _ => rfl)) pa_nil))))), ?_⟩
    refine ⟨_, rfl, by show 1 ≤ sizeLine; decide, fun l0 n0 => ?_⟩
    have s1 := same_upd (o := .lst [V.int (hinge : Int)]) n0
    have hl0 : upd H l0 (.lst [V.int (hinge : Int)]) l0 = some (.lst [V.int (hinge : Int)]) := upd_same
    generalize upd H l0 (.lst [V.int (hinge : Int)]) = H1 at *
    refine ⟨_, rfl, _, rfl, _, _, rfl, rfl, _, _, rfl, rfl, ?_, fun l1 n1 => ?_⟩
    · exact RgOk.of_le (by omega) (by omega) (by omega) (by omega)
    have er : rgV (low : Int) ((low : Int) + 20) = NV ((List.range 20).map fun i => low + i) := rgV_at low 20
    have s2 := s1.trans (same_upd (o := .lst (rgV (low : Int) ((low : Int) + 20))) n1)
    have hl0' := same_upd (o := .lst (rgV (low : Int) ((low : Int) + 20))) n1 _ _ hl0
    have hl1 : upd H1 l1 (.lst (rgV (low : Int) ((low : Int) + 20))) l1 = some (.lst (rgV (low : Int) ((low : Int) + 20))) := upd_same
    generalize upd H1 l1 (.lst (rgV (low : Int) ((low : Int) + 20))) = H2 at *
    rw [er] at hl1
    refine ⟨l0, l1, _, _, rfl, rfl, hl0', hl1, ?_, fun l2 n2 => ?_⟩
    · rw [NV_len, List.length_map, List.length_range]
      show 1 + 20 ≤ sizeLine
      decide
    have en : [V.int (hinge : Int)] ++ NV ((List.range 20).map fun i => low + i) = NV (hinge :: (List.range 20).map fun i => low + i) := rfl
    rw [en]
    have s3 := s2.trans (same_upd (o := .lst (NV (hinge :: (List.range 20).map fun i => low + i))) n2)
    have hl2 : upd H2 l2 (.lst (NV (hinge :: (List.range 20).map fun i => low + i))) l2 = some (.lst (NV (hinge :: (List.range 20).map fun i => low + i))) := upd_same
    generalize upd H2 l2 (.lst (NV (hinge :: (List.range 20).map fun i => low + i))) = H3 at *
    obtain ⟨ks, k1, k2, k3⟩ := hc.same s3
    have kl := ed_len k2
    refine ⟨_, rfl, a, rfl, ⟨_, sl_of k1⟩, fun D nD => lc_it (walk_list (xs := ks.map fun k => V.ref k.1)) (fun i H' => Same H3 H' ∧ EdL H' D ((shiftE low hinge c).take i)) ⟨same_upd nD, [], upd_same, rfl, fun k hk => nomatch hk⟩ (fun i H' _ ⟨sm, _⟩ => sl_of (sm _ _ k1)) ?_ ?_⟩
    · rintro i x _ H4 hi ⟨sm, kd, hD, h2, h3⟩ ⟨rfl, hx⟩
      obtain ⟨k, hk, rfl⟩ := refs_get hx
      obtain ⟨e, he, ek⟩ := ed_get k2 hk
      have tk : Tp H4 k.1 (pl e) := by
        rw [← ek]
        exact sm _ _ (k3 k (List.mem_of_getElem? hk))
      have eb := ve e (List.mem_of_getElem? he)
      have hn2 := sm _ _ hl2
      refine ⟨k.1, _, rfl, sq_of tk, rfl, _, _, rfl, _, _, rfl, rfl, rfl, ?_⟩
      refine ⟨_, rfl, _, rfl, l2, _, _, _, rfl, rfl, sl_of hn2, atI_nat (NV_get (nm_get (k := 20) (by omega))), _, rfl, _, rfl, l2, _, _, _, rfl, rfl, sl_of hn2, atI_nat (NV_get (nm_get (k := 20) (by omega))), ?_⟩
      refine ⟨_, _, rfl, fun H5 r s5 nr hr5 => ?_⟩
      have e2 : (shiftE low hinge c).take (i + 1) = (shiftE low hinge c).take i ++ [tieF (nmF low hinge e.1) (nmF low hinge e.2)] := by
        unfold shiftE
        rw [List.take_add_one, List.getElem?_map, he]
        rfl
      refine ⟨_, s5 _ _ hD, ?_, fun b o eb2 => ?_, ?_⟩
      · rw [nv_len, ed_len h2, List.length_take]
        unfold shiftE
        rw [List.length_map]
        exact Nat.lt_of_le_of_lt (Nat.min_le_right _ _) (small1000 (by omega))
      · rw [upd_ne (ne_of_none eb2 nD)]
        exact s5 _ _ (sm _ _ eb2)
      · rw [e2]
        exact edl_snoc h2 (fun k hk => s5 _ _ (h3 k hk)) hr5 (s5 _ _ hD)
    · rintro H4 ⟨sm, hD⟩
      rw [nv_len, kl] at hD
      have e : (shiftE low hinge c).take c.length = shiftE low hinge c := List.take_of_length_le (by unfold shiftE; rw [List.length_map]; exact Nat.le_refl _)
      rw [e] at hD
      exact q _ D (s3.trans sm) (s3.free nD) hD
/-! ### core -/
def spCore : Sp := fun vs H Q _ => ∃ (m lg lc : Addr) (s : Nat), vs = [.ref m] ∧ MOk H m lg lc s ∧ s ≤ 90000 ∧ ∀ H' r c s', c ∈ coreMenu → Kp m lg H H' → H r = none → EdL H' r c → s' ≤ s + 3 → MOk H' m lg lc s' → Q (.ref r) H'
theorem scCore : FnScope ["_law_m", "_law_way", "_law_many"] ["_law_m"] (defScope sCore) := ⟨rfl, rfl, rfl, by decide +kernel, rfl, by decide +kernel, by decide +kernel⟩
theorem menu_0 {d : Nat} (h : d < 5) : ringE (List.range (1 + d)) ∈ coreMenu := by
  have : ∀ d, d < 5 → ringE (List.range (1 + d)) ∈ coreMenu := by decide +kernel
  exact this d h
theorem menu_1 {d e : Nat} (h : d < 3) (h2 : e < 3) : ringE (List.range (1 + d)) ++ ringE (0 :: (List.range e).map (fun i => 1 + d + i)) ∈ coreMenu := by
  have : ∀ d, d < 3 → ∀ e, e < 3 → ringE (List.range (1 + d)) ++ ringE (0 :: (List.range e).map (fun i => 1 + d + i)) ∈ coreMenu := by decide +kernel
  exact this d h e h2
theorem menu_2 : ([(0, 1), (0, 2), (0, 3), (1, 2), (1, 3)] : List Ed) ∈ coreMenu := by decide +kernel
theorem menu_3 : ([(0, 2), (1, 2), (0, 3), (1, 3), (0, 4), (1, 4)] : List Ed) ∈ coreMenu := by decide +kernel
theorem menu_4 {d : Nat} (h : d < 3) : List.replicate (2 + d) ((0, 1) : Ed) ∈ coreMenu := by
  have : ∀ d, d < 3 → List.replicate (2 + d) ((0, 1) : Ed) ∈ coreMenu := by decide +kernel
  exact this d h
theorem menu_5 {d : Nat} (h : d < 2) : ringE (List.range (3 + d)) ++ [(0, 2)] ∈ coreMenu := by
  have : ∀ d, d < 2 → ringE (List.range (3 + d)) ++ [(0, 2)] ∈ coreMenu := by decide +kernel
  exact this d h
theorem edl_app {H : Hp} {l : Addr} {es fs : List Ed} {ks js : List (Addr × List Nat)} (a2 : ks.map (·.2) = es.map pl) (a3 : ∀ k ∈ ks, Tp H k.1 k.2) (b2 : js.map (·.2) = fs.map pl) (b3 : ∀ k ∈ js, Tp H k.1 k.2) (nl : H l = none) :
    EdL (upd H l (.lst ((ks.map fun k => V.ref k.1) ++ (js.map fun k => V.ref k.1)))) l (es ++ fs) := by
  refine ⟨ks ++ js, ?_, ?_, fun k hk => ?_⟩
  · rw [upd_same, List.map_append]
  · rw [List.map_append, List.map_append, a2, b2]
  · rcases List.mem_append.mp hk with hk | hk
    · exact tp_new (a3 k hk) nl
    · exact tp_new (b3 k hk) nl
theorem cal_core (T : Txt mg) (GD : Cal P w K mg base "_law_draw" 2 spDraw) (GR : Cal P w K mg base "_law_ring" 2 (spRing K)) (D : Df K mg "_law_core" sCore ["_law_m"]) : Cal P w K mg base "_law_core" 3 spCore := by
  have nd := scCore.nd
  refine cal_of D scCore (fun vs H Q E h => ?_) (fun f cdv A outer s0 H vs Q E hr h => ?_)
  · obtain ⟨m, lg, lc, s, rfl, _⟩ := h
    rfl
  · obtain ⟨m, lg, lc, s, rfl, M0, hs, q⟩ := h
    refine ⟨_, pss_cons (ps_set (i := 1) nd rfl (.inl rfl) (pe_cl GD hr (by rfl) (pa_cons (pv 0) (pa_cons pe_int pa_nil))))
      <| pss_cons (ps_if (pt_cmpR op_eq (pv 1) pe_int (nomark _)) (pss_one (ps_ret (pe_cl GR hr (by rfl) (pa_cons (pe_listRg (by rfl) (by rfl) T.list (prg_1 (by rfl) T.range (pe_op op_add pe_int (pe_cl GD hr (by rfl) (pa_cons (pv 0) (pa_cons pe_int pa_nil)))))) pa_nil)))) pss_nil)
      <| pss_cons (ps_if (pt_cmpR op_eq (pv 1) pe_int (nomark _)) (pss_cons (ps_set (i := 2) nd rfl (.inl rfl) (pe_op op_add pe_int (pe_cl GD hr (by rfl) (pa_cons (pv 0) (pa_cons pe_int pa_nil)))))
          <| pss_one (ps_ret (pe_op op_cat (pe_cl GR hr (by rfl) (pa_cons (pe_listRg (by rfl) (by rfl) T.list (prg_1 (by rfl) T.range (pv 2))) pa_nil))
              (pe_cl GR hr (by rfl) (pa_cons (pe_op op_cat (pe_lst (pa_cons pe_int pa_nil)) (pe_listRg (by rfl) (by rfl) T.list (prg_2 (by rfl) T.range (pv 2) (pe_op op_add (pv 2) (pe_cl GD hr (by rfl) (pa_cons (pv 0) (pa_cons pe_int pa_nil))))))) pa_nil))))) pss_nil)
      <| pss_cons (ps_if (pt_cmpR op_eq (pv 1) pe_int (nomark _)) (pss_one (ps_ret (pe_lst (pa_cons (pe_tup (pa_cons pe_int (pa_cons pe_int pa_nil))) (pa_cons (pe_tup (pa_cons pe_int (pa_cons pe_int pa_nil))) (pa_cons (pe_tup (pa_cons pe_int (pa_cons pe_int pa_nil)))
          (pa_cons (pe_tup (pa_cons pe_int (pa_cons pe_int pa_nil))) (pa_cons (pe_tup (pa_cons pe_int (pa_cons pe_int pa_nil))) pa_nil)))))))) pss_nil)
      <| pss_cons (ps_if (pt_cmpR op_eq (pv 1) pe_int (nomark _)) (pss_one (ps_ret (pe_lst (pa_cons (pe_tup (pa_cons pe_int (pa_cons pe_int pa_nil))) (pa_cons (pe_tup (pa_cons pe_int (pa_cons pe_int pa_nil))) (pa_cons (pe_tup (pa_cons pe_int (pa_cons pe_int pa_nil)))
          (pa_cons (pe_tup (pa_cons pe_int (pa_cons pe_int pa_nil))) (pa_cons (pe_tup (pa_cons pe_int (pa_cons pe_int pa_nil))) (pa_cons (pe_tup (pa_cons pe_int (pa_cons pe_int pa_nil))) pa_nil))))))))) pss_nil)
      <| pss_cons (ps_if (pt_cmpR op_eq (pv 1) pe_int (nomark _)) (pss_one (ps_ret (pe_op op_rep (pe_lst (pa_cons (pe_tup (pa_cons pe_int (pa_cons pe_int pa_nil))) pa_nil)) (pe_op op_add pe_int (pe_cl GD hr (by rfl) (pa_cons (pv 0) (pa_cons pe_int pa_nil))))))) pss_nil)
      <| pss_one (ps_ret (pe_op op_cat (pe_cl GR hr (by rfl) (pa_cons (pe_listRg (by rfl) (by rfl) T.list (prg_1 (by rfl) T.range (pe_op op_add pe_int (pe_cl GD hr (by rfl) (pa_cons (pv 0) (pa_cons pe_int pa_nil)))))) pa_nil)) (pe_lst (pa_cons (pe_tup (pa_cons pe_int (pa_cons pe_int pa_nil))) pa_nil)))), ?_⟩
    refine ⟨_, rfl, m, lg, lc, s, 6, rfl, M0, by omega, by omega, by omega, fun H1 w0 hw kp1 M1 => ?_⟩
    have two : 2 ≤ sizeLine := by decide
    refine ⟨_, rfl, rfl, _, rfl, ite2 (fun _ => ?_) (fun _ => ?_)⟩
    · -- a ring
      refine ⟨_, rfl, m, lg, lc, s + 1, 5, rfl, M1, by omega, by omega, by omega, fun H2 d hd kp2 M2 => ?_⟩
      refine ⟨_, _, rfl, rfl, _, rfl, RgOk.of_le (by omega) (by omega) (by omega) (by omega), fun l nl => ?_⟩
      have er : rgV 0 (1 + (d : Int)) = NV (List.range (1 + d)) := by
        rw [← NV_range]
        congr 1
      rw [er]
      have s3 := same_upd (o := .lst (NV (List.range (1 + d)))) nl
      refine ⟨l, List.range (1 + d), rfl, upd_same, by rw [List.length_range]; omega, fun H4 r s4 nr hr4 => ?_⟩
      have sm := s3.trans s4
      exact q H4 r _ (s + 2) (menu_0 hd) ((kp1.trans kp2).trans (Kp.same sm)) ((kp1.trans kp2).free M2 (s3.free nr)) hr4 (by omega) (M2.same sm)
    refine ⟨_, rfl, rfl, _, rfl, ite2 (fun _ => ?_) (fun _ => ?_)⟩
    · -- two rings
      refine ⟨_, rfl, m, lg, lc, s + 1, 3, rfl, M1, by omega, by omega, by omega, fun H2 d hd kp2 M2 => ?_⟩
      refine ⟨_, _, rfl, rfl, ?_⟩
      have e1 : (1 : Int) + (d : Int) = ((1 + d : Nat) : Int) := by omega
      dsimp only
      rw [e1]
      refine ⟨_, rfl, _, rfl, RgOk.of_le (by omega) (by omega) (by omega) (by omega), fun l nl => ?_⟩
      rw [NV_range]
      have s3 := same_upd (o := .lst (NV (List.range (1 + d)))) nl
      refine ⟨l, List.range (1 + d), rfl, upd_same, by rw [List.length_range]; omega, fun H4 r1 s4 nr1 hr1 => ?_⟩
      have s34 := s3.trans s4
      have M4 := M2.same s34
      have n1 := s3.free nr1
      have ar1 := M2.new n1
      refine ⟨by show 1 ≤ sizeLine; decide, fun l0 n0 => ?_⟩
      have s5 := same_upd (o := .lst [V.int 0]) n0
      have hl0 : upd H4 l0 (.lst [V.int 0]) l0 = some (.lst [V.int 0]) := upd_same
      have M5 := M4.same s5
      have al0 := M4.new n0
      have hr5 := hr1.same s5
      generalize upd H4 l0 (.lst [V.int 0]) = H5 at *
      refine ⟨_, rfl, _, rfl, _, rfl, m, lg, lc, s + 2, 3, rfl, M5, by omega, by omega, by omega, fun H6 e he kp6 M6 => ?_⟩
      have hl6 := kp6.lst M5 al0.1 hl0
      have hr6 := hr5.kp kp6 M5 ar1.1
      refine ⟨_, _, rfl, rfl, _, _, rfl, rfl, RgOk.of_le (by omega) (by omega) (by omega) (by omega), fun l2 n2 => ?_⟩
      rw [rgV_at]
      have s7 := same_upd (o := .lst (NV ((List.range e).map fun i => 1 + d + i))) n2
      have hl0' := s7 _ _ hl6
      have hl2 : upd H6 l2 (.lst (NV ((List.range e).map fun i => 1 + d + i))) l2 = some (.lst (NV ((List.range e).map fun i => 1 + d + i))) := upd_same
      have hr7 := hr6.same s7
      have M7 := M6.same s7
      generalize upd H6 l2 (.lst (NV ((List.range e).map fun i => 1 + d + i))) = H7 at *
      refine ⟨l0, l2, _, _, rfl, rfl, hl0', hl2, ?_, fun l3 n3 => ?_⟩
      · rw [NV_len, List.length_map, List.length_range]
        show 1 + e ≤ sizeLine
        exact Nat.le_of_lt (small1000 (by omega))
      have en : [V.int 0] ++ NV ((List.range e).map fun i => 1 + d + i) = NV (0 :: (List.range e).map fun i => 1 + d + i) := rfl
      rw [en]
      have s8 := same_upd (o := .lst (NV (0 :: (List.range e).map fun i => 1 + d + i))) n3
      refine ⟨l3, _, rfl, upd_same, ?_, fun H9 r2 s9 nr2 hr2 => ?_⟩
      · rw [List.length_cons, List.length_map, List.length_range]
        omega
      obtain ⟨ks, k1, k2, k3⟩ := (hr7.same s8).same s9
      obtain ⟨js, j1, j2, j3⟩ := hr2
      refine ⟨r1, r2, _, _, rfl, rfl, k1, j1, ?_, fun l4 n4 => ?_⟩
      · rw [nv_len, nv_len, ed_len k2, ed_len j2]
        unfold ringE
        rw [List.length_map, List.length_map, List.length_range, List.length_range, List.length_range, List.length_cons, List.length_map, List.length_range]
        exact Nat.le_of_lt (small1000 (by omega))
      have s10 := same_upd (o := .lst ((ks.map fun k => V.ref k.1) ++ (js.map fun k => V.ref k.1))) n4
      have sall := (s8.trans s9).trans s10
      have kp := (((kp1.trans kp2).trans (Kp.same (s34.trans s5))).trans kp6).trans (Kp.same (s7.trans sall))
      have Mz := M7.same sall
      exact q _ l4 _ (s + 3) (menu_1 hd he) kp ((((kp1.trans kp2).trans (Kp.same (s34.trans s5))).trans kp6).free M6 (s7.free ((s8.trans s9).free n4))) (edl_app k2 k3 j2 j3 n4) (by omega) Mz
    refine ⟨_, rfl, rfl, _, rfl, ite2 (fun _ => ?_) (fun _ => ?_)⟩
    · refine ⟨two, fun t1 x1 => ⟨two, fun t2 x2 => ⟨two, fun t3 x3 => ⟨two, fun t4 x4 => ⟨two, fun t5 x5 => ⟨by show 5 ≤ sizeLine; decide, fun l nl => ?_⟩⟩⟩⟩⟩⟩
      have y5 := (same_upd (o := .tup [V.int 1, V.int 3]) x5).trans (same_upd (o := .lst [V.ref t1, V.ref t2, V.ref t3, V.ref t4, V.ref t5]) nl)
      have y4 := (same_upd (o := .tup [V.int 1, V.int 2]) x4).trans y5
      have y3 := (same_upd (o := .tup [V.int 0, V.int 3]) x3).trans y4
      have y2 := (same_upd (o := .tup [V.int 0, V.int 2]) x2).trans y3
      have y1 := (same_upd (o := .tup [V.int 0, V.int 1]) x1).trans y2
      refine q _ l _ (s + 1) menu_2 (kp1.trans (Kp.same y1)) (kp1.free M1 ((same_upd x1).free ((same_upd x2).free ((same_upd x3).free ((same_upd x4).free ((same_upd x5).free nl)))))) ⟨[(t1, [0, 1]), (t2, [0, 2]), (t3, [0, 3]), (t4, [1, 2]), (t5, [1, 3])], upd_same, rfl, ?_⟩ (by omega) (M1.same y1)
      intro k hk
      simp only [List.mem_cons, List.not_mem_nil, or_false] at hk
      rcases hk with rfl | rfl | rfl | rfl | rfl
      · exact y2 _ _ upd_same
      · exact y3 _ _ upd_same
      · exact y4 _ _ upd_same
      · exact y5 _ _ upd_same
      · exact same_upd nl _ _ upd_same
    refine ⟨_, rfl, rfl, _, rfl, ite2 (fun _ => ?_) (fun _ => ?_)⟩
    · refine ⟨two, fun t1 x1 => ⟨two, fun t2 x2 => ⟨two, fun t3 x3 => ⟨two, fun t4 x4 => ⟨two, fun t5 x5 => ⟨two, fun t6 x6 => ⟨by show 6 ≤ sizeLine; decide, fun l nl => ?_⟩⟩⟩⟩⟩⟩⟩
      have y6 := (same_upd (o := .tup [V.int 1, V.int 4]) x6).trans (same_upd (o := .lst [V.ref t1, V.ref t2, V.ref t3, V.ref t4, V.ref t5, V.ref t6]) nl)
      have y5 := (same_upd (o := .tup [V.int 0, V.int 4]) x5).trans y6
      have y4 := (same_upd (o := .tup [V.int 1, V.int 3]) x4).trans y5
      have y3 := (same_upd (o := .tup [V.int 0, V.int 3]) x3).trans y4
      have y2 := (same_upd (o := .tup [V.int 1, V.int 2]) x2).trans y3
      have y1 := (same_upd (o := .tup [V.int 0, V.int 2]) x1).trans y2
      refine q _ l _ (s + 1) menu_3 (kp1.trans (Kp.same y1)) (kp1.free M1 ((same_upd x1).free ((same_upd x2).free ((same_upd x3).free ((same_upd x4).free ((same_upd x5).free ((same_upd x6).free nl))))))) ⟨[(t1, [0, 2]), (t2, [1, 2]), (t3, [0, 3]), (t4, [1, 3]), (t5, [0, 4]), (t6, [1, 4])], upd_same, rfl, ?_⟩ (by omega) (M1.same y1)
      intro k hk
      simp only [List.mem_cons, List.not_mem_nil, or_false] at hk
      rcases hk with rfl | rfl | rfl | rfl | rfl | rfl
      · exact y2 _ _ upd_same
      · exact y3 _ _ upd_same
      · exact y4 _ _ upd_same
      · exact y5 _ _ upd_same
      · exact y6 _ _ upd_same
      · exact same_upd nl _ _ upd_same
    refine ⟨_, rfl, rfl, _, rfl, ite2 (fun _ => ?_) (fun _ => ?_)⟩
    · refine ⟨two, fun t1 x1 => ⟨by show 1 ≤ sizeLine; decide, fun l1 n1 => ?_⟩⟩
      have y1 := same_upd (o := .tup [V.int 0, V.int 1]) x1
      have y2 := same_upd (o := .lst [V.ref t1]) n1
      have ht2 : Tp (upd (upd H1 t1 (.tup [V.int 0, V.int 1])) l1 (.lst [V.ref t1])) t1 [0, 1] := y2 _ _ upd_same
      have hl2 : upd (upd H1 t1 (.tup [V.int 0, V.int 1])) l1 (.lst [V.ref t1]) l1 = some (.lst [V.ref t1]) := upd_same
      have y12 := y1.trans y2
      have fr1 : ∀ {z}, upd (upd H1 t1 (.tup [V.int 0, V.int 1])) l1 (.lst [V.ref t1]) z = none → H1 z = none := fun h => y12.free h
      have M2 := M1.same y12
      have al1 := M1.new (y1.free n1)
      generalize upd (upd H1 t1 (.tup [V.int 0, V.int 1])) l1 (.lst [V.ref t1]) = H2 at *
      refine ⟨_, rfl, m, lg, lc, s + 1, 3, rfl, M2, by omega, by omega, by omega, fun H3 d hd kp3 M3 => ?_⟩
      have ht3 : Tp H3 t1 [0, 1] := kp3.tup M2 ht2
      have hl3 := kp3.lst M2 al1.1 hl2
      have kpA := (kp1.trans (Kp.same y12)).trans kp3
      refine ⟨_, _, rfl, rfl, l1, _, _, rfl, rfl, hl3, by omega, by omega, ?_, fun l2 n2 => ?_⟩
      · show 1 * _ ≤ _
        exact Nat.le_of_lt (small1000 (by omega))
      have ef : (List.replicate (Int.toNat (2 + (d : Int))) [V.ref t1]).flatten = (List.replicate (2 + d) (t1, [0, 1])).map fun k : Addr × List Nat => V.ref k.1 := by
        rw [List.flatten_replicate_singleton, List.map_replicate]
        congr 1
      rw [ef]
      have y3 := same_upd (o := .lst ((List.replicate (2 + d) (t1, [0, 1])).map fun k : Addr × List Nat => V.ref k.1)) n2
      refine q _ l2 _ (s + 2) (menu_4 hd) (kpA.trans (Kp.same y3)) (kpA.free M3 n2) ⟨List.replicate (2 + d) (t1, [0, 1]), upd_same, by rw [List.map_replicate, List.map_replicate]; rfl, fun k hk => ?_⟩ (by omega) (M3.same y3)
      rw [List.eq_of_mem_replicate hk]
      exact y3 _ _ ht3
    · refine ⟨_, rfl, m, lg, lc, s + 1, 2, rfl, M1, by omega, by omega, by omega, fun H2 d hd kp2 M2 => ?_⟩
      refine ⟨_, _, rfl, rfl, _, rfl, RgOk.of_le (by omega) (by omega) (by omega) (by omega), fun l nl => ?_⟩
      have er : rgV 0 (3 + (d : Int)) = NV (List.range (3 + d)) := by
        rw [← NV_range]
        congr 1
      rw [er]
      have s3 := same_upd (o := .lst (NV (List.range (3 + d)))) nl
      refine ⟨l, List.range (3 + d), rfl, upd_same, by rw [List.length_range]; omega, fun H4 r s4 nr hr4 => ?_⟩
      have s34 := s3.trans s4
      refine ⟨two, fun t1 x1 => ⟨by show 1 ≤ sizeLine; decide, fun l1 n1 => ?_⟩⟩
      have y1 := same_upd (o := .tup [V.int 0, V.int 2]) x1
      have y2 := same_upd (o := .lst [V.ref t1]) n1
      have y12 := y1.trans y2
      have hl5 : upd (upd H4 t1 (.tup [V.int 0, V.int 2])) l1 (.lst [V.ref t1]) l1 = some (.lst ([(t1, [0, 2])].map fun k : Addr × List Nat => V.ref k.1)) := upd_same
      have ht5 : ∀ k ∈ ([(t1, [0, 2])] : List (Addr × List Nat)), Tp (upd (upd H4 t1 (.tup [V.int 0, V.int 2])) l1 (.lst [V.ref t1])) k.1 k.2 := fun k hk => by
        rw [List.mem_singleton.mp hk]
        exact y2 _ _ upd_same
      obtain ⟨ks, k1, k2, k3⟩ := hr4.same y12
      generalize upd (upd H4 t1 (.tup [V.int 0, V.int 2])) l1 (.lst [V.ref t1]) = H5 at *
      refine ⟨r, l1, _, _, rfl, rfl, k1, hl5, ?_, fun l2 n2 => ?_⟩
      · rw [nv_len, ed_len k2]
        unfold ringE
        rw [List.length_map, List.length_range, List.length_range]
        exact Nat.le_of_lt (small1000 (show 3 + d + 1 ≤ 1000 by omega))
      have y3 := same_upd (o := .lst ((ks.map fun k => V.ref k.1) ++ ([(t1, [0, 2])].map fun k : Addr × List Nat => V.ref k.1))) n2
      have sall := (s34.trans y12).trans y3
      exact q _ l2 _ (s + 2) (menu_5 hd) ((kp1.trans kp2).trans (Kp.same sall)) ((kp1.trans kp2).free M2 ((s34.trans y12).free n2)) (edl_app k2 k3 (fs := [(0, 2)]) (js := [(t1, [0, 2])]) rfl ht5 n2) (by omega) (M2.same sall)
end
end Hw

namespace Hw
open PySem PySem.Spec PyProof.Rows L2
theorem perm_map_inv {α β : Type} (f : α → β) {xs ys : List β} (h : ys.Perm xs) : ∀ ks : List α, xs = ks.map f → ∃ js : List α, js.Perm ks ∧ ys = js.map f := by
  induction h with
  | nil => intro ks e; exact ⟨ks, .refl _, e⟩
  | @cons x l1 l2 _ ih =>
    intro ks e
    cases ks with
    | nil => cases e
    | cons k ks =>
      injection e with e1 e2
      obtain ⟨js, h1, h2⟩ := ih ks e2
      exact ⟨k :: js, h1.cons k, by rw [e1, h2]; rfl⟩
  | swap x y l =>
    intro ks e
    match ks, e with
    | a :: b :: ks, e =>
      injection e with e1 e2
      injection e2 with e2 e3
      exact ⟨b :: a :: ks, .swap _ _ _, by rw [e1, e2, e3]; rfl⟩
  | trans _ _ ih1 ih2 =>
    intro ks e
    obtain ⟨js, h1, h2⟩ := ih2 ks e
    obtain ⟨is, h3, h4⟩ := ih1 js h2
    exact ⟨is, h3.trans h1, h4⟩
theorem isP_of_perm {p : List Nat} {n : Nat} (h : p.Perm (List.range n)) : IsP p ∧ p.length = n := by
  have hl : p.length = n := by rw [h.length_eq, List.length_range]
  refine ⟨⟨h.nodup_iff.mpr List.nodup_range, fun x hx => ?_⟩, hl⟩
  rw [hl]
  exact List.mem_range.mp (h.mem_iff.mp hx)
section
variable {P : Program} {w : World} {K : PySem.W.Frag} {mg : Str → Option Value} {base : Heap}
def spRenamed : Sp := fun vs H Q _ => ∃ (m lg lc a : Addr) (s n : Nat) (es : List Ed), vs = [.ref m, .int (n : Int), .ref a] ∧ MOk H m lg lc s ∧ EdL H a es ∧ a ≠ lg ∧ VE n es ∧ n ≤ 100 ∧ es.length ≤ 100 ∧ s ≤ 90000 ∧
  ∀ H' t p fs, IsP p → p.length = n → fs.Perm (renE p es) → Kp m lg H H' → H t = none → EdT H' t fs → MOk H' m lg lc (s + n + es.length) → Q (.ref t) H'
abbrev nRen : List Str := ["_law_m", "_law_many", "_law_ties_here", "_law_names", "_law_one", "_law_far"]
theorem scRenamed : FnScope nRen ["_law_m", "_law_many", "_law_ties_here"] (defScope sRenamed) := ⟨rfl, rfl, rfl, by decide +kernel, rfl, by decide +kernel, by decide +kernel⟩
theorem cal_renamed (T : Txt mg) (GT : Cal P w K mg base "_law_tie" 1 spTie) (GM : Cal P w K mg base "_law_mixed_up" 3 (spMixedUp K)) (D : Df K mg "_law_renamed" sRenamed ["_law_m", "_law_many", "_law_ties_here"]) : Cal P w K mg base "_law_renamed" 4 spRenamed := by
  have nd := scRenamed.nd
  refine cal_of D scRenamed (fun vs H Q E h => ?_) (fun f cdv A outer s0 H vs Q E hr h => ?_)
  · obtain ⟨m, lg, lc, a, s, n, es, rfl, _⟩ := h
    rfl
  · obtain ⟨m, lg, lc, a, s, n, es, rfl, M0, hc, ha, ve, hn, hl, hs, q⟩ := h
    have hr1 := hr.mono (show 1 ≤ 3 by decide)
    refine ⟨_, pss_cons (ps_set (i := 3) nd rfl (.inr rfl) (pe_cl GM hr (by rfl) (pa_cons (pv 0) (pa_cons (pe_listRg (by rfl) (by rfl) T.list (prg_1 (by rfl) T.range (pv 1))) pa_nil))))
      <| pss_one (ps_ret (pe_callTy call_tuple_of (by rfl) T.tuple (by decide +kernel) (pa_cons (pe_cl GM hr (by rfl) (pa_cons (pv 0) (pa_cons
        (pe_lc (own := [("_law_one", 4), ("_law_far", 5)]) (g := gTup K 2 (gCons (gName 4) (gCons (gName 5) gNil))) (by rfl) nd (pi_list (pv 2))
        (blkOk_by (own := [("_law_one", 4), ("_law_far", 5)]) (N := nRen) (sc := defScope sRenamed) (by decide +kernel)) (fun _ _ _ _ _ => pg_tup rfl (pgs_cons (pg_name (i := 4) nd rfl (.inl rfl)) (pgs_cons (pg_name (i := 5) nd rfl (.inl rfl)) pgs_nil))) (fun _ _ _ _ _ => pts_nil)
        (fun _ _ _ _ _ => pe_cl GT (by exact hr1) (by rfl) (pa_cons (pe_ix (r := rIxL K) ix_list (pv 3) (pv 4) (fun _ _ => rfl)) (pa_cons (pe_ix (r := rIxL K) ix_list (pv 3) (pv 5) (fun _ _ => rfl)) pa_nil)))) pa_nil))) pa_nil))), ?_⟩
    refine ⟨_, rfl, _, rfl, _, rfl, RgOk.of_le (by omega) (by omega) (by omega) (by omega), fun l0 n0 => ?_⟩
    rw [NV_range]
    have s1 := same_upd (o := .lst (NV (List.range n))) n0
    have hl0 : upd H l0 (.lst (NV (List.range n))) l0 = some (.lst (NV (List.range n))) := upd_same
    have M1 := M0.same s1
    have hc1 := hc.same s1
    generalize upd H l0 (.lst (NV (List.range n))) = H1 at *
    refine ⟨m, lg, lc, l0, s, NV (List.range n), rfl, M1, .inl (sl_of hl0), by rw [NV_len, List.length_range]; omega, by rw [NV_len, List.length_range]; omega, fun H2 r1 ys hp kp2 nr1 hr1' M2 => ?_⟩
    rw [NV_len, List.length_range] at M2
    obtain ⟨p, rfl, pp⟩ := perm_NV hp
    obtain ⟨ip, pl'⟩ := isP_of_perm pp
    have hc2 := hc1.kp kp2 M1 ha
    obtain ⟨ks, k1, k2, k3⟩ := hc2
    have kl := ed_len k2
    refine ⟨_, rfl, _, rfl, a, rfl, ⟨_, sl_of k1⟩, fun D nD => lc_it (walk_list (xs := ks.map fun k => V.ref k.1)) (fun i H' => Same H2 H' ∧ EdL H' D ((renE p es).take i)) ⟨same_upd nD, [], upd_same, rfl, fun k hk => nomatch hk⟩ (fun i H' _ ⟨sm, _⟩ => sl_of (sm _ _ k1)) ?_ ?_⟩
    · rintro i x _ H4 hi ⟨sm, kd, hD, h2, h3⟩ ⟨rfl, hx⟩
      obtain ⟨k, hk, rfl⟩ := refs_get hx
      obtain ⟨e, he, ek⟩ := ed_get k2 hk
      have tk : Tp H4 k.1 (pl e) := by
        rw [← ek]
        exact sm _ _ (k3 k (List.mem_of_getElem? hk))
      have eb := ve e (List.mem_of_getElem? he)
      have hn2 := sm _ _ hr1'
      have g1 : p[e.1]? = some (ap p e.1) := ap_get (by omega)
      have g2 : p[e.2]? = some (ap p e.2) := ap_get (by omega)
      refine ⟨k.1, _, rfl, sq_of tk, rfl, _, _, rfl, _, _, rfl, rfl, rfl, ?_⟩
      refine ⟨_, rfl, _, rfl, r1, _, _, _, rfl, rfl, sl_of hn2, atI_nat (NV_get g1), _, rfl, _, rfl, r1, _, _, _, rfl, rfl, sl_of hn2, atI_nat (NV_get g2), ?_⟩
      refine ⟨_, _, rfl, fun H5 r s5 nr hr5 => ?_⟩
      have e2 : (renE p es).take (i + 1) = (renE p es).take i ++ [tieF (ap p e.1) (ap p e.2)] := by
        unfold renE
        rw [List.take_add_one, List.getElem?_map, he]
        rfl
      refine ⟨_, s5 _ _ hD, ?_, fun b o eb2 => ?_, ?_⟩
      · rw [nv_len, ed_len h2, List.length_take]
        unfold renE
        rw [List.length_map]
        exact Nat.lt_of_le_of_lt (Nat.min_le_right _ _) (small1000 (by omega))
      · rw [upd_ne (ne_of_none eb2 nD)]
        exact s5 _ _ (sm _ _ eb2)
      · rw [e2]
        exact edl_snoc h2 (fun k hk => s5 _ _ (h3 k hk)) hr5 (s5 _ _ hD)
    · rintro H4 ⟨sm, hD⟩
      rw [nv_len, kl] at hD
      have e : (renE p es).take es.length = renE p es := List.take_of_length_le (by unfold renE; rw [List.length_map]; exact Nat.le_refl _)
      rw [e] at hD
      obtain ⟨kd, hD, h2, h3⟩ := hD
      have M4 := M2.same sm
      have kl2 : kd.length = es.length := by
        rw [ed_len h2]
        unfold renE
        rw [List.length_map]
      refine ⟨m, lg, lc, D, s + n, kd.map (fun k => V.ref k.1), rfl, M4, .inl (sl_of hD), by rw [nv_len]; omega, by rw [nv_len]; omega, fun H5 r ys hp5 kp5 nr hr5 M5 => ?_⟩
      rw [nv_len, kl2] at M5
      obtain ⟨js, jp, rfl⟩ := perm_map_inv (fun k : Addr × List Nat => V.ref k.1) hp5 kd rfl
      obtain ⟨fs, fp, fe⟩ := perm_map_inv pl (jp.map (·.2)) (renE p es) h2
      refine ⟨r, _, rfl, .inl ⟨sl_of hr5, fun t nt => ?_⟩⟩
      have sz := same_upd (o := .tup (js.map fun k => V.ref k.1)) nt
      have kall := (((Kp.same s1).trans kp2).trans (Kp.same sm)).trans kp5
      exact q _ t p fs ip pl' fp (kall.trans (Kp.same sz)) (kall.free M5 nt) ⟨js, upd_same, fe, fun k hk => sz _ _ (kp5.tup M4 (h3 k (jp.mem_iff.mp hk)))⟩ (M5.same sz)
end
end Hw

namespace Hw
open PySem PySem.Spec PyProof.Rows L2
section
variable {P : Program} {w : World} {K : PySem.W.Frag} {mg : Str → Option Value} {base : Heap}
theorem edl_one {H : Hp} {r l : Addr} {e : Ed} (h : Tp H r (pl e)) (nl : H l = none) : EdL (upd H l (.lst [V.ref r])) l [e] :=
  ⟨[(r, pl e)], upd_same, rfl, fun k hk => by
    rw [List.mem_singleton.mp hk]
    exact same_upd nl _ _ h⟩
/-- the two lists joined -/
theorem edl_cat {H : Hp} {a b : Addr} {es fs : List Ed} (ha : EdL H a es) (hb : EdL H b fs) (le : es.length + fs.length ≤ 1000) {Q : VK}
    (q : ∀ l H', H l = none → Same H H' → EdL H' l (es ++ fs) → Q (.ref l) H') : rCat (.ref a) (.ref b) H Q := by
  obtain ⟨ks, k1, k2, k3⟩ := ha
  obtain ⟨js, j1, j2, j3⟩ := hb
  refine ⟨a, b, _, _, rfl, rfl, k1, j1, ?_, fun l nl => ?_⟩
  · rw [nv_len, nv_len, ed_len k2, ed_len j2]
    exact Nat.le_of_lt (small1000 le)
  · exact q l _ nl (same_upd nl) (edl_app k2 k3 j2 j3 nl)
/-- how a network is returned -/
theorem ties_ret {m lg lc : Addr} {H H' : Hp} {s n s' : Nat} {b : Addr} {es : List Ed} {N : L2.St → Hp → Prop} {Q : VK} {v1 v2 v3 v5 v6 v7 v8 v9 : Option V}
    (q : ∀ H' t r n es s', CN n es → n ≤ 12 → es.length ≤ 16 → Kp m lg H H' → H t = none → H r = none → H' t = some (.tup [.int (n : Int), .ref r]) → EdT H' r es → s' ≤ s + 300 → MOk H' m lg lc s' → Q (.ref t) H')
    (kp : Kp m lg H H') (M : MOk H' m lg lc s') (hs' : s' ≤ s + 200) (h8 : s ≤ 80000) (hb : EdL H' b es) (nb : b ≠ lg) (cn : CN n es) (hn : n ≤ 12) (hl : es.length ≤ 16) :
    tRet (tTup (tCons (tCal spTop (tCons (tVar 4) tNil)) (tCons (tCal spRenamed (tCons (tVar 0) (tCons (tCal spTop (tCons (tVar 4) tNil)) (tCons (tVar 4) tNil)))) tNil))) { nx := N, rt := Q }
      [some (V.ref m), v1, v2, v3, some (V.ref b), v5, v6, v7, v8, v9] H' := by
  refine ⟨_, rfl, b, es, rfl, hb, by omega, fun H3 sm3 => ?_⟩
  rw [top_eq cn]
  refine ⟨_, rfl, _, rfl, b, es, rfl, hb.same sm3, by omega, fun H4 sm4 => ?_⟩
  rw [top_eq cn]
  have sm := sm3.trans sm4
  refine ⟨_, rfl, m, lg, lc, b, s', n, es, rfl, M.same sm, hb.same sm, nb, cn.2.1, by omega, by omega, by omega, fun H5 t p fs ip pl' pf kp5 nt ht M5 => ⟨by show 2 ≤ sizeLine; decide, fun r nr => ?_⟩⟩
  have x := same_upd (o := .tup [V.int (n : Int), V.ref t]) nr
  have kall := (kp.trans (Kp.same sm)).trans kp5
  have fl : fs.length = es.length := by
    rw [pf.length_eq]
    unfold renE
    rw [List.length_map]
  have fr := kall.free M5 nr
  exact q _ r t n fs _ ((cn.ren ip pl').perm pf) hn (by omega) (kall.trans (Kp.same x)) fr ((kp.trans (Kp.same sm)).free (M.same sm) nt) upd_same (ht.same x) (by omega) (M5.same x)
def spTies : Sp := fun vs H Q _ => ∃ (m lg lc : Addr) (s cores tails more : Nat), vs = [.ref m, .int (cores : Int), .int (tails : Int), .int (more : Int)] ∧ MOk H m lg lc s ∧ s ≤ 80000 ∧ 1 ≤ cores ∧ cores ≤ 10 ∧ tails ≤ 10 ∧ more ≤ 10 ∧
  ∀ H' t r n es s', CN n es → n ≤ 12 → es.length ≤ 16 → Kp m lg H H' → H t = none → H r = none → H' t = some (.tup [.int (n : Int), .ref r]) → EdT H' r es → s' ≤ s + 300 → MOk H' m lg lc s' → Q (.ref t) H'
abbrev nTies : List Str := ["_law_m", "_law_cores", "_law_tails", "_law_more", "_law_ties_here", "_law_n", "_law_low", "_law_hinge", "_law_top_here", "_law_spot"]
theorem scTies : FnScope nTies ["_law_m", "_law_cores", "_law_tails", "_law_more"] (defScope sTies) := ⟨rfl, rfl, rfl, by decide +kernel, rfl, by decide +kernel, by decide +kernel⟩
structure TieC (P : Program) (w : World) (K : PySem.W.Frag) (mg : Str → Option Value) (base : Heap) : Prop where
  tie : Cal P w K mg base "_law_tie" 1 spTie
  draw : Cal P w K mg base "_law_draw" 2 spDraw
  top : Cal P w K mg base "_law_top" 1 spTop
  core : Cal P w K mg base "_law_core" 3 spCore
  shifted : Cal P w K mg base "_law_shifted" 2 spShifted
  tree : Cal P w K mg base "_law_tree" 3 spTree
  renamed : Cal P w K mg base "_law_renamed" 4 spRenamed
theorem cal_ties (T : Txt mg) (C : TieC P w K mg base) (D : Df K mg "_law_ties" sTies ["_law_m", "_law_cores", "_law_tails", "_law_more"]) : Cal P w K mg base "_law_ties" 5 spTies := by
  have nd := scTies.nd
  refine cal_of D scTies (fun vs H Q E h => ?_) (fun f cdv A outer s0 H vs Q E hr h => ?_)
  · obtain ⟨m, lg, lc, s, cores, tails, more, rfl, _⟩ := h
    rfl
  · obtain ⟨m, lg, lc, s, cores, tails, more, rfl, M0, hs, c1, c2, ht, hm, q⟩ := h
    have hr1 := hr.mono (show 1 ≤ 4 by decide)
    have hr2 := hr.mono (show 2 ≤ 4 by decide)
    have hr3 := hr.mono (show 3 ≤ 4 by decide)
    refine ⟨_, pss_cons (ps_set (i := 4) nd rfl (.inl rfl) (pe_cl C.core hr3 (by rfl) (pa_cons (pv 0) pa_nil)))
      <| pss_cons (ps_for PassesOwn.never rfl (pi_range1 (by rfl) T.range (pa_cons (pe_op op_sub (pv 1) pe_int) pa_nil)) (pg_name (i := 5) nd rfl (.inl rfl))
          (pss_cons (ps_par (i := 6) (j := 7) (by rfl) nd rfl rfl (by decide) rfl rfl (pa_cons (pe_cl C.top hr1 (by rfl) (pa_cons (pv 4) pa_nil)) (pa_cons (pe_cl C.draw hr2 (by rfl) (pa_cons (pv 0) (pa_cons (pe_cl C.top hr1 (by rfl) (pa_cons (pv 4) pa_nil)) pa_nil))) pa_nil)) (by rfl))
          <| pss_cons (ps_if (pt_cmpR op_gt (pe_cl C.draw hr2 (by rfl) (pa_cons (pv 0) (pa_cons pe_int pa_nil))) pe_int (nomark _))
              (pss_one (ps_par3 (i := 4) (j := 7) (l := 6) (by rfl) nd rfl rfl rfl (by decide) (by decide) (by decide) rfl rfl rfl (pa_cons (pe_op op_cat (pv 4) (pe_lst (pa_cons (pe_cl C.tie hr1 (by rfl) (pa_cons (pv 7) (pa_cons (pv 6) pa_nil))) pa_nil))) (pa_cons (pv 6) (pa_cons (pe_op op_add (pv 6) pe_int) pa_nil))) (by rfl))) pss_nil)
          <| pss_one (ps_set (i := 4) nd rfl (.inl rfl) (pe_op op_cat (pv 4) (pe_cl C.shifted hr2 (by rfl) (pa_cons (pe_cl C.core hr3 (by rfl) (pa_cons (pv 0) pa_nil)) (pa_cons (pv 6) (pa_cons (pv 7) pa_nil))))))))
      <| pss_cons (ps_set (i := 8) nd rfl (.inl rfl) (pe_cl C.top hr1 (by rfl) (pa_cons (pv 4) pa_nil)))
      <| pss_cons (ps_set (i := 4) nd rfl (.inl rfl) (pe_op op_cat (pv 4) (pe_cl C.tree hr3 (by rfl) (pa_cons (pv 0) (pa_cons (pe_op op_add (pv 8) (pv 2)) (pa_cons (pv 8) pa_nil))))))
      <| pss_cons (ps_for PassesOwn.never rfl (pi_range1 (by rfl) T.range (pa_cons (pv 3) pa_nil)) (pg_name (i := 5) nd rfl (.inl rfl))
          (pss_cons (ps_set (i := 9) nd rfl (.inl rfl) (pe_cl C.draw hr2 (by rfl) (pa_cons (pv 0) (pa_cons (pe_cl C.top hr1 (by rfl) (pa_cons (pv 4) pa_nil)) pa_nil))))
          <| pss_one (ps_set (i := 4) nd rfl (.inl rfl) (pe_op op_cat (pv 4) (pe_lst (pa_cons (pe_cl C.tie hr1 (by rfl) (pa_cons (pv 9) (pa_cons (pe_cl C.draw hr2 (by rfl) (pa_cons (pv 0) (pa_cons (pe_cl C.top hr1 (by rfl) (pa_cons (pv 4) pa_nil)) pa_nil))) pa_nil))) pa_nil))))))
      <| pss_cons (ps_if (PW.pt (pw_or (pt_cmpR op_gt (pe_cl C.top hr1 (by rfl) (pa_cons (pv 4) pa_nil)) pe_int (nomark _)) (pw_or1 (pt_cmpR op_gt (pe_callB cr_len (by rfl) T.len PySem.boot_len (pa_cons (pv 4) pa_nil)) pe_int (nomark _)))))
          (pss_one (ps_set (i := 4) nd rfl (.inl rfl) (pe_cl C.core hr3 (by rfl) (pa_cons (pv 0) pa_nil)))) pss_nil)
      <| pss_one (ps_ret (pe_tup (pa_cons (pe_cl C.top hr1 (by rfl) (pa_cons (pv 4) pa_nil)) (pa_cons (pe_cl C.renamed hr (by rfl) (pa_cons (pv 0) (pa_cons (pe_cl C.top hr1 (by rfl) (pa_cons (pv 4) pa_nil)) (pa_cons (pv 4) pa_nil)))) pa_nil)))), ?_⟩
    -- the first core
    refine ⟨_, rfl, m, lg, lc, s, rfl, M0, by omega, fun H1 b1 c s1 hc kp1 nb1 hb1 hs1 M1 => ?_⟩
    obtain ⟨cn1, ct1, cl1⟩ := menu_ok hc
    have nb1' : b1 ≠ lg := by
      obtain ⟨cs, gs, x1, x2, x3, _⟩ := M0
      exact (ne_of_none x3 nb1).symm
    have ec : (cores : Int) - 1 = ((cores - 1 : Nat) : Int) := by omega
    refine ⟨_, rfl, _, _, rfl, rfl, _, rfl, by omega, by omega, ?_⟩
    rw [ec, Int.toNat_natCast]
    refine for_it walk_rg0 (fun i σ H' => ∃ b n es s' v5 v6 v7 v8 v9, σ = [some (.ref m), some (.int (cores : Int)), some (.int (tails : Int)), some (.int (more : Int)), some (.ref b), v5, v6, v7, v8, v9] ∧ Kp m lg H H' ∧ MOk H' m lg lc s' ∧ s' ≤ s + 3 + 5 * i ∧ EdL H' b es ∧ b ≠ lg ∧ CN n es ∧ n ≤ 5 + 5 * i ∧ es.length ≤ 8 + 9 * i)
      ⟨b1, topOf c, c, s1, none, none, none, none, none, rfl, kp1, M1, by omega, hb1, nb1', cn1, by omega, by omega⟩ (fun _ _ _ _ _ => trivial) ?_ ?_
    · rintro i x σ _ H2 hi ⟨b, n, es, s2, v5, v6, v7, v8, v9, rfl, kp, M, hs2, hb, nb, cn, hn, hl⟩ ⟨rfl, rfl⟩
      refine ⟨_, rfl, b, es, rfl, hb, by omega, fun H3 sm3 => ?_⟩
      rw [top_eq cn]
      refine ⟨_, rfl, _, rfl, b, es, rfl, hb.same sm3, by omega, fun H4 sm4 => ?_⟩
      rw [top_eq cn]
      have M4 := (M.same sm3).same sm4
      have hb4 := (hb.same sm3).same sm4
      have n1 := cn.1
      refine ⟨m, lg, lc, s2, n, rfl, M4, by omega, by omega, by omega, fun H5 d hd kp5 M5 => ?_⟩
      have hb5 := hb4.kp kp5 M4 nb
      have kpA := ((kp.trans (Kp.same sm3)).trans (Kp.same sm4)).trans kp5
      refine ⟨_, _, rfl, ?_⟩
      refine ⟨_, rfl, m, lg, lc, s2 + 1, 3, rfl, M5, by omega, by omega, by omega, fun H6 e he kp6 M6 => ?_⟩
      have hb6 := hb5.kp kp6 M5 nb
      have kpB := kpA.trans kp6
      refine ⟨_, _, rfl, rfl, _, rfl, ite2 (fun z => ?_) (fun z => ?_)⟩
      · -- a bridge to the new core
        refine ⟨_, rfl, _, rfl, _, rfl, d, n, rfl, fun H7 r sm7 nr hr7 => ⟨by show 1 ≤ sizeLine; decide, fun l1 nl1 => ?_⟩⟩
        rw [tie_lt hd] at hr7
        have x1 := same_upd (o := .lst [V.ref r]) nl1
        have one := edl_one hr7 nl1
        have hb7 := (hb6.same sm7).same x1
        have M7 := (M6.same sm7).same x1
        generalize upd H7 l1 (.lst [V.ref r]) = H8 at *
        refine edl_cat hb7 one (by show es.length + 1 ≤ 1000; omega) fun l2 H9 nl2 x2 hl2 => ?_
        have M9 := M7.same x2
        have a2 := M7.new nl2
        have kpC := ((kpB.trans (Kp.same sm7)).trans (Kp.same x1)).trans (Kp.same x2)
        refine ⟨_, rfl, _, rfl, _, _, rfl, rfl, _, _, _, rfl, ?_⟩
        have cn' := cn.leaf hd
        refine ⟨_, rfl, _, rfl, m, lg, lc, s2 + 2, rfl, M9, by omega, fun HA rc c' s3 hc' kpA' nrc hrc hs3 MA => ?_⟩
        obtain ⟨cn3, ct3, cl3⟩ := menu_ok hc'
        have hl2' := hl2.kp kpA' M9 a2.1
        refine ⟨_, rfl, _, rfl, rc, c', n + 1, n, rfl, hrc, cn3.2.1.mono (by omega), by omega, by omega, fun HB rs smB nrs hrs => ?_⟩
        refine edl_cat (hl2'.same smB) hrs (by rw [List.length_append]; unfold shiftE; rw [List.length_map]; show es.length + 1 + _ ≤ 1000; omega) fun l3 HC nl3 x3 hl3 => ?_
        have MC := (MA.same smB).same x3
        have a3 := (MA.same smB).new nl3
        have kpD := ((kpC.trans kpA').trans (Kp.same smB)).trans (Kp.same x3)
        refine ⟨l3, n + 1 + topOf c' - 1, _, s3, _, _, _, _, _, rfl, kpD, MC, by omega, hl3, a3.1, cn'.core cn3 (Nat.lt_succ_self n), by omega, ?_⟩
        rw [List.length_append, List.length_append]
        unfold shiftE
        rw [List.length_map]
        show es.length + 1 + _ ≤ _
        omega
      · -- the new core at a place
        refine ⟨_, rfl, _, rfl, m, lg, lc, s2 + 2, rfl, M6, by omega, fun HA rc c' s3 hc' kpA' nrc hrc hs3 MA => ?_⟩
        obtain ⟨cn3, ct3, cl3⟩ := menu_ok hc'
        have hl2' := hb6.kp kpA' M6 nb
        refine ⟨_, rfl, _, rfl, rc, c', n, d, rfl, hrc, cn3.2.1.mono (by omega), by omega, by omega, fun HB rs smB nrs hrs => ?_⟩
        refine edl_cat (hl2'.same smB) hrs (by unfold shiftE; rw [List.length_map]; omega) fun l3 HC nl3 x3 hl3 => ?_
        have MC := (MA.same smB).same x3
        have a3 := (MA.same smB).new nl3
        have kpD := ((kpB.trans kpA').trans (Kp.same smB)).trans (Kp.same x3)
        refine ⟨l3, n + topOf c' - 1, _, s3, _, _, _, _, _, rfl, kpD, MC, by omega, hl3, a3.1, cn.core cn3 hd, by omega, ?_⟩
        rw [List.length_append]
        unfold shiftE
        rw [List.length_map]
        omega
    · rintro σ H2 ⟨b, n, es, s2, v5, v6, v7, v8, v9, rfl, kp, M, hs2, hb, nb, cn, hn, hl⟩
      have n1 := cn.1
      refine ⟨_, rfl, b, es, rfl, hb, by omega, fun H3 sm3 => ?_⟩
      rw [top_eq cn]
      have M3 := M.same sm3
      have hb3 := hb.same sm3
      have kp3 := kp.trans (Kp.same sm3)
      refine ⟨_, rfl, _, rfl, _, rfl, _, rfl, _, _, rfl, rfl, _, rfl, m, lg, lc, s2, n + tails, n, rfl, M3, n1, by omega, by omega, by omega, fun H4 r f s4 kp4 nr hf hr hs4 M4 => ?_⟩
      rw [show n + tails - n = tails by omega] at hf hr
      have cn' := cn.tree f tails hf
      refine edl_cat (hb3.kp kp4 M3 nb) hr (by unfold tailE; rw [List.length_map, List.length_range]; omega) fun l1 H5 nl1 x1 hl1 => ?_
      have M5 := M4.same x1
      have a1 := (M4.new nl1).1
      have kp5 := (kp3.trans kp4).trans (Kp.same x1)
      have le5 : (es ++ tailE f n tails).length ≤ 99 := by
        rw [List.length_append]
        unfold tailE
        rw [List.length_map, List.length_range]
        omega
      have n5 : n + tails ≤ 60 := by omega
      have cn5 : CN (n + tails) (es ++ tailE f n tails) := cn'
      have hs5 : s4 ≤ s + 110 := by omega
      clear cn' cn hl hn hf hr hb3 kp4 kp3 M3 M4 hb kp M sm3
      generalize es ++ tailE f n tails = es5 at *
      generalize n + tails = k5 at *
      refine ⟨_, rfl, _, rfl, by omega, by omega, ?_⟩
      rw [Int.toNat_natCast]
      refine for_it walk_rg0 (fun i σ H' => ∃ b es s' v5 v6 v7 v8 v9, σ = [some (.ref m), some (.int (cores : Int)), some (.int (tails : Int)), some (.int (more : Int)), some (.ref b), v5, v6, v7, v8, v9] ∧ Kp m lg H H' ∧ MOk H' m lg lc s' ∧ s' ≤ s + 110 + 2 * i ∧ EdL H' b es ∧ b ≠ lg ∧ CN k5 es ∧ es.length ≤ 99 + i)
        ⟨l1, es5, s4, _, _, _, _, _, rfl, kp5, M5, by omega, hl1, a1, cn5, by omega⟩ (fun _ _ _ _ _ => trivial) ?_ ?_
      · clear hl1 kp5 M5 cn5 le5
        rintro i x σ _ H2 hi ⟨b, es, s2, v5, v6, v7, v8, v9, rfl, kp, M, hs2, hb, nb, cn, hl⟩ ⟨rfl, rfl⟩
        have n1 := cn.1
        refine ⟨_, rfl, _, rfl, b, es, rfl, hb, by omega, fun H3 sm3 => ?_⟩
        rw [top_eq cn]
        refine ⟨m, lg, lc, s2, k5, rfl, M.same sm3, by omega, by omega, by omega, fun H4 d hd kp4 M4 => ?_⟩
        have hb4 := (hb.same sm3).kp kp4 (M.same sm3) nb
        refine ⟨_, rfl, _, rfl, _, rfl, _, rfl, b, es, rfl, hb4, by omega, fun H5 sm5 => ?_⟩
        rw [top_eq cn]
        refine ⟨m, lg, lc, s2 + 1, k5, rfl, M4.same sm5, by omega, by omega, by omega, fun H6 e he kp6 M6 => ?_⟩
        have hb6 := (hb4.same sm5).kp kp6 (M4.same sm5) nb
        refine ⟨d, e, rfl, fun H7 r sm7 nr hr7 => ⟨by show 1 ≤ sizeLine; decide, fun l1 nl1 => ?_⟩⟩
        have x1 := same_upd (o := .lst [V.ref r]) nl1
        have one := edl_one hr7 nl1
        have hb7 := (hb6.same sm7).same x1
        have M7 := (M6.same sm7).same x1
        generalize upd H7 l1 (.lst [V.ref r]) = H8 at *
        refine edl_cat hb7 one (by show es.length + 1 ≤ 1000; omega) fun l2 H9 nl2 x2 hl2 => ?_
        refine ⟨l2, _, s2 + 2, _, _, _, _, _, rfl, ((((((kp.trans (Kp.same sm3)).trans kp4).trans (Kp.same sm5)).trans kp6).trans (Kp.same sm7)).trans (Kp.same x1)).trans (Kp.same x2), M7.same x2, by omega, hl2, (M7.new nl2).1, cn.more hd he, ?_⟩
        rw [List.length_append]
        show es.length + 1 ≤ _
        omega
      · clear hl1 kp5 M5 cn5 le5
        rintro σ H2 ⟨b, es, s2, v5, v6, v7, v8, v9, rfl, kp, M, hs2, hb, nb, cn, hl⟩
        have n1 := cn.1
        refine ⟨_, rfl, b, es, rfl, hb, by omega, fun H3 sm3 => ?_⟩
        rw [top_eq cn]
        have M3 := M.same sm3
        have hb3 := hb.same sm3
        have kp3 := kp.trans (Kp.same sm3)
        obtain ⟨ks, hk1, hk2, hk3⟩ := id hb3
        have hlen : ks.length = es.length := ed_len hk2
        refine ⟨_, _, rfl, rfl, _, rfl, ite2 (fun z => iteT ?_) (fun z => ?_)⟩
        · refine ⟨_, rfl, m, lg, lc, s2, rfl, M3, by omega, fun H5 b1 c s1 hc kp1 nb1 hb1 hs1 M1 => ?_⟩
          obtain ⟨cn1, ct1, cl1⟩ := menu_ok hc
          exact ties_ret q (kp3.trans kp1) M1 (by omega) hs hb1 (by
            obtain ⟨cs, gs, x1, x2, x3, _⟩ := M3
            exact (ne_of_none x3 nb1).symm) cn1 (by omega) (by omega)
        · refine ⟨_, rfl, b, _, rfl, .inl (sl_of hk1), ?_⟩
          refine ⟨_, _, rfl, rfl, _, rfl, ite2 (fun z2 => ?_) (fun z2 => ?_)⟩
          · refine ⟨_, rfl, m, lg, lc, s2, rfl, M3, by omega, fun H5 b1 c s1 hc kp1 nb1 hb1 hs1 M1 => ?_⟩
            obtain ⟨cn1, ct1, cl1⟩ := menu_ok hc
            exact ties_ret q (kp3.trans kp1) M1 (by omega) hs hb1 (by
              obtain ⟨cs, gs, x1, x2, x3, _⟩ := M3
              exact (ne_of_none x3 nb1).symm) cn1 (by omega) (by omega)
          · rw [nv_len, hlen] at z2
            have z1' : ¬ ((12 : Int) < (k5 : Int)) := fun h => z (decide_eq_true h)
            have z2' : ¬ ((16 : Int) < (es.length : Int)) := fun h => z2 (decide_eq_true h)
            exact ties_ret q kp3 M3 (by omega) hs hb3 nb cn (by omega) (by omega)
end
end Hw

/-! Sets of places that grow along passages; bridges and cells. No Python here. -/
namespace Hw
/-- the passages that count: those numbers that ok takes -/
def okE (ok : Nat → Bool) (es : List Ed) : List Ed := ((List.range es.length).filter ok).map fun j => es.getD j (0, 0)
theorem mem_okE {ok : Nat → Bool} {es : List Ed} {e : Ed} : e ∈ okE ok es ↔ ∃ j, ok j = true ∧ es[j]? = some e := by
  unfold okE
  constructor
  · intro h
    obtain ⟨j, hj, rfl⟩ := List.mem_map.mp h
    obtain ⟨h1, h2⟩ := List.mem_filter.mp hj
    have hl := List.mem_range.mp h1
    refine ⟨j, h2, ?_⟩
    rw [List.getD_eq_getElem?_getD, List.getElem?_eq_getElem hl]
    rfl
  · rintro ⟨j, h1, h2⟩
    have hl := (List.getElem?_eq_some_iff.mp h2).1
    refine List.mem_map.mpr ⟨j, List.mem_filter.mpr ⟨List.mem_range.mpr hl, h1⟩, ?_⟩
    rw [List.getD_eq_getElem?_getD, h2]
    rfl
theorem okE_ve {n : Nat} {ok : Nat → Bool} {es : List Ed} (h : VE n es) : VE n (okE ok es) := fun e m => by
  obtain ⟨j, _, hj⟩ := mem_okE.mp m
  exact h e (List.mem_of_getElem? hj)
theorem Rch.iff {es fs : List Ed} (h : ∀ e, e ∈ es ↔ e ∈ fs) {u v : Nat} : Rch es u v ↔ Rch fs u v :=
  ⟨fun r => r.mono fun e m => (h e).mp m, fun r => r.mono fun e m => (h e).mpr m⟩
theorem mem_erase {es : List Ed} {i : Nat} {e : Ed} : e ∈ es.eraseIdx i ↔ e ∈ okE (fun j => decide (j ≠ i)) es := by
  rw [mem_okE, List.mem_eraseIdx_iff_getElem?]
  constructor
  · rintro ⟨j, h1, h2⟩
    exact ⟨j, decide_eq_true h1, h2⟩
  · rintro ⟨j, h1, h2⟩
    exact ⟨j, of_decide_eq_true h1, h2⟩
/-- a step: the other end comes in -/
def gStep (S : List Nat) (e : Ed) : List Nat := if (decide (e.1 ∈ S)) = (decide (e.2 ∈ S)) then S else S ++ [if e.2 ∈ S then e.1 else e.2]
def gTo (ok : Nat → Bool) (es : List Ed) (S : List Nat) : Nat → List Nat
  | 0 => S
  | k + 1 => if ok k then gStep (gTo ok es S k) (es.getD k (0, 0)) else gTo ok es S k
def gN (ok : Nat → Bool) (es : List Ed) (s : Nat) : Nat → List Nat
  | 0 => [s]
  | k + 1 => gTo ok es (gN ok es s k) es.length
theorem gStep_sub (S : List Nat) (e : Ed) : ∀ x ∈ S, x ∈ gStep S e := fun x h => by
  unfold gStep
  split
  · exact h
  · exact List.mem_append_left _ h
theorem gStep_len (S : List Nat) (e : Ed) : S.length ≤ (gStep S e).length ∧ ((gStep S e).length = S.length → gStep S e = S ∧ (e.1 ∈ S ↔ e.2 ∈ S)) := by
  unfold gStep
  split
  · rename_i h
    refine ⟨Nat.le_refl _, fun _ => ⟨rfl, ?_⟩⟩
    by_cases a : e.1 ∈ S <;> by_cases b : e.2 ∈ S <;> simp [a, b] at h ⊢
  · rw [List.length_append]
    refine ⟨Nat.le_add_right _ _, fun z => ?_⟩
    simp at z
structure GOk (n : Nat) (fs : List Ed) (s : Nat) (S : List Nat) : Prop where
  nd : S.Nodup
  lt : ∀ x ∈ S, x < n
  to : ∀ x ∈ S, Rch fs s x
  st : s ∈ S
theorem gStep_ok {n : Nat} {fs : List Ed} {s : Nat} {S : List Nat} (h : GOk n fs s S) {e : Ed} (he : e ∈ fs) (h1 : e.1 < n) (h2 : e.2 < n) : GOk n fs s (gStep S e) := by
  unfold gStep
  split
  · exact h
  · rename_i ne
    have ad : adj fs e.1 e.2 := .inl he
    by_cases b : e.2 ∈ S
    · have a : e.1 ∉ S := fun a => ne (by simp [a, b])
      rw [if_pos b]
      refine ⟨?_, fun x hx => ?_, fun x hx => ?_, List.mem_append_left _ h.st⟩
      · rw [List.nodup_append]
        exact ⟨h.nd, by simp, fun x hx y hy => by rw [List.mem_singleton.mp hy]; exact fun z => a (z ▸ hx)⟩
      · rcases List.mem_append.mp hx with m | m
        · exact h.lt x m
        · rw [List.mem_singleton.mp m]; exact h1
      · rcases List.mem_append.mp hx with m | m
        · exact h.to x m
        · rw [List.mem_singleton.mp m]; exact (h.to _ b).step (adj_symm ad)
    · have a : e.1 ∈ S := Decidable.byContradiction fun a => ne (by simp [a, b])
      rw [if_neg b]
      refine ⟨?_, fun x hx => ?_, fun x hx => ?_, List.mem_append_left _ h.st⟩
      · rw [List.nodup_append]
        exact ⟨h.nd, by simp, fun x hx y hy => by rw [List.mem_singleton.mp hy]; exact fun z => b (z ▸ hx)⟩
      · rcases List.mem_append.mp hx with m | m
        · exact h.lt x m
        · rw [List.mem_singleton.mp m]; exact h2
      · rcases List.mem_append.mp hx with m | m
        · exact h.to x m
        · rw [List.mem_singleton.mp m]; exact (h.to _ a).step ad
section
variable {n : Nat} {es : List Ed} (ve : VE n es) {ok : Nat → Bool} {s : Nat}
include ve
theorem gTo_ok {S : List Nat} (h : GOk n (okE ok es) s S) : ∀ k, k ≤ es.length → GOk n (okE ok es) s (gTo ok es S k)
  | 0, _ => h
  | k + 1, hk => by
    have ih := gTo_ok h k (by omega)
    unfold gTo
    split
    · rename_i c
      have he : es[k]? = some (es.getD k (0, 0)) := by
        rw [List.getD_eq_getElem?_getD, List.getElem?_eq_getElem (by omega)]
        rfl
      have b := ve _ (List.mem_of_getElem? he)
      exact gStep_ok ih (mem_okE.mpr ⟨k, c, he⟩) (by omega) b.2
    · exact ih
omit ve in
theorem gTo_len (S : List Nat) : ∀ k, S.length ≤ (gTo ok es S k).length ∧ ((gTo ok es S k).length = S.length → gTo ok es S k = S ∧ ∀ j, j < k → ok j = true → ((es.getD j (0, 0)).1 ∈ S ↔ (es.getD j (0, 0)).2 ∈ S))
  | 0 => ⟨Nat.le_refl _, fun _ => ⟨rfl, fun j hj => absurd hj (Nat.not_lt_zero _)⟩⟩
  | k + 1 => by
    obtain ⟨i1, i2⟩ := gTo_len S k
    unfold gTo
    split
    · rename_i c
      obtain ⟨a1, a2⟩ := gStep_len (gTo ok es S k) (es.getD k (0, 0))
      refine ⟨Nat.le_trans i1 a1, fun z => ?_⟩
      obtain ⟨j1, j2⟩ := i2 (by omega)
      obtain ⟨b1, b2⟩ := a2 (by omega)
      refine ⟨b1.trans j1, fun j hj o => ?_⟩
      by_cases e : j = k
      · subst e
        rw [j1] at b2
        exact b2
      · exact j2 j (by omega) o
    · rename_i c
      refine ⟨i1, fun z => ?_⟩
      obtain ⟨j1, j2⟩ := i2 z
      refine ⟨j1, fun j hj o => ?_⟩
      by_cases e : j = k
      · subst e
        exact absurd o c
      · exact j2 j (by omega) o
def Cl (ok : Nat → Bool) (es : List Ed) (S : List Nat) : Prop := ∀ j e, ok j = true → es[j]? = some e → (e.1 ∈ S ↔ e.2 ∈ S)
omit ve in
theorem cl_gTo {S : List Nat} (h : Cl ok es S) : ∀ k, k ≤ es.length → gTo ok es S k = S
  | 0, _ => rfl
  | k + 1, hk => by
    unfold gTo
    rw [cl_gTo h k (by omega)]
    split
    · rename_i c
      have he : es[k]? = some (es.getD k (0, 0)) := by
        rw [List.getD_eq_getElem?_getD, List.getElem?_eq_getElem (by omega)]
        rfl
      have := h k _ c he
      unfold gStep
      rw [if_pos]
      by_cases a : (es.getD k (0, 0)).1 ∈ S
      · rw [decide_eq_true a, decide_eq_true (this.mp a)]
      · rw [decide_eq_false a, decide_eq_false fun b => a (this.mpr b)]
    · rfl
theorem gN_ok (hs : s < n) : ∀ r, GOk n (okE ok es) s (gN ok es s r)
  | 0 => ⟨by unfold gN; simp, fun x hx => by unfold gN at hx; rw [List.mem_singleton.mp hx]; exact hs, fun x hx => by unfold gN at hx; rw [List.mem_singleton.mp hx]; exact .refl _, by unfold gN; simp⟩
  | r + 1 => gTo_ok ve (gN_ok hs r) _ (Nat.le_refl _)
omit ve in
theorem gN_grows : ∀ r, Cl ok es (gN ok es s r) ∨ r + 1 ≤ (gN ok es s r).length
  | 0 => .inr (by unfold gN; simp)
  | r + 1 => by
    have ih := gN_grows r
    unfold gN
    by_cases c : Cl ok es (gN ok es s r)
    · left
      rw [cl_gTo c _ (Nat.le_refl _)]
      exact c
    · right
      have ih := ih.resolve_left c
      obtain ⟨a1, a2⟩ := gTo_len (ok := ok) (es := es) (gN ok es s r) es.length
      by_cases z : (gTo ok es (gN ok es s r) es.length).length = (gN ok es s r).length
      · exfalso
        obtain ⟨_, b⟩ := a2 z
        refine c fun j e o he => ?_
        have hl := (List.getElem?_eq_some_iff.mp he).1
        have := b j hl o
        rw [List.getD_eq_getElem?_getD, he] at this
        exact this
      · omega
omit ve in
theorem cl_rch {S : List Nat} (h : Cl ok es S) {u v : Nat} (r : Rch (okE ok es) u v) (hu : u ∈ S) : v ∈ S := by
  induction r with
  | refl => exact hu
  | step _ a ih =>
    rcases a with m | m
    · obtain ⟨j, o, e⟩ := mem_okE.mp m
      exact (h j _ o e).mp ih
    · obtain ⟨j, o, e⟩ := mem_okE.mp m
      exact (h j _ o e).mpr ih
/-- after as many rounds as there are places nothing more comes in -/
theorem gN_mem (hs : s < n) (v : Nat) : v ∈ gN ok es s n ↔ Rch (okE ok es) s v := by
  have g := gN_ok (ok := ok) ve hs n
  refine ⟨g.to v, fun r => ?_⟩
  have c : Cl ok es (gN ok es s n) := (gN_grows (ok := ok) (es := es) (s := s) n).resolve_right fun z => by
    have := len_le n _ g.nd g.lt
    omega
  exact cl_rch c r g.st
theorem gN_full (hs : s < n) : (gN ok es s n).length = n ↔ ∀ v, v < n → Rch (okE ok es) s v := by
  have g := gN_ok (ok := ok) ve hs n
  constructor
  · intro z v hv
    have ip : IsP (gN ok es s n) := ⟨g.nd, fun x hx => by rw [z]; exact g.lt x hx⟩
    exact (gN_mem ve hs v).mp (isP_mem ip (by rw [z]; exact hv))
  · intro h
    have p : (gN ok es s n).Perm (List.range n) := perm_of_mem g.nd List.nodup_range fun x => ⟨fun m => List.mem_range.mpr (g.lt x m), fun m => (gN_mem ve hs x).mpr (h x (List.mem_range.mp m))⟩
    rw [p.length_eq, List.length_range]
end
end Hw

/-! Bridges and cells. No Python here. -/
namespace Hw
def cB (n : Nat) (es : List Ed) : Bool := decide (lj n es = List.replicate n 0)
def brg (n : Nat) (es : List Ed) : List Nat := (List.range es.length).filter fun i => !cB n (es.eraseIdx i)
def inn (n : Nat) (es : List Ed) : List Ed := okE (fun j => !decide (j ∈ brg n es)) es
def cls (n : Nat) (L : List Nat) (l : Nat) : List Nat := (List.range n).filter fun x => decide (ap L x = l)
def rts (n : Nat) (L : List Nat) : List Nat := (List.range n).filter fun l => decide (ap L l = l)
def celL (n : Nat) (L : List Nat) : List (List Nat) := (rts n L).map (cls n L)
def cel (n : Nat) (es : List Ed) : List (List Nat) := celL n (lj n (inn n es))
theorem ve_erase {n i : Nat} {es : List Ed} (h : VE n es) : VE n (es.eraseIdx i) := fun e m => h e (List.mem_of_mem_eraseIdx m)
theorem cB_iff {n : Nat} {es : List Ed} (h : VE n es) (hn : 1 ≤ n) : cB n es = true ↔ conn n es := by
  unfold cB
  rw [conn_iff h hn, decide_eq_true_eq]
theorem mem_brg {n : Nat} {es : List Ed} (h : CN n es) {i : Nat} : i ∈ brg n es ↔ i < es.length ∧ ¬ conn n (es.eraseIdx i) := by
  unfold brg
  rw [List.mem_filter, List.mem_range, ← cB_iff (ve_erase h.2.1) h.1]
  cases cB n (es.eraseIdx i) <;> simp
theorem brg_nodup (n : Nat) (es : List Ed) : (brg n es).Nodup := List.Nodup.sublist List.filter_sublist List.nodup_range
/-- one passage more -/
theorem Rch.add {fs gs : List Ed} {d : Ed} (h : ∀ e ∈ fs, e ∈ gs ∨ e = d) {u v : Nat} (r : Rch fs u v) : Rch gs u v ∨ (Rch gs u d.1 ∧ Rch gs v d.2) ∨ (Rch gs u d.2 ∧ Rch gs v d.1) := by
  induction r with
  | refl => exact .inl (.refl _)
  | @step v x _ a ih =>
    have go : adj gs v x → Rch gs u x ∨ (Rch gs u d.1 ∧ Rch gs x d.2) ∨ (Rch gs u d.2 ∧ Rch gs x d.1) := fun a => by
      have b := Rch.one (adj_symm a)
      rcases ih with i | ⟨i, j⟩ | ⟨i, j⟩
      · exact .inl (i.step a)
      · exact .inr (.inl ⟨i, b.trans j⟩)
      · exact .inr (.inr ⟨i, b.trans j⟩)
    rcases a with m | m
    · rcases h _ m with g | g
      · exact go (.inl g)
      · have e1 : d.1 = v := by rw [← g]
        have e2 : d.2 = x := by rw [← g]
        rw [e1, e2] at ih ⊢
        rcases ih with i | ⟨i, j⟩ | ⟨i, j⟩
        · exact .inr (.inl ⟨i, .refl _⟩)
        · exact .inl (i.trans j)
        · exact .inl i
    · rcases h _ m with g | g
      · exact go (.inr g)
      · have e1 : d.1 = x := by rw [← g]
        have e2 : d.2 = v := by rw [← g]
        rw [e1, e2] at ih ⊢
        rcases ih with i | ⟨i, j⟩ | ⟨i, j⟩
        · exact .inr (.inr ⟨i, .refl _⟩)
        · exact .inl i
        · exact .inl (i.trans j)
theorem getD_at {es : List Ed} {i : Nat} (h : i < es.length) : es[i]? = some (es.getD i (0, 0)) := by
  rw [List.getD_eq_getElem?_getD, List.getElem?_eq_getElem h]
  rfl
/-- the ends of a bridge are not joined without it -/
theorem brg_ends {n : Nat} {es : List Ed} (h : CN n es) {i : Nat} (hi : i ∈ brg n es) : ¬ Rch (es.eraseIdx i) (es.getD i (0, 0)).1 (es.getD i (0, 0)).2 := by
  obtain ⟨hl, nc⟩ := (mem_brg h).mp hi
  refine fun r => nc fun v hv => ?_
  have add := (h.2.2 v hv).add (gs := es.eraseIdx i) (d := es.getD i (0, 0)) fun e m => by
    obtain ⟨j, hj, e1⟩ := List.mem_iff_getElem.mp m
    by_cases z : j = i
    · subst z
      right
      have := getD_at hj
      rw [List.getElem?_eq_getElem hj, e1] at this
      exact Option.some.inj this
    · left
      exact List.mem_eraseIdx_iff_getElem?.mpr ⟨j, z, by rw [List.getElem?_eq_getElem hj, e1]⟩
  rcases add with a | ⟨a, b⟩ | ⟨a, b⟩
  · exact a
  · exact (a.trans r).trans b.symm
  · exact (a.trans r.symm).trans b.symm
/-- what no single passage separates is joined by passages that are no bridges -/
theorem sep {n : Nat} {es : List Ed} (h : CN n es) {u v : Nat} (hu : u < n) (hv : v < n) : Rch (inn n es) u v ↔ ∀ i, i < es.length → Rch (es.eraseIdx i) u v := by
  constructor
  · intro r i hi
    by_cases b : i ∈ brg n es
    · refine r.mono fun e m => ?_
      obtain ⟨j, o, ej⟩ := mem_okE.mp m
      refine List.mem_eraseIdx_iff_getElem?.mpr ⟨j, fun z => ?_, ej⟩
      subst z
      simp [b] at o
    · have c : conn n (es.eraseIdx i) := Classical.byContradiction fun c => b ((mem_brg h).mpr ⟨hi, c⟩)
      exact (c u hu).symm.trans (c v hv)
  · intro hs
    have main : ∀ Bs : List Nat, (∀ b ∈ Bs, b ∈ brg n es) → Rch (okE (fun j => !decide (j ∈ Bs)) es) u v := by
      intro Bs
      induction Bs with
      | nil =>
        intro _
        refine ((h.2.2 u hu).symm.trans (h.2.2 v hv)).mono fun e m => ?_
        obtain ⟨j, hj, e1⟩ := List.mem_iff_getElem.mp m
        exact mem_okE.mpr ⟨j, by simp, by rw [List.getElem?_eq_getElem hj, e1]⟩
      | cons b Bs ih =>
        intro hb
        have r := ih fun c hc => hb c (List.mem_cons_of_mem _ hc)
        have hb1 := hb b List.mem_cons_self
        have bl := ((mem_brg h).mp hb1).1
        have add := r.add (gs := okE (fun j => !decide (j ∈ b :: Bs)) es) (d := es.getD b (0, 0)) fun e m => by
          obtain ⟨j, o, ej⟩ := mem_okE.mp m
          by_cases z : j = b
          · subst z
            right
            rw [getD_at bl] at ej
            exact (Option.some.inj ej).symm
          · left
            refine mem_okE.mpr ⟨j, ?_, ej⟩
            simp [z] at o ⊢
            exact o
        have up : ∀ {x y}, Rch (okE (fun j => !decide (j ∈ b :: Bs)) es) x y → Rch (es.eraseIdx b) x y := fun q => q.mono fun e m => by
          obtain ⟨j, o, ej⟩ := mem_okE.mp m
          refine List.mem_eraseIdx_iff_getElem?.mpr ⟨j, fun z => ?_, ej⟩
          subst z
          simp at o
        have ends := brg_ends h hb1
        have uv := hs b bl
        rcases add with a | ⟨a, c⟩ | ⟨a, c⟩
        · exact a
        · exact absurd (((up a).symm.trans uv).trans (up c)) ends
        · exact absurd (((up c).symm.trans uv.symm).trans (up a)) ends
    exact main (brg n es) fun _ z => z
/-! ### roots -/
theorem mem_rts {n : Nat} {L : List Nat} {l : Nat} : l ∈ rts n L ↔ l < n ∧ ap L l = l := by
  unfold rts
  rw [List.mem_filter, List.mem_range, decide_eq_true_eq]
theorem mem_cls {n : Nat} {L : List Nat} {l x : Nat} : x ∈ cls n L l ↔ x < n ∧ ap L x = l := by
  unfold cls
  rw [List.mem_filter, List.mem_range, decide_eq_true_eq]
theorem rts_nodup (n : Nat) (L : List Nat) : (rts n L).Nodup := List.Nodup.sublist List.filter_sublist List.nodup_range
theorem filter_rise (n : Nat) (p : Nat → Bool) : ((List.range n).filter p).Pairwise (· < ·) := List.Pairwise.sublist List.filter_sublist (List.pairwise_lt_range)
theorem root_ap {n : Nat} {es : List Ed} {L : List Nat} (h : Lb n es L) {u : Nat} (hu : u < n) : ap L u < n ∧ ap L (ap L u) = ap L u := by
  obtain ⟨a, b⟩ := h.eq u (ap L u) (h.to u hu) hu
  exact ⟨a, b.symm⟩
theorem ap_step {n : Nat} {es : List Ed} {L : List Nat} (h : Lb n es L) (e : Ed) {u : Nat} (hu : u < n) : ap (ljStep L e) u = if ap L u = max (ap L e.1) (ap L e.2) then min (ap L e.1) (ap L e.2) else ap L u := by
  unfold ljStep
  rw [ap_map' _ (by rw [h.len]; exact hu)]
  rfl
theorem len_drop {l : List Nat} (h : l.Nodup) {a : Nat} (ha : a ∈ l) : (l.filter fun x => decide (x ≠ a)).length + 1 = l.length := by
  have e : (l.filter fun x => decide (x ≠ a)) = l.erase a := by
    rw [h.erase_eq_filter]
    exact List.filter_congr fun x _ => by by_cases z : x = a <;> simp [z]
  rw [e, List.length_erase_of_mem ha]
  have := List.length_pos_of_mem ha
  omega
theorem rts_step {n : Nat} {es : List Ed} {L : List Nat} (h : Lb n es L) {e : Ed} (h1 : e.1 < n) (h2 : e.2 < n) :
    (ap L e.1 = ap L e.2 → rts n (ljStep L e) = rts n L) ∧ (ap L e.1 ≠ ap L e.2 → (rts n (ljStep L e)).length + 1 = (rts n L).length) := by
  have r1 := root_ap h h1
  have r2 := root_ap h h2
  constructor
  · intro z
    unfold rts
    refine List.filter_congr fun x hx => ?_
    rw [ap_step h e (List.mem_range.mp hx), z, Nat.max_self, Nat.min_self]
    split
    · rename_i q; rw [q]
    · rfl
  · intro z
    have hmax : max (ap L e.1) (ap L e.2) < n ∧ ap L (max (ap L e.1) (ap L e.2)) = max (ap L e.1) (ap L e.2) := by
      rcases Nat.le_total (ap L e.1) (ap L e.2) with q | q
      · rw [Nat.max_eq_right q]; exact r2
      · rw [Nat.max_eq_left q]; exact r1
    have hmin : ap L (min (ap L e.1) (ap L e.2)) = min (ap L e.1) (ap L e.2) := by
      rcases Nat.le_total (ap L e.1) (ap L e.2) with q | q
      · rw [Nat.min_eq_left q]; exact r1.2
      · rw [Nat.min_eq_right q]; exact r2.2
    have hlt : min (ap L e.1) (ap L e.2) < max (ap L e.1) (ap L e.2) := by omega
    generalize eM : max (ap L e.1) (ap L e.2) = M at *
    generalize em : min (ap L e.1) (ap L e.2) = mm at *
    have e3 : rts n (ljStep L e) = (rts n L).filter fun x => decide (x ≠ M) := by
      unfold rts
      rw [List.filter_filter]
      refine List.filter_congr fun x hx => ?_
      rw [ap_step h e (List.mem_range.mp hx), eM, em]
      by_cases q : ap L x = M
      · rw [if_pos q]
        have a1 : decide (mm = x) = false := decide_eq_false fun z => by
          rw [← z, hmin] at q
          omega
        have a2 : (decide (x ≠ M) && decide (ap L x = x)) = false := by
          by_cases y : x = M
          · simp [y]
          · have : ¬ ap L x = x := fun z => y (z.symm.trans q)
            simp [this]
        rw [a1, a2]
      · rw [if_neg q]
        have a1 : decide (x ≠ M) = true := decide_eq_true fun z => q (by rw [z]; exact hmax.2)
        rw [a1, Bool.true_and]
    rw [e3]
    exact len_drop (rts_nodup n L) (mem_rts.mpr hmax)
theorem rts_fold {n : Nat} : ∀ (bs es : List Ed) (L : List Nat), Lb n es L → (∀ e ∈ bs, e.1 < n ∧ e.2 < n) → (rts n L).length ≤ (rts n (bs.foldl ljStep L)).length + bs.length
  | [], _, _, _, _ => Nat.le_refl _
  | e :: bs, es, L, h, hb => by
    have b := hb e List.mem_cons_self
    have ih := rts_fold bs (es ++ [e]) (ljStep L e) (lb_step h b.1 b.2) fun d m => hb d (List.mem_cons_of_mem _ m)
    obtain ⟨s1, s2⟩ := rts_step h b.1 b.2
    rw [List.length_cons]
    show _ ≤ (rts n (bs.foldl ljStep (ljStep L e))).length + _
    by_cases z : ap L e.1 = ap L e.2
    · rw [s1 z] at ih
      omega
    · have := s2 z
      omega
theorem rts_join {n : Nat} : ∀ (bs es : List Ed) (L : List Nat), Lb n es L → (∀ e ∈ bs, e.1 < n ∧ e.2 < n) → (∀ k e, bs[k]? = some e → ¬ Rch (es ++ bs.take k) e.1 e.2) → (rts n (bs.foldl ljStep L)).length + bs.length = (rts n L).length
  | [], _, _, _, _, _ => rfl
  | e :: bs, es, L, h, hb, hj => by
    have b := hb e List.mem_cons_self
    have ih := rts_join bs (es ++ [e]) (ljStep L e) (lb_step h b.1 b.2) (fun d m => hb d (List.mem_cons_of_mem _ m)) fun k d hd => by
      have := hj (k + 1) d (by rw [List.getElem?_cons_succ]; exact hd)
      rw [List.take_succ_cons] at this
      rw [List.append_assoc]
      exact this
    have z : ap L e.1 ≠ ap L e.2 := fun z => by
      have := hj 0 e rfl
      rw [List.take_zero, List.append_nil] at this
      have q := h.to e.1 b.1
      rw [z] at q
      exact this (q.trans (h.to e.2 b.2).symm)
    have := (rts_step h b.1 b.2).2 z
    show (rts n (bs.foldl ljStep (ljStep L e))).length + _ = _
    rw [List.length_cons]
    omega
theorem rts_one {n : Nat} {es : List Ed} {L : List Nat} (h : Lb n es L) (hn : 1 ≤ n) (c : conn n es) : (rts n L).length = 1 := by
  have z : ap L 0 = 0 := by
    have := h.le 0 hn
    omega
  have e : rts n L = [0] := by
    refine List.perm_singleton.mp (perm_of_mem (rts_nodup n L) (by simp) fun x => ?_)
    rw [mem_rts, List.mem_singleton]
    constructor
    · rintro ⟨hx, e⟩
      have := (h.eq 0 x (c x hx) hn).2
      omega
    · rintro rfl
      exact ⟨hn, z⟩
  rw [e]
  rfl
/-- one cell more than bridges -/
theorem cel_len {n : Nat} {es : List Ed} (h : CN n es) : (cel n es).length = (brg n es).length + 1 := by
  have ve : VE n (inn n es) := okE_ve h.2.1
  have lb := lb_lj ve
  have bv : ∀ e ∈ (brg n es).map (fun j => es.getD j (0, 0)), e.1 < n ∧ e.2 < n := fun e m => by
    obtain ⟨j, hj, rfl⟩ := List.mem_map.mp m
    have := h.2.1 _ (List.mem_of_getElem? (getD_at ((mem_brg h).mp hj).1))
    omega
  have j := rts_join ((brg n es).map fun j => es.getD j (0, 0)) _ _ lb bv fun k e he => by
    rw [List.getElem?_map] at he
    cases eb : (brg n es)[k]? with
    | none => rw [eb] at he; cases he
    | some b =>
      rw [eb] at he
      obtain rfl : es.getD b (0, 0) = e := Option.some.inj he
      have hb := List.mem_of_getElem? eb
      refine fun r => brg_ends h hb (r.mono fun d m => ?_)
      rcases List.mem_append.mp m with m | m
      · obtain ⟨j, o, ej⟩ := mem_okE.mp m
        refine List.mem_eraseIdx_iff_getElem?.mpr ⟨j, fun z => ?_, ej⟩
        subst z
        simp [hb] at o
      · rw [← List.map_take] at m
        obtain ⟨j, hj, rfl⟩ := List.mem_map.mp m
        refine List.mem_eraseIdx_iff_getElem?.mpr ⟨j, fun z => ?_, getD_at ((mem_brg h).mp (List.mem_of_mem_take hj)).1⟩
        subst z
        obtain ⟨i, hi, e2⟩ := List.mem_take_iff_getElem.mp hj
        obtain ⟨hk, e3⟩ := List.getElem?_eq_some_iff.mp eb
        have : i = k := (List.getElem_inj (i := i) (j := k) (h₀ := by omega) (h₁ := hk) (brg_nodup n es)).mp (e2.trans e3.symm)
        omega
  have lb2 := lb_fold _ _ _ lb bv
  have one := rts_one lb2 h.1 fun v hv => (h.2.2 v hv).mono fun e m => by
    obtain ⟨j, hj, e1⟩ := List.mem_iff_getElem.mp m
    have e2 : es[j]? = some e := by rw [List.getElem?_eq_getElem hj, e1]
    by_cases b : j ∈ brg n es
    · refine List.mem_append_right _ (List.mem_map.mpr ⟨j, b, ?_⟩)
      rw [getD_at hj] at e2
      exact Option.some.inj e2
    · exact List.mem_append_left _ (mem_okE.mpr ⟨j, by simp [b], e2⟩)
  rw [one, List.length_map] at j
  show ((rts n (lj n (inn n es))).map _).length = _
  rw [List.length_map]
  omega
/-! ### the sizes of the cells -/
theorem ind_sum (a : Nat) : ∀ R : List Nat, (R.map fun l => if a = l then 1 else 0).sum = R.count a
  | [] => rfl
  | x :: R => by
    rw [List.map_cons, List.sum_cons, ind_sum a R, List.count_cons]
    by_cases z : a = x
    · subst z; simp; omega
    · rw [if_neg z]
      have : (x == a) = false := by simp; exact fun q => z q.symm
      simp [this]
theorem sum_two (f g : Nat → Nat) : ∀ R : List Nat, (R.map fun l => f l + g l).sum = (R.map f).sum + (R.map g).sum
  | [] => rfl
  | x :: R => by
    simp only [List.map_cons, List.sum_cons, sum_two f g R]
    omega
theorem part_sum {R : List Nat} (hR : R.Nodup) (f : Nat → Nat) : ∀ xs : List Nat, (∀ x ∈ xs, f x ∈ R) → (R.map fun l => (xs.filter fun x => decide (f x = l)).length).sum = xs.length
  | [], _ => by
    induction R with
    | nil => rfl
    | cons a R ih => rw [List.map_cons, List.sum_cons, ih hR.tail (fun _ h => nomatch h)]; rfl
  | x :: xs, h => by
    have ih := part_sum hR f xs fun y hy => h y (List.mem_cons_of_mem _ hy)
    have e : (R.map fun l => ((x :: xs).filter fun y => decide (f y = l)).length) = R.map fun l => (if f x = l then 1 else 0) + (xs.filter fun y => decide (f y = l)).length := by
      refine List.map_congr_left fun l _ => ?_
      rw [List.filter_cons]
      by_cases z : f x = l
      · rw [if_pos (decide_eq_true z), if_pos z, List.length_cons]; omega
      · rw [if_neg (by simp [z]), if_neg z]; omega
    rw [e, sum_two, ih, ind_sum, nodup_count hR, if_pos (h x List.mem_cons_self), List.length_cons]
    omega
theorem celL_sum {n : Nat} {es : List Ed} {L : List Nat} (h : Lb n es L) : ((celL n L).map List.length).sum = n := by
  unfold celL
  rw [List.map_map]
  have := part_sum (rts_nodup n L) (ap L) (List.range n) fun x hx => mem_rts.mpr (root_ap h (List.mem_range.mp hx))
  rw [List.length_range] at this
  exact this
theorem cel_sum {n : Nat} {es : List Ed} (h : CN n es) : ((cel n es).map List.length).sum = n := celL_sum (lb_lj (okE_ve h.2.1))
/-! ### a second passage beside a bridge -/
theorem CN.wide {n b : Nat} {es : List Ed} (h : CN n es) (hb : b < es.length) : CN n (es ++ [es.getD b (0, 0)]) := by
  refine ⟨h.1, h.2.1.app fun e m => ?_, fun v hv => (h.2.2 v hv).mono fun e m => List.mem_append_left _ m⟩
  rw [List.mem_singleton.mp m]
  exact h.2.1 _ (List.mem_of_getElem? (getD_at hb))
theorem brg_wide {n b : Nat} {es : List Ed} (h : CN n es) (hb : b ∈ brg n es) : ∀ i, i ∈ brg n (es ++ [es.getD b (0, 0)]) → i ∈ brg n es ∧ i ≠ b := by
  intro i hi
  have bl := ((mem_brg h).mp hb).1
  have cw := h.wide bl
  obtain ⟨il, nc⟩ := (mem_brg cw).mp hi
  rw [List.length_append, List.length_singleton] at il
  have last : (es ++ [es.getD b (0, 0)])[es.length]? = some (es.getD b (0, 0)) := by simp
  have old : ∀ j e, es[j]? = some e → (es ++ [es.getD b (0, 0)])[j]? = some e := fun j e q => by
    rw [List.getElem?_append_left (List.getElem?_eq_some_iff.mp q).1]
    exact q
  have sub : ∀ k, (∀ e ∈ es.eraseIdx k, e ∈ (es ++ [es.getD b (0, 0)]).eraseIdx i) → conn n (es.eraseIdx k) → False := fun k q c => nc fun v hv => (c v hv).mono q
  have im : i ≠ es.length := fun z => by
    subst z
    refine nc fun v hv => (h.2.2 v hv).mono fun e m => ?_
    obtain ⟨j, hj, e1⟩ := List.mem_iff_getElem.mp m
    exact List.mem_eraseIdx_iff_getElem?.mpr ⟨j, by omega, old j e (by rw [List.getElem?_eq_getElem hj, e1])⟩
  have ib : i ≠ b := fun z => by
    subst z
    refine nc fun v hv => (h.2.2 v hv).mono fun e m => ?_
    obtain ⟨j, hj, e1⟩ := List.mem_iff_getElem.mp m
    have e2 : es[j]? = some e := by rw [List.getElem?_eq_getElem hj, e1]
    by_cases q : j = i
    · subst q
      rw [getD_at hj] at e2
      obtain rfl := Option.some.inj e2
      exact List.mem_eraseIdx_iff_getElem?.mpr ⟨es.length, by omega, last⟩
    · exact List.mem_eraseIdx_iff_getElem?.mpr ⟨j, q, old j e e2⟩
  refine ⟨(mem_brg h).mpr ⟨by omega, fun c => sub i (fun e m => ?_) c⟩, ib⟩
  obtain ⟨j, j1, j2⟩ := List.mem_eraseIdx_iff_getElem?.mp m
  exact List.mem_eraseIdx_iff_getElem?.mpr ⟨j, j1, old j e j2⟩
theorem len_sub : ∀ {l m : List Nat}, l.Nodup → (∀ x ∈ l, x ∈ m) → l.length ≤ m.length
  | [], _, _, _ => Nat.zero_le _
  | x :: l, m, h, hs => by
    have hx := hs x List.mem_cons_self
    have h2 := List.nodup_cons.mp h
    have := len_sub (m := m.erase x) h2.2 fun y hy => (List.mem_erase_of_ne fun z => h2.1 (by rw [← z]; exact hy)).mpr (hs y (List.mem_cons_of_mem _ hy))
    rw [List.length_erase_of_mem hx] at this
    have := List.length_pos_of_mem hx
    rw [List.length_cons]
    omega
theorem wide_less {n b : Nat} {es : List Ed} (h : CN n es) (hb : b ∈ brg n es) : (cel n (es ++ [es.getD b (0, 0)])).length < (cel n es).length := by
  have bl := ((mem_brg h).mp hb).1
  rw [cel_len h, cel_len (h.wide bl)]
  have := len_sub (l := brg n (es ++ [es.getD b (0, 0)])) (m := (brg n es).filter fun x => decide (x ≠ b)) (brg_nodup _ _) fun i hi => by
    obtain ⟨a, c⟩ := brg_wide h hb i hi
    exact List.mem_filter.mpr ⟨a, decide_eq_true c⟩
  have := len_drop (brg_nodup n es) hb
  omega
/-! ### trees -/
theorem tree_brg {n : Nat} {es : List Ed} (h : CN n es) (hl : es.length + 1 = n) : brg n es = List.range (n - 1) := by
  unfold brg
  rw [show n - 1 = es.length by omega]
  refine List.filter_eq_self.mpr fun i hi => ?_
  have il := List.mem_range.mp hi
  have ve := ve_erase (i := i) h.2.1
  have nc : ¬ cB n (es.eraseIdx i) = true := fun c => by
    have cn := (cB_iff ve h.1).mp c
    have one := rts_one (lb_lj ve) h.1 cn
    have := rts_fold (es.eraseIdx i) [] (List.range n) (lb_zero n) fun e m => ⟨Nat.lt_of_le_of_lt (ve e m).1 (ve e m).2, (ve e m).2⟩
    have e0 : rts n (List.range n) = List.range n := by
      unfold rts
      exact List.filter_eq_self.mpr fun x hx => decide_eq_true (ap_range (List.mem_range.mp hx))
    rw [e0, List.length_range, List.length_eraseIdx_of_lt il] at this
    change n ≤ (rts n (lj n (es.eraseIdx i))).length + _ at this
    rw [one] at this
    omega
  simp at nc ⊢
  exact nc
/-! ### what the cells look like -/
theorem cls_head {n : Nat} {es : List Ed} {L : List Nat} (h : Lb n es L) {l : Nat} (hl : l < n) (e : ap L l = l) : ∃ t, cls n L l = l :: t := by
  have hm : l ∈ cls n L l := mem_cls.mpr ⟨hl, e⟩
  have pw := filter_rise n fun x => decide (ap L x = l)
  change (cls n L l).Pairwise (· < ·) at pw
  cases ec : cls n L l with
  | nil => rw [ec] at hm; cases hm
  | cons a t =>
    refine ⟨t, ?_⟩
    have ha : a ∈ cls n L l := by rw [ec]; exact List.mem_cons_self
    obtain ⟨a1, a2⟩ := mem_cls.mp ha
    have := h.le a a1
    rw [ec] at hm pw
    rcases List.mem_cons.mp hm with z | z
    · rw [z]
    · have := (List.pairwise_cons.mp pw).1 l z
      omega
end Hw

/-! Other names of places and passages. No Python here. -/
namespace Hw
theorem filter_ext {n : Nat} {p q : Nat → Bool} (h : ∀ x, x < n → (p x = true ↔ q x = true)) : (List.range n).filter p = (List.range n).filter q :=
  List.filter_congr fun x hx => by
    have := h x (List.mem_range.mp hx)
    cases a : p x <;> cases b : q x <;> simp [a, b] at this <;> rfl
section
variable {n : Nat} {p : List Nat} (hp : IsP p) (hl : p.length = n)
include hp hl
theorem ren_back {fs : List Ed} (ve : VE n fs) {u v : Nat} (r : Rch (renE p fs) u v) : Rch fs (ap (inv p) u) (ap (inv p) v) := by
  refine r.map (ap (inv p)) fun e m => ?_
  obtain ⟨d, hd, rfl⟩ := List.mem_map.mp m
  have b := ve d hd
  have e1 : ap (inv p) (ap p d.1) = d.1 := ap_inv hp (by omega)
  have e2 : ap (inv p) (ap p d.2) = d.2 := ap_inv hp (by omega)
  rcases tie_cases (ap p d.1) (ap p d.2) with z | z
  · rw [z]
    show adj fs (ap (inv p) (ap p d.1)) (ap (inv p) (ap p d.2))
    rw [e1, e2]
    exact .inl hd
  · rw [z]
    show adj fs (ap (inv p) (ap p d.2)) (ap (inv p) (ap p d.1))
    rw [e1, e2]
    exact .inr hd
theorem ren_iff {fs : List Ed} (ve : VE n fs) {u v : Nat} (hu : u < n) (hv : v < n) : Rch (renE p fs) (ap p u) (ap p v) ↔ Rch fs u v := by
  refine ⟨fun r => ?_, fun r => r.ren p⟩
  have := ren_back hp hl ve r
  rw [ap_inv hp (by omega), ap_inv hp (by omega)] at this
  exact this
theorem conn_ren {fs : List Ed} (ve : VE n fs) (hn : 1 ≤ n) : conn n (renE p fs) ↔ conn n fs := by
  have lt : ∀ x, x < n → ap p x < n := fun x hx => by rw [← hl]; exact ap_lt hp (by omega)
  have sur : ∀ y, y < n → ∃ x, x < n ∧ ap p x = y := fun y hy => by
    obtain ⟨x, a, b⟩ := ap_surj hp (y := y) (by omega)
    exact ⟨x, by omega, b⟩
  constructor
  · intro c v hv
    have a := (ren_iff hp hl ve hn hv).mp (((c _ (lt 0 hn)).symm).trans (c _ (lt v hv)))
    exact a
  · intro c v hv
    obtain ⟨x, hx, rfl⟩ := sur v hv
    obtain ⟨z, hz, ez⟩ := sur 0 hn
    rw [← ez]
    exact (ren_iff hp hl ve hz hx).mpr ((c z hz).symm.trans (c x hx))
end
/-- the passages in the order q, the places named by p -/
def ordE (q : List Nat) (es : List Ed) : List Ed := q.map fun j => es.getD j (0, 0)
def renQ (p q : List Nat) (es : List Ed) : List Ed := q.map fun j => tieF (ap p (es.getD j (0, 0)).1) (ap p (es.getD j (0, 0)).2)
theorem renQ_eq (p q : List Nat) (es : List Ed) : renQ p q es = renE p (ordE q es) := by
  unfold renQ renE ordE
  rw [List.map_map]
  rfl
theorem ord_range (es : List Ed) : ordE (List.range es.length) es = es := by
  unfold ordE
  refine List.ext_getElem? fun i => ?_
  rw [List.getElem?_map]
  by_cases h : i < es.length
  · rw [List.getElem?_range h, getD_at h]
    rfl
  · rw [List.getElem?_eq_none (by rw [List.length_range]; omega), List.getElem?_eq_none (by omega)]
    rfl
section
variable {n : Nat} {es : List Ed} (h : CN n es) {p q : List Nat} (hp : IsP p) (hl : p.length = n) (hq : IsP q) (ql : q.length = es.length)
include hq ql
theorem ord_perm : (ordE q es).Perm es := by
  have a := (perm_range hq).map fun j => es.getD j (0, 0)
  rw [ql] at a
  have b := ord_range es
  unfold ordE at b ⊢
  rw [b] at a
  exact a
theorem ord_erase {k : Nat} (hk : k < es.length) (e : Ed) : e ∈ (ordE q es).eraseIdx k ↔ e ∈ es.eraseIdx (ap q k) := by
  rw [List.mem_eraseIdx_iff_getElem?, List.mem_eraseIdx_iff_getElem?]
  unfold ordE
  constructor
  · rintro ⟨j, jk, ej⟩
    rw [List.getElem?_map] at ej
    have jl : j < q.length := by
      by_cases z : j < q.length
      · exact z
      · rw [List.getElem?_eq_none (by omega)] at ej
        cases ej
    rw [ap_get jl] at ej
    obtain rfl : es.getD (ap q j) (0, 0) = e := Option.some.inj ej
    refine ⟨ap q j, fun z => jk (ap_inj hq jl (by omega) z), getD_at (by rw [← ql]; exact ap_lt hq jl)⟩
  · rintro ⟨j, jk, ej⟩
    have jl := (List.getElem?_eq_some_iff.mp ej).1
    obtain ⟨i, hi, rfl⟩ := ap_surj hq (y := j) (by omega)
    refine ⟨i, fun z => jk (by rw [z]), ?_⟩
    rw [List.getElem?_map, ap_get hi]
    rw [getD_at jl] at ej
    exact ej
include h hp hl
theorem CN.renQ : CN n (renQ p q es) := by
  rw [renQ_eq]
  exact (h.perm (ord_perm hq ql)).ren hp hl
omit h hp hl in
theorem renQ_len : (Hw.renQ p q es).length = es.length := by
  unfold Hw.renQ
  rw [List.length_map, ql]
omit hp hl in
theorem ord_ve (k : Nat) : VE n ((ordE q es).eraseIdx k) := ve_erase (h.perm (ord_perm hq ql)).2.1
omit h hp hl hq ql in
theorem renQ_erase (k : Nat) : (Hw.renQ p q es).eraseIdx k = renE p ((ordE q es).eraseIdx k) := by
  rw [renQ_eq]
  unfold renE
  rw [List.eraseIdx_eq_take_drop_succ, List.eraseIdx_eq_take_drop_succ, List.map_append, List.map_take, List.map_drop]
theorem rch_renQ {k u v : Nat} (hk : k < es.length) (hu : u < n) (hv : v < n) : Rch ((Hw.renQ p q es).eraseIdx k) (ap p u) (ap p v) ↔ Rch (es.eraseIdx (ap q k)) u v := by
  rw [renQ_erase, ren_iff hp hl (ord_ve h hq ql k) hu hv]
  exact Rch.iff (ord_erase hq ql hk)
theorem mem_brg_ren {k : Nat} : k ∈ brg n (Hw.renQ p q es) ↔ k < es.length ∧ ap q k ∈ brg n es := by
  rw [mem_brg (h.renQ hp hl hq ql), mem_brg h, renQ_len hq ql]
  constructor
  · rintro ⟨a, b⟩
    refine ⟨a, by rw [← ql]; exact ap_lt hq (by omega), fun c => b ?_⟩
    rw [renQ_erase]
    refine (conn_ren hp hl (ord_ve h hq ql k) h.1).mpr fun v hv => ?_
    exact (Rch.iff (ord_erase hq ql a)).mpr (c v hv)
  · rintro ⟨a, _, b⟩
    refine ⟨a, fun c => b ?_⟩
    rw [renQ_erase] at c
    have c := (conn_ren hp hl (ord_ve h hq ql k) h.1).mp c
    exact fun v hv => (Rch.iff (ord_erase hq ql a)).mp (c v hv)
theorem brg_ren : ((brg n (Hw.renQ p q es)).map (ap q)).Perm (brg n es) := by
  refine perm_of_mem ?_ (brg_nodup _ _) fun x => ?_
  · rw [List.nodup_iff_pairwise_ne, List.pairwise_map]
    refine List.Pairwise.imp_of_mem (fun {a b} ha hb ne e => ne ?_) (List.nodup_iff_pairwise_ne.mp (brg_nodup _ _))
    have a1 := ((mem_brg_ren h hp hl hq ql).mp ha).1
    have b1 := ((mem_brg_ren h hp hl hq ql).mp hb).1
    exact ap_inj hq (by omega) (by omega) e
  · rw [List.mem_map]
    constructor
    · rintro ⟨k, hk, rfl⟩
      exact ((mem_brg_ren h hp hl hq ql).mp hk).2
    · intro hx
      have xl := ((mem_brg h).mp hx).1
      obtain ⟨k, hk, rfl⟩ := ap_surj hq (y := x) (by omega)
      exact ⟨k, (mem_brg_ren h hp hl hq ql).mpr ⟨by omega, hx⟩, rfl⟩
theorem rch_inn {u v : Nat} (hu : u < n) (hv : v < n) : Rch (inn n (Hw.renQ p q es)) (ap p u) (ap p v) ↔ Rch (inn n es) u v := by
  have lt : ∀ x, x < n → ap p x < n := fun x hx => by rw [← hl]; exact ap_lt hp (by omega)
  rw [sep (h.renQ hp hl hq ql) (lt u hu) (lt v hv), sep h hu hv, renQ_len hq ql]
  constructor
  · intro a i hi
    obtain ⟨k, hk, rfl⟩ := ap_surj hq (y := i) (by omega)
    exact (rch_renQ h hp hl hq ql (by omega) hu hv).mp (a k (by omega))
  · intro a k hk
    exact (rch_renQ h hp hl hq ql hk hu hv).mpr (a _ (by rw [← ql]; exact ap_lt hq (by omega)))
end
/-! ### cells -/
theorem mem_cel {n : Nat} {es : List Ed} (h : CN n es) {c : List Nat} : c ∈ cel n es ↔ ∃ x, x < n ∧ c = cls n (lj n (inn n es)) (ap (lj n (inn n es)) x) := by
  have lb := lb_lj (okE_ve (ok := fun j => !decide (j ∈ brg n es)) h.2.1)
  change Lb n (inn n es) (lj n (inn n es)) at lb
  unfold cel celL
  rw [List.mem_map]
  constructor
  · rintro ⟨l, hl, rfl⟩
    obtain ⟨a, b⟩ := mem_rts.mp hl
    exact ⟨l, a, by rw [b]⟩
  · rintro ⟨x, hx, rfl⟩
    exact ⟨_, mem_rts.mpr (root_ap lb hx), rfl⟩
theorem mem_clsr {n : Nat} {es : List Ed} (h : CN n es) {x y : Nat} (hx : x < n) : y ∈ cls n (lj n (inn n es)) (ap (lj n (inn n es)) x) ↔ y < n ∧ Rch (inn n es) x y := by
  have ve : VE n (inn n es) := okE_ve h.2.1
  rw [mem_cls]
  constructor
  · rintro ⟨a, b⟩
    exact ⟨a, ((lj_same ve a hx).mp b).symm⟩
  · rintro ⟨a, b⟩
    exact ⟨a, (lj_same ve a hx).mpr b.symm⟩
def img (n : Nat) (p c : List Nat) : List Nat := (List.range n).filter fun y => decide (y ∈ c.map (ap p))
theorem cel_rise {n : Nat} {es : List Ed} (h : CN n es) : (cel n es).Pairwise fun c d => ∃ a t b s, c = a :: t ∧ d = b :: s ∧ a < b := by
  have lb := lb_lj (okE_ve (ok := fun j => !decide (j ∈ brg n es)) h.2.1)
  change Lb n (inn n es) (lj n (inn n es)) at lb
  unfold cel celL
  rw [List.pairwise_map]
  refine List.Pairwise.imp_of_mem (fun {a b} ha hb lt => ?_) (filter_rise n _)
  obtain ⟨a1, a2⟩ := mem_rts.mp ha
  obtain ⟨b1, b2⟩ := mem_rts.mp hb
  obtain ⟨t, ht⟩ := cls_head lb a1 a2
  obtain ⟨s, hs⟩ := cls_head lb b1 b2
  exact ⟨a, t, b, s, ht, hs, lt⟩
theorem cel_nodup {n : Nat} {es : List Ed} (h : CN n es) : (cel n es).Nodup := by
  rw [List.nodup_iff_pairwise_ne]
  refine List.Pairwise.imp (fun {c d} z e => ?_) (cel_rise h)
  obtain ⟨a, t, b, s, rfl, rfl, lt⟩ := z
  cases e
  omega
section
variable {n : Nat} {es : List Ed} (h : CN n es) {p q : List Nat} (hp : IsP p) (hl : p.length = n) (hq : IsP q) (ql : q.length = es.length)
include h hp hl hq ql
theorem img_cls {x : Nat} (hx : x < n) : img n p (cls n (lj n (inn n es)) (ap (lj n (inn n es)) x)) = cls n (lj n (inn n (renQ p q es))) (ap (lj n (inn n (renQ p q es))) (ap p x)) := by
  have lt : ∀ x, x < n → ap p x < n := fun x hx => by rw [← hl]; exact ap_lt hp (by omega)
  have cr := h.renQ hp hl hq ql
  have e : cls n (lj n (inn n (renQ p q es))) (ap (lj n (inn n (renQ p q es))) (ap p x)) = (List.range n).filter fun y => decide (y ∈ cls n (lj n (inn n (renQ p q es))) (ap (lj n (inn n (renQ p q es))) (ap p x))) := by
    conv => lhs; unfold cls
    refine filter_ext fun y hy => ?_
    rw [decide_eq_true_eq, decide_eq_true_eq, mem_cls]
    exact ⟨fun z => ⟨hy, z⟩, fun z => z.2⟩
  rw [e]
  unfold img
  refine filter_ext fun y hy => ?_
  rw [decide_eq_true_eq, decide_eq_true_eq, mem_clsr cr (lt x hx), List.mem_map]
  constructor
  · rintro ⟨z, hz, rfl⟩
    obtain ⟨a, b⟩ := (mem_clsr h hx).mp hz
    exact ⟨hy, (rch_inn h hp hl hq ql hx a).mpr b⟩
  · rintro ⟨_, b⟩
    obtain ⟨z, hz, rfl⟩ := ap_surj hp (y := y) (by omega)
    exact ⟨z, (mem_clsr h hx).mpr ⟨by omega, (rch_inn h hp hl hq ql hx (by omega)).mp b⟩, rfl⟩
theorem cel_ren : ((cel n es).map (img n p)).Perm (cel n (renQ p q es)) := by
  have lt : ∀ x, x < n → ap p x < n := fun x hx => by rw [← hl]; exact ap_lt hp (by omega)
  have cr := h.renQ hp hl hq ql
  have mem : ∀ c', c' ∈ (cel n es).map (img n p) ↔ c' ∈ cel n (renQ p q es) := fun c' => by
    rw [List.mem_map, mem_cel cr]
    constructor
    · rintro ⟨c, hc, rfl⟩
      obtain ⟨x, hx, rfl⟩ := (mem_cel h).mp hc
      exact ⟨ap p x, lt x hx, img_cls h hp hl hq ql hx⟩
    · rintro ⟨x', hx', rfl⟩
      obtain ⟨x, hx, rfl⟩ := ap_surj hp (y := x') (by omega)
      exact ⟨_, (mem_cel h).mpr ⟨x, by omega, rfl⟩, img_cls h hp hl hq ql (by omega)⟩
  refine (List.perm_ext_iff_of_nodup ?_ (cel_nodup cr)).mpr mem
  rw [List.nodup_iff_pairwise_ne, List.pairwise_map]
  refine List.Pairwise.imp_of_mem (fun {c d} hc hd ne e => ne ?_) (List.nodup_iff_pairwise_ne.mp (cel_nodup h))
  obtain ⟨x, hx, rfl⟩ := (mem_cel h).mp hc
  obtain ⟨y, hy, rfl⟩ := (mem_cel h).mp hd
  rw [img_cls h hp hl hq ql hx, img_cls h hp hl hq ql hy] at e
  have m : ap p y ∈ cls n (lj n (inn n (renQ p q es))) (ap (lj n (inn n (renQ p q es))) (ap p y)) := (mem_clsr cr (lt y hy)).mpr ⟨lt y hy, .refl _⟩
  rw [← e] at m
  have r := (rch_inn h hp hl hq ql hx hy).mp ((mem_clsr cr (lt x hx)).mp m).2
  have ve : VE n (inn n es) := okE_ve h.2.1
  rw [(lj_same ve hx hy).mpr r]
end
/-- sorted, the same numbers -/
theorem img_of {n : Nat} {p c s : List Nat} (hp : IsP p) (hl : p.length = n) (hc : c.Nodup) (lt : ∀ x ∈ c, x < n) (ps : s.Perm (c.map (ap p))) (so : s.Pairwise (· ≤ ·)) : s = img n p c := by
  have nd : (c.map (ap p)).Nodup := by
    rw [List.nodup_iff_pairwise_ne, List.pairwise_map]
    refine List.Pairwise.imp_of_mem (fun {a b} ha hb ne e => ne ?_) (List.nodup_iff_pairwise_ne.mp hc)
    exact ap_inj hp (by rw [hl]; exact lt a ha) (by rw [hl]; exact lt b hb) e
  have p2 : (img n p c).Perm (c.map (ap p)) := perm_of_mem (List.Nodup.sublist List.filter_sublist List.nodup_range) nd fun y => by
    unfold img
    rw [List.mem_filter, decide_eq_true_eq, List.mem_range]
    refine ⟨fun z => z.2, fun z => ⟨?_, z⟩⟩
    obtain ⟨x, hx, rfl⟩ := List.mem_map.mp z
    rw [← hl]
    exact ap_lt hp (by rw [hl]; exact lt x hx)
  refine List.Perm.eq_of_pairwise (fun a b _ _ x y => Nat.le_antisymm x y) so ?_ (ps.trans p2.symm)
  exact List.Pairwise.imp (fun z => Nat.le_of_lt z) (filter_rise n _)
theorem rise_eq {s t : List Nat} (ps : s.Perm t) (so : s.Pairwise (· ≤ ·)) (st : t.Pairwise (· < ·)) : s = t :=
  List.Perm.eq_of_pairwise (fun a b _ _ x y => Nat.le_antisymm x y) so (List.Pairwise.imp (fun z => Nat.le_of_lt z) st) ps
end Hw

namespace Hw
open PySem PySem.Spec PyProof.Rows L2
/-! ### over a list or a tuple -/
def SeqR (K : PySem.W.Frag) (H1 : Hp) (a : Addr) (R : It → Hp → Prop) : Prop := ((∃ xs, SqL K H1 a xs) ∧ R (Itl K a) H1) ∨ ((∃ xs, SqT K H1 a xs) ∧ R (Itt K a) H1)
def iSeq (K : PySem.W.Frag) (tl : TE) : TI := fun σ H R => tl σ H fun x H1 => ∃ a, x = .ref a ∧ SeqR K H1 a R
theorem pi_seq {X : Cx} {tg l : Expr} {tl : TE} (hl : PE X l tl) : PI X tg l (iSeq X.K tl) := by
  refine ⟨fun pins s σ H R I h => ?_⟩
  refine thn (hl.run pins s σ H _ I h) fun v s1 ⟨x, H1, I1, r1, q1⟩ => ?_
  obtain ⟨a, e, q1⟩ := q1
  subst e
  cases r1
  rcases q1 with ⟨⟨xs, hq⟩, q⟩ | ⟨⟨xs, hq⟩, q⟩
  · obtain ⟨its, rv, p, hz⟩ := I1.list hq
    refine wpAny_pyIter_list p.isList ?_
    refine ⟨s1.heap.objs.size, [s1.heap.objs.size], _, _, H1, rfl, I1.kept (t' := s1.toks) fun b o e => Heap.get?_push_of_some _ e, turn_list a _, ⟨_, Heap.get?_push_size _ rfl, rfl, rfl⟩, fun b hb => ?_, q⟩
    have e : b = s1.heap.objs.size := by simpa using hb
    subst e
    exact I1.fpOk (Nat.le_refl _) (I1.hok.fresh (Nat.le_refl _))
  · obtain ⟨its, rv, p, hz⟩ := I1.tuple hq
    refine wpAny_pyIter_tuple (show s1.heap.IsTuple a its.toArray from p) ?_
    refine ⟨s1.heap.objs.size, [s1.heap.objs.size], _, _, H1, rfl, I1.kept (t' := s1.toks) fun b o e => Heap.get?_push_of_some _ e, turn_tuple a _, ⟨_, Heap.get?_push_size _ rfl, rfl, rfl⟩, fun b hb => ?_, q⟩
    have e : b = s1.heap.objs.size := by simpa using hb
    subst e
    exact I1.fpOk (Nat.le_refl _) (I1.hok.fresh (Nat.le_refl _))
def EdS (H : Hp) (a : Addr) (es : List Ed) : Prop := EdL H a es ∨ EdT H a es
theorem EdS.same {H H' : Hp} {l : Addr} {es : List Ed} (h : EdS H l es) (s : Same H H') : EdS H' l es := h.elim (fun z => .inl (z.same s)) fun z => .inr (z.same s)
/-- a turn gives the pair that stands there -/
def YEd (H1 : Hp) (es : List Ed) : Nat → Hp → V → Hp → Prop := fun i H x H' => H' = H ∧ ∃ k e, x = V.ref k ∧ es[i]? = some e ∧ Tp H1 k (pl e)
theorem eds_it {K : PySem.W.Frag} {H1 : Hp} {a : Addr} {es : List Ed} (h : EdS H1 a es) {R : It → Hp → Prop} (q : ∀ J, Walk J es.length (fun H' => Same H1 H') (YEd H1 es) → R J H1) :
    SeqR K H1 a R := by
  rcases h with ⟨ks, k1, k2, k3⟩ | ⟨ks, k1, k2, k3⟩
  all_goals
    have y : ∀ i v, (ks.map fun k => V.ref k.1)[i]? = some v → ∃ k e, v = V.ref k ∧ es[i]? = some e ∧ Tp H1 k (pl e) := fun i v hv => by
      obtain ⟨k, hk, rfl⟩ := refs_get hv
      obtain ⟨e, he, ek⟩ := ed_get k2 hk
      exact ⟨k.1, e, rfl, he, by rw [← ek]; exact k3 k (List.mem_of_getElem? hk)⟩
  · have w := walk_list (K := K) (a := a) (xs := ks.map fun k => V.ref k.1)
    rw [nv_len, ed_len k2] at w
    exact .inl ⟨⟨_, sl_of k1⟩, q _ (w.mono (fun H' s => sl_of (s _ _ k1)) fun i H x H' _ _ z => ⟨z.1, y i x z.2⟩)⟩
  · have w := walk_tup (K := K) (a := a) (xs := ks.map fun k => V.ref k.1)
    rw [nv_len, ed_len k2] at w
    exact .inr ⟨⟨_, sq_of k1⟩, q _ (w.mono (fun H' s => sq_of (s _ _ k1)) fun i H x H' _ _ z => ⟨z.1, y i x z.2⟩)⟩
section
variable {P : Program} {w : World} {K : PySem.W.Frag} {mg : Str → Option Value} {base : Heap}
/-! ### _is_passage -/
def spIsPassage : Sp := fun vs H Q _ => ∃ (k : Addr) (e : Ed) (n : Nat), vs = [.ref k, .int (n : Int)] ∧ Tp H k (pl e) ∧ e.1 ≤ e.2 ∧ e.2 < n ∧ Q (.bl true) H
abbrev nIsP : List Str := ["value", "places", "u", "v"]
theorem scIsPassage : FnScope nIsP ["value", "places"] (defScope sIsPassage) := ⟨rfl, rfl, rfl, by decide +kernel, rfl, by decide +kernel, by decide +kernel⟩
theorem cal_isPassage (T : Txt mg) (GI : Cal P w K mg base "is_index" 2 spIndex) (D : Df K mg "_is_passage" sIsPassage ["value", "places"]) : Cal P w K mg base "_is_passage" 3 spIsPassage := by
  have nd := scIsPassage.nd
  refine cal_of D scIsPassage (fun vs H Q E h => ?_) (fun f cdv A outer s0 H vs Q E hr h => ?_)
  · obtain ⟨k, e, n, rfl, _⟩ := h
    rfl
  · obtain ⟨k, e, n, rfl, hk, h1, h2, q⟩ := h
    refine ⟨_, pss_cons (ps_if (PW.pt (pw_or (pt_not (pt_val (pe_callB call_isi (by rfl) T.isinstance (by decide +kernel) (pa_cons (pv 0) (pa_cons (pe_bltn (v := .ty "tuple") (by rfl) T.tuple (by decide +kernel) rfl) pa_nil)))))
        (pw_or1 (pt_cmpR op_ne (pe_callB cr_len (by rfl) T.len PySem.boot_len (pa_cons (pv 0) pa_nil)) pe_int (nomark _))))) (pss_one ps_never) pss_nil)
      <| pss_cons (ps_asg (pv 0) (pg_tup rfl (pgs_cons (pg_name (i := 2) nd rfl (.inl rfl)) (pgs_cons (pg_name (i := 3) nd rfl (.inl rfl)) pgs_nil))))
      <| pss_one (ps_ret (pe_and (pe_cl GI hr (by rfl) (pa_cons (pv 2) (pa_cons (pv 1) pa_nil))) (pe_and (pe_cl GI hr (by rfl) (pa_cons (pv 3) (pa_cons (pv 1) pa_nil))) (pe_one (pe_cmpR op_le (pv 2) (pv 3) (nomark _)))))), ?_⟩
    refine ⟨_, rfl, _, _, _, _, true, rfl, .ty _, .base (.tup hk), kit_ty (by decide +kernel), true, rfl, iteF ?_⟩
    refine ⟨_, rfl, k, _, rfl, .inr (sq_of hk), rfl, _, rfl, iteF ?_⟩
    refine ⟨_, rfl, k, _, rfl, sq_of hk, rfl, _, _, rfl, _, _, rfl, rfl, ?_⟩
    refine ⟨_, rfl, _, rfl, _, _, rfl, ?_⟩
    have b1 : decide ((0 : Int) ≤ (e.1 : Int) ∧ (e.1 : Int) < (n : Int)) = true := decide_eq_true ⟨by omega, by omega⟩
    have b2 : decide ((0 : Int) ≤ (e.2 : Int) ∧ (e.2 : Int) < (n : Int)) = true := decide_eq_true ⟨by omega, by omega⟩
    have b3 : decide ((e.1 : Int) ≤ (e.2 : Int)) = true := decide_eq_true (by omega)
    refine ⟨_, rfl, ?_⟩
    rw [b1]
    refine iteT ⟨_, rfl, _, rfl, _, _, rfl, _, rfl, ?_⟩
    rw [b2]
    refine iteT ⟨_, rfl, _, rfl, _, _, rfl, rfl, ?_⟩
    show Q (V.bl (decide ((e.1 : Int) ≤ (e.2 : Int)))) H
    rw [b3]
    exact q
/-! ### _first_wrong -/
def spFirstWrong : Sp := fun vs H Q _ => ∃ (a : Addr) (n : Nat) (es : List Ed), vs = [.ref a, .int (n : Int)] ∧ EdT H a es ∧ VE n es ∧ ∀ H', Same H H' → Q .non H'
abbrev nFw : List Str := ["values", "places", "index", "value"]
theorem scFirstWrong : FnScope nFw ["values", "places"] (defScope sFirstWrong) := ⟨rfl, rfl, rfl, by decide +kernel, rfl, by decide +kernel, by decide +kernel⟩
theorem cal_firstWrong (T : Txt mg) (GI : Cal P w K mg base "_is_passage" 3 spIsPassage) (D : Df K mg "_first_wrong" sFirstWrong ["values", "places"]) : Cal P w K mg base "_first_wrong" 4 spFirstWrong := by
  have nd := scFirstWrong.nd
  refine cal_of D scFirstWrong (fun vs H Q E h => ?_) (fun f cdv A outer s0 H vs Q E hr h => ?_)
  · obtain ⟨a, n, es, rfl, _⟩ := h
    rfl
  · obtain ⟨a, n, es, rfl, ⟨ks, k1, k2, k3⟩, ve, q⟩ := h
    refine ⟨_, pss_cons (ps_for PassesOwn.never rfl (pi_enumT (by rfl) T.enumerate (pa_cons (pv 0) pa_nil)) (pg_tup rfl (pgs_cons (pg_name (i := 2) nd rfl (.inl rfl)) (pgs_cons (pg_name (i := 3) nd rfl (.inl rfl)) pgs_nil)))
          (pss_one (ps_if (pt_not (pt_val (pe_cl GI hr (by rfl) (pa_cons (pv 3) (pa_cons (pv 1) pa_nil))))) (pss_one ps_never) pss_nil)))
      <| pss_one (ps_ret pe_non), ?_⟩
    refine ⟨_, rfl, a, _, rfl, sq_of k1, for_it (walk_enumT (xs := ks.map fun k => V.ref k.1)) (fun i σ H' => ∃ v2 v3, σ = [some (.ref a), some (.int (n : Int)), v2, v3] ∧ Same H H') ⟨_, _, rfl, fun _ _ h => h⟩ (fun i σ H' _ ⟨_, _, _, sm⟩ => sq_of (sm _ _ k1)) ?_ ?_⟩
    · rintro i x σ H3 H4 hi ⟨v2, v3, rfl, sm⟩ ⟨T1, i', y, rfl, nT, rfl, ei, ey⟩
      obtain rfl : V.int (i : Int) = i' := Option.some.inj ei
      obtain ⟨k, hk, rfl⟩ := refs_get ey
      obtain ⟨e, he, ek⟩ := ed_get k2 hk
      have smT := sm.trans (same_upd (o := .tup [V.int (i : Int), V.ref k.1]) nT)
      have tk := smT _ _ (k3 k (List.mem_of_getElem? hk))
      have b := ve e (List.mem_of_getElem? he)
      refine ⟨T1, _, rfl, .inl (.inl upd_same), rfl, _, _, rfl, _, _, rfl, rfl, ?_⟩
      refine ⟨_, rfl, _, rfl, k.1, e, n, rfl, by rw [← ek]; exact tk, b.1, b.2, ?_⟩
      exact ⟨_, rfl, iteF ⟨_, _, rfl, smT⟩⟩
    · rintro σ H3 ⟨v2, v3, rfl, sm⟩
      exact q H3 sm
/-! ### _least_joined -/
def spLeast : Sp := fun vs H Q _ => ∃ (a : Addr) (n : Nat) (es : List Ed), vs = [.int (n : Int), .ref a] ∧ EdS H a es ∧ VE n es ∧ n ≤ 100 ∧ es.length ≤ 100 ∧ ∀ H' r, Same H H' → H r = none → H' r = some (.lst (NV (lj n es))) → Q (.ref r) H'
abbrev nLj : List Str := ["places", "passages", "least", "u", "v", "low", "high", "place"]
theorem scLeast : FnScope nLj ["places", "passages"] (defScope sLeast) := ⟨rfl, rfl, rfl, by decide +kernel, rfl, by decide +kernel, by decide +kernel⟩
theorem lj_take {n : Nat} {es : List Ed} {i : Nat} {e : Ed} (he : es[i]? = some e) : (es.take (i + 1)).foldl ljStep (List.range n) = ljStep ((es.take i).foldl ljStep (List.range n)) e := by
  rw [List.take_add_one, he, List.foldl_append]
  rfl
theorem lj_len (n : Nat) : ∀ (es : List Ed) (L : List Nat), (es.foldl ljStep L).length = L.length
  | [], _ => rfl
  | e :: es, L => by
    rw [List.foldl_cons, lj_len n es]
    unfold ljStep
    rw [List.length_map]
theorem cal_least (T : Txt mg) (D : Df K mg "_least_joined" sLeast ["places", "passages"]) : Cal P w K mg base "_least_joined" 1 spLeast := by
  have nd := scLeast.nd
  refine cal_of D scLeast (fun vs H Q E h => ?_) (fun f cdv A outer s0 H vs Q E hr h => ?_)
  · obtain ⟨a, n, es, rfl, _⟩ := h
    rfl
  · obtain ⟨a, n, es, rfl, he, ve, hn, hl, q⟩ := h
    refine ⟨_, pss_cons (ps_set (i := 2) nd rfl (.inl rfl) (pe_listRg (by rfl) (by rfl) T.list (prg_1 (by rfl) T.range (pv 0))))
      <| pss_cons (ps_for PassesOwn.never rfl (pi_seq (pv 1)) (pg_tup rfl (pgs_cons (pg_name (i := 3) nd rfl (.inl rfl)) (pgs_cons (pg_name (i := 4) nd rfl (.inl rfl)) pgs_nil)))
          (pss_cons (ps_set (i := 5) nd rfl (.inr rfl) (pe_callB (call_min2 rfl) (by rfl) T.min (by decide +kernel) (pa_cons (pe_ix (r := rIxL K) ix_list (pv 2) (pv 3) (fun _ _ => rfl)) (pa_cons (pe_ix (r := rIxL K) ix_list (pv 2) (pv 4) (fun _ _ => rfl)) pa_nil))))
          <| pss_cons (ps_set (i := 6) nd rfl (.inr rfl) (pe_callB (call_max2 rfl) (by rfl) T.max (by decide +kernel) (pa_cons (pe_ix (r := rIxL K) ix_list (pv 2) (pv 3) (fun _ _ => rfl)) (pa_cons (pe_ix (r := rIxL K) ix_list (pv 2) (pv 4) (fun _ _ => rfl)) pa_nil))))
          <| pss_one (ps_setLc (i := 2) (own := [("place", 7)]) (g := gName 7) (by rfl) nd rfl rfl (sw_true rfl rfl rfl (by decide +kernel)) (pi_list (pv 2))
              (blkOk_by (own := [("place", 7)]) (N := nLj) (sc := defScope sLeast) (by decide +kernel)) (fun _ _ _ _ _ => pg_name (i := 7) nd rfl (.inl rfl)) (fun _ _ _ _ _ => pts_nil)
              (fun _ _ _ _ _ => pe_ifExp (pt_cmpR op_eq (pv 7) (pv 6) (nomark _)) (pv 5) (pv 7)))))
      <| pss_one (ps_ret (pv 2)), ?_⟩
    refine ⟨_, rfl, _, rfl, RgOk.of_le (by omega) (by omega) (by omega) (by omega), fun l0 n0 => ?_⟩
    rw [NV_range]
    have s1 := same_upd (o := .lst (NV (List.range n))) n0
    have hl0 : upd H l0 (.lst (NV (List.range n))) l0 = some (.lst (NV (List.range n))) := upd_same
    have he1 := he.same s1
    generalize upd H l0 (.lst (NV (List.range n))) = H1 at *
    refine ⟨_, rfl, a, rfl, eds_it he1 fun J W => for_it W (fun i σ H' => ∃ l v3 v4 v5 v6 v7, σ = [some (.int (n : Int)), some (.ref a), some (.ref l), v3, v4, v5, v6, v7] ∧ Same H1 H' ∧ H l = none ∧ H' l = some (.lst (NV ((es.take i).foldl ljStep (List.range n)))))
      ⟨l0, _, _, _, _, _, rfl, fun _ _ h => h, n0, hl0⟩ (fun i σ H' _ ⟨_, _, _, _, _, _, _, sm, _⟩ => sm) ?_ ?_⟩
    · rintro i x σ H2 H3 hi ⟨l, v3, v4, v5, v6, v7, rfl, sm, nl, hL⟩ ⟨rfl, k, e, rfl, hei, hk⟩
      have tk := sm _ _ hk
      have b := ve e (List.mem_of_getElem? hei)
      rw [lj_take hei]
      have Ll : ((es.take i).foldl ljStep (List.range n)).length = n := by rw [lj_len n, List.length_range]
      generalize (es.take i).foldl ljStep (List.range n) = L at *
      have g1 : atI (NV L) ((e.1 : Nat) : Int) = some (.int ((ap L e.1 : Nat) : Int)) := atI_nat (NV_get (ap_get (by omega)))
      have g2 : atI (NV L) ((e.2 : Nat) : Int) = some (.int ((ap L e.2 : Nat) : Int)) := atI_nat (NV_get (ap_get (by omega)))
      have m1 : (if ((ap L e.2 : Nat) : Int) < ((ap L e.1 : Nat) : Int) then ((ap L e.2 : Nat) : Int) else ((ap L e.1 : Nat) : Int)) = ((min (ap L e.1) (ap L e.2) : Nat) : Int) := by
        split <;> omega
      have m2 : (if ((ap L e.2 : Nat) : Int) > ((ap L e.1 : Nat) : Int) then ((ap L e.2 : Nat) : Int) else ((ap L e.1 : Nat) : Int)) = ((max (ap L e.1) (ap L e.2) : Nat) : Int) := by
        split <;> omega
      refine ⟨k, _, rfl, sq_of tk, rfl, _, _, rfl, _, _, rfl, rfl, ?_⟩
      refine ⟨_, rfl, _, rfl, l, _, _, _, rfl, rfl, sl_of hL, g1, _, rfl, _, rfl, l, _, _, _, rfl, rfl, sl_of hL, g2, _, _, rfl, ?_⟩
      dsimp only
      rw [m1]
      refine ⟨_, rfl, _, rfl, l, _, _, _, rfl, rfl, sl_of hL, g1, _, rfl, _, rfl, l, _, _, _, rfl, rfl, sl_of hL, g2, _, _, rfl, ?_⟩
      dsimp only
      rw [m2]
      refine ⟨_, rfl, l, rfl, ⟨_, sl_of hL⟩, fun D nD => lc_it (walk_list (xs := NV L)) (fun j H' => Same H3 H' ∧ H' D = some (.lst (NV ((ljStep L e).take j)))) ⟨same_upd nD, by rw [upd_same]; rfl⟩ (fun j H' _ ⟨s4, _⟩ => sl_of (s4 _ _ hL)) ?_ ?_⟩
      · rintro j y H4 H5 hj ⟨s4, hD⟩ ⟨rfl, hy⟩
        rw [NV_len] at hj
        obtain ⟨z, hz, rfl⟩ := NV_get' hy
        have low : (ljStep L e).take (j + 1) = (ljStep L e).take j ++ [if z = max (ap L e.1) (ap L e.2) then min (ap L e.1) (ap L e.2) else z] := by
          unfold ljStep
          rw [List.take_add_one, List.getElem?_map, hz]
          rfl
        have fin : ∀ v : Nat, v = (if z = max (ap L e.1) (ap L e.2) then min (ap L e.1) (ap L e.2) else z) → ∃ acc, H5 D = some (.lst acc) ∧ acc.length < sizeLine ∧ (Same H3 (upd H5 D (.lst (acc ++ [V.int (v : Int)]))) ∧ upd H5 D (.lst (acc ++ [V.int (v : Int)])) D = some (.lst (NV ((ljStep L e).take (j + 1))))) := fun v ev => by
          refine ⟨_, hD, ?_, fun b o eb => ?_, ?_⟩
          · rw [NV_len, List.length_take]
            exact Nat.lt_of_le_of_lt (Nat.min_le_left _ _) (small1000 (by omega))
          · rw [upd_ne (ne_of_none eb nD)]
            exact s4 _ _ eb
          · rw [upd_same, low, NV_snoc, ev]
        refine ⟨rfl, _, rfl, _, rfl, rfl, _, rfl, ite2 (fun c => ?_) (fun c => ?_)⟩
        · exact ⟨_, rfl, fin _ (by rw [if_pos]; have := of_decide_eq_true c; simp at this; omega)⟩
        · exact ⟨_, rfl, fin _ (by rw [if_neg]; have := of_decide_eq_false (Bool.eq_false_iff.mpr c); simp at this; omega)⟩
      · rintro H4 ⟨s4, hD⟩
        have e4 : (ljStep L e).take (NV L).length = ljStep L e := List.take_of_length_le (by rw [NV_len]; unfold ljStep; rw [List.length_map]; exact Nat.le_refl _)
        rw [e4] at hD
        exact ⟨D, _, _, _, _, _, rfl, sm.trans s4, (s1.trans sm).free nD, hD⟩
    · rintro σ H2 ⟨l, v3, v4, v5, v6, v7, rfl, sm, nl, hL⟩
      rw [List.take_length] at hL
      exact ⟨_, rfl, q H2 l (s1.trans sm) nl hL⟩
end
end Hw

namespace Hw
open PySem PySem.Spec PyProof.Rows L2 ClX
/-! ### tuples cut and joined, whatever their length -/
theorem sl_take {K : PySem.W.Frag} {H : Hp} {a : Addr} {xs : List V} {k : Nat} {Q : VK} (h : H a = some (.tup xs)) (q : ∀ p H', Same H H' → H' p = some (.tup (xs.take k)) → Q (.ref p) H') : rSlA K (.ref a) none (some (k : Int)) H Q := by
  refine ⟨a, xs, rfl, sq_of h, fun ⟨_, e⟩ => q a H (fun _ _ z => z) ?_, fun _ p np => ?_⟩
  · rw [show HT.sIx xs.length xs.length (some (k : Int)) = min k xs.length from HT.sIx_nat _ _ _] at e
    rw [List.take_of_length_le (by omega)]
    exact h
  · rw [cut_to]
    exact q p _ (same_upd np) upd_same
theorem sl_drop {K : PySem.W.Frag} {H : Hp} {a : Addr} {xs : List V} {k : Nat} {Q : VK} (h : H a = some (.tup xs)) (q : ∀ p H', Same H H' → H' p = some (.tup (xs.drop k)) → Q (.ref p) H') : rSlA K (.ref a) (some (k : Int)) none H Q := by
  refine ⟨a, xs, rfl, sq_of h, fun ⟨e, _⟩ => q a H (fun _ _ z => z) ?_, fun _ p np => ?_⟩
  · rw [show HT.sIx xs.length 0 (some (k : Int)) = min k xs.length from HT.sIx_nat _ _ _] at e
    by_cases z : k = 0
    · subst z
      exact h
    · have : xs.length = 0 := by omega
      rw [List.eq_nil_of_length_eq_zero this] at h ⊢
      rw [List.drop_nil]
      exact h
  · rw [cut_from]
    exact q p _ (same_upd np) upd_same
theorem cat_any {K : PySem.W.Frag} {H : Hp} {a b : Addr} {xs ys : List V} {Q : VK} (ha : H a = some (.tup xs)) (hb : H b = some (.tup ys)) (le : xs.length + ys.length ≤ 1000) (q : ∀ p H', Same H H' → H' p = some (.tup (xs ++ ys)) → Q (.ref p) H') : rCatA K (.ref a) (.ref b) H Q := by
  refine ⟨a, b, xs, ys, rfl, rfl, sq_of ha, sq_of hb, Nat.le_of_lt (small1000 le), fun e => q b H (fun _ _ z => z) ?_, fun _ e => q a H (fun _ _ z => z) ?_, fun _ _ p np => q p _ (same_upd np) upd_same⟩
  · rw [e]; exact hb
  · rw [e, List.append_nil]; exact ha
/-! ### the class -/
structure NetC (K : PySem.W.Frag) (mg : Str → Option Value) (C : Addr) (mc : Value) : Prop where
  gC : mg "Network" = some (.ref C)
  rd : CRead K C mc
  mp : ∃ u, CVal K C mc "MAX_PLACES" (.int 12) u
  ms : ∃ u, CVal K C mc "MAX_PASSAGES" (.int 16) u
  cl : Cls K C
  n1 : NoAttr K C "_places"
  n2 : NoAttr K C "_passages"
  n3 : NoAttr K C "_start"
  n4 : NoAttr K C "_bridges"
  n5 : NoAttr K C "_cells"
  n6 : NoAttr K C "_exits"
section
variable {P : Program} {w : World} {K : PySem.W.Frag} {mg : Str → Option Value} {base : Heap}
/-! ### _is_connected -/
def spConn : Sp := fun vs H Q _ => ∃ (a : Addr) (n : Nat) (es : List Ed), vs = [.int (n : Int), .ref a] ∧ EdS H a es ∧ VE n es ∧ 1 ≤ n ∧ n ≤ 100 ∧ es.length ≤ 100 ∧ ∀ H', Same H H' → Q (.bl (cB n es)) H'
theorem scConn : FnScope ["places", "passages"] ["places", "passages"] (defScope sConn) := ⟨rfl, rfl, rfl, by decide +kernel, rfl, by decide +kernel, by decide +kernel⟩
theorem cal_conn (T : Txt mg) (GL : Cal P w K mg base "_least_joined" 1 spLeast) (D : Df K mg "_is_connected" sConn ["places", "passages"]) : Cal P w K mg base "_is_connected" 2 spConn := by
  refine cal_of D scConn (fun vs H Q E h => ?_) (fun f cdv A outer s0 H vs Q E hr h => ?_)
  · obtain ⟨a, n, es, rfl, _⟩ := h
    rfl
  · obtain ⟨a, n, es, rfl, he, ve, n1, hn, hl, q⟩ := h
    refine ⟨_, pss_one (ps_ret (pe_cmpR (op_eqD hr.units) (pe_cl GL hr (by rfl) (pa_cons (pv 0) (pa_cons (pv 1) pa_nil))) (pe_op op_rep (pe_lst (pa_cons pe_int pa_nil)) (pv 0)) (nomark _))), ?_⟩
    refine ⟨_, rfl, _, rfl, a, n, es, rfl, he, ve, hn, hl, fun H1 r s1 nr hr1 => ?_⟩
    refine ⟨by show 1 ≤ sizeLine; decide, fun l0 n0 => ?_⟩
    have s2 := s1.trans (same_upd (o := .lst [V.int 0]) n0)
    have hr2 := same_upd (o := .lst [V.int 0]) n0 _ _ hr1
    refine ⟨_, rfl, l0, _, _, rfl, rfl, upd_same, by omega, by omega, ?_, fun l1 nl1 => ?_⟩
    · show 1 * _ ≤ _
      rw [Int.toNat_natCast]
      exact Nat.le_of_lt (small1000 (by omega))
    rw [rep_flat]
    have s3 := s2.trans (same_upd (o := .lst (List.replicate n (V.int 0))) nl1)
    have hr3 := same_upd (o := .lst (List.replicate n (V.int 0))) nl1 _ _ hr2
    have e0 : List.replicate n (V.int 0) = (NI (List.replicate n 0)).map V.int := by
      rw [← NV_NI, NV_rep]
      rfl
    have e1 : NV (lj n es) = (NI (lj n es)).map V.int := NV_NI _
    refine ⟨.list ((NI (lj n es)).map PyData.int), .list ((NI (List.replicate n 0)).map PyData.int), dp_li (sl_of (by rw [← e1]; exact hr3)), dp_li (sl_of (by rw [← e0]; exact upd_same)), shaped_li _, shaped_li _, ?_⟩
    have e2 : PyData.eqv (.list ((NI (lj n es)).map PyData.int)) (.list ((NI (List.replicate n 0)).map PyData.int)) = cB n es := by
      rw [eqv_li]
      unfold cB
      by_cases z : lj n es = List.replicate n 0
      · rw [decide_eq_true z, z]; exact decide_eq_true rfl
      · rw [decide_eq_false z]; exact decide_eq_false fun y => z (NI_inj y)
    rw [e2]
    exact q _ s3
/-! ### _fault -/
def spFault : Sp := fun vs H Q _ => ∃ (a : Addr) (n : Nat) (es : List Ed), vs = [.int (n : Int), .ref a] ∧ EdT H a es ∧ CN n es ∧ n ≤ 12 ∧ es.length ≤ 16 ∧ ∀ H', Same H H' → Q .non H'
abbrev nFault : List Str := ["places", "passages", "index"]
theorem scFault : FnScope nFault ["places", "passages"] (defScope sFault) := ⟨rfl, rfl, rfl, by decide +kernel, rfl, by decide +kernel, by decide +kernel⟩
theorem cal_fault {C : Addr} {mc : Value} (T : Txt mg) (N : NetC K mg C mc) (GW : Cal P w K mg base "is_whole" 1 spWhole) (GF : Cal P w K mg base "_first_wrong" 4 spFirstWrong) (GC : Cal P w K mg base "_is_connected" 2 spConn)
    (D : Df K mg "_fault" sFault ["places", "passages"]) : Cal P w K mg base "_fault" 5 spFault := by
  have nd := scFault.nd
  refine cal_of D scFault (fun vs H Q E h => ?_) (fun f cdv A outer s0 H vs Q E hr h => ?_)
  · obtain ⟨a, n, es, rfl, _⟩ := h
    rfl
  · obtain ⟨a, n, es, rfl, he, cn, hn, hl, q⟩ := h
    have hr1 := hr.mono (show 1 ≤ 4 by decide)
    have hr2 := hr.mono (show 2 ≤ 4 by decide)
    obtain ⟨u1, v1⟩ := N.mp
    obtain ⟨u2, v2⟩ := N.ms
    refine ⟨_, pss_cons (ps_if (PW.pt (pw_or (pt_not (pt_val (pe_cl GW hr1 (by rfl) (pa_cons (pv 0) pa_nil)))) (pw_or1 (pt_not (pt_chain op_le op_le pe_int (pv 0) (pe_cval (pe_glob (by rfl) N.gC (v := .ref C) rfl))))))) (pss_one ps_never) pss_nil)
      <| pss_cons (ps_if (PW.pt (pw_or (pt_not (pt_val (pe_callB call_isi (by rfl) T.isinstance (by decide +kernel) (pa_cons (pv 1) (pa_cons (pe_bltn (v := .ty "tuple") (by rfl) T.tuple (by decide +kernel) rfl) pa_nil)))))
          (pw_or1 (pt_cmpR op_gt (pe_callB cr_len (by rfl) T.len PySem.boot_len (pa_cons (pv 1) pa_nil)) (pe_cval (pe_glob (by rfl) N.gC (v := .ref C) rfl)) (nomark _))))) (pss_one ps_never) pss_nil)
      <| pss_cons (ps_set (i := 2) nd rfl (.inl rfl) (pe_cl GF hr (by rfl) (pa_cons (pv 1) (pa_cons (pv 0) pa_nil))))
      <| pss_cons (ps_if (pt_cmpR op_notN (pv 2) pe_non (nomark _)) (pss_one ps_never) pss_nil)
      <| pss_cons (ps_if (pt_not (pt_val (pe_cl GC hr2 (by rfl) (pa_cons (pv 0) (pa_cons (pv 1) pa_nil))))) (pss_one ps_never) pss_nil)
      <| pss_one (ps_ret pe_non), ?_⟩
    obtain ⟨ks, k1, k2, k3⟩ := id he
    have n1 := cn.1
    refine ⟨_, rfl, _, rfl, ⟨_, rfl, iteF ?_⟩⟩
    refine ⟨_, rfl, _, _, rfl, rfl, _, rfl, ?_⟩
    rw [show decide ((1 : Int) ≤ (n : Int)) = true from decide_eq_true (by omega)]
    refine iteT ⟨C, mc, _, _, rfl, N.rd, v1, _, _, rfl, rfl, ?_⟩
    refine ⟨_, rfl, ?_⟩
    rw [show decide ((n : Int) ≤ 12) = true from decide_eq_true (by omega)]
    refine iteF ?_
    refine ⟨_, rfl, _, _, _, _, true, rfl, .ty _, .base (.tup k1), kit_ty (by decide +kernel), true, rfl, iteF ?_⟩
    refine ⟨_, rfl, a, _, rfl, .inr (sq_of k1), C, mc, _, _, rfl, N.rd, v2, _, _, rfl, rfl, _, rfl, ?_⟩
    rw [nv_len, ed_len k2]
    rw [show decide ((16 : Int) < (es.length : Int)) = false from decide_eq_false (by omega)]
    refine iteF ?_
    refine ⟨_, rfl, _, rfl, a, n, es, rfl, he, cn.2.1, fun H1 s1 => ?_⟩
    refine ⟨_, rfl, rfl, _, rfl, iteF ?_⟩
    refine ⟨_, rfl, _, rfl, a, n, es, rfl, .inr (he.same s1), cn.2.1, n1, by omega, by omega, fun H2 s2 => ⟨_, rfl, ?_⟩⟩
    rw [show cB n es = true from (cB_iff cn.2.1 n1).mpr cn.2.2]
    refine iteF ?_
    exact q _ (s1.trans s2)
/-! ### _find_bridges -/
def spBridges : Sp := fun vs H Q _ => ∃ (a : Addr) (n : Nat) (es : List Ed), vs = [.int (n : Int), .ref a] ∧ EdT H a es ∧ VE n es ∧ 1 ≤ n ∧ n ≤ 12 ∧ es.length ≤ 16 ∧ ∀ H' r, Same H H' → H r = none → Tp H' r (brg n es) → Q (.ref r) H'
abbrev nBr : List Str := ["places", "passages", "passage"]
theorem scBridges : FnScope nBr ["places", "passages"] (defScope sBridges) := ⟨rfl, rfl, rfl, by decide +kernel, rfl, by decide +kernel, by decide +kernel⟩
theorem edt_cut {H : Hp} {p : Addr} {es : List Ed} {ks : List (Addr × List Nat)} {i : Nat} (k2 : ks.map (·.2) = es.map pl) (k3 : ∀ k ∈ ks, Tp H k.1 k.2) (h : H p = some (.tup ((ks.map fun k => V.ref k.1).take i ++ (ks.map fun k => V.ref k.1).drop (i + 1)))) : EdT H p (es.eraseIdx i) := by
  refine ⟨ks.take i ++ ks.drop (i + 1), by rw [h, List.map_append, List.map_take, List.map_drop], ?_, fun k hk => ?_⟩
  · rw [List.eraseIdx_eq_take_drop_succ, List.map_append, List.map_append, List.map_take, List.map_drop, k2, List.map_take, List.map_drop]
  · rcases List.mem_append.mp hk with m | m
    · exact k3 k (List.mem_of_mem_take m)
    · exact k3 k (List.mem_of_mem_drop m)
def brgTo (n : Nat) (es : List Ed) (j : Nat) : List Nat := (List.range j).filter fun i => !cB n (es.eraseIdx i)
theorem brgTo_succ (n : Nat) (es : List Ed) (j : Nat) : brgTo n es (j + 1) = brgTo n es j ++ (if cB n (es.eraseIdx j) = true then [] else [j]) := by
  unfold brgTo
  rw [List.range_succ, List.filter_append]
  congr 1
  rw [List.filter_cons, List.filter_nil]
  cases cB n (es.eraseIdx j) <;> rfl
theorem cal_bridges (T : Txt mg) (GC : Cal P w K mg base "_is_connected" 2 spConn) (D : Df K mg "_find_bridges" sBridges ["places", "passages"]) : Cal P w K mg base "_find_bridges" 3 spBridges := by
  have nd := scBridges.nd
  refine cal_of D scBridges (fun vs H Q E h => ?_) (fun f cdv A outer s0 H vs Q E hr h => ?_)
  · obtain ⟨a, n, es, rfl, _⟩ := h
    rfl
  · obtain ⟨a, n, es, rfl, he, ve, n1, hn, hl, q⟩ := h
    refine ⟨_, pss_one (ps_ret (pe_callTy call_tuple_of (by rfl) T.tuple (by decide +kernel) (pa_cons (pe_lc (own := [("passage", 2)]) (g := gName 2) (by rfl) nd (pi_range1 (by rfl) T.range (pa_cons (pe_callB cr_len (by rfl) T.len PySem.boot_len (pa_cons (pv 1) pa_nil)) pa_nil))
        (blkOk_by (own := [("passage", 2)]) (N := nBr) (sc := defScope sBridges) (by decide +kernel)) (fun _ _ _ _ _ => pg_name (i := 2) nd rfl (.inl rfl))
        (fun _ _ _ _ _ => pts_one (pt_not (pt_val (pe_cl GC (by exact hr) (by rfl) (pa_cons (pv 0) (pa_cons (pe_op (r := rCatA K) op_catA (pe_slice (r := rSlA K) sl_tupA (pv 1) po_none (po_some (pv 2))) (pe_slice (r := rSlA K) sl_tupA (pv 1) (po_some (pe_op op_add (pv 2) pe_int)) po_none)) pa_nil))))))
        (fun _ _ _ _ _ => pv 2)) pa_nil))), ?_⟩
    obtain ⟨ks, k1, k2, k3⟩ := id he
    have kl := ed_len k2
    refine ⟨_, rfl, a, _, rfl, .inr (sq_of k1), _, rfl, by rw [nv_len]; omega, by rw [nv_len]; omega, ?_⟩
    rw [nv_len, kl, Int.toNat_natCast]
    refine fun D nD => lc_it walk_rg0 (fun i H' => Same H H' ∧ H' D = some (.lst (NV (brgTo n es i)))) ⟨same_upd nD, upd_same⟩ (fun _ _ _ _ => trivial) ?_ ?_
    · rintro i x _ H2 hi ⟨sm, hD⟩ ⟨rfl, rfl⟩
      refine ⟨rfl, ?_⟩
      have e1 : ((i : Int) + 1) = ((i + 1 : Nat) : Int) := by omega
      refine ⟨_, rfl, _, rfl, _, rfl, _, rfl, sl_take (sm _ _ k1) fun p H3 s3 hp => ?_⟩
      refine ⟨_, rfl, _, rfl, _, _, rfl, rfl, _, rfl, ?_⟩
      rw [e1]
      dsimp only [tNoPart]
      refine sl_drop (s3 _ _ (sm _ _ k1)) fun p2 H4 s4 hp2 => ?_
      refine cat_any (s4 _ _ hp) hp2 (by rw [List.length_take, List.length_drop, nv_len]; omega) fun p3 H5 s5 hp3 => ?_
      have s25 := (s3.trans s4).trans s5
      have ed := edt_cut k2 (fun k hk => s25 _ _ (sm _ _ (k3 k hk))) hp3
      refine ⟨p3, n, es.eraseIdx i, rfl, .inr ed, ve_erase ve, n1, by omega, Nat.le_trans (List.length_eraseIdx_le _ _) (by omega), fun H6 s6 => ?_⟩
      have s26 := s25.trans s6
      have hD6 := s26 _ _ hD
      refine ⟨_, rfl, ?_⟩
      rw [brgTo_succ]
      cases c : cB n (es.eraseIdx i) with
      | true =>
        refine iteF ?_
        rw [if_pos rfl, List.append_nil]
        exact ⟨sm.trans s26, hD6⟩
      | false =>
        refine iteT ⟨_, rfl, _, hD6, ?_, fun b o e => ?_, ?_⟩
        · rw [NV_len]
          unfold brgTo
          exact Nat.lt_of_le_of_lt (List.length_filter_le _ _) (by rw [List.length_range]; exact small1000 (by omega))
        · rw [upd_ne (ne_of_none e nD)]
          exact s26 _ _ (sm _ _ e)
        · rw [upd_same, if_neg (by decide), NV_snoc]
    · rintro H2 ⟨sm, hD⟩
      refine ⟨D, _, rfl, .inl ⟨sl_of hD, fun t nt => ?_⟩⟩
      exact q _ t (sm.trans (same_upd nt)) (sm.free nt) upd_same
end
end Hw

namespace Hw
open PySem PySem.Spec PyProof.Rows L2 ClX
theorem flat_NV (p : List Nat) : (NV p).all flatV = true := by
  unfold NV
  rw [List.all_map, List.all_eq_true]
  intro x _
  rfl
theorem inV_NV (x : Nat) (p : List Nat) : inV (.int (x : Int)) (NV p) = decide (x ∈ p) := by
  unfold inV NV
  rw [List.any_map]
  have e : ((fun y => eqV y (V.int (x : Int))) ∘ fun n : Nat => V.int (n : Int)) = fun n => decide (n = x) := by
    funext n
    show ((n : Int) == (x : Int)) = decide (n = x)
    by_cases z : n = x
    · subst z; simp
    · rw [decide_eq_false z]
      have : ¬ ((n : Int) = (x : Int)) := by omega
      simp [z]
      exact this
  rw [e]
  by_cases z : x ∈ p
  · rw [decide_eq_true z, List.any_eq_true]
    exact ⟨x, z, decide_eq_true rfl⟩
  · rw [decide_eq_false z, List.any_eq_false]
    intro y hy
    have : y ≠ x := fun q => z (q ▸ hy)
    simp [this]
def rTupO (K : PySem.W.Frag) : List V → Hp → VK → Prop := fun xs H Q => ∃ p ys, xs = [.ref p] ∧ ((SqL K H p ys ∧ ∀ l, H l = none → Q (.ref l) (upd H l (.tup ys))) ∨ (SqT K H p ys ∧ Q (.ref p) H))
theorem cr_tupO {X : Cx} : CallR X (.type "tuple") (rTupO X.K) := call_tuple_of
/-! ### the passages that are no bridges -/
def okTo (ok : Nat → Bool) (es : List Ed) (j : Nat) : List Ed := ((List.range j).filter ok).map fun i => es.getD i (0, 0)
theorem okTo_succ (ok : Nat → Bool) (es : List Ed) (j : Nat) : okTo ok es (j + 1) = okTo ok es j ++ (if ok j = true then [es.getD j (0, 0)] else []) := by
  unfold okTo
  rw [List.range_succ, List.filter_append, List.map_append]
  congr 1
  rw [List.filter_cons, List.filter_nil]
  cases ok j <;> rfl
theorem okTo_len (ok : Nat → Bool) (es : List Ed) (j : Nat) : (okTo ok es j).length ≤ j := by
  unfold okTo
  rw [List.length_map]
  exact Nat.le_trans (List.length_filter_le _ _) (by rw [List.length_range]; exact Nat.le_refl _)
/-! ### places by their labels -/
def grp (L : List Nat) (j r : Nat) : List Nat := (List.range j).filter fun x => decide (ap L x = r)
def rtTo (L : List Nat) (j : Nat) : List Nat := (List.range j).filter fun l => decide (ap L l = l)
theorem grp_succ (L : List Nat) (j r : Nat) : grp L (j + 1) r = grp L j r ++ (if ap L j = r then [j] else []) := by
  unfold grp
  rw [List.range_succ, List.filter_append]
  congr 1
  rw [List.filter_cons, List.filter_nil]
  by_cases z : ap L j = r <;> simp [z]
theorem rtTo_succ (L : List Nat) (j : Nat) : rtTo L (j + 1) = rtTo L j ++ (if ap L j = j then [j] else []) := by
  unfold rtTo
  rw [List.range_succ, List.filter_append]
  congr 1
  rw [List.filter_cons, List.filter_nil]
  by_cases z : ap L j = j <;> simp [z]
theorem mem_rtTo {L : List Nat} {j r : Nat} : r ∈ rtTo L j ↔ r < j ∧ ap L r = r := by
  unfold rtTo
  rw [List.mem_filter, List.mem_range, decide_eq_true_eq]
theorem rtTo_len (L : List Nat) (j : Nat) : (rtTo L j).length ≤ j := by
  unfold rtTo
  exact Nat.le_trans (List.length_filter_le _ _) (by rw [List.length_range]; exact Nat.le_refl _)
def kvG (ad : Nat → Addr) (R : List Nat) : List (Key × V) := R.map fun r : Nat => (Sum.inl (r : Int), V.ref (ad r))
theorem kvG_in {ad : Nat → Addr} {r : Nat} : ∀ {R : List Nat}, r ∈ R → valV (kvG ad R) (.inl (r : Int)) = some (.ref (ad r))
  | a :: R, h => by
    by_cases z : a = r
    · subst z
      exact valV_pos (p := (Sum.inl (a : Int), V.ref (ad a))) (r := kvG ad R) rfl
    · have : ¬ ((Sum.inl (a : Int), V.ref (ad a)) : Key × V).1 = .inl (r : Int) := fun q => z (Int.ofNat.inj (Sum.inl.inj q))
      have e := valV_neg (p := ((Sum.inl (a : Int), V.ref (ad a)) : Key × V)) (r := kvG ad R) this
      exact e.trans (kvG_in ((List.mem_cons.mp h).resolve_left fun q => z q.symm))
theorem kvG_out {ad : Nat → Addr} {r : Nat} : ∀ {R : List Nat}, r ∉ R → valV (kvG ad R) (.inl (r : Int)) = none
  | [], _ => rfl
  | a :: R, h => by
    have : ¬ ((Sum.inl (a : Int), V.ref (ad a)) : Key × V).1 = .inl (r : Int) := fun q => h (by rw [Int.ofNat.inj (Sum.inl.inj q)]; exact List.mem_cons_self)
    have e := valV_neg (p := ((Sum.inl (a : Int), V.ref (ad a)) : Key × V)) (r := kvG ad R) this
    exact e.trans (kvG_out fun q => h (List.mem_cons_of_mem _ q))
theorem kvG_congr {ad bd : Nat → Addr} {R : List Nat} (h : ∀ r ∈ R, ad r = bd r) : kvG ad R = kvG bd R := List.map_congr_left fun r hr => by rw [h r hr]
/-- the dict at d, the first j places put in; H0: what stood before -/
def GrpAt (H0 H : Hp) (d : Addr) (L : List Nat) (j : Nat) : Prop := ∃ ad : Nat → Addr, H d = some (.dK (kvG ad (rtTo L j))) ∧ (∀ r ∈ rtTo L j, H (ad r) = some (.lst (NV (grp L j r))) ∧ H0 (ad r) = none) ∧ ∀ r ∈ rtTo L j, ∀ s ∈ rtTo L j, ad r = ad s → r = s
/-- how cells are handed back -/
def CsAt (H : Hp) (r : Addr) (cs : List (List Nat)) : Prop := ∃ ks : List (Addr × List Nat), H r = some (.tup (ks.map fun k => .ref k.1)) ∧ ks.map (·.2) = cs ∧ ∀ k ∈ ks, Tp H k.1 k.2
theorem CsAt.same {H H' : Hp} {r : Addr} {cs : List (List Nat)} (h : CsAt H r cs) (s : Same H H') : CsAt H' r cs := by
  obtain ⟨ks, a, b, c⟩ := h
  exact ⟨ks, s _ _ a, b, fun k hk => s _ _ (c k hk)⟩
section
variable {P : Program} {w : World} {K : PySem.W.Frag} {mg : Str → Option Value} {base : Heap}
def spCells : Sp := fun vs H Q _ => ∃ (a b : Addr) (n : Nat) (es : List Ed), vs = [.int (n : Int), .ref a, .ref b] ∧ EdT H a es ∧ Tp H b (brg n es) ∧ VE n es ∧ 1 ≤ n ∧ n ≤ 12 ∧ es.length ≤ 16 ∧ ∀ H' r, Same H H' → H r = none → CsAt H' r (cel n es) → Q (.ref r) H'
abbrev nCe : List Str := ["places", "passages", "bridges", "inner", "cells", "place", "least", "passage", "ends"]
theorem scCells : FnScope nCe ["places", "passages", "bridges"] (defScope sCells) := ⟨rfl, rfl, rfl, by decide +kernel, rfl, by decide +kernel, by decide +kernel⟩
theorem cal_cells (T : Txt mg) (GL : Cal P w K mg base "_least_joined" 1 spLeast) (D : Df K mg "_find_cells" sCells ["places", "passages", "bridges"]) : Cal P w K mg base "_find_cells" 2 spCells := by
  have nd := scCells.nd
  refine cal_of D scCells (fun vs H Q E h => ?_) (fun f cdv A outer s0 H vs Q E hr h => ?_)
  · obtain ⟨a, b, n, es, rfl, _⟩ := h
    rfl
  · obtain ⟨a, b, n, es, rfl, he, hb, ve, n1, hn, hl, q⟩ := h
    have hu := hu_of hr
    refine ⟨_, pss_cons (ps_setLc (i := 3) (own := [("passage", 7), ("ends", 8)]) (g := gTup K 2 (gCons (gName 7) (gCons (gName 8) gNil))) (by rfl) nd rfl rfl (sw_true rfl rfl rfl (by decide +kernel)) (pi_enumT (by rfl) T.enumerate (pa_cons (pv 1) pa_nil))
          (blkOk_by (own := [("passage", 7), ("ends", 8)]) (N := nCe) (sc := defScope sCells) (by decide +kernel)) (fun _ _ _ _ _ => pg_tup rfl (pgs_cons (pg_name (i := 7) nd rfl (.inl rfl)) (pgs_cons (pg_name (i := 8) nd rfl (.inl rfl)) pgs_nil)))
          (fun _ _ _ _ _ => pts_one (pt_cmpR (r := rIn K true) op_notIn_seq (pv 7) (pv 2) (by rfl))) (fun _ _ _ _ _ => pv 8))
      <| pss_cons (ps_set (i := 4) nd rfl (.inr rfl) pe_dnewK)
      <| pss_cons (ps_for PassesOwn.never rfl (pi_enum (by rfl) T.enumerate (pa_cons (pe_cl GL hr (by rfl) (pa_cons (pv 0) (pa_cons (pv 3) pa_nil))) pa_nil)) (pg_tup rfl (pgs_cons (pg_name (i := 5) nd rfl (.inl rfl)) (pgs_cons (pg_name (i := 6) nd rfl (.inl rfl)) pgs_nil)))
          (pss_one (ps_expr (pe_bm PySem.F.plainAttrs_list PySem.F.slot_list_append PySem.F.type_list_append mt_append (pe_dsetd (pv 4) (pv 6) (pe_lst pa_nil) ⟨by rfl, by rfl, by rfl, by rfl⟩) (pa_cons (pv 5) pa_nil)))))
      <| pss_one (ps_ret (pe_callTy call_tuple_of (by rfl) T.tuple (by decide +kernel) (pa_cons (pe_lc (own := [("least", 6)]) (g := gName 6) (by rfl) nd (pi_list (pe_callB (call_sortedDI rfl) (by rfl) T.sorted (by decide +kernel) (pa_cons (pv 4) pa_nil)))
          (blkOk_by (own := [("least", 6)]) (N := nCe) (sc := defScope sCells) (by decide +kernel)) (fun _ _ _ _ _ => pg_name (i := 6) nd rfl (.inl rfl)) (fun _ _ _ _ _ => pts_nil)
          (fun _ _ _ _ _ => pe_callTy (T := "tuple") (r := rTupO K) cr_tupO (by rfl) T.tuple (by decide +kernel) (pa_cons (pe_dget (by exact hu) (pv 4) (pv 6) (fun _ _ => rfl)) pa_nil))) pa_nil))), ?_⟩
    obtain ⟨ks, k1, k2, k3⟩ := id he
    have kl := ed_len k2
    refine ⟨_, rfl, a, _, rfl, sq_of k1, fun D nD => lc_it (walk_enumT (xs := ks.map fun k => V.ref k.1)) (fun i H' => Same H H' ∧ EdL H' D (okTo (fun j => !decide (j ∈ brg n es)) es i)) ⟨same_upd nD, [], upd_same, rfl, fun k hk => nomatch hk⟩ (fun i H' _ ⟨sm, _⟩ => sq_of (sm _ _ k1)) ?_ ?_⟩
    · rintro i x H2 H3 hi ⟨sm, kd, hD, h2, h3⟩ ⟨T1, i', y, rfl, nT, rfl, ei, ey⟩
      obtain rfl : V.int (i : Int) = i' := Option.some.inj ei
      obtain ⟨k, hk, rfl⟩ := refs_get ey
      obtain ⟨e, hei, ek⟩ := ed_get k2 hk
      rw [nv_len, kl] at hi
      have sT := same_upd (o := .tup [V.int (i : Int), V.ref k.1]) nT
      have smT := sm.trans sT
      have tk := smT _ _ (k3 k (List.mem_of_getElem? hk))
      refine ⟨T1, _, rfl, .inl (.inl upd_same), rfl, _, _, rfl, _, _, rfl, rfl, rfl, ?_⟩
      refine ⟨_, rfl, _, rfl, b, _, rfl, .inr (sq_of (smT _ _ hb)), rfl, flat_NV _, _, rfl, ?_⟩
      rw [inV_NV, okTo_succ]
      have eg : es.getD i (0, 0) = e := by
        rw [List.getD_eq_getElem?_getD, hei]
        rfl
      rw [eg]
      by_cases z : i ∈ brg n es
      · rw [decide_eq_true z]
        refine iteF ⟨smT, ?_⟩
        rw [if_neg (by decide), List.append_nil]
        exact ⟨kd, sT _ _ hD, h2, fun k hk => sT _ _ (h3 k hk)⟩
      · rw [decide_eq_false z]
        refine iteT ⟨_, rfl, _, sT _ _ hD, ?_, fun b o eb => ?_, ?_⟩
        · rw [nv_len, ed_len h2]
          exact Nat.lt_of_le_of_lt (okTo_len _ _ _) (small1000 (by omega))
        · rw [upd_ne (ne_of_none eb nD)]
          exact smT _ _ eb
        · rw [if_pos (show (!false) = true from rfl)]
          exact edl_snoc h2 (fun k hk => sT _ _ (h3 k hk)) (by rw [← ek]; exact tk) (sT _ _ hD)
    · rintro H2 ⟨sm, hD⟩
      rw [nv_len, kl] at hD
      have hi0 : okTo (fun j => !decide (j ∈ brg n es)) es es.length = inn n es := rfl
      rw [hi0] at hD
      intro d nd'
      have s3 := sm.trans (same_upd (o := .dK []) nd')
      have hD3 := hD.same (same_upd (o := .dK []) nd')
      have hd3 : upd H2 d (.dK []) d = some (.dK []) := upd_same
      have d0 : H d = none := sm.free nd'
      generalize upd H2 d (.dK []) = H3 at *
      have il : (inn n es).length ≤ 16 := Nat.le_trans (okTo_len _ _ _) hl
      refine ⟨_, rfl, _, rfl, D, n, inn n es, rfl, .inl hD3, okE_ve ve, by omega, by omega, fun H4 r s4 nr hr4 => ?_⟩
      have lb := lb_lj (okE_ve (ok := fun j => !decide (j ∈ brg n es)) ve)
      change Lb n (inn n es) (lj n (inn n es)) at lb
      have eC : cel n es = (rtTo (lj n (inn n es)) n).map (grp (lj n (inn n es)) n) := rfl
      rw [eC] at q
      generalize lj n (inn n es) = L at *
      have hd4 := s4 _ _ hd3
      have s04 := s3.trans s4
      have Ll := lb.len
      refine ⟨r, NV L, rfl, sl_of hr4, for_it (walk_enum (xs := NV L)) (fun i σ H' => ∃ v5 v6, σ = [some (.int (n : Int)), some (.ref a), some (.ref b), some (.ref D), some (.ref d), v5, v6, none, none] ∧ (∀ b o, b ≠ d → H4 b = some o → H' b = some o) ∧ GrpAt H4 H' d L i)
        ⟨_, _, rfl, fun b o _ e => e, fun _ => 0, hd4, fun r hr => absurd (mem_rtTo.mp hr).1 (Nat.not_lt_zero _), fun r hr => absurd (mem_rtTo.mp hr).1 (Nat.not_lt_zero _)⟩ (fun i σ H' _ ⟨_, _, _, kp, _⟩ => sl_of (kp r _ (ne_of hr4 hd4 (by intro z; cases z)) hr4)) ?_ ?_⟩
      · rintro i x σ H5 H6 hi ⟨v5, v6, rfl, kp, ad, g1, g2, g3⟩ ⟨T1, i', y, rfl, nT, rfl, ei, ey⟩
        obtain rfl : V.int (i : Int) = i' := Option.some.inj ei
        rw [NV_len, Ll] at hi
        have ey : (NV L)[i]? = some y := ey
        rw [NV_get (ap_get (by omega))] at ey
        obtain rfl := Option.some.inj ey
        have sT := same_upd (o := .tup [V.int (i : Int), V.int ((ap L i : Nat) : Int)]) nT
        have rt := root_ap lb hi
        have le := lb.le i hi
        have dT : d ≠ T1 := ne_of_none g1 nT
        have g1T := sT _ _ g1
        have kpT : ∀ b o, b ≠ d → H4 b = some o → upd H5 T1 (.tup [V.int (i : Int), V.int ((ap L i : Nat) : Int)]) b = some o := fun b o nb e => sT _ _ (kp b o nb e)
        have g2T : ∀ s ∈ rtTo L i, upd H5 T1 (.tup [V.int (i : Int), V.int ((ap L i : Nat) : Int)]) (ad s) = some (.lst (NV (grp L i s))) := fun s hs => sT _ _ (g2 s hs).1
        generalize eH6 : upd H5 T1 (.tup [V.int (i : Int), V.int ((ap L i : Nat) : Int)]) = H6 at *
        refine ⟨T1, _, rfl, .inl (.inl (by rw [← eH6, upd_same])), rfl, _, _, rfl, _, _, rfl, rfl, ?_⟩
        refine ⟨_, rfl, d, rfl, .inl ⟨_, .inl g1T⟩, _, rfl, Nat.zero_le _, fun l nl => ?_⟩
        have sl := same_upd (o := .lst []) nl
        have g1L := sl _ _ g1T
        have hl0 : upd H6 l (.lst []) l = some (.lst []) := upd_same
        have dl : d ≠ l := ne_of_none g1T nl
        have kpL : ∀ b o, b ≠ d → H4 b = some o → upd H6 l (.lst []) b = some o := fun b o nb e => sl _ _ (kpT b o nb e)
        have g2L : ∀ s ∈ rtTo L i, upd H6 l (.lst []) (ad s) = some (.lst (NV (grp L i s))) := fun s hs => sl _ _ (g2T s hs)
        have l4 : H4 l = none := by
          cases e : H4 l with
          | none => rfl
          | some o =>
            have := kpT l o dl.symm e
            rw [nl] at this
            cases this
        have adl : ∀ s ∈ rtTo L i, ad s ≠ l := fun s hs => ne_of_none (g2T s hs) nl
        generalize upd H6 l (.lst []) = H7 at *
        have klen : (kvG ad (rtTo L i)).length < sizeLine := by
          unfold kvG
          rw [List.length_map]
          exact Nat.lt_of_le_of_lt (rtTo_len L i) (small1000 (by omega))
        have glen : ∀ s, (NV (grp L i s)).length < sizeLine := fun s => by
          rw [NV_len]
          unfold grp
          exact Nat.lt_of_le_of_lt (List.length_filter_le _ _) (by rw [List.length_range]; exact small1000 (by omega))
        refine ⟨_, .inl ((ap L i : Nat) : Int), g1L, rfl, klen, fun v hv => ?_, fun hv => ?_⟩
        · -- the label is there
          have hin : ap L i ∈ rtTo L i := Classical.byContradiction fun z => by
            rw [kvG_out z] at hv
            cases hv
          rw [kvG_in hin] at hv
          obtain rfl := Option.some.inj hv
          have hne : ap L i ≠ i := fun z => by
            have := (mem_rtTo.mp hin).1
            omega
          have hL := g2L _ hin
          have dad : d ≠ ad (ap L i) := ne_of g1L hL (by intro z; cases z)
          refine ⟨.inl ⟨rfl, _, sl_of hL⟩, _, rfl, _, _, _, rfl, rfl, hL, glen _, ?_⟩
          refine ⟨_, _, rfl, fun b o nb e => ?_, ad, ?_, fun s hs => ?_, ?_⟩
          · by_cases z : b = ad (ap L i)
            · subst z
              rw [(g2 _ hin).2] at e
              cases e
            · rw [upd_ne z]
              exact kpL b o nb e
          · rw [upd_ne dad, rtTo_succ, if_neg hne, List.append_nil]
            exact g1L
          · rw [rtTo_succ, if_neg hne, List.append_nil] at hs
            refine ⟨?_, (g2 s hs).2⟩
            rw [grp_succ]
            by_cases z : s = ap L i
            · subst z
              rw [upd_same, if_pos rfl, NV_snoc]
            · rw [upd_ne fun e => z (g3 s hs _ hin e), if_neg fun e => z e.symm, List.append_nil]
              exact g2L s hs
          · rw [rtTo_succ, if_neg hne, List.append_nil]
            exact g3
        · -- the label is new
          have hout : ap L i ∉ rtTo L i := fun z => by
            rw [kvG_in z] at hv
            cases hv
          have hself : ap L i = i := Classical.byContradiction fun z => hout (mem_rtTo.mpr ⟨by omega, rt.2⟩)
          have hni : i ∉ rtTo L i := fun z => by
            have := (mem_rtTo.mp z).1
            omega
          have hL : upd H7 d (.dK (putK (kvG ad (rtTo L i)) (.inl ((ap L i : Nat) : Int)) (.ref l))) l = some (.lst []) := by
            rw [upd_ne dl.symm]
            exact hl0
          refine ⟨.inl ⟨rfl, _, sl_of hL⟩, _, rfl, _, _, _, rfl, rfl, hL, Nat.lt_of_le_of_lt (Nat.zero_le 1) (by decide), ?_⟩
          refine ⟨_, _, rfl, fun b o nb e => ?_, fun x => if x = i then l else ad x, ?_, fun s hs => ?_, ?_⟩
          · rw [upd_ne (ne_of_none e l4), upd_ne nb]
            exact kpL b o nb e
          · rw [upd_ne dl, upd_same, putK_new _ hv, rtTo_succ, if_pos hself]
            congr 2
            unfold kvG
            rw [List.map_append]
            congr 1
            · refine List.map_congr_left fun s hs => ?_
              have si : s ≠ i := fun z => hni (z ▸ hs)
              show (Sum.inl (s : Int), V.ref (ad s)) = (Sum.inl (s : Int), V.ref (if s = i then l else ad s))
              rw [if_neg si]
            · show [(Sum.inl ((ap L i : Nat) : Int), V.ref l)] = [(Sum.inl (i : Int), V.ref (if i = i then l else ad i))]
              rw [hself, if_pos rfl]
          · rw [rtTo_succ, if_pos hself] at hs
            rw [grp_succ, hself]
            rcases List.mem_append.mp hs with m | m
            · have si : s ≠ i := fun z => hni (z ▸ m)
              dsimp only
              rw [if_neg si, upd_ne (adl s m), upd_ne (ne_of (g2L s m) g1L (by intro z; cases z)), if_neg fun z => si z.symm, List.append_nil]
              exact ⟨g2L s m, (g2 s m).2⟩
            · obtain rfl := List.mem_singleton.mp m
              dsimp only
              rw [if_pos rfl, upd_same, if_pos rfl]
              have ge : grp L s s = [] := by
                unfold grp
                refine List.filter_eq_nil_iff.mpr fun x hx => ?_
                have xl := List.mem_range.mp hx
                have := lb.le x (by omega)
                simp
                omega
              rw [ge]
              exact ⟨rfl, l4⟩
          · rw [rtTo_succ, if_pos hself]
            intro s hs u hu2 e
            rcases List.mem_append.mp hs with m | m <;> rcases List.mem_append.mp hu2 with m2 | m2
            · have si : s ≠ i := fun z => hni (z ▸ m)
              have ui : u ≠ i := fun z => hni (z ▸ m2)
              dsimp only at e
              rw [if_neg si, if_neg ui] at e
              exact g3 s m u m2 e
            · obtain rfl := List.mem_singleton.mp m2
              have si : s ≠ u := fun z => hni (z ▸ m)
              dsimp only at e
              rw [if_neg si, if_pos rfl] at e
              exact absurd e (adl s m)
            · obtain rfl := List.mem_singleton.mp m
              have ui : u ≠ s := fun z => hni (z ▸ m2)
              dsimp only at e
              rw [if_neg ui, if_pos rfl] at e
              exact absurd e.symm (adl u m2)
            · rw [List.mem_singleton.mp m, List.mem_singleton.mp m2]
      · rintro σ H5 ⟨v5, v6, rfl, kp, ad, g1, g2, g3⟩
        rw [NV_len, Ll] at g1 g2 g3
        have s05 : Same H H5 := fun b o e => kp b o (ne_of_none e d0) (s04 _ _ e)
        refine ⟨_, rfl, d, _, NI (rtTo L n), rfl, .inl g1, ?_, ?_, fun ys p hp pw np => ?_⟩
        · unfold kvG NI
          rw [List.map_map, List.map_map]
          rfl
        · rw [NI_len]
          have := rtTo_len L n
          omega
        · have ey : ys = NI (rtTo L n) := sorted_is hp pw (List.Perm.refl _) (List.Pairwise.imp (fun z => Nat.le_of_lt z) (filter_rise n _))
          subst ey
          rw [← NV_NI]
          have s6 := same_upd (o := .lst (NV (rtTo L n))) np
          have g1' := s6 _ _ g1
          have g2' : ∀ r ∈ rtTo L n, upd H5 p (.lst (NV (rtTo L n))) (ad r) = some (.lst (NV (grp L n r))) := fun r hr => s6 _ _ (g2 r hr).1
          have s06 := s05.trans s6
          have hp6 : upd H5 p (.lst (NV (rtTo L n))) p = some (.lst (NV (rtTo L n))) := upd_same
          generalize upd H5 p (.lst (NV (rtTo L n))) = H6 at *
          refine ⟨p, rfl, ⟨_, sl_of hp6⟩, fun D2 nD2 => lc_it (walk_list (xs := NV (rtTo L n))) (fun i H' => Same H6 H' ∧ ∃ ks : List (Addr × List Nat), H' D2 = some (.lst (ks.map fun k => V.ref k.1)) ∧ ks.map (·.2) = ((rtTo L n).take i).map (grp L n) ∧ ∀ k ∈ ks, Tp H' k.1 k.2)
            ⟨same_upd nD2, [], upd_same, rfl, fun k hk => nomatch hk⟩ (fun i H' _ ⟨sm, _⟩ => sl_of (sm _ _ hp6)) ?_ ?_⟩
          · rintro i x _ H7 hi ⟨sm, js, j1, j2, j3⟩ ⟨rfl, hx⟩
            obtain ⟨s, hs, rfl⟩ := NV_get' hx
            have hm := List.mem_of_getElem? hs
            have hL := sm _ _ (g2' s hm)
            refine ⟨rfl, _, rfl, _, rfl, d, _, rfl, by rw [← kvG_in hm]; exact DGet.k (k := Sum.inl (s : Int)) (sm _ _ g1'), ?_⟩
            refine ⟨_, _, rfl, .inl ⟨sl_of hL, fun t nt => ?_⟩⟩
            have st := same_upd (o := .tup (NV (grp L n s))) nt
            refine ⟨_, st _ _ j1, ?_, fun b o e => ?_, js ++ [(t, grp L n s)], ?_, ?_, fun k hk => ?_⟩
            · have : js.length ≤ i := by
                have := congrArg List.length j2
                rw [List.length_map, List.length_map, List.length_take] at this
                omega
              rw [nv_len]
              rw [NV_len] at hi
              have := rtTo_len L n
              exact small1000 (by omega)
            · rw [upd_ne (ne_of_none e nD2)]
              exact st _ _ (sm _ _ e)
            · rw [upd_same, List.map_append]
              rfl
            · rw [List.map_append, j2, List.take_add_one, hs, List.map_append]
              rfl
            · rcases List.mem_append.mp hk with m | m
              · exact tp_upd (st _ _ (j3 k m)) (st _ _ j1)
              · rw [List.mem_singleton.mp m]
                exact tp_upd upd_same (st _ _ j1)
          · rintro H7 ⟨sm, js, j1, j2, j3⟩
            rw [NV_len, List.take_length] at j2
            refine ⟨D2, _, rfl, .inl ⟨sl_of j1, fun t nt => ?_⟩⟩
            have st := same_upd (o := .tup (js.map fun k => V.ref k.1)) nt
            exact q _ t ((s06.trans sm).trans st) ((s06.trans sm).free nt) ⟨js, upd_same, j2, fun k hk => st _ _ (j3 k hk)⟩
end
end Hw

namespace Hw
open PySem PySem.Spec PyProof.Rows L2 ClX
abbrev sInit : Stmt := inClass sNetwork 2
abbrev sGetB : Stmt := inClass sNetwork 8
abbrev sGetC : Stmt := inClass sNetwork 9
/-- all but the object is as it was -/
def Kx (x : Addr) (H H' : Hp) : Prop := ∀ b o, b ≠ x → H b = some o → H' b = some o
theorem Kx.of {x : Addr} {H H' : Hp} (s : Same H H') : Kx x H H' := fun b o _ e => s b o e
theorem Kx.trans {x : Addr} {H H1 H2 : Hp} (a : Kx x H H1) (b : Kx x H1 H2) : Kx x H H2 := fun c o n e => b c o n (a c o n e)
theorem Kx.upd (x : Addr) (H : Hp) (o : HO) : Kx x H (upd H x o) := fun b _ n e => by rw [upd_ne n]; exact e
theorem Kx.tup {x : Addr} {H H' : Hp} {C dx : Addr} {fs : List (Str × V)} (k : Kx x H H') (hx : H x = some (.ins C dx fs)) {b : Addr} {xs : List V} (h : H b = some (.tup xs)) : H' b = some (.tup xs) := k b _ (ne_of h hx (by intro z; cases z)) h
theorem EdT.kx {x : Addr} {H H' : Hp} {C dx : Addr} {fs : List (Str × V)} {l : Addr} {es : List Ed} (h : EdT H l es) (k : Kx x H H') (hx : H x = some (.ins C dx fs)) : EdT H' l es := by
  obtain ⟨ks, a, b, c⟩ := h
  exact ⟨ks, k.tup hx a, b, fun y hy => k.tup hx (c y hy)⟩
theorem CsAt.kx {x : Addr} {H H' : Hp} {C dx : Addr} {fs : List (Str × V)} {l : Addr} {cs : List (List Nat)} (h : CsAt H l cs) (k : Kx x H H') (hx : H x = some (.ins C dx fs)) : CsAt H' l cs := by
  obtain ⟨ks, a, b, c⟩ := h
  exact ⟨ks, k.tup hx a, b, fun y hy => k.tup hx (c y hy)⟩
/-- a network stands at x -/
def NetAt (C : Addr) (H : Hp) (x : Addr) (n : Nat) (es : List Ed) : Prop := ∃ (dx : Addr) (fs : List (Str × V)) (b c : Addr), H x = some (.ins C dx fs) ∧ fs.lookup ("_bridges" : Str) = some (.ref b) ∧ fs.lookup ("_cells" : Str) = some (.ref c) ∧ Tp H b (brg n es) ∧ CsAt H c (cel n es)
theorem NetAt.same {C : Addr} {H H' : Hp} {x : Addr} {n : Nat} {es : List Ed} (h : NetAt C H x n es) (s : Same H H') : NetAt C H' x n es := by
  obtain ⟨dx, fs, b, c, h1, h2, h3, h4, h5⟩ := h
  exact ⟨dx, fs, b, c, s _ _ h1, h2, h3, s _ _ h4, h5.same s⟩
theorem len_putF (f : Str) (v : V) : ∀ fs : List (Str × V), (putF f v fs).length ≤ fs.length + 1
  | [] => Nat.le_refl _
  | (g, x) :: r => by
    show (if g = f then (g, v) :: r else (g, x) :: putF f v r).length ≤ r.length + 1 + 1
    split
    · exact Nat.le_succ _
    · have := len_putF f v r
      rw [List.length_cons]
      omega
section
variable {P : Program} {w : World} {K : PySem.W.Frag} {mg : Str → Option Value} {base : Heap}
/-! ### _find_exits -/
def spExits : Sp := fun vs H Q _ => ∃ (a : Addr) (n : Nat) (es : List Ed), vs = [.int (n : Int), .ref a] ∧ EdT H a es ∧ n ≤ 12 ∧ es.length ≤ 16 ∧ ∀ H' r, Same H H' → Q (.ref r) H'
abbrev nEx : List Str := ["places", "passages", "exits", "place", "passage", "ends"]
theorem scExits : FnScope nEx ["places", "passages"] (defScope sExits) := ⟨rfl, rfl, rfl, by decide +kernel, rfl, by decide +kernel, by decide +kernel⟩
theorem cal_exits (T : Txt mg) (D : Df K mg "_find_exits" sExits ["places", "passages"]) : Cal P w K mg base "_find_exits" 1 spExits := by
  have nd := scExits.nd
  refine cal_of D scExits (fun vs H Q E h => ?_) (fun f cdv A outer s0 H vs Q E hr h => ?_)
  · obtain ⟨a, n, es, rfl, _⟩ := h
    rfl
  · obtain ⟨a, n, es, rfl, he, hn, hl, q⟩ := h
    refine ⟨_, pss_cons (ps_set (i := 2) nd rfl (.inl rfl) (pe_lst pa_nil))
      <| pss_cons (ps_for PassesOwn.never rfl (pi_range1 (by rfl) T.range (pa_cons (pv 0) pa_nil)) (pg_name (i := 3) nd rfl (.inr rfl))
          (pss_one (ps_expr (pe_bm PySem.F.plainAttrs_list PySem.F.slot_list_append PySem.F.type_list_append mt_append (pv 2) (pa_cons (pe_callTy call_tuple_of (by rfl) T.tuple (by decide +kernel) (pa_cons
              (pe_lc (own := [("passage", 4), ("ends", 5)]) (g := gTup K 2 (gCons (gName 4) (gCons (gName 5) gNil))) (by rfl) nd (pi_enumT (by rfl) T.enumerate (pa_cons (pv 1) pa_nil))
                (blkOk_by (own := [("passage", 4), ("ends", 5)]) (N := nEx) (sc := defScope sExits) (by decide +kernel)) (fun _ _ _ _ _ => pg_tup rfl (pgs_cons (pg_name (i := 4) nd rfl (.inl rfl)) (pgs_cons (pg_name (i := 5) nd rfl (.inl rfl)) pgs_nil)))
                (fun _ _ _ _ _ => pts_one (pt_cmpR (r := rIn K false) op_in_seq (pv 3) (pv 5) (by rfl))) (fun _ _ _ _ _ => pv 4)) pa_nil)) pa_nil)))))
      <| pss_one (ps_ret (pe_callTy call_tuple_of (by rfl) T.tuple (by decide +kernel) (pa_cons (pv 2) pa_nil))), ?_⟩
    obtain ⟨ks, k1, k2, k3⟩ := id he
    have kl := ed_len k2
    refine ⟨Nat.zero_le _, fun l nl => ?_⟩
    refine ⟨_, rfl, _, rfl, by omega, by omega, ?_⟩
    rw [Int.toNat_natCast]
    refine for_it walk_rg0 (fun i σ H' => ∃ v3 v4 v5 xs, σ = [some (.int (n : Int)), some (.ref a), some (.ref l), v3, v4, v5] ∧ Same H H' ∧ H' l = some (.lst xs) ∧ xs.length ≤ i) ⟨_, _, _, _, rfl, same_upd nl, upd_same, Nat.le_refl _⟩ (fun _ _ _ _ _ => trivial) ?_ ?_
    · rintro i x σ _ H2 hi ⟨v3, v4, v5, xs, rfl, sm, hL, xl⟩ ⟨rfl, rfl⟩
      refine ⟨_, rfl, .inl ⟨rfl, _, sl_of hL⟩, _, rfl, a, _, rfl, sq_of (sm _ _ k1) |> fun z => z, fun D nD => lc_it (walk_enumT (xs := ks.map fun k => V.ref k.1)) (fun j H' => Same H2 H' ∧ ∃ acc, H' D = some (.lst acc) ∧ acc.length ≤ j) ⟨same_upd nD, [], upd_same, Nat.le_refl _⟩ (fun j H' _ ⟨s, _⟩ => sq_of (s _ _ (sm _ _ k1))) ?_ ?_⟩
      · rintro j y H3 H4 hj ⟨s3, acc, hD, al⟩ ⟨T1, i', y', rfl, nT, rfl, ei, ey⟩
        obtain rfl : V.int (j : Int) = i' := Option.some.inj ei
        obtain ⟨k, hk, rfl⟩ := refs_get ey
        obtain ⟨e, hei, ek⟩ := ed_get k2 hk
        rw [nv_len, kl] at hj
        have sT := same_upd (o := .tup [V.int (j : Int), V.ref k.1]) nT
        have tk := sT _ _ (s3 _ _ (sm _ _ (k3 k (List.mem_of_getElem? hk))))
        refine ⟨T1, _, rfl, .inl (.inl upd_same), rfl, _, _, rfl, _, _, rfl, rfl, rfl, ?_⟩
        refine ⟨_, rfl, _, rfl, k.1, _, rfl, .inr (sq_of tk), rfl, flat_NV _, _, rfl, ite2 (fun _ => ?_) (fun _ => ?_)⟩
        · refine ⟨_, rfl, _, sT _ _ hD, small1000 (by omega), fun b o eb => ?_, _, upd_same, by rw [List.length_append]; show acc.length + 1 ≤ _; omega⟩
          rw [upd_ne (ne_of_none eb nD)]
          exact sT _ _ (s3 _ _ eb)
        · exact ⟨s3.trans sT, acc, sT _ _ hD, by omega⟩
      · rintro H3 ⟨s3, acc, hD, al⟩
        refine ⟨D, acc, rfl, .inl ⟨sl_of hD, fun t nt => ?_⟩⟩
        have st := same_upd (o := .tup acc) nt
        refine ⟨l, _, _, rfl, rfl, st _ _ (s3 _ _ hL), small1000 (by omega), ?_⟩
        refine ⟨_, _, _, _, rfl, fun b o e => ?_, upd_same, by rw [List.length_append]; show xs.length + 1 ≤ _; omega⟩
        rw [upd_ne (ne_of_none e nl)]
        exact st _ _ (s3 _ _ (sm _ _ e))
    · rintro σ H2 ⟨v3, v4, v5, xs, rfl, sm, hL, xl⟩
      exact ⟨_, rfl, l, _, rfl, .inl ⟨sl_of hL, fun t nt => q _ t (sm.trans (same_upd nt))⟩⟩
end
end Hw

/-! How far places are from each other, and the least way. No Python here. -/
namespace Hw
/-- x is within k passages of g -/
def bl (es : List Ed) (g : Nat) : Nat → Nat → Bool
  | 0, x => decide (x = g)
  | k + 1, x => bl es g k x || es.any fun e => (decide (e.1 = x) && bl es g k e.2) || (decide (e.2 = x) && bl es g k e.1)
theorem bl_succ {es : List Ed} {g k x : Nat} : bl es g (k + 1) x = true ↔ bl es g k x = true ∨ ∃ y, adj es x y ∧ bl es g k y = true := by
  show (bl es g k x || es.any fun e => (decide (e.1 = x) && bl es g k e.2) || (decide (e.2 = x) && bl es g k e.1)) = true ↔ _
  rw [Bool.or_eq_true, List.any_eq_true]
  constructor
  · rintro (h | ⟨e, he, h⟩)
    · exact .inl h
    · right
      rw [Bool.or_eq_true, Bool.and_eq_true, Bool.and_eq_true, decide_eq_true_eq, decide_eq_true_eq] at h
      rcases h with ⟨a, b⟩ | ⟨a, b⟩
      · exact ⟨e.2, .inl (by rw [← a]; exact he), b⟩
      · exact ⟨e.1, .inr (by rw [← a]; exact he), b⟩
  · rintro (h | ⟨y, h, b⟩)
    · exact .inl h
    · right
      rcases h with m | m
      · exact ⟨_, m, by simp [b]⟩
      · exact ⟨_, m, by simp [b]⟩
theorem bl_mono {es : List Ed} {g x k j : Nat} (h : bl es g k x = true) (l : k ≤ j) : bl es g j x = true := by
  induction l with
  | refl => exact h
  | step _ ih => exact bl_succ.mpr (.inl ih)
theorem bl_cons {es : List Ed} {x y : Nat} (a : adj es x y) {z : Nat} : ∀ {k : Nat}, bl es y k z = true → bl es x (k + 1) z = true := by
  intro k
  induction k generalizing z with
  | zero =>
    intro h
    have e : z = y := of_decide_eq_true h
    subst e
    exact bl_succ.mpr (.inr ⟨x, adj_symm a, decide_eq_true rfl⟩)
  | succ k ih =>
    intro h
    rcases bl_succ.mp h with h | ⟨v, q, h⟩
    · exact bl_mono (ih h) (Nat.le_succ _)
    · exact bl_succ.mpr (.inr ⟨v, q, ih h⟩)
theorem bl_symm {es : List Ed} {g : Nat} : ∀ {k x : Nat}, bl es g k x = true → bl es x k g = true := by
  intro k
  induction k with
  | zero =>
    intro x h
    exact decide_eq_true (of_decide_eq_true h).symm
  | succ k ih =>
    intro x h
    rcases bl_succ.mp h with h | ⟨v, q, h⟩
    · exact bl_mono (ih h) (Nat.le_succ _)
    · exact bl_cons q (ih h)
/-- what holds from some number on, counted -/
theorem count_mono (p : Nat → Bool) (mono : ∀ k, p k = true → p (k + 1) = true) : ∀ n, ((List.range n).filter fun k => !p k).length ≤ n ∧ ∀ k, k < n → (p k = true ↔ ((List.range n).filter fun k => !p k).length ≤ k)
  | 0 => ⟨Nat.le_refl _, fun k h => absurd h (Nat.not_lt_zero _)⟩
  | n + 1 => by
    obtain ⟨i1, i2⟩ := count_mono p mono n
    have e : ((List.range (n + 1)).filter fun k => !p k).length = ((List.range n).filter fun k => !p k).length + (if p n = true then 0 else 1) := by
      rw [List.range_succ, List.filter_append, List.length_append, List.filter_cons, List.filter_nil]
      cases p n <;> rfl
    have up : ∀ d k, p k = true → p (k + d) = true := fun d => by
      induction d with
      | zero => exact fun _ z => z
      | succ d ih => exact fun k z => mono _ (ih k z)
    have down : ∀ k, k ≤ n → p k = true → p n = true := fun k h z => by
      have := up (n - k) k z
      rw [show k + (n - k) = n by omega] at this
      exact this
    rw [e]
    by_cases c : p n = true
    · rw [if_pos c, Nat.add_zero]
      refine ⟨by omega, fun k hk => ?_⟩
      by_cases z : k = n
      · subst z; simp [c, i1]
      · exact i2 k (by omega)
    · rw [if_neg c]
      have full : ((List.range n).filter fun k => !p k).length = n := by
        by_cases z : n = 0
        · subst z; rfl
        · have := i2 (n - 1) (by omega)
          have nn : ¬ p (n - 1) = true := fun q => c (down (n - 1) (by omega) q)
          have : ¬ ((List.range n).filter fun k => !p k).length ≤ n - 1 := fun q => nn (this.mpr q)
          omega
      rw [full]
      refine ⟨Nat.le_refl _, fun k hk => ⟨fun q => absurd (down k (by omega) q) c, fun q => by omega⟩⟩
theorem len_filter_le {α : Type} {p q : α → Bool} : ∀ {l : List α}, (∀ x ∈ l, p x = true → q x = true) → (l.filter p).length ≤ (l.filter q).length
  | [], _ => Nat.le_refl _
  | a :: l, h => by
    have ih := len_filter_le (l := l) fun x hx => h x (List.mem_cons_of_mem _ hx)
    have ha := h a List.mem_cons_self
    rw [List.filter_cons, List.filter_cons]
    cases e1 : p a <;> cases e2 : q a <;> simp [e1, e2] at ha ⊢ <;> omega
theorem len_filter_lt {α : Type} {p q : α → Bool} {x : α} : ∀ {l : List α}, (∀ x ∈ l, p x = true → q x = true) → x ∈ l → p x = false → q x = true → (l.filter p).length < (l.filter q).length
  | a :: l, h, m, hp, hq => by
    have ih := len_filter_le (l := l) fun x hx => h x (List.mem_cons_of_mem _ hx)
    have ha := h a List.mem_cons_self
    rcases List.mem_cons.mp m with e | m
    · subst e
      rw [List.filter_cons, List.filter_cons, hp, hq]
      simp
      omega
    · have ih2 := len_filter_lt (fun x hx => h x (List.mem_cons_of_mem _ hx)) m hp hq
      rw [List.filter_cons, List.filter_cons]
      cases e1 : p a <;> cases e2 : q a <;> simp [e1, e2] at ha ⊢ <;> omega
theorem bl_grows {n : Nat} {es : List Ed} (cn : CN n es) {g : Nat} (hg : g < n) : ∀ k, (∀ x, x < n → bl es g k x = true) ∨ k + 1 ≤ ((List.range n).filter (bl es g k)).length
  | 0 => .inr (List.length_pos_iff_exists_mem.mpr ⟨g, List.mem_filter.mpr ⟨List.mem_range.mpr hg, decide_eq_true rfl⟩⟩)
  | k + 1 => by
    rcases bl_grows cn hg k with h | h
    · exact .inl fun x hx => bl_mono (h x hx) (Nat.le_succ _)
    · by_cases c : ∃ x, x < n ∧ bl es g k x = false ∧ bl es g (k + 1) x = true
      · right
        obtain ⟨x, hx, a, b⟩ := c
        have := len_filter_lt (p := bl es g k) (q := bl es g (k + 1)) (l := List.range n) (fun x _ z => bl_mono z (Nat.le_succ _)) (List.mem_range.mpr hx) a b
        omega
      · left
        have lt : ∀ {u v}, adj es u v → u < n ∧ v < n := fun {u v} a => by
          rcases a with m | m <;> (have := cn.2.1 _ m; simp only at this; omega)
        have cl : ∀ {u v}, Rch es u v → bl es g k u = true → u < n → bl es g k v = true ∧ v < n := fun r hu hn => by
          induction r with
          | refl => exact ⟨hu, hn⟩
          | step _ a ih =>
            have l := lt a
            refine ⟨?_, l.2⟩
            cases e : bl es g k _ with
            | true => rfl
            | false => exact absurd ⟨_, l.2, e, bl_succ.mpr (.inr ⟨_, adj_symm a, ih.1⟩)⟩ c
        have g0 : bl es g k g = true := bl_mono (k := 0) (decide_eq_true rfl) (Nat.zero_le _)
        exact fun x hx => bl_mono (cl ((cn.2.2 g hg).symm.trans (cn.2.2 x hx)) g0 hg).1 (Nat.le_succ _)
theorem bl_all {n : Nat} {es : List Ed} (cn : CN n es) {g x : Nat} (hg : g < n) (hx : x < n) : bl es g (n - 1) x = true := by
  rcases bl_grows cn hg (n - 1) with h | h
  · exact h x hx
  · have e : ((List.range n).filter (bl es g (n - 1))).length = (List.range n).length := Nat.le_antisymm (List.length_filter_le _ _) (by rw [List.length_range]; omega)
    exact List.length_filter_eq_length_iff.mp e x (List.mem_range.mpr hx)
/-- how far x is from g -/
def dst (n : Nat) (es : List Ed) (g x : Nat) : Nat := ((List.range n).filter fun k => !bl es g k x).length
theorem bl_dst {n : Nat} {es : List Ed} {g x k : Nat} (h : k < n) : bl es g k x = true ↔ dst n es g x ≤ k :=
  (count_mono (fun k => bl es g k x) (fun k z => bl_mono z (Nat.le_succ _)) n).2 k h
/-- distances from g -/
structure IsD (n : Nat) (es : List Ed) (g : Nat) (d : Nat → Nat) : Prop where
  z : d g = 0
  lt : ∀ x, x < n → d x < n
  up : ∀ x y, adj es x y → d y ≤ d x + 1
  dn : ∀ x, x < n → d x ≠ 0 → ∃ y, adj es x y ∧ d y + 1 = d x
  zo : ∀ x, x < n → d x = 0 → x = g
theorem adj_lt {n : Nat} {es : List Ed} (ve : VE n es) {u v : Nat} (a : adj es u v) : u < n ∧ v < n := by
  rcases a with m | m <;> (have := ve _ m; simp only at this; omega)
theorem dst_is {n : Nat} {es : List Ed} (cn : CN n es) {g : Nat} (hg : g < n) : IsD n es g (dst n es g) := by
  have n1 := cn.1
  have lt : ∀ x, x < n → dst n es g x < n := fun x hx => by
    have := (bl_dst (n := n) (es := es) (g := g) (x := x) (k := n - 1) (by omega)).mp (bl_all cn hg hx)
    omega
  refine ⟨?_, lt, fun x y a => ?_, fun x hx h => ?_, fun x hx h => ?_⟩
  · have := (bl_dst (n := n) (es := es) (g := g) (x := g) (k := 0) (by omega)).mp (decide_eq_true rfl)
    omega
  · have l := adj_lt cn.2.1 a
    have h1 := (bl_dst (n := n) (es := es) (g := g) (lt x l.1)).mpr (Nat.le_refl _)
    have h2 : bl es g (dst n es g x + 1) y = true := bl_succ.mpr (.inr ⟨x, adj_symm a, h1⟩)
    by_cases c : dst n es g x + 1 < n
    · exact (bl_dst c).mp h2
    · have := lt y l.2
      have := lt x l.1
      omega
  · have l := lt x hx
    have h1 := (bl_dst (n := n) (es := es) (g := g) l).mpr (Nat.le_refl _)
    obtain ⟨k, ek⟩ : ∃ k, dst n es g x = k + 1 := ⟨dst n es g x - 1, by omega⟩
    rw [ek] at h1 l
    rcases bl_succ.mp h1 with h | ⟨y, a, h⟩
    · have := (bl_dst (n := n) (es := es) (g := g) (x := x) (k := k) (by omega)).mp h
      omega
    · refine ⟨y, a, ?_⟩
      have u := (bl_dst (n := n) (es := es) (g := g) (x := y) (k := k) (by omega)).mp h
      by_cases c : dst n es g y = k
      · omega
      · exfalso
        have h3 := (bl_dst (n := n) (es := es) (g := g) (lt y (adj_lt cn.2.1 a).2)).mpr (Nat.le_refl _)
        have h4 : bl es g (dst n es g y + 1) x = true := bl_succ.mpr (.inr ⟨y, a, h3⟩)
        have := (bl_dst (n := n) (es := es) (g := g) (x := x) (k := dst n es g y + 1) (by omega)).mp h4
        omega
  · have h1 := (bl_dst (n := n) (es := es) (g := g) (x := x) (k := 0) (by omega)).mpr (by omega)
    exact of_decide_eq_true h1
theorem dst_symm {n : Nat} {es : List Ed} (cn : CN n es) {g x : Nat} (hg : g < n) (hx : x < n) : dst n es g x = dst n es x g := by
  have a := (dst_is cn hg).lt x hx
  have b := (dst_is cn hx).lt g hg
  have h1 := (bl_dst (n := n) (es := es) (g := x) (x := g) a).mp (bl_symm ((bl_dst a).mpr (Nat.le_refl _)))
  have h2 := (bl_dst (n := n) (es := es) (g := g) (x := x) b).mp (bl_symm ((bl_dst b).mpr (Nat.le_refl _)))
  omega
theorem dst_self {n : Nat} {es : List Ed} (cn : CN n es) {g : Nat} (hg : g < n) : dst n es g g = 0 := (dst_is cn hg).z
/-! ### the least way -/
def drsTo (es : List Ed) (u j : Nat) : List Nat := (List.range j).filter fun i => decide (u ∈ [(es.getD i (0, 0)).1, (es.getD i (0, 0)).2])
def drs (es : List Ed) (u : Nat) : List Nat := drsTo es u es.length
theorem drsTo_succ (es : List Ed) (u j : Nat) : drsTo es u (j + 1) = drsTo es u j ++ (if decide (u ∈ [(es.getD j (0, 0)).1, (es.getD j (0, 0)).2]) = true then [j] else []) := by
  unfold drsTo
  rw [List.range_succ, List.filter_append]
  congr 1
  rw [List.filter_cons, List.filter_nil]
theorem drsTo_len (es : List Ed) (u j : Nat) : (drsTo es u j).length ≤ j := by
  unfold drsTo
  exact Nat.le_trans (List.length_filter_le _ _) (by rw [List.length_range]; exact Nat.le_refl _)
theorem getD_of {es : List Ed} {i : Nat} {e : Ed} (h : es[i]? = some e) : es.getD i (0, 0) = e := by
  rw [List.getD_eq_getElem?_getD, h]
  rfl
theorem get_at {es : List Ed} {i : Nat} (h : i < es.length) : es[i]? = some (es.getD i (0, 0)) := by
  rw [List.getD_eq_getElem?_getD, List.getElem?_eq_getElem h]
  rfl
theorem mem_drs {es : List Ed} {u j : Nat} : j ∈ drs es u ↔ j < es.length ∧ u ∈ [(es.getD j (0, 0)).1, (es.getD j (0, 0)).2] := by
  unfold drs drsTo
  rw [List.mem_filter, List.mem_range, decide_eq_true_eq]
/-- the other end -/
def oth (e : Ed) (x : Nat) : Nat := if x = e.1 then e.2 else e.1
theorem oth_sum {e : Ed} {x : Nat} (h : x ∈ [e.1, e.2]) : oth e x = e.1 + e.2 - x ∧ x ≤ e.1 + e.2 := by
  have h' : x = e.1 ∨ x = e.2 := by simpa using h
  unfold oth
  rcases h' with z | z
  · rw [if_pos z]; omega
  · split <;> omega
theorem oth_adj {es : List Ed} {i x : Nat} (h : i ∈ drs es x) : adj es x (oth (es.getD i (0, 0)) x) := by
  obtain ⟨l, m⟩ := mem_drs.mp h
  have me := List.mem_of_getElem? (get_at l)
  generalize es.getD i (0, 0) = e at *
  have h' : x = e.1 ∨ x = e.2 := by simpa using m
  unfold oth
  by_cases z : x = e.1
  · rw [if_pos z]
    exact .inl (by rw [z]; exact me)
  · rw [if_neg z]
    have := h'.resolve_left z
    exact .inr (by rw [this]; exact me)
theorem adj_oth {es : List Ed} {x y : Nat} (a : adj es x y) : ∃ i, i ∈ drs es x ∧ oth (es.getD i (0, 0)) x = y := by
  have main : ∀ e : Ed, e ∈ es → (e = (x, y) ∨ e = (y, x)) → ∃ i, i ∈ drs es x ∧ oth (es.getD i (0, 0)) x = y := fun e m h => by
    obtain ⟨i, hi, ei⟩ := List.mem_iff_getElem.mp m
    have g := getD_of (es := es) (i := i) (e := e) (by rw [List.getElem?_eq_getElem hi, ei])
    refine ⟨i, mem_drs.mpr ⟨hi, ?_⟩, ?_⟩
    · rw [g]
      rcases h with z | z <;> subst z <;> simp
    · rw [g]
      rcases h with z | z <;> subst z
      · exact if_pos rfl
      · unfold oth
        simp only
        split
        · rename_i q; exact q
        · rfl
  rcases a with m | m
  · exact main _ m (.inl rfl)
  · exact main _ m (.inr rfl)
/-- the passages at x that lead nearer -/
def stp (es : List Ed) (d : Nat → Nat) (x : Nat) : List Nat := (drs es x).filter fun i => decide (d (oth (es.getD i (0, 0)) x) < d x)
def wy (es : List Ed) (d : Nat → Nat) : Nat → Nat → List Nat
  | 0, _ => []
  | k + 1, x => (stp es d x).headD 0 :: wy es d k (oth (es.getD ((stp es d x).headD 0) (0, 0)) x)
def wayF (n : Nat) (es : List Ed) (x g : Nat) : List Nat := wy es (dst n es g) (dst n es g x) x
theorem wy_len (es : List Ed) (d : Nat → Nat) : ∀ k x, (wy es d k x).length = k
  | 0, _ => rfl
  | k + 1, x => congrArg (· + 1) (wy_len es d k _)
theorem stp_ex {n : Nat} {es : List Ed} (ve : VE n es) {g : Nat} {d : Nat → Nat} (D : IsD n es g d) {x : Nat} (hx : x < n) (h : d x ≠ 0) :
    ∃ i r, stp es d x = i :: r ∧ i ∈ drs es x ∧ i < es.length ∧ oth (es.getD i (0, 0)) x < n ∧ d (oth (es.getD i (0, 0)) x) + 1 = d x := by
  cases e : stp es d x with
  | nil =>
    exfalso
    obtain ⟨y, a, q⟩ := D.dn x hx h
    obtain ⟨i, hi, eo⟩ := adj_oth a
    have : i ∈ stp es d x := List.mem_filter.mpr ⟨hi, decide_eq_true (by rw [eo]; omega)⟩
    rw [e] at this
    cases this
  | cons i r =>
    have m : i ∈ stp es d x := by rw [e]; exact List.mem_cons_self
    obtain ⟨m1, m2⟩ := List.mem_filter.mp m
    have lt := of_decide_eq_true m2
    have a := oth_adj m1
    have u := D.up _ _ (adj_symm a)
    exact ⟨i, r, rfl, m1, (mem_drs.mp m1).1, (adj_lt ve a).2, by omega⟩
/-- nearer is nearer by one -/
theorem stp_eq {n : Nat} {es : List Ed} {g : Nat} {d : Nat → Nat} (D : IsD n es g d) {x i : Nat} (hi : i ∈ drs es x) : d (oth (es.getD i (0, 0)) x) < d x ↔ d (oth (es.getD i (0, 0)) x) + 1 = d x := by
  have u := D.up _ _ (adj_symm (oth_adj hi))
  omega
theorem wy_lt {n : Nat} {es : List Ed} (ve : VE n es) {g : Nat} {d : Nat → Nat} (D : IsD n es g d) : ∀ k x, x < n → d x = k → ∀ i ∈ wy es d k x, i < es.length
  | 0, _, _, _, i, h => nomatch h
  | k + 1, x, hx, e, i, h => by
    obtain ⟨j, r, ej, _, jl, ol, eo⟩ := stp_ex ve D hx (by omega)
    unfold wy at h
    rw [ej] at h
    rcases List.mem_cons.mp h with z | m
    · rw [z]; exact jl
    · exact wy_lt ve D k _ ol (by show d (oth (es.getD j (0, 0)) x) = k; omega) i m
end Hw

namespace Hw
open PySem PySem.Spec PyProof.Rows L2 ClX
theorem pl_mem {e : Ed} {u : Nat} : decide (u ∈ pl e) = decide (u ∈ [e.1, e.2]) := rfl
theorem drs_len (es : List Ed) (u : Nat) : (drs es u).length ≤ es.length := drsTo_len es u _
def exs (n : Nat) (es : List Ed) : List (List Nat) := (List.range (n : Nat)).map (drs es)
section
variable {P : Program} {w : World} {K : PySem.W.Frag} {mg : Str → Option Value} {base : Heap}
/-! ### _find_exits, whole -/
def spExits5 : Sp := fun vs H Q _ => ∃ (a : Addr) (n : Nat) (es : List Ed), vs = [.int (n : Int), .ref a] ∧ EdT H a es ∧ n ≤ 12 ∧ es.length ≤ 16 ∧ ∀ H' r, Same H H' → CsAt H' r (exs n es) → Q (.ref r) H'
theorem cal_exits5 (T : Txt mg) (D : Df K mg "_find_exits" sExits ["places", "passages"]) : Cal P w K mg base "_find_exits" 1 spExits5 := by
  have nd := scExits.nd
  refine cal_of D scExits (fun vs H Q E h => ?_) (fun f cdv A outer s0 H vs Q E hr h => ?_)
  · obtain ⟨a, n, es, rfl, _⟩ := h
    rfl
  · obtain ⟨a, n, es, rfl, he, hn, hl, q⟩ := h
    refine ⟨_, pss_cons (ps_set (i := 2) nd rfl (.inl rfl) (pe_lst pa_nil))
      <| pss_cons (ps_for PassesOwn.never rfl (pi_range1 (by rfl) T.range (pa_cons (pv 0) pa_nil)) (pg_name (i := 3) nd rfl (.inr rfl))
          (pss_one (ps_expr (pe_bm PySem.F.plainAttrs_list PySem.F.slot_list_append PySem.F.type_list_append mt_append (pv 2) (pa_cons (pe_callTy call_tuple_of (by rfl) T.tuple (by decide +kernel) (pa_cons
              (pe_lc (own := [("passage", 4), ("ends", 5)]) (g := gTup K 2 (gCons (gName 4) (gCons (gName 5) gNil))) (by rfl) nd (pi_enumT (by rfl) T.enumerate (pa_cons (pv 1) pa_nil))
                (blkOk_by (own := [("passage", 4), ("ends", 5)]) (N := nEx) (sc := defScope sExits) (by decide +kernel)) (fun _ _ _ _ _ => pg_tup rfl (pgs_cons (pg_name (i := 4) nd rfl (.inl rfl)) (pgs_cons (pg_name (i := 5) nd rfl (.inl rfl)) pgs_nil)))
                (fun _ _ _ _ _ => pts_one (pt_cmpR (r := rIn K false) op_in_seq (pv 3) (pv 5) (by rfl))) (fun _ _ _ _ _ => pv 4)) pa_nil)) pa_nil)))))
      <| pss_one (ps_ret (pe_callTy call_tuple_of (by rfl) T.tuple (by decide +kernel) (pa_cons (pv 2) pa_nil))), ?_⟩
    obtain ⟨ks, k1, k2, k3⟩ := id he
    have kl := ed_len k2
    refine ⟨Nat.zero_le _, fun l nl => ?_⟩
    refine ⟨_, rfl, _, rfl, by omega, by omega, ?_⟩
    rw [Int.toNat_natCast]
    refine for_it walk_rg0 (fun i σ H' => ∃ v3 v4 v5, ∃ js : List (Addr × List Nat), σ = [some (.int (n : Int)), some (.ref a), some (.ref l), v3, v4, v5] ∧ Same H H' ∧ H' l = some (.lst (js.map fun k => V.ref k.1)) ∧ js.map (·.2) = exs i es ∧ ∀ k ∈ js, Tp H' k.1 k.2)
      ⟨_, _, _, [], rfl, same_upd nl, upd_same, rfl, fun k hk => nomatch hk⟩ (fun _ _ _ _ _ => trivial) ?_ ?_
    · rintro i x σ _ H2 hi ⟨v3, v4, v5, js, rfl, sm, hL, j2, j3⟩ ⟨rfl, rfl⟩
      have jl : js.length = i := by
        have := congrArg List.length j2
        unfold exs at this
        rw [List.length_map, List.length_map, List.length_range] at this
        exact this
      refine ⟨_, rfl, .inl ⟨rfl, _, sl_of hL⟩, _, rfl, a, _, rfl, sq_of (sm _ _ k1) |> fun z => z, fun D nD => lc_it (walk_enumT (xs := ks.map fun k => V.ref k.1)) (fun j H' => Same H2 H' ∧ H' D = some (.lst (NV (drsTo es i j)))) ⟨same_upd nD, upd_same⟩ (fun j H' _ ⟨s, _⟩ => sq_of (s _ _ (sm _ _ k1))) ?_ ?_⟩
      · rintro j y H3 H4 hj ⟨s3, hD⟩ ⟨T1, i', y', rfl, nT, rfl, ei, ey⟩
        obtain rfl : V.int (j : Int) = i' := Option.some.inj ei
        obtain ⟨k, hk, rfl⟩ := refs_get ey
        obtain ⟨e, hei, ek⟩ := ed_get k2 hk
        rw [nv_len, kl] at hj
        have sT := same_upd (o := .tup [V.int (j : Int), V.ref k.1]) nT
        have tk := sT _ _ (s3 _ _ (sm _ _ (k3 k (List.mem_of_getElem? hk))))
        rw [ek] at tk
        refine ⟨T1, _, rfl, .inl (.inl upd_same), rfl, _, _, rfl, _, _, rfl, rfl, rfl, ?_⟩
        refine ⟨_, rfl, _, rfl, k.1, _, rfl, .inr (sq_of tk), rfl, flat_NV _, _, rfl, ?_⟩
        rw [inV_NV, drsTo_succ, getD_of hei]
        refine ite2 (fun z => ?_) (fun z => ?_)
        · have z' : decide (i ∈ [e.1, e.2]) = true := z
          rw [z']
          refine ⟨_, rfl, _, sT _ _ hD, ?_, fun b o eb => ?_, ?_⟩
          · rw [NV_len]
            exact Nat.lt_of_le_of_lt (drsTo_len _ _ _) (small1000 (by omega))
          · rw [upd_ne (ne_of_none eb nD)]
            exact sT _ _ (s3 _ _ eb)
          · rw [if_pos rfl, upd_same, NV_snoc]
        · have z' : ¬ decide (i ∈ [e.1, e.2]) = true := z
          rw [if_neg z', List.append_nil]
          exact ⟨s3.trans sT, sT _ _ hD⟩
      · rintro H3 ⟨s3, hD⟩
        rw [nv_len, kl] at hD
        refine ⟨D, _, rfl, .inl ⟨sl_of hD, fun t nt => ?_⟩⟩
        have st := same_upd (o := .tup (NV (drsTo es i es.length))) nt
        refine ⟨l, _, _, rfl, rfl, st _ _ (s3 _ _ hL), small1000 (by rw [nv_len]; omega), ?_⟩
        refine ⟨_, _, _, js ++ [(t, drs es i)], rfl, fun b o e => ?_, ?_, ?_, fun k hk => ?_⟩
        · rw [upd_ne (ne_of_none e nl)]
          exact st _ _ (s3 _ _ (sm _ _ e))
        · rw [upd_same, List.map_append]
          rfl
        · unfold exs
          rw [List.map_append, j2, List.range_succ, List.map_append]
          rfl
        · rcases List.mem_append.mp hk with m | m
          · exact tp_upd (st _ _ (s3 _ _ (j3 k m))) (st _ _ (s3 _ _ hL))
          · rw [List.mem_singleton.mp m]
            exact tp_upd upd_same (st _ _ (s3 _ _ hL))
    · rintro σ H2 ⟨v3, v4, v5, js, rfl, sm, hL, j2, j3⟩
      refine ⟨_, rfl, l, _, rfl, .inl ⟨sl_of hL, fun t nt => ?_⟩⟩
      have st := same_upd (o := .tup (js.map fun k => V.ref k.1)) nt
      exact q _ t (sm.trans st) ⟨js, upd_same, j2, fun k hk => st _ _ (j3 k hk)⟩
end
end Hw

/-! An own exception whose __init__ begins with super().__init__(..): the def, as a promise. -/
namespace Hw
open PySem PySem.Spec PyProof.Rows L2
theorem lk_cons {α : Type} (y x : Str) (v : α) (m : List (Str × α)) : ((y, v) :: m).lookup x = if x = y then some v else m.lookup x := by
  by_cases h : x = y
  · subst h
    simp [List.lookup]
  · have e : (x == y) = false := by simpa using h
    rw [if_neg h]
    simp [List.lookup, e]
theorem rev_lookup {l : List (Str × Value)} (nd : (l.map (·.1)).Nodup) {x : Str} {u : Value} (h : (x, u) ∈ l) : l.reverse.lookup x = some u := by
  have gen : ∀ m : List (Str × Value), (m.map (·.1)).Nodup → (x, u) ∈ m → m.lookup x = some u := by
    intro m
    induction m with
    | nil => intro _ h; cases h
    | cons p m ih =>
      obtain ⟨y, v⟩ := p
      intro nd h
      rw [List.map_cons, List.nodup_cons] at nd
      rw [lk_cons]
      rcases List.mem_cons.mp h with e | m'
      · cases e
        rw [if_pos rfl]
      · rw [if_neg fun z : x = y => nd.1 (by rw [← z]; exact List.mem_map.mpr ⟨_, m', rfl⟩)]
        exact ih nd.2 m'
  refine gen _ ?_ (List.mem_reverse.mpr h)
  rw [List.map_reverse, List.nodup_iff_pairwise_ne, List.pairwise_reverse]
  exact List.Pairwise.imp (fun h => h.symm) (List.nodup_iff_pairwise_ne.mp nd)
/-- the frame of such a def -/
def cxK (P : Program) (w : World) (K : PySem.W.Frag) (mg : Str → Option Value) (base : Heap) (N : List Str) (env : Env) (A : Around) (outer : List Env) (st : Shared) (H : Hp) : Cx where
  prog := P
  w := w
  K := K
  mg := mg
  base := base
  A := A.deeper env
  N := N
  s_0 := st
  H_0 := H
  env := env
  outer := outer
  stack := env :: outer
  ex := []
  calm := true
  fn := fun _ => false
  pn := []
  xe := fun _ _ => False
/-- what the text says of such a class and its def -/
structure XiF (P : Program) (K : PySem.W.Frag) (mg : Str → Option Value) (C f : Addr) (fd : FuncData) (qual : Str) (scope : Scope) (body : List Stmt) (cda cc : Addr) : Prop where
  low : OexC K C
  fd_ : ∃ params dV kV doc pm an ct ar, fd = PySem.W.ksFn "__init__" qual params body scope dV kV doc pm an (.ref cda) ct cc ∧ (fd.params.posonlyargs ++ fd.params.args).head? = some ar ∧ ar.arg = "self"
  lk : ∃ oc od osl, K.lookup f = some ⟨oc, od, .func fd, osl⟩
  code : PySem.W.codeIn K (.ref cda) qual = true
  file : ∃ ccl cdd vs ccs file tf, K.lookup cda = some ⟨ccl, cdd, .fields vs, ccs⟩ ∧ vs[2]? = some (.str file tf) ∧ ((P.main.file : Str) == file) = true
  cell : ∃ cl cld csl, K.lookup cc = some ⟨cl, cld, .cell (some (.ref C)), csl⟩
  sub : PySem.W.mroIn K C (.ref C) = some true
  opq : PySem.W.nsIn K PySem.cStatics "thirdparty.any" = some none
  sup : PySem.W.ks_superIn K C C "__init__" = some (some (.builtin "ValueError.__init__"))
  isV : PySem.W.subIn K (.ref C) (.type "ValueError") = some true
  noS : mg "super" = none
  top : (P.main.scope.names.lookup ("super" : Str)).isSome = false
/-- what the def's own names are -/
structure XiS (N ps : List Str) (scope : Scope) : Prop where
  kind : scope.kind = .function
  co : scope.isCoroutine = false
  gen : scope.isGenerator = false
  nd : N.Nodup
  pre : N.take ps.length = ps
  par : ∀ x ∈ ps, scope.names.lookup x = some .local
  nocell : ∀ y ∈ scope.names, y.2 ≠ .cell
  free : ∀ y ∈ scope.names, y.2 = .free → y.1 = "__class__"
  sup : scope.names.lookup ("super" : Str) = some .globalImplicit
  cls : scope.names.lookup ("__class__" : Str) = some .free
  self : N[0]? = some ("self" : Str) ∧ scope.names.lookup ("self" : Str) = some .local ∧ 0 < ps.length
section
variable {P : Program} {w : World} {K : PySem.W.Frag} {mg : Str → Option Value} {base : Heap}
theorem inv_k {N ps : List Str} {scope : Scope} {qual : Str} {f cda cc : Addr} {A : Around} {outer : List Env} {st : Shared} {H : Hp} {us : List Value} {vs : List V} {h0 : Heap} {tk : Nat} (S : XiS N ps scope) (hd : A.handled = none) (e0 : Env0 P w K mg base A outer st H)
    (hl : vs.length = ps.length) (r : Vals vs us) (hcell : ∃ cl cld csl C, K.lookup cc = some ⟨cl, cld, .cell (some (.ref C)), csl⟩) (ns : h0.Ns st.heap.objs.size (fun x => (ps.zip us).reverse.lookup x)) (keep : ∀ b o, st.heap.get? b = some o → h0.get? b = some o) :
    Inv (cxK P w K mg base N (PySem.W.ksEnv qual scope st.heap.objs.size f (.ref cda) cc) A outer st H) [] (L2.start N vs) H { st with heap := h0, toks := tk } := by
  obtain ⟨cl, cld, csl, C, hc⟩ := hcell
  have hpl : ps.length ≤ N.length := by
    have := congrArg List.length S.pre
    rw [List.length_take] at this
    omega
  have kb := e0.mod.kin _ _ hc
  have one : ∀ (x : Str) (c : Addr), ([("__class__", cc)] : List (Str × Addr)).lookup x = some c → x = "__class__" ∧ c = cc := fun x c h => by
    rw [lk_cons] at h
    split at h
    · rename_i z
      exact ⟨z, (Option.some.inj h).symm⟩
    · cases h
  have noex : ∀ b : Addr, b ∉ ([] : List Addr) := fun b z => by cases z
  refine ⟨⟨e0.mod, S.kind, rfl, rfl, Nat.le_refl _, fun y z c h1 h2 => ?_, fun y hy => ?_, fun y c hf _ => (by cases hf), fun _ => hd, Around.frames_deeper e0.frames, .inr ⟨rfl, rfl⟩, fun b z => absurd z (noex b), e0.bs, e0.bsz, fun b _ _ => noex b, fun b z => absurd z (noex b), e0.funs, e0.frf⟩,
    rfl, e0.bare, Un.kept keep, ⟨_, ns, fun i y v h1 h2 h3 => ?_⟩, fun y c h => ?_, e0.hok.fresh (Nat.le_refl _), fun y c h => ?_, fun p hp => absurd hp (by simp [cxK]), e0.hok.kept keep, ?_⟩
  · exact (one y c h1).1.trans (one z c h2).1.symm
  · have hy' : scope.names.lookup y = some .cell ∨ scope.names.lookup y = some .free := hy
    rcases hy' with q | q
    · exact absurd rfl (S.nocell _ (PySem.mem_of_lookup q))
    · have := S.free _ (PySem.mem_of_lookup q) rfl
      dsimp only at this
      subst this
      exact ⟨cc, by rfl⟩
  · have hi : i < vs.length := by
      unfold L2.start at h2
      by_cases z : i < vs.length
      · exact z
      · rw [List.getElem?_append_right (by simpa using z), List.getElem?_replicate] at h2
        split at h2 <;> cases h2
    have ha : vs[i]? = some v := by
      unfold L2.start at h2
      rw [List.getElem?_append_left (by simpa using hi), List.getElem?_map] at h2
      cases e : vs[i]? with
      | none => rw [e] at h2; cases h2
      | some a => rw [e] at h2; cases h2; rfl
    obtain ⟨u, hu, rv⟩ := r.get ha
    have hp : ps[i]? = some y := by
      rw [← S.pre, List.getElem?_take_of_lt (by omega)]
      exact h1
    have ndP : ps.Nodup := by
      rw [← S.pre]
      exact S.nd.sublist (List.take_sublist _ _)
    have lz : us.length = ps.length := by rw [← hl, r.length]
    refine ⟨u, rv, .inl ⟨S.par y (List.mem_of_getElem? hp), rev_lookup ?_ ?_⟩⟩
    · rw [List.map_fst_zip (by omega)]
      exact ndP
    · refine List.mem_of_getElem? (i := i) ?_
      rw [List.getElem?_zip_eq_some]
      exact ⟨hp, hu⟩
  · obtain ⟨_, rfl⟩ := one y c h
    exact ⟨_, _, keep _ _ (e0.bs _ _ kb).1, rfl⟩
  · obtain ⟨_, rfl⟩ := one y c h
    exact (e0.bs _ _ kb).2
  · unfold L2.start
    show _ = N.length
    rw [List.length_append, List.length_map, List.length_replicate]
    omega
end
/-- the built-in __init__, bound to the exception, called -/
theorem mw_call {X : Cx} {pins : List (Addr × Obj)} {σ : L2.St} {H : Hp} {st : Shared} {A : Around} {E : Value → Shared → Prop} {C a u : Addr} {us : List Value} {Q : Value → Shared → Prop} (T : OexC X.K C) (I : L2.Inv X pins σ H st) (e : H a = some (exo a C none)) (hu : st.heap.get? u = some (PySem.W.kxs_mw "ValueError.__init__" a))
    (hl : us.length ≤ sizeLine) (q : ∀ s', L2.Inv X pins σ H s' → Q .none s') : wpAny (model X.prog X.w) A (call (.ref u) us) Q E st := by
  obtain ⟨nm, qn, N, bs, bm, sn, sub, ab, col, dd, k0, k1, k2, k3, k5, hC, hbm⟩ := T.cls
  obtain ⟨t1, ho⟩ := exo_at I.hok e
  have hCh := I.kIn _ _ hC
  obtain ⟨hp, g, d, t, os⟩ := st
  refine wpAny_call (codeAny_of_tree ?_)
  show wpAny _ A.in1 (callAny (.ref u) ⟨us, []⟩) _ _ _
  simp only [callAny]
  refine wpAny_bind (wpAny_load hu ?_)
  simp only [PySem.W.kxs_mw, show (Value.type "method-wrapper" == Value.type "method" || Value.type "method-wrapper" == Value.type "builtin_function_or_method" || Value.type "method-wrapper" == Value.type "method-wrapper") = true by decide, if_true]
  refine PySem.W.KFB.if_so (by decide) ?_
  refine wpAny_bind (PySem.W.check_bound_init F.excBase_ValueError.toExcCallFacts hCh ho rfl ?_)
  refine wpAny_bind (wpAny_pure (wpAny_pure ?_))
  refine ⟨plainId_quiet F.excBase_ValueError.init.plain _, codeAny_builtin F.excBase_ValueError.initEntry ?_⟩
  refine PySem.W.exc_init_tree (cls := .ref C) (t0 := t1) (dv := none) (c2 := .none) (c3 := .none) (b4 := .bool false) ho hl fun h' k hx _ => ?_
  have J := I.write (t' := t) (x := a) (e := a) (o := exo a C none) (h' := h') (by rw [e]; exact True.intro) (.inl rfl) k ⟨_, hx⟩ (exo_ok hx)
  have eu : upd H a (exo a C none) = H := by
    funext b
    by_cases hb : b = a
    · rw [hb, upd_same, e]
    · rw [upd_ne hb]
  rw [eu] at J
  exact q _ J
section
variable {P : Program} {w : World} {K : PySem.W.Frag} {mg : Str → Option Value} {base : Heap}
/-- the def, by what stands behind super().__init__(text) -/
theorem fn_super {C f cda cc : Addr} {fd : FuncData} {qual : Str} {scope : Scope} {N ps : List Str} {k : Nat} {sp : Sp} {e : Expr} {p0 p1 p2 p3 p4 : Pos} {rest : List Stmt} {ta : TA} {pl : Sem Bool}
    (F : XiF P K mg C f fd qual scope (.Expr (.Call (.Attribute (.Call (.Name "super" p0) [] [] p1) "__init__" p2) [e] [] p3) p4 :: rest) cda cc) (S : XiS N ps scope) (ln : ∀ vs H Q E, sp vs H Q E → vs.length = ps.length)
    (hb : ∀ (A : Around) (outer : List Env) (st : Shared) (H : Hp) (vs : List V) (Q : VK) (E : XK), Room k (A.deeper (PySem.W.ksEnv qual scope st.heap.objs.size f (.ref cda) cc)) → sp vs H Q E →
      ∃ (a : Addr) (t : TS), vs[0]? = some (.ref a) ∧ H a = some (exo a C none) ∧ PA (cxK P w K mg base N (PySem.W.ksEnv qual scope st.heap.objs.size f (.ref cda) cc) A outer st H) [e] ta ∧ ta (L2.start N vs) H (fun ws H1 => H1 = H ∧ ws.length ≤ 1000) ∧
        PSs (cxK P w K mg base N (PySem.W.ksEnv qual scope st.heap.objs.size f (.ref cda) cc) A outer st H) rest t ∧ t { nx := fun _ H' => Q .non H', rt := Q } (L2.start N vs) H)
    (hev : ∀ (L : Addr), eval (.Call (.Attribute (.Call (.Name "super" p0) [] [] p1) "__init__" p2) [e] [] p3) (PySem.W.ksEnv qual scope L f (.ref cda) cc) = (do
      let ov ← attributeBase (.Call (.Name "super" p0) [] [] p1) "__init__" (PySem.W.ksEnv qual scope L f (.ref cda) cc) (eval (.Call (.Name "super" p0) [] [] p1) (PySem.W.ksEnv qual scope L f (.ref cda) cc))
      standAt p2.atName
      let (f1, first) ← holding [ov] (getMethod ov "__init__" pl)
      callWith p3 f1 first (backTo p3 (starEach [e] (PySem.W.ksEnv qual scope L f (.ref cda) cc))) []))
    (hi : ∀ L : Addr, interactive (PySem.W.ksEnv qual scope L f (.ref cda) cc) = false) (hsw : ∀ L : Addr, swapsWith (.Call (.Attribute (.Call (.Name "super" p0) [] [] p1) "__init__" p2) [e] [] p3) none p4.line (PySem.W.ksEnv qual scope L f (.ref cda) cc) = pure false)
    (hse : ∀ L : Addr, starEach [e] (PySem.W.ksEnv qual scope L f (.ref cda) cc) = [(false, eval e (PySem.W.ksEnv qual scope L f (.ref cda) cc))]) :
    FnOk P w K mg base CX0 (k + 1) f fd ps sp := by
  obtain ⟨params, dV, kV, doc, pm, an, ct, ar, rfl, hhead, har⟩ := F.fd_
  obtain ⟨oc, od, osl, lk⟩ := F.lk
  refine ⟨ln, fun A outer st H args us vs Q E hr e0 bn r hsp => ?_⟩
  have hl := ln _ _ _ _ hsp
  have KX : K.In st.heap := e0.mod.kin.keeps fun b o e => (e0.bs b o e).1
  have lim : st.heap.NoLimit := e0.mod.nolimit.keeps fun b o e => (e0.bs b o e).1
  refine ks_codeAny_call_defAt (fd := _) (body := _) (binds := ps.zip us) hr.depth (KX _ _ lk) rfl lim (PySem.W.codeRec_of KX F.code) rfl bn S.nocell (fun x hx => S.par x.1 (List.of_mem_zip hx).1) (fun h0 ns keep => ?_) S.co S.gen S.kind
  obtain ⟨a, t, hv0, hexo, hpa, hta, hps, ht⟩ := hb A outer st H vs Q E (hr.deeper _) hsp
  have I0 := inv_k (qual := qual) (f := f) (cda := cda) (cc := cc) (tk := st.toks + (ps.zip us).length) S hr.hd e0 hl r (let ⟨a, b, c, d⟩ := F.cell; ⟨a, b, c, C, d⟩) ns keep
  obtain ⟨ccl, cdd, fv, ccs, file, tf, ck, cv, cf⟩ := F.file
  obtain ⟨cl, cld, csl, cellk⟩ := F.cell
  obtain ⟨nm, qn, N', bs, bm, sn, sub, ab, col, dd, k0, k1, k2, k3, k5, hC, hbm⟩ := F.low.cls
  have hcd : PySem.W.clsIn K C = some { name := nm, bases := bs, mro := .ref C :: bm, ns := N', qualname := qn, hasDict := true, slotNames := sn, subclasses := sub, abstract := ab, collection := col, hasDel := false } := by
    unfold PySem.W.clsIn
    rw [hC] <;> rfl
  have hsup := F.sup
  unfold PySem.W.ks_superIn at hsup
  rw [hcd] at hsup
  obtain ⟨mb, hm1, hm2⟩ := e0.mod.blt
  have bk := I0.bk
  have KI : K.In h0 := I0.kIn
  obtain ⟨t1, ho⟩ := exo_at I0.hok hexo
  -- self
  obtain ⟨mL, hnL, hlL⟩ := I0.loc
  have v0 : (L2.start N vs)[0]? = some (some (.ref a)) := by
    unfold L2.start
    have lz : 0 < vs.length := by rw [hl]; exact S.self.2.2
    rw [List.getElem?_append_left (by simpa using lz), List.getElem?_map, hv0]
    rfl
  obtain ⟨u0, ru, look⟩ := hlL 0 "self" (.ref a) S.self.1 v0 (.inl S.self.2.1)
  obtain rfl : u0 = Value.ref a := ru
  have hself : mL "self" = some (.ref a) := by
    rcases look with ⟨_, z⟩ | ⟨z, _⟩
    · exact z
    · exfalso
      have z' : scope.names.lookup ("self" : Str) = some .cell ∨ scope.names.lookup ("self" : Str) = some .free := z
      rw [S.self.2.1] at z'
      rcases z' with z' | z' <;> cases z'
  refine ks_wpAt_mono (Q := fun fl s2 => CR CX0 outer P w H st Q E (.ok (.ret (match fl with | .ret v => v | _ => .none))) s2) (E := fun _ _ => False) ?_ (fun _ _ z => z) (fun _ _ z => z.elim)
  refine ks_wpAt_execs_cons (ks_wpAt_Expr_any (ks_wpAt_MethodCall (pl := pl) ?_ (hev _)) (hi _) (hsw _))
  refine ks_wpAt_super_base (env := PySem.W.ksEnv qual scope st.heap.objs.size f (.ref cda) cc) S.sup S.cls (by decide) rfl (keep _ _ (KX _ _ lk)) rfl hhead rfl (KI _ _ ck) rfl cv cf F.top ?_
  refine PySem.W.ks_loadName_global S.kind S.sup (Calls.loadGlobal_builtin (env := PySem.W.ksEnv qual scope st.heap.objs.size f (.ref cda) cc) (e0.mod.glob.keeps bk) F.noS (hm1.keeps bk) ((hm2 _ (by decide)).trans (by decide +kernel)) ⟨rfl, ?_⟩)
  refine wpAny_loadName_free S.kind S.cls rfl ⟨_, KI _ _ cellk, rfl⟩ ?_
  rw [har]
  refine wpAny_loadName_local S.kind S.self.2.1 hnL hself ?_
  refine ks_wpAny_isType_cls (KI _ _ hC) rfl ⟨rfl, ?_⟩
  refine ks_wpAny_call_super (KI _ _ hC) rfl ho rfl (fun c z => by cases z) (PySem.W.looks_mroIn KI F.sub) (fun h1 hso k1 => ?_)
  have I1 := I0.kept (h' := h1) (t' := st.toks + (ps.zip us).length) k1
  have hexo1 := hexo
  have K1 : K.In h1 := I1.kIn
  obtain ⟨t2, ho1⟩ := exo_at I1.hok hexo
  have at1 : PySem.W.InstAt h1 a ({ cls := .ref C, dict := none, data := .fields #[.ref t2, .none, .none, .none, .bool false, .none] } : Obj) C none := ⟨ho1, rfl, rfl, trivial⟩
  refine PySem.W.kxs_getMethod PySem.W.kxs_ValueError hso (PySem.W.looks_opaque K1 F.opq) (fun A Q E s k q => wpAny_bind ((PySem.W.looks_clsIn K1 hcd) A _ E s k (wpAny_pure q))) rfl K1 hsup (at1.type.andThen (PySem.W.looks_subIn K1 F.isV)) (PySem.W.ks_ne K1 at1 hcd) (by decide) ?_
  have I2 := ClX.pin_new (o := PySem.W.kxs_mw "ValueError.__init__" a) (t' := st.toks + (ps.zip us).length + 1) I1 (h' := h1.push (PySem.W.kxs_mw "ValueError.__init__" a)) (fun b o e => Heap.get?_push_of_some _ e) (Nat.le_refl _) (Heap.get?_push_size _ rfl) (fun v z => by cases z)
  show wpAny _ _ (callWith p3 (.ref h1.objs.size) [] (backTo p3 (starEach [e] (PySem.W.ksEnv qual scope st.heap.objs.size f (.ref cda) cc))) []) _ _ _
  rw [hse]
  refine PySem.W.kxs_callWith (i := "ValueError.__init__") (x := a) (by rfl) ?_
  have hrun := hpa.run p3 _ _ (L2.start N vs) H _ I2 hta
  rw [show starEach [e] (cxK P w K mg base N (PySem.W.ksEnv qual scope st.heap.objs.size f (.ref cda) cc) A outer st H).env = [(false, eval e (PySem.W.ksEnv qual scope st.heap.objs.size f (.ref cda) cc))] from hse _] at hrun
  refine Calls.evalArgs_plain (wpAny_mono hrun ?_ fun _ _ z => z)
  rintro us s1 ⟨ws, H2, I3, r3, eH, hlw⟩
  subst eH
  have hu3 := (I3.pin (h1.objs.size, PySem.W.kxs_mw "ValueError.__init__" a) (by simp [cxK])).1
  refine ⟨hu3, mw_call F.low I3 hexo hu3 (by show us.length ≤ sizeLine; rw [← r3.length]; exact Nat.le_of_lt (small1000 hlw)) fun s2 I4 => ?_⟩
  refine wpAt_of_wpAny (thn (hps.run _ s2 (L2.start N vs) H2 _ I4 ht) fun fl s3 q => ?_)
  cases fl with
  | ret u => exact let ⟨v, _, H', J, rv, q2⟩ := q; ⟨v, H', J.os, J.bare, J.base, J.hok, rv, q2⟩
  | next => exact let ⟨_, H', J, q2⟩ := q; ⟨V.non, H', J.os, J.bare, J.base, J.hok, rfl, q2⟩
  | brk => exact let ⟨_, _, _, z⟩ := q; z.elim
  | cont => exact let ⟨_, _, _, z⟩ := q; z.elim
end
end Hw

namespace Hw
open PySem PySem.Spec PyProof.Rows L2 ClX
/-- a value that is no whole number -/
def OddV (K : PySem.W.Frag) (H : Hp) (v : V) : Prop := ∃ (T : Value) (bi bb : Bool), TyX K H v T ∧ PySem.W.kitOne K T (.type "int") = some bi ∧ PySem.W.kitOne K T (.type "bool") = some bb ∧ (bi = false ∨ bb = true)
section
variable {P : Program} {w : World} {K : PySem.W.Frag} {mg : Str → Option Value} {base : Heap}
def spWhole5 (K : PySem.W.Frag) : Sp := fun vs H Q _ => ∃ v : V, vs = [v] ∧ ((∃ i : Int, v = .int i ∧ Q (.bl true) H) ∨ (OddV K H v ∧ Q (.bl false) H))
theorem cal_whole5 (T : Txt mg) (D : Df K mg "is_whole" sWhole ["value"]) : Cal P w K mg base "is_whole" 1 (spWhole5 K) := by
  refine cal_of D scWhole (fun vs H Q E h => ?_) (fun f cdv A outer s H vs Q E hr h => ?_)
  · obtain ⟨v, rfl, _⟩ := h
    rfl
  · obtain ⟨v, rfl, q⟩ := h
    refine ⟨_, pss_one (ps_ret (pe_and (pe_callB call_isi (by rfl) T.isinstance (by decide +kernel) (pa_cons (pv 0) (pa_cons (pe_bltn (v := .ty "int") (by rfl) T.int (by decide +kernel) rfl) pa_nil)))
      (pe_one (pe_not (pe_callB call_isi (by rfl) T.isinstance (by decide +kernel) (pa_cons (pv 0) (pa_cons (pe_bltn (v := .ty "bool") (by rfl) T.bool (by decide +kernel) rfl) pa_nil))))))), ?_⟩
    rcases q with ⟨i, rfl, q⟩ | ⟨⟨t, bi, bb, ty, h1, h2, hc⟩, q⟩
    · refine ⟨_, rfl, _, _, _, _, true, rfl, .ty _, .base (.int i), kit_ty (by decide +kernel), true, rfl, iteT ?_⟩
      refine ⟨_, rfl, _, _, _, _, false, rfl, .ty _, .base (.int i), kit_ty (by decide +kernel), false, rfl, ?_⟩
      exact q
    · refine ⟨_, rfl, _, _, _, _, bi, rfl, .ty _, ty, h1, bi, rfl, ?_⟩
      cases bi with
      | false => exact iteF q
      | true =>
        obtain rfl : bb = true := hc.resolve_left (by decide)
        refine iteT ?_
        exact ⟨_, rfl, _, _, _, _, true, rfl, .ty _, ty, h2, true, rfl, q⟩
def spIndex5 (K : PySem.W.Frag) : Sp := fun vs H Q _ => ∃ (v : V) (c : Int), vs = [v, .int c] ∧ ((∃ i : Int, v = .int i ∧ Q (.bl (decide (0 ≤ i ∧ i < c))) H) ∨ (OddV K H v ∧ Q (.bl false) H))
theorem cal_index5 (T : Txt mg) (GW : Cal P w K mg base "is_whole" 1 (spWhole5 K)) (D : Df K mg "is_index" sIndex ["value", "count"]) : Cal P w K mg base "is_index" 2 (spIndex5 K) := by
  refine cal_of D scIndex (fun vs H Q E h => ?_) (fun f cdv A outer s H vs Q E hr h => ?_)
  · obtain ⟨i, c, rfl, _⟩ := h
    rfl
  · obtain ⟨v, c, rfl, q⟩ := h
    refine ⟨_, pss_one (ps_ret (pe_and (pe_cl GW hr (by rfl) (pa_cons (pv 0) pa_nil)) (pe_one (pe_chain op_le op_lt pe_int (pv 0) (pv 1))))), ?_⟩
    rcases q with ⟨i, rfl, q⟩ | ⟨odd, q⟩
    · refine ⟨_, rfl, _, rfl, .inl ⟨i, rfl, true, rfl, iteT ?_⟩⟩
      refine ⟨_, rfl, _, _, rfl, rfl, _, rfl, ite2 (fun h => ?_) (fun h => ?_)⟩
      · refine ⟨_, rfl, _, _, rfl, rfl, ?_⟩
        have h' : (0 : Int) ≤ i := of_decide_eq_true h
        have e : decide (i < c) = decide (0 ≤ i ∧ i < c) := by
          by_cases z : i < c <;> simp [z, h']
        show Q (V.bl (decide (i < c))) H
        rw [e]
        exact q
      · have h' : ¬ (0 : Int) ≤ i := fun z => h (decide_eq_true z)
        have e : false = decide (0 ≤ i ∧ i < c) := by simp [h']
        show Q (V.bl false) H
        rw [e]
        exact q
    · exact ⟨_, rfl, _, rfl, .inr ⟨odd, false, rfl, iteF q⟩⟩
end
end Hw

namespace Hw
open PySem PySem.Spec PyProof.Rows L2 ClX
abbrev mNames : List Str := ["far_end", "way", "_check_place", "_across", "_distances_to", "_nearing_step"]
/-- no field is named as a method -/
def NoM (fs : List (Str × V)) : Prop := ∀ m ∈ mNames, fs.lookup m = none
theorem noM_nil : NoM [] := fun _ _ => rfl
theorem noM_put {f : Str} {v : V} {fs : List (Str × V)} (h : ∀ m ∈ mNames, ¬ m = f) (n : NoM fs) : NoM (putF f v fs) := fun m hm => by
  rw [lookup_putF, if_neg (h m hm)]
  exact n m hm
theorem lk_put {f g : Str} {v : V} {fs : List (Str × V)} (h : ¬ g = f) : (putF f v fs).lookup g = fs.lookup g := by rw [lookup_putF, if_neg h]
theorem lk_put0 {f : Str} {v : V} {fs : List (Str × V)} : (putF f v fs).lookup f = some v := by rw [lookup_putF, if_pos rfl]
/-- a network stands at x, with what its walks need -/
def NetAt5 (C : Addr) (H : Hp) (x : Addr) (n : Nat) (es : List Ed) : Prop := ∃ (dx : Addr) (fs : List (Str × V)) (a e : Addr), H x = some (.ins C dx fs) ∧ fs.lookup ("_places" : Str) = some (.int (n : Int)) ∧ fs.lookup ("_passages" : Str) = some (.ref a) ∧
  fs.lookup ("_exits" : Str) = some (.ref e) ∧ NoM fs ∧ EdT H a es ∧ CsAt H e (exs n es)
theorem NetAt5.same {C : Addr} {H H' : Hp} {x : Addr} {n : Nat} {es : List Ed} (h : NetAt5 C H x n es) (s : Same H H') : NetAt5 C H' x n es := by
  obtain ⟨dx, fs, a, e, h1, h2, h3, h4, h5, h6, h7⟩ := h
  exact ⟨dx, fs, a, e, s _ _ h1, h2, h3, h4, h5, h6.same s, h7.same s⟩
theorem n_pl : ¬ (("_places" : Str) = "_passages") ∧ ¬ (("_places" : Str) = "_start") ∧ ¬ (("_places" : Str) = "_bridges") ∧ ¬ (("_places" : Str) = "_cells") ∧ ¬ (("_places" : Str) = "_exits") := by decide +kernel
theorem n_pa : ¬ (("_passages" : Str) = "_start") ∧ ¬ (("_passages" : Str) = "_bridges") ∧ ¬ (("_passages" : Str) = "_cells") ∧ ¬ (("_passages" : Str) = "_exits") := by decide +kernel
theorem m_pl : ∀ m ∈ mNames, ¬ m = "_places" := by decide +kernel
theorem m_pa : ∀ m ∈ mNames, ¬ m = "_passages" := by decide +kernel
theorem m_st : ∀ m ∈ mNames, ¬ m = "_start" := by decide +kernel
theorem m_br : ∀ m ∈ mNames, ¬ m = "_bridges" := by decide +kernel
theorem m_ce : ∀ m ∈ mNames, ¬ m = "_cells" := by decide +kernel
theorem m_ex : ∀ m ∈ mNames, ¬ m = "_exits" := by decide +kernel
section
variable {P : Program} {w : World} {K : PySem.W.Frag} {mg : Str → Option Value} {base : Heap}
def spInit5 (C : Addr) : Sp := fun vs H Q _ => ∃ (x dx a : Addr) (n : Nat) (es : List Ed), vs = [.ref x, .int (n : Int), .ref a] ∧ H x = some (.ins C dx []) ∧ EdT H a es ∧ CN n es ∧ n ≤ 12 ∧ es.length ≤ 16 ∧
  ∀ H', Kx x H H' → NetAt5 C H' x n es → Q .non H'
abbrev nInit : List Str := ["self", "places", "passages", "fault", "part", "index"]
theorem scInit : FnScope nInit ["self", "places", "passages"] (defScope sInit) := ⟨rfl, rfl, rfl, by decide +kernel, rfl, by decide +kernel, by decide +kernel⟩
structure NetF (P : Program) (w : World) (K : PySem.W.Frag) (mg : Str → Option Value) (base : Heap) : Prop where
  fault : Cal P w K mg base "_fault" 5 spFault
  bridges : Cal P w K mg base "_find_bridges" 3 spBridges
  cells : Cal P w K mg base "_find_cells" 2 spCells
  exits : Cal P w K mg base "_find_exits" 1 spExits5
theorem ok_init5 {C : Addr} {mc : Value} {f : Addr} {fd : FuncData} (T : Txt mg) (N : NetC K mg C mc) (G : NetF P w K mg base) (F : Fun K "__init__" "Network.__init__" sInit f fd) : FnOk P w K mg base CX0 6 f fd ["self", "places", "passages"] (spInit5 C) := by
  have nd := scInit.nd
  refine F.ok scInit (fun vs H Q E h => ?_) (fun cdv A outer s0 H vs Q E hr h => ?_)
  · obtain ⟨x, dx, a, n, es, rfl, _⟩ := h
    rfl
  · obtain ⟨x, dx, a, n, es, rfl, hx, he, cn, hn, hl, q⟩ := h
    have hr3 := hr.mono (show 3 ≤ 5 by decide)
    have hr2 := hr.mono (show 2 ≤ 5 by decide)
    have hr1 := hr.mono (show 1 ≤ 5 by decide)
    refine ⟨_, pss_cons (ps_set (i := 3) nd rfl (.inl rfl) (pe_cl G.fault hr (by rfl) (pa_cons (pv 1) (pa_cons (pv 2) pa_nil))))
      <| pss_cons (ps_if (pt_cmpR op_notN (pv 3) pe_non (nomark _)) pss_never pss_nil)
      <| pss_cons (ps_fld (pv 0) (pv 1) rfl)
      <| pss_cons (ps_fld (pv 0) (pv 2) rfl)
      <| pss_cons (ps_fld (pv 0) (pe_tup (pa_cons pe_int (pa_cons (pe_tupRg (by rfl) (by rfl) T.tuple (prg_1 (by rfl) T.range (pe_op op_add (pe_callB cr_len (by rfl) T.len PySem.boot_len (pa_cons (pv 2) pa_nil)) pe_int))) pa_nil))) rfl)
      <| pss_cons (ps_fld (pv 0) (pe_cl G.bridges hr3 (by rfl) (pa_cons (pv 1) (pa_cons (pv 2) pa_nil))) rfl)
      <| pss_cons (ps_fld (pv 0) (pe_cl G.cells hr2 (by rfl) (pa_cons (pv 1) (pa_cons (pv 2) (pa_cons (pe_fld (pv 0) rfl) pa_nil)))) rfl)
      <| pss_one (ps_fld (pv 0) (pe_cl G.exits hr1 (by rfl) (pa_cons (pv 1) (pa_cons (pv 2) pa_nil))) rfl), ?_⟩
    refine ⟨_, rfl, _, rfl, a, n, es, rfl, he, cn, hn, hl, fun H1 s1 => ?_⟩
    have hx1 := s1 _ _ hx
    have he1 := he.same s1
    refine ⟨_, rfl, rfl, _, rfl, iteF ?_⟩
    -- _places, _passages
    refine ⟨_, rfl, _, rfl, x, C, dx, _, rfl, hx1, N.cl, N.n1, by decide, ?_⟩
    have k2 := Kx.upd x H1 (.ins C dx (putF "_places" (.int (n : Int)) []))
    have l2 := len_putF "_places" (.int (n : Int)) []
    have p2 := lk_put0 (f := "_places") (v := .int (n : Int)) (fs := [])
    have m2 := noM_put (v := .int (n : Int)) m_pl noM_nil
    have hx2 : upd H1 x (.ins C dx (putF "_places" (.int (n : Int)) [])) x = some (.ins C dx (putF "_places" (.int (n : Int)) [])) := upd_same
    generalize putF "_places" (.int (n : Int)) [] = f2 at *
    generalize upd H1 x (.ins C dx f2) = H2 at *
    refine ⟨_, rfl, _, rfl, x, C, dx, _, rfl, hx2, N.cl, N.n2, by simp at l2; omega, ?_⟩
    have k3 := Kx.upd x H2 (.ins C dx (putF "_passages" (.ref a) f2))
    have l3 := len_putF "_passages" (.ref a) f2
    have p3 := (lk_put (v := .ref a) (fs := f2) n_pl.1).trans p2
    have q3 := lk_put0 (f := "_passages") (v := .ref a) (fs := f2)
    have m3 := noM_put (v := .ref a) m_pa m2
    have hx3 : upd H2 x (.ins C dx (putF "_passages" (.ref a) f2)) x = some (.ins C dx (putF "_passages" (.ref a) f2)) := upd_same
    generalize putF "_passages" (.ref a) f2 = f3 at *
    generalize upd H2 x (.ins C dx f3) = H3 at *
    have he3 := (he1.kx k2 hx1).kx k3 hx2
    have kx3 := ((Kx.of s1).trans k2).trans k3
    obtain ⟨ks, k31, k32, k33⟩ := id he3
    -- _start
    refine ⟨_, rfl, a, _, rfl, .inr (sq_of k31), _, _, rfl, rfl, ?_⟩
    rw [nv_len, ed_len k32]
    refine ⟨_, rfl, RgOk.of_le (by omega) (by omega) (by omega) (by omega), fun t nt => ⟨by show 2 ≤ sizeLine; decide, fun t2 nt2 => ?_⟩⟩
    have s4 := (same_upd nt).trans (same_upd (o := .tup [V.int 0, .ref t]) nt2)
    generalize upd (upd H3 t _) t2 (.tup [V.int 0, .ref t]) = H4 at *
    have hx4 := s4 _ _ hx3
    refine ⟨_, rfl, x, C, dx, _, rfl, hx4, N.cl, N.n3, by simp at l2; omega, ?_⟩
    have k5 := Kx.upd x H4 (.ins C dx (putF "_start" (.ref t2) f3))
    have l5 := len_putF "_start" (.ref t2) f3
    have p5 := (lk_put (v := .ref t2) (fs := f3) n_pl.2.1).trans p3
    have q5 := (lk_put (v := .ref t2) (fs := f3) n_pa.1).trans q3
    have m5 := noM_put (v := .ref t2) m_st m3
    have hx5 : upd H4 x (.ins C dx (putF "_start" (.ref t2) f3)) x = some (.ins C dx (putF "_start" (.ref t2) f3)) := upd_same
    generalize putF "_start" (.ref t2) f3 = f5 at *
    generalize upd H4 x (.ins C dx f5) = H5 at *
    have he5 := (he3.same s4).kx k5 hx4
    have kx5 := (kx3.trans (Kx.of s4)).trans k5
    -- _bridges
    refine ⟨_, rfl, _, rfl, a, n, es, rfl, he5, cn.2.1, cn.1, hn, hl, fun H6 b s6 nb hb => ?_⟩
    have hx6 := s6 _ _ hx5
    refine ⟨_, rfl, x, C, dx, _, rfl, hx6, N.cl, N.n4, by simp at l2; omega, ?_⟩
    have k7 := Kx.upd x H6 (.ins C dx (putF "_bridges" (.ref b) f5))
    have l7 := len_putF "_bridges" (.ref b) f5
    have g7 := lk_put0 (f := "_bridges") (v := .ref b) (fs := f5)
    have p7 := (lk_put (v := .ref b) (fs := f5) n_pl.2.2.1).trans p5
    have q7 := (lk_put (v := .ref b) (fs := f5) n_pa.2.1).trans q5
    have m7 := noM_put (v := .ref b) m_br m5
    have hx7 : upd H6 x (.ins C dx (putF "_bridges" (.ref b) f5)) x = some (.ins C dx (putF "_bridges" (.ref b) f5)) := upd_same
    generalize putF "_bridges" (.ref b) f5 = f7 at *
    generalize upd H6 x (.ins C dx f7) = H7 at *
    have he7 := (he5.same s6).kx k7 hx6
    have hb7 : Tp H7 b (brg n es) := k7.tup hx6 hb
    have kx7 := (kx5.trans (Kx.of s6)).trans k7
    -- _cells
    refine ⟨_, rfl, _, rfl, _, rfl, x, C, dx, f7, _, rfl, hx7, N.cl, N.n4, g7, a, b, n, es, rfl, he7, hb7, cn.2.1, cn.1, hn, hl, fun H8 c s8 nc hc => ?_⟩
    have hx8 := s8 _ _ hx7
    refine ⟨_, rfl, x, C, dx, _, rfl, hx8, N.cl, N.n5, by simp at l2; omega, ?_⟩
    have k9 := Kx.upd x H8 (.ins C dx (putF "_cells" (.ref c) f7))
    have l9 := len_putF "_cells" (.ref c) f7
    have p9 := (lk_put (v := .ref c) (fs := f7) n_pl.2.2.2.1).trans p7
    have q9 := (lk_put (v := .ref c) (fs := f7) n_pa.2.2.1).trans q7
    have m9 := noM_put (v := .ref c) m_ce m7
    have hx9 : upd H8 x (.ins C dx (putF "_cells" (.ref c) f7)) x = some (.ins C dx (putF "_cells" (.ref c) f7)) := upd_same
    generalize putF "_cells" (.ref c) f7 = f9 at *
    generalize upd H8 x (.ins C dx f9) = H9 at *
    have he9 := (he7.same s8).kx k9 hx8
    have kx9 := (kx7.trans (Kx.of s8)).trans k9
    -- _exits
    refine ⟨_, rfl, _, rfl, a, n, es, rfl, he9, hn, hl, fun HA e sA hcs => ?_⟩
    have hxA := sA _ _ hx9
    refine ⟨_, rfl, x, C, dx, _, rfl, hxA, N.cl, N.n6, by simp at l2; omega, ?_⟩
    have kB := Kx.upd x HA (.ins C dx (putF "_exits" (.ref e) f9))
    exact q _ ((kx9.trans (Kx.of sA)).trans kB) ⟨dx, putF "_exits" (.ref e) f9, a, e, upd_same, (lk_put n_pl.2.2.2.2).trans p9, (lk_put n_pa.2.2.2).trans q9, lk_put0, noM_put m_ex m9, (he9.same sA).kx kB hxA, hcs.kx kB hxA⟩
end
end Hw

namespace Hw
open PySem PySem.Spec PyProof.Rows L2 ClX
abbrev sFarEnd : Stmt := inClass sNetwork 13
abbrev sWay : Stmt := inClass sNetwork 14
abbrev sCheck : Stmt := inClass sNetwork 15
abbrev sAcross : Stmt := inClass sNetwork 16
abbrev sDists : Stmt := inClass sNetwork 17
abbrev sNearing : Stmt := inClass sNetwork 18
/-! ### an own exception with one field -/
def spXi (C : Addr) (f : Str) : Sp := fun vs H Q _ => ∃ (a : Addr) (v : V), vs = [.ref a, v] ∧ H a = some (exo a C none) ∧ ∀ dx, H dx = none → dx ≠ a → Q .non (upd (upd H dx (exd dx [(f, v)])) a (exo a C (some dx)))
structure Xc1 (P : Program) (w : World) (K : PySem.W.Frag) (mg : Str → Option Value) (base : Heap) (x : Str) (C : Addr) (f : Str) : Prop where
  gC : mg x = some (.ref C)
  oex : OexC K C
  init : ∃ (fI : Addr) (fd : FuncData) (ps : List Str), PySem.W.findIn K (.ref C) "__init__" = some (some (.ref fI)) ∧ PySem.W.typeIn K (.ref fI) = some (.type "function") ∧ FnOk P w K mg base CX0 1 fI fd ps (spXi C f) ∧ Binds K fd ps []
  xf : XfC K C
  noF : PySem.W.findIn K (.ref C) f = some none
  te : PySem.W.exmOne K (.ref C) (.ref C) = some true
def tMk1 (C : Addr) (f : Str) (te : TE) : L2.St → Hp → XK → Prop := tMkO C (spXi C f) [] (tCons te tNil)
theorem pmk_x1 {X : Cx} {x f : Str} {C : Addr} {e : Expr} {te : TE} {p pos : Pos} (c : Xc1 X.prog X.w X.K X.mg X.base x C f) (hr : Room 2 X.A) (hg : Gl X x) (ha : PE X e te) (hdb : (x == ("__debug__" : Str)) = false := by decide)
    (he : starEach [e] X.env = (false, eval e X.env) :: starEach [] X.env := by rfl) (hpl : (backTo pos (starEach [] X.env)).any (·.1) = false := by rfl) : PMk X (.Call (.Name x p) [e] [] pos) (tMk1 C f te) := by
  obtain ⟨fI, fd, ps, h1, h2, F, b⟩ := c.init
  exact pmk_oex (pos := pos) (p := p) (dvs := []) (ds := []) c.oex h1 h2 F hr b .nil pass0 hg c.gC (pa_cons ha pa_nil (hs := he)) hdb he hpl
theorem mk1_ok {C : Addr} {f : Str} {v : V} {H1 : Hp} {Q : XK} (q : ∀ d, H1 d = none → Q (.ref C) (some d) (upd H1 d (.xd [(f, v)]))) : [v].length ≤ 1000 ∧ ∀ a, H1 a = none → spXi C f (.ref a :: ([v] ++ [])) (upd H1 a (exo a C none))
      (fun v H2 => v = .non ∧ ∃ (d : Addr) (fs : List (Str × V)), H2 a = some (exo a C (some d)) ∧ H2 d = some (exd d fs) ∧ H1 d = none ∧ Q (.ref C) (some d) (upd (L2.del H2 a) d (.xd fs))) (fun _ _ _ => False) := by
  refine ⟨(by show 1 ≤ 1000; decide), fun a na => ⟨a, v, rfl, upd_same, fun dx ndx ne => ⟨rfl, dx, [(f, v)], upd_same, ?_, ?_, ?_⟩⟩⟩
  · rw [upd_ne ne, upd_same]
  · rw [upd_ne ne] at ndx
    exact ndx
  · rw [upd_ne ne] at ndx
    have e : upd (L2.del (upd (upd (upd H1 a (exo a C none)) dx (exd dx [(f, v)])) a (exo a C (some dx))) a) dx (.xd [(f, v)]) = upd H1 dx (.xd [(f, v)]) := by
      funext b
      by_cases z : b = dx
      · rw [z, upd_same, upd_same]
      · rw [upd_ne z, upd_ne z]
        by_cases y : b = a
        · rw [y, del_same, na]
        · rw [del_ne y, upd_ne y, upd_ne z, upd_ne y]
    rw [e]
    exact q dx ndx
/-! ### methods with their promises -/
structure Dm (K : PySem.W.Frag) (C : Addr) (m qual : Str) (st : Stmt) (ps : List Str) : Prop where
  ex : ∃ (f : Addr) (fd : FuncData), Fun K m qual st f fd ∧ L2.Binds K fd ps [] ∧ Meth K C m f
structure MC (P : Program) (w : World) (K : PySem.W.Frag) (mg : Str → Option Value) (base : Heap) (CX : CXT) (C : Addr) (m : Str) (k : Nat) (sp : Sp) : Prop where
  ex : ∃ f : Addr, Meth K C m f ∧ L2.FnR P w K mg base CX k f sp
section
variable {P : Program} {w : World} {K : PySem.W.Frag} {mg : Str → Option Value} {base : Heap}
theorem raw0 {CX : CXT} {k : Nat} {f : Addr} {fd : FuncData} {ps : List Str} {sp : Sp} (F : FnOk P w K mg base CX k f fd ps sp) (b : L2.Binds K fd ps []) : L2.FnR P w K mg base CX k f sp :=
  (F.raw b (dvs := []) .nil).imp fun vs H Q E h => by
    show sp (vs ++ []) H Q E
    rw [List.append_nil]
    exact h
theorem mc_of {C : Addr} {m qual : Str} {st : Stmt} {N ps : List Str} {k : Nat} {sp : Sp} (D : Dm K C m qual st ps) (S : FnScope N ps (defScope st)) (len : ∀ vs H Q E, sp vs H Q E → vs.length = ps.length)
    (hbody : ∀ (f : Addr) (cdv : Value) (A : Around) (outer : List Env) (s : Shared) (H : Hp) (vs : List V) (Q : VK) (E : XK), Room k (A.deeper (envOfC qual (defScope st) s.heap.objs.size f cdv)) → sp vs H Q E →
      ∃ t, PSs (cxOf CX0 P w K mg base N qual (defScope st) f cdv A outer s H E).nox (defBody st) t ∧ t { nx := fun _ H' => Q .non H', rt := Q } (start N vs) H) : MC P w K mg base CX0 C m (k + 1) sp := by
  obtain ⟨f, fd, F, b, me⟩ := D.ex
  exact ⟨f, me, raw0 (F.ok S len (fun cdv A outer s H vs Q E hr h => hbody f cdv A outer s H vs Q E hr h)) b⟩
theorem mc_ofX {C : Addr} {m qual : Str} {st : Stmt} {N ps : List Str} {k : Nat} {sp : Sp} (D : Dm K C m qual st ps) (S : FnScope N ps (defScope st)) (len : ∀ vs H Q E, sp vs H Q E → vs.length = ps.length)
    (hbody : ∀ (f : Addr) (cdv : Value) (A : Around) (outer : List Env) (s : Shared) (H : Hp) (vs : List V) (Q : VK) (E : XK), Room k (A.deeper (envOfC qual (defScope st) s.heap.objs.size f cdv)) → sp vs H Q E →
      ∃ t, PSs (cxOf (L2.CX P w) P w K mg base N qual (defScope st) f cdv A outer s H E) (defBody st) t ∧ t { nx := fun _ H' => Q .non H', rt := Q } (start N vs) H) : MC P w K mg base (L2.CX P w) C m (k + 1) sp := by
  obtain ⟨f, fd, F, b, me⟩ := D.ex
  exact ⟨f, me, raw0 (F.okX S len (fun cdv A outer s H vs Q E hr h => hbody f cdv A outer s H vs Q E hr h)) b⟩
structure MF (P : Program) (w : World) (K : PySem.W.Frag) (mg : Str → Option Value) (base : Heap) (CX : CXT) (C : Addr) (m qual : Str) (st : Stmt) (ps : List Str) (k : Nat) (sp : Sp) : Prop where
  ex : ∃ (f : Addr) (fd : FuncData), Fun K m qual st f fd ∧ L2.Binds K fd ps [] ∧ Meth K C m f ∧ FnOk P w K mg base CX k f fd ps sp
theorem MF.mc {CX : CXT} {C : Addr} {m qual : Str} {st : Stmt} {ps : List Str} {k : Nat} {sp : Sp} (M : MF P w K mg base CX C m qual st ps k sp) : MC P w K mg base CX C m k sp := by
  obtain ⟨f, fd, F, b, me, G⟩ := M.ex
  exact ⟨f, me, raw0 G b⟩
theorem mf_ofX {C : Addr} {m qual : Str} {st : Stmt} {N ps : List Str} {k : Nat} {sp : Sp} (D : Dm K C m qual st ps) (S : FnScope N ps (defScope st)) (len : ∀ vs H Q E, sp vs H Q E → vs.length = ps.length)
    (hbody : ∀ (f : Addr) (cdv : Value) (A : Around) (outer : List Env) (s : Shared) (H : Hp) (vs : List V) (Q : VK) (E : XK), Room k (A.deeper (envOfC qual (defScope st) s.heap.objs.size f cdv)) → sp vs H Q E →
      ∃ t, PSs (cxOf (L2.CX P w) P w K mg base N qual (defScope st) f cdv A outer s H E) (defBody st) t ∧ t { nx := fun _ H' => Q .non H', rt := Q } (start N vs) H) : MF P w K mg base (L2.CX P w) C m qual st ps (k + 1) sp := by
  obtain ⟨f, fd, F, b, me⟩ := D.ex
  exact ⟨f, fd, F, b, me, F.okX S len (fun cdv A outer s H vs Q E hr h => hbody f cdv A outer s H vs Q E hr h)⟩
/-! ### _across -/
def spAcross (C : Addr) : Sp := fun vs H Q _ => ∃ (x : Addr) (n : Nat) (es : List Ed) (i p : Nat), vs = [.ref x, .int (i : Int), .int (p : Int)] ∧ NetAt5 C H x n es ∧ i < es.length ∧ Q (.int ((oth (es.getD i (0, 0)) p : Nat) : Int)) H
abbrev nAc : List Str := ["self", "passage", "place", "u", "v"]
theorem scAcross : FnScope nAc ["self", "passage", "place"] (defScope sAcross) := ⟨rfl, rfl, rfl, by decide +kernel, rfl, by decide +kernel, by decide +kernel⟩
theorem mc_across {C : Addr} {mc : Value} (T : Txt mg) (N : NetC K mg C mc) (D : Dm K C "_across" "Network._across" sAcross ["self", "passage", "place"]) : MC P w K mg base CX0 C "_across" 1 (spAcross C) := by
  have nd := scAcross.nd
  refine mc_of D scAcross (fun vs H Q E h => ?_) (fun f cdv A outer s0 H vs Q E hr h => ?_)
  · obtain ⟨x, n, es, i, p, rfl, _⟩ := h
    rfl
  · obtain ⟨x, n, es, i, p, rfl, ⟨dx, fs, a, e, h1, h2, h3, h4, h5, ⟨ks, k1, k2, k3⟩, h7⟩, hi, q⟩ := h
    refine ⟨_, pss_cons (ps_asg (pe_ix (r := rIxT K) ix_tup (pe_fld (pv 0) rfl) (pv 1) (fun _ _ => rfl)) (pg_tup rfl (pgs_cons (pg_name (i := 3) nd rfl (.inl rfl)) (pgs_cons (pg_name (i := 4) nd rfl (.inl rfl)) pgs_nil))))
      <| pss_one (ps_ret (pe_ifExp (pt_cmpR op_eq (pv 2) (pv 3) (nomark _)) (pv 4) (pv 3))), ?_⟩
    have hk : i < ks.length := by rw [ed_len k2]; exact hi
    obtain ⟨k, hki⟩ : ∃ k, ks[i]? = some k := ⟨ks[i], List.getElem?_eq_getElem hk⟩
    obtain ⟨e', he', ek⟩ := ed_get k2 hki
    have tk := k3 k (List.mem_of_getElem? hki)
    rw [ek] at tk
    have at1 : atI (ks.map fun k => V.ref k.1) ((i : Nat) : Int) = some (.ref k.1) := atI_nat (by rw [List.getElem?_map, hki]; rfl)
    refine ⟨_, rfl, x, C, dx, fs, _, rfl, h1, N.cl, N.n2, h3, _, rfl, a, _, _, _, rfl, rfl, sq_of k1, at1, ?_⟩
    refine ⟨k.1, _, rfl, sq_of tk, rfl, _, _, rfl, _, _, rfl, rfl, ?_⟩
    rw [getD_of he'] at q
    unfold oth at q
    refine ⟨_, rfl, _, rfl, rfl, _, rfl, ite2 (fun c => ?_) (fun c => ?_)⟩
    · have c' : p = e'.1 := by
        have := of_decide_eq_true c
        simp at this
        omega
      rw [if_pos c'] at q
      exact ⟨_, rfl, q⟩
    · have c' : ¬ p = e'.1 := by
        have := of_decide_eq_false (Bool.eq_false_iff.mpr c)
        simp at this
        omega
      rw [if_neg c'] at q
      exact ⟨_, rfl, q⟩
/-! ### _check_place -/
/-- a value that is no place -/
def BadV (K : PySem.W.Frag) (H : Hp) (n : Nat) (v : V) : Prop := (∃ i : Int, v = .int i ∧ ¬ (0 ≤ i ∧ i < (n : Int))) ∨ OddV K H v
def spCheck (K : PySem.W.Frag) (C CP : Addr) : Sp := fun vs H Q E => ∃ (x : Addr) (v : V) (n : Nat) (es : List Ed), vs = [.ref x, v] ∧ NetAt5 C H x n es ∧
  ((∃ p : Nat, v = .int (p : Int) ∧ p < n ∧ Q .non H) ∨ (BadV K H n v ∧ ∀ d, H d = none → E (.ref CP) (some d) (upd H d (.xd [("value", v)]))))
theorem scCheck : FnScope ["self", "value"] ["self", "value"] (defScope sCheck) := ⟨rfl, rfl, rfl, by decide +kernel, rfl, by decide +kernel, by decide +kernel⟩
theorem mc_check {C CP : Addr} {mc : Value} (T : Txt mg) (N : NetC K mg C mc) (XP : Xc1 P w K mg base "InvalidPlace" CP "value") (GI : Cal P w K mg base "is_index" 2 (spIndex5 K)) (D : Dm K C "_check_place" "Network._check_place" sCheck ["self", "value"]) : MC P w K mg base (L2.CX P w) C "_check_place" 3 (spCheck K C CP) := by
  refine mc_ofX D scCheck (fun vs H Q E h => ?_) (fun f cdv A outer s0 H vs Q E hr h => ?_)
  · obtain ⟨x, v, n, es, rfl, _⟩ := h
    rfl
  · obtain ⟨x, v, n, es, rfl, ⟨dx, fs, a, e, h1, h2, h3, h4, h5, h6, h7⟩, q⟩ := h
    refine ⟨_, pss_one (ps_if (pt_not (pt_val (pe_cl GI hr (by rfl) (pa_cons (pv 1) (pa_cons (pe_fld (pv 0) rfl) pa_nil))))) (pss_one (ps_raise (W := fun cls d _ H => E cls d H) rfl (takes_of rfl rfl rfl rfl) (pmk_x1 XP hr (by rfl) (pv 1)))) pss_nil), ?_⟩
    refine ⟨_, rfl, _, rfl, x, C, dx, fs, _, rfl, h1, N.cl, N.n1, h2, v, _, rfl, ?_⟩
    rcases q with ⟨p, rfl, hp, q⟩ | ⟨bad, q⟩
    · refine .inl ⟨_, rfl, _, rfl, ?_⟩
      rw [show decide ((0 : Int) ≤ (p : Int) ∧ (p : Int) < (n : Int)) = true from decide_eq_true ⟨by omega, by omega⟩]
      exact iteF q
    · rcases bad with ⟨i, rfl, hi⟩ | odd
      · refine .inl ⟨_, rfl, _, rfl, ?_⟩
        rw [show decide ((0 : Int) ≤ i ∧ i < (n : Int)) = false from decide_eq_false hi]
        exact iteT ⟨_, rfl, mk1_ok q⟩
      · exact .inr ⟨odd, _, rfl, iteT ⟨_, rfl, mk1_ok q⟩⟩
end
end Hw

/-! What a search outwards has found. No Python here. -/
namespace Hw
structure Bf (n : Nat) (d : Nat → Nat) (k : Nat) (S R : List Nat) : Prop where
  nd : (S ++ R).Nodup
  s : ∀ x, x ∈ S ↔ x < n ∧ d x ≤ k
  r : ∀ x ∈ R, x < n ∧ d x = k + 1
theorem Bf.lt {n k : Nat} {d : Nat → Nat} {S R : List Nat} (b : Bf n d k S R) : ∀ x ∈ S ++ R, x < n := fun x hx => (List.mem_append.mp hx).elim (fun m => ((b.s x).mp m).1) fun m => (b.r x m).1
theorem Bf.len {n k : Nat} {d : Nat → Nat} {S R : List Nat} (b : Bf n d k S R) : S.length + R.length ≤ n := by
  rw [← List.length_append]
  exact len_le n _ b.nd b.lt
section
variable {n : Nat} {es : List Ed} (ve : VE n es) {g : Nat} {d : Nat → Nat} (D : IsD n es g d)
include ve D
theorem Bf.add {k p i : Nat} {S R : List Nat} (b : Bf n d k S R) (hp : d p = k) (hi : i ∈ drs es p) (hf : oth (es.getD i (0, 0)) p ∉ S ++ R) : Bf n d k S (R ++ [oth (es.getD i (0, 0)) p]) ∧ d (oth (es.getD i (0, 0)) p) = d p + 1 := by
  have a := oth_adj hi
  have l := (adj_lt ve a).2
  have u := D.up _ _ a
  generalize oth (es.getD i (0, 0)) p = f at *
  have ns : ¬ d f ≤ k := fun z => hf (List.mem_append_left _ ((b.s f).mpr ⟨l, z⟩))
  refine ⟨⟨?_, b.s, fun x hx => ?_⟩, by omega⟩
  · rw [← List.append_assoc, List.nodup_append]
    exact ⟨b.nd, by simp, fun x hx y hy => by rw [List.mem_singleton.mp hy]; exact fun z => hf (z ▸ hx)⟩
  · rcases List.mem_append.mp hx with m | m
    · exact b.r x m
    · rw [List.mem_singleton.mp m]
      exact ⟨l, by omega⟩
theorem Bf.done {k : Nat} {S R : List Nat} (b : Bf n d k S R) (cov : ∀ x, x < n → d x = k → ∀ y, adj es x y → y ∈ S ++ R) : Bf n d (k + 1) (S ++ R) [] ∧ ∀ x, x ∈ R ↔ x < n ∧ d x = k + 1 := by
  have up : ∀ x, x < n → d x = k + 1 → x ∈ S ++ R := fun x hx e => by
    obtain ⟨y, a, q⟩ := D.dn x hx (by omega)
    exact cov y (adj_lt ve a).2 (by omega) x (adj_symm a)
  refine ⟨⟨by rw [List.append_nil]; exact b.nd, fun x => ⟨fun m => ?_, fun ⟨h1, h2⟩ => ?_⟩, fun x m => nomatch m⟩, fun x => ⟨b.r x, fun ⟨h1, h2⟩ => ?_⟩⟩
  · rcases List.mem_append.mp m with m | m
    · have := (b.s x).mp m
      exact ⟨this.1, by omega⟩
    · have := b.r x m
      exact ⟨this.1, by omega⟩
  · by_cases z : d x ≤ k
    · exact List.mem_append_left _ ((b.s x).mpr ⟨h1, z⟩)
    · exact up x h1 (by omega)
  · rcases List.mem_append.mp (up x h1 h2) with m | m
    · have := ((b.s x).mp m).2
      omega
    · exact m
theorem level {k : Nat} : ∀ (m x : Nat), x < n → d x = k + m → ∃ y, y < n ∧ d y = k
  | 0, x, hx, e => ⟨x, hx, e⟩
  | m + 1, x, hx, e => by
    obtain ⟨y, a, q⟩ := D.dn x hx (by omega)
    exact level m y (adj_lt ve a).2 (by omega)
theorem Bf.all {k : Nat} {S R : List Nat} (b : Bf n d k S R) (no : ∀ x, x < n → d x ≠ k) : ∀ x, x < n → x ∈ S := fun x hx => by
  refine (b.s x).mpr ⟨hx, ?_⟩
  by_cases z : d x ≤ k
  · exact z
  · obtain ⟨y, h1, h2⟩ := level (k := k) ve D (d x - k) x hx (by omega)
    exact absurd h2 (no y h1)
omit ve in
theorem bf_start (hg : g < n) : Bf n d 0 [g] [] := by
  refine ⟨by simp, fun x => ?_, fun x m => nomatch m⟩
  rw [List.mem_singleton]
  constructor
  · intro e
    subst e
    exact ⟨hg, by rw [D.z]; exact Nat.le_refl _⟩
  · rintro ⟨h1, h2⟩
    exact D.zo x h1 (by omega)
end
end Hw

namespace Hw
open PySem PySem.Spec PyProof.Rows L2 ClX
/-- what stands in the dict of distances -/
def kvD (d : Nat → Nat) (S : List Nat) : List (Key × V) := S.map fun x : Nat => ((Sum.inl (x : Int) : Key), V.int ((d x : Nat) : Int))
theorem kvD_in {d : Nat → Nat} {r : Nat} : ∀ {S : List Nat}, r ∈ S → valV (kvD d S) (.inl (r : Int)) = some (.int ((d r : Nat) : Int))
  | a :: R, h => by
    by_cases z : a = r
    · subst z
      exact valV_pos (p := ((Sum.inl (a : Int), V.int ((d a : Nat) : Int)) : Key × V)) (r := kvD d R) rfl
    · have : ¬ ((Sum.inl (a : Int), V.int ((d a : Nat) : Int)) : Key × V).1 = .inl (r : Int) := fun q => z (Int.ofNat.inj (Sum.inl.inj q))
      have e := valV_neg (p := ((Sum.inl (a : Int), V.int ((d a : Nat) : Int)) : Key × V)) (r := kvD d R) this
      exact e.trans (kvD_in ((List.mem_cons.mp h).resolve_left fun q => z q.symm))
theorem kvD_out {d : Nat → Nat} {r : Nat} : ∀ {S : List Nat}, r ∉ S → valV (kvD d S) (.inl (r : Int)) = none
  | [], _ => rfl
  | a :: R, h => by
    have : ¬ ((Sum.inl (a : Int), V.int ((d a : Nat) : Int)) : Key × V).1 = .inl (r : Int) := fun q => h (by rw [Int.ofNat.inj (Sum.inl.inj q)]; exact List.mem_cons_self)
    have e := valV_neg (p := ((Sum.inl (a : Int), V.int ((d a : Nat) : Int)) : Key × V)) (r := kvD d R) this
    exact e.trans (kvD_out fun q => h (List.mem_cons_of_mem _ q))
theorem kvD_put {d : Nat → Nat} {r : Nat} {S : List Nat} (h : r ∉ S) : putK (kvD d S) (.inl (r : Int)) (.int ((d r : Nat) : Int)) = kvD d (S ++ [r]) := by
  rw [putK_new _ (kvD_out h)]
  unfold kvD
  rw [List.map_append]
  rfl
/-- the row of a place among the exits -/
theorem cs_at {H : Hp} {e : Addr} {n p : Nat} {es : List Ed} (h : CsAt H e (exs n es)) (hp : p < n) : ∃ (ks : List V) (b : Addr), H e = some (.tup ks) ∧ atI ks ((p : Nat) : Int) = some (.ref b) ∧ Tp H b (drs es p) := by
  obtain ⟨ks, k1, k2, k3⟩ := h
  have kl : ks.length = n := by
    have := congrArg List.length k2
    unfold exs at this
    rw [List.length_map, List.length_map, List.length_range] at this
    exact this
  obtain ⟨k, hk⟩ : ∃ k, ks[p]? = some k := ⟨ks[p], List.getElem?_eq_getElem (by omega)⟩
  have e2 : k.2 = drs es p := by
    have := congrArg (fun l => l[p]?) k2
    unfold exs at this
    simp only [List.getElem?_map, hk, List.getElem?_range hp] at this
    exact Option.some.inj this
  refine ⟨_, k.1, k1, atI_nat (by rw [List.getElem?_map, hk]; rfl), ?_⟩
  rw [← e2]
  exact k3 k (List.mem_of_getElem? hk)
section
variable {P : Program} {w : World} {K : PySem.W.Frag} {mg : Str → Option Value} {base : Heap}
def tM (C : Addr) (m : Str) (sp : Sp) (ta : TE) (t : TA) : TE := tMethR C m sp E0 ta t
theorem pe_m {X : Cx} {k : Nat} {C : Addr} {m : Str} {sp : Sp} {o e : Expr} {es : List Expr} {ta : TE} {t : TA} {apos pos : Pos} {pl : Sem Bool} (M : MC X.prog X.w X.K X.mg X.base CX0 C m k sp) (c : Cls X.K C) (hr : Room k X.A) (he : PE X o ta) (ha : PA X (e :: es) t)
    (hst : starEach (e :: es) X.env = (false, eval e X.env) :: starEach es X.env := by rfl) (hpl : (backTo pos (starEach es X.env)).any (·.1) = false := by rfl) (ht : eval (.Call (.Attribute o m apos) (e :: es) [] pos) X.env = (do let ov ← eval o X.env; standAt apos.atName; let (f, first) ← holding [ov] (getMethod ov m pl); callWith pos f first (backTo pos (starEach (e :: es) X.env)) (backToKw pos (keywordEach [] X.env))) := by rfl) :
    PE X (.Call (.Attribute o m apos) (e :: es) [] pos) (tM C m sp ta t) := by
  obtain ⟨f, hm, F⟩ := M.ex
  exact pe_methR he c hm F hr pass0 ha hst hpl ht
/-! ### _distances_to -/
def spDists (C : Addr) : Sp := fun vs H Q _ => ∃ (x : Addr) (n : Nat) (es : List Ed) (g : Nat), vs = [.ref x, .int (g : Int)] ∧ NetAt5 C H x n es ∧ CN n es ∧ g < n ∧ n ≤ 12 ∧
  ∀ H' r S, Same H H' → H r = none → H' r = some (.dK (kvD (dst n es g) S)) → (∀ y, y < n → y ∈ S) → Q (.ref r) H'
abbrev nDi : List Str := ["self", "goal", "distances", "outermost", "reached", "place", "passage", "far"]
theorem scDists : FnScope nDi ["self", "goal"] (defScope sDists) := ⟨rfl, rfl, rfl, by decide +kernel, rfl, by decide +kernel, by decide +kernel⟩
theorem mc_dists {C : Addr} {mc : Value} (T : Txt mg) (N : NetC K mg C mc) (GA : MC P w K mg base CX0 C "_across" 1 (spAcross C)) (D : Dm K C "_distances_to" "Network._distances_to" sDists ["self", "goal"]) : MC P w K mg base CX0 C "_distances_to" 2 (spDists C) := by
  have nd := scDists.nd
  refine mc_of D scDists (fun vs H Q E h => ?_) (fun f cdv A outer s0 H vs Q E hr h => ?_)
  · obtain ⟨x, n, es, g, rfl, _⟩ := h
    rfl
  · obtain ⟨x, n, es, g, rfl, net, cn, hg, hn, q⟩ := h
    have hu := hu_of hr
    refine ⟨_, pss_cons (ps_set (i := 2) nd rfl (.inl rfl) (pe_disp (pps_cons (pv 1) pe_int pps_nil) rfl rfl (by simp) (by decide)))
      <| pss_cons (ps_set (i := 3) nd rfl (.inl rfl) (pe_lst (pa_cons (pv 1) pa_nil)))
      <| pss_cons (ps_while PassesOwn.never (pt_truth (pv 3) (fun _ => rfl))
          (pss_cons (ps_set (i := 4) nd rfl (.inl rfl) (pe_lst pa_nil))
          <| pss_cons (ps_for PassesOwn.never rfl (pi_list (pv 3)) (pg_name (i := 5) nd rfl (.inl rfl))
              (pss_one (ps_for PassesOwn.never rfl (pi_tup (pe_ix (r := rIxT K) ix_tup (pe_fld (pv 0) rfl) (pv 5) (fun _ _ => rfl))) (pg_name (i := 6) nd rfl (.inl rfl))
                (pss_cons (ps_set (i := 7) nd rfl (.inl rfl) (pe_m GA N.cl hr (pv 0) (pa_cons (pv 6) (pa_cons (pv 5) pa_nil))))
                <| pss_one (ps_if (pt_cmp (pc_dnotin hu (pv 7) (pv 2)))
                    (pss_cons (ps_dput hu (pv 2) (pv 7) (pe_op op_add (pe_dget hu (pv 2) (pv 5) (fun _ _ => rfl)) pe_int) rfl)
                    <| pss_one (ps_expr (pe_bm PySem.F.plainAttrs_list PySem.F.slot_list_append PySem.F.type_list_append mt_append (pv 4) (pa_cons (pv 7) pa_nil)))) pss_nil)))))
          <| pss_one (ps_set (i := 3) nd rfl (.inl rfl) (pv 4))))
      <| pss_one (ps_ret (pv 2)), ?_⟩
    have DD := dst_is cn hg
    generalize dst n es g = d at *
    obtain ⟨dx, fs, a, e, h1, h2, h3, h4, h5, h6, h7⟩ := id net
    refine fun d0 nd0 => ⟨_, rfl, upd_same, [(Sum.inl (g : Int), .int 0)], rfl, by show 1 ≤ 15; decide, ?_⟩
    have s1 : Same H (upd (upd H d0 (.dK [])) d0 (.dK (mergeK [] [(Sum.inl (g : Int), V.int 0)]))) := same_in (same_upd nd0) nd0
    have hd1 : upd (upd H d0 (.dK [])) d0 (.dK (mergeK [] [(Sum.inl (g : Int), V.int 0)])) d0 = some (.dK (kvD d [g])) := by
      rw [upd_same]
      show some (HO.dK [(Sum.inl (g : Int), V.int 0)]) = some (HO.dK [(Sum.inl (g : Int), V.int ((d g : Nat) : Int))])
      rw [DD.z]
      rfl
    generalize upd (upd H d0 (.dK [])) d0 (.dK (mergeK [] [(Sum.inl (g : Int), V.int 0)])) = H1 at *
    refine ⟨_, rfl, by show 1 ≤ sizeLine; decide, fun l0 n0 => ?_⟩
    have s2 := s1.trans (same_upd (o := .lst [V.int (g : Int)]) n0)
    have hd2 := same_upd (o := .lst [V.int (g : Int)]) n0 _ _ hd1
    have hl2 : upd H1 l0 (.lst [V.int (g : Int)]) l0 = some (.lst (NV [g])) := upd_same
    have nl0 := s1.free n0
    generalize upd H1 l0 (.lst [V.int (g : Int)]) = H2 at *
    refine ⟨fun m σ H' => ∃ k S F l v4 v5 v6 v7, m = n - k ∧ σ = [some (.ref x), some (.int (g : Int)), some (.ref d0), some (.ref l), v4, v5, v6, v7] ∧ Same H H' ∧ H' d0 = some (.dK (kvD d S)) ∧ H l = none ∧ H' l = some (.lst (NV F)) ∧ Bf n d k S [] ∧ (∀ y, y ∈ F ↔ y < n ∧ d y = k),
      ⟨_, 0, [g], [g], l0, _, _, _, _, rfl, rfl, s2, hd2, nl0, hl2, bf_start DD hg, fun y => ?_⟩, ?_⟩
    · have := (bf_start DD hg).s y
      rw [this]
      constructor <;> (rintro ⟨a1, a2⟩; exact ⟨a1, by omega⟩)
    rintro m σ H3 ⟨k, S, F, l, v4, v5, v6, v7, rfl, rfl, sm, hD, nl, hF, B, hB⟩
    refine ⟨_, rfl, _, .inl ⟨_, sl_of hF, rfl⟩, ?_⟩
    cases F with
    | nil =>
      refine iteF ⟨_, rfl, q H3 d0 S sm nd0 hD (B.all cn.2.1 DD fun y hy e => ?_)⟩
      have := (hB y).mpr ⟨hy, e⟩
      cases this
    | cons f0 F0 =>
      have kn : k < n := by
        have := (hB f0).mp List.mem_cons_self
        have l := DD.lt f0 this.1
        omega
      refine iteT ⟨fun σ' H' => ∃ S F l v4 v5 v6 v7, σ' = [some (.ref x), some (.int (g : Int)), some (.ref d0), some (.ref l), v4, v5, v6, v7] ∧ Same H H' ∧ H' d0 = some (.dK (kvD d S)) ∧ H l = none ∧ H' l = some (.lst (NV F)) ∧ Bf n d (k + 1) S [] ∧ (∀ y, y ∈ F ↔ y < n ∧ d y = k + 1),
        fun σ' H' ⟨S, F, l, v4, v5, v6, v7, z⟩ => ⟨n - (k + 1), by omega, k + 1, S, F, l, v4, v5, v6, v7, rfl, z⟩, ?_⟩
      generalize f0 :: F0 = F at *
      refine ⟨Nat.zero_le _, fun l4 n4 => ?_⟩
      have s4 := sm.trans (same_upd (o := .lst []) n4)
      have hD4 := same_upd (o := .lst []) n4 _ _ hD
      have hF4 := same_upd (o := .lst []) n4 _ _ hF
      have hR4 : upd H3 l4 (.lst []) l4 = some (.lst (NV [])) := upd_same
      have nl4 := sm.free n4
      have ndl : d0 ≠ l := ne_of hD hF (by intro z; cases z)
      have nd4 : d0 ≠ l4 := ne_of_none hD n4
      have n44 : l ≠ l4 := ne_of_none hF n4
      generalize upd H3 l4 (.lst []) = H4 at *
      refine ⟨_, rfl, l, rfl, ⟨_, sl_of hF4⟩, for_it (walk_list (xs := NV F)) (fun i σ H' => ∃ R v5 v6 v7, σ = [some (.ref x), some (.int (g : Int)), some (.ref d0), some (.ref l), some (.ref l4), v5, v6, v7] ∧ Same H H' ∧ H' d0 = some (.dK (kvD d (S ++ R))) ∧ H' l = some (.lst (NV F)) ∧ H' l4 = some (.lst (NV R)) ∧ Bf n d k S R ∧
          ∀ j p, j < i → F[j]? = some p → ∀ y, adj es p y → y ∈ S ++ R) ⟨[], _, _, _, rfl, s4, by rw [List.append_nil]; exact hD4, hF4, hR4, B, fun j p hj => absurd hj (Nat.not_lt_zero _)⟩ (fun i σ H' _ ⟨_, _, _, _, _, _, _, z, _⟩ => sl_of z) ?_ ?_⟩
      · rintro i y σ _ H5 hi ⟨R, v5, v6, v7, rfl, sm5, hD5, hF5, hR5, B5, cov⟩ ⟨rfl, hy⟩
        obtain ⟨p, hp, rfl⟩ := NV_get' hy
        have hpF := (hB p).mp (List.mem_of_getElem? hp)
        have net5 := net.same sm5
        obtain ⟨ks, b, c1, c2, c3⟩ := cs_at (h7.same sm5) hpF.1
        refine ⟨_, rfl, x, C, dx, fs, _, rfl, sm5 _ _ h1, N.cl, N.n6, h4, _, rfl, e, _, _, _, rfl, rfl, sq_of c1, c2, b, rfl, ⟨_, sq_of c3⟩, ?_⟩
        refine for_it (walk_tup (xs := NV (drs es p))) (fun t σ H' => ∃ R v6 v7, σ = [some (.ref x), some (.int (g : Int)), some (.ref d0), some (.ref l), some (.ref l4), some (.int (p : Int)), v6, v7] ∧ Same H H' ∧ Tp H' b (drs es p) ∧ H' d0 = some (.dK (kvD d (S ++ R))) ∧ H' l = some (.lst (NV F)) ∧ H' l4 = some (.lst (NV R)) ∧ Bf n d k S R ∧
          (∀ j p, j < i → F[j]? = some p → ∀ y, adj es p y → y ∈ S ++ R) ∧ ∀ j o, j < t → (drs es p)[j]? = some o → oth (es.getD o (0, 0)) p ∈ S ++ R) ⟨R, _, _, rfl, sm5, c3, hD5, hF5, hR5, B5, cov, fun j o hj => absurd hj (Nat.not_lt_zero _)⟩ (fun t σ H' _ ⟨_, _, _, _, _, z, _⟩ => sq_of z) ?_ ?_
        · rintro t z σ _ H6 ht ⟨R, v6, v7, rfl, sm6, hb6, hD6, hF6, hR6, B6, cov6, inn⟩ ⟨rfl, hz⟩
          obtain ⟨o, ho, rfl⟩ := NV_get' hz
          have om := List.mem_of_getElem? ho
          have ol := (mem_drs.mp om).1
          refine ⟨_, rfl, x, dx, fs, rfl, sm6 _ _ h1, h5 _ (by decide +kernel), _, rfl, _, rfl, x, n, es, o, p, rfl, net.same sm6, ol, ?_⟩
          have add := B6.add cn.2.1 DD hpF.2 om
          generalize eF : oth (es.getD o (0, 0)) p = far at *
          have inn' : ∀ R', (∀ y ∈ S ++ R, y ∈ S ++ R') → far ∈ S ++ R' → ∀ j o, j < t + 1 → (drs es p)[j]? = some o → oth (es.getD o (0, 0)) p ∈ S ++ R' := fun R' sub hf j o' hj hjo => by
            by_cases z : j = t
            · subst z
              rw [ho] at hjo
              obtain rfl := Option.some.inj hjo
              rw [eF]
              exact hf
            · exact sub _ (inn j o' (by omega) hjo)
          refine ⟨_, rfl, _, rfl, d0, _, rfl, DGet.k (k := Sum.inl (far : Int)) hD6, _, rfl, ?_⟩
          by_cases hf : far ∈ S ++ R
          · rw [kvD_in hf]
            exact iteF ⟨R, _, _, rfl, sm6, hb6, hD6, hF6, hR6, B6, cov6, inn' R (fun _ z => z) hf⟩
          · rw [kvD_out hf]
            obtain ⟨B7, df⟩ := add hf
            have bl7 := B7.len
            rw [List.length_append, List.length_singleton] at bl7
            have pin : p ∈ S ++ R := List.mem_append_left _ ((B6.s p).mpr ⟨hpF.1, by omega⟩)
            refine iteT ⟨_, rfl, _, rfl, d0, .int ((d p : Nat) : Int), rfl, by rw [← kvD_in pin]; exact DGet.k (k := Sum.inl (p : Int)) hD6, _, _, rfl, rfl, ?_⟩
            refine ⟨_, rfl, _, rfl, d0, _, rfl, DPut.k (k := Sum.inl (far : Int)) hD6 (by unfold kvD; rw [List.length_map, List.length_append]; exact small1000 (by omega)), ?_⟩
            dsimp only
            rw [show ((d p : Nat) : Int) + 1 = ((d far : Nat) : Int) by omega, kvD_put hf]
            have sm7 : Same H (upd H6 d0 (.dK (kvD d (S ++ R ++ [far])))) := same_in sm6 nd0
            have hD7 : upd H6 d0 (.dK (kvD d (S ++ R ++ [far]))) d0 = some (.dK (kvD d (S ++ (R ++ [far])))) := by rw [upd_same, List.append_assoc]
            have hF7 : upd H6 d0 (.dK (kvD d (S ++ R ++ [far]))) l = some (.lst (NV F)) := by rw [upd_ne ndl.symm]; exact hF6
            have hR7 : upd H6 d0 (.dK (kvD d (S ++ R ++ [far]))) l4 = some (.lst (NV R)) := by rw [upd_ne nd4.symm]; exact hR6
            have hb7 : Tp (upd H6 d0 (.dK (kvD d (S ++ R ++ [far])))) b (drs es p) := by
              show upd H6 d0 _ b = _
              rw [upd_ne (ne_of hb6 hD6 (by intro q; cases q))]
              exact hb6
            generalize upd H6 d0 (.dK (kvD d (S ++ R ++ [far]))) = H7 at *
            refine ⟨_, rfl, .inl ⟨rfl, _, sl_of hR7⟩, _, rfl, l4, _, _, rfl, rfl, hR7, by rw [NV_len]; exact small1000 (by omega), ?_⟩
            have sub : ∀ y ∈ S ++ R, y ∈ S ++ (R ++ [far]) := fun y hy => by
              rw [← List.append_assoc]
              exact List.mem_append_left _ hy
            refine ⟨R ++ [far], _, _, rfl, same_in sm7 nl4, tp_upd hb7 hR7, ?_, ?_, ?_, B7, fun j p hj hp y a => sub _ (cov6 j p hj hp y a), inn' _ sub ?_⟩
            · rw [upd_ne nd4]; exact hD7
            · rw [upd_ne n44]; exact hF7
            · rw [upd_same, NV_snoc]
            · rw [← List.append_assoc]
              exact List.mem_append_right _ (by simp)
        · rintro σ H6 ⟨R, v6, v7, rfl, sm6, hb6, hD6, hF6, hR6, B6, cov6, inn⟩
          rw [NV_len] at inn
          refine ⟨R, _, _, _, rfl, sm6, hD6, hF6, hR6, B6, fun j p' hj hp' y a => ?_⟩
          by_cases z : j = i
          · subst z
            rw [hp] at hp'
            obtain rfl := Option.some.inj hp'
            obtain ⟨o, om, eo⟩ := adj_oth a
            obtain ⟨t, ht, et⟩ := List.mem_iff_getElem.mp om
            have := inn t o ht (by rw [List.getElem?_eq_getElem ht, et])
            rw [eo] at this
            exact this
          · exact cov6 j p' (by omega) hp' y a
      · rintro σ H5 ⟨R, v5, v6, v7, rfl, sm5, hD5, hF5, hR5, B5, cov⟩
        rw [NV_len] at cov
        obtain ⟨B6, hB6⟩ := B5.done cn.2.1 DD fun p hp dp y a => by
          have m := (hB p).mpr ⟨hp, dp⟩
          obtain ⟨j, hj, ej⟩ := List.mem_iff_getElem.mp m
          exact cov j p hj (by rw [List.getElem?_eq_getElem hj, ej]) y a
        exact ⟨_, rfl, S ++ R, R, l4, _, _, _, _, rfl, sm5, hD5, nl4, hR5, B6, hB6⟩
end
end Hw

namespace Hw
open PySem PySem.Spec PyProof.Rows L2 ClX
theorem drs_rise (es : List Ed) (u : Nat) : (drs es u).Pairwise (· < ·) := by
  unfold drs drsTo
  exact List.Pairwise.filter _ List.pairwise_lt_range
theorem stp_rise (es : List Ed) (d : Nat → Nat) (u : Nat) : (stp es d u).Pairwise (· < ·) := List.Pairwise.filter _ (drs_rise es u)
theorem stp_len (es : List Ed) (d : Nat → Nat) (u : Nat) : (stp es d u).length ≤ es.length := Nat.le_trans (List.length_filter_le _ _) (drs_len es u)
theorem wy_step {es : List Ed} {d : Nat → Nat} {x i k : Nat} {rr : List Nat} (h : stp es d x = i :: rr) : wy es d (k + 1) x = i :: wy es d k (oth (es.getD i (0, 0)) x) := by
  show (stp es d x).headD 0 :: wy es d k (oth (es.getD ((stp es d x).headD 0) (0, 0)) x) = _
  rw [h]
  rfl
def stpTo (es : List Ed) (d : Nat → Nat) (x j : Nat) : List Nat := ((drs es x).take j).filter fun i => decide (d (oth (es.getD i (0, 0)) x) < d x)
theorem stpTo_succ {es : List Ed} {d : Nat → Nat} {x j i : Nat} (h : (drs es x)[j]? = some i) : stpTo es d x (j + 1) = stpTo es d x j ++ (if decide (d (oth (es.getD i (0, 0)) x) < d x) = true then [i] else []) := by
  unfold stpTo
  rw [List.take_add_one, h, List.filter_append]
  congr 1
  show List.filter _ [i] = _
  rw [List.filter_cons, List.filter_nil]
theorem stpTo_len (es : List Ed) (d : Nat → Nat) (x j : Nat) : (stpTo es d x j).length ≤ es.length := by
  unfold stpTo
  refine Nat.le_trans (List.length_filter_le _ _) ?_
  rw [List.length_take]
  have := drs_len es x
  omega
section
variable {P : Program} {w : World} {K : PySem.W.Frag} {mg : Str → Option Value} {base : Heap}
/-! ### _nearing_step -/
def spNear (C : Addr) : Sp := fun vs H Q _ => ∃ (x r : Addr) (n : Nat) (es : List Ed) (g p : Nat) (S : List Nat), vs = [.ref x, .int (p : Int), .ref r] ∧ NetAt5 C H x n es ∧ CN n es ∧ g < n ∧ p < n ∧ dst n es g p ≠ 0 ∧ es.length ≤ 16 ∧
  H r = some (.dK (kvD (dst n es g) S)) ∧ (∀ y, y < n → y ∈ S) ∧ ∀ H', Same H H' → Q (.int (((stp es (dst n es g) p).headD 0 : Nat) : Int)) H'
abbrev nNe : List Str := ["self", "place", "distances", "passage"]
theorem scNear : FnScope nNe ["self", "place", "distances"] (defScope sNearing) := ⟨rfl, rfl, rfl, by decide +kernel, rfl, by decide +kernel, by decide +kernel⟩
theorem mc_near {C : Addr} {mc : Value} (T : Txt mg) (N : NetC K mg C mc) (GA : MC P w K mg base CX0 C "_across" 1 (spAcross C)) (D : Dm K C "_nearing_step" "Network._nearing_step" sNearing ["self", "place", "distances"]) : MC P w K mg base CX0 C "_nearing_step" 2 (spNear C) := by
  have nd := scNear.nd
  refine mc_of D scNear (fun vs H Q E h => ?_) (fun f cdv A outer s0 H vs Q E hr h => ?_)
  · obtain ⟨x, r, n, es, g, p, S, rfl, _⟩ := h
    rfl
  · obtain ⟨x, r, n, es, g, p, S, rfl, net, cn, hg, hp, hz, hl, hD, hS, q⟩ := h
    have hu := hu_of hr
    refine ⟨_, pss_one (ps_ret (pe_callB (cr_min rfl) (by rfl) T.min (by decide +kernel) (pa_cons (pe_lc (own := [("passage", 3)]) (g := gName 3) (by rfl) nd (pi_tup (pe_ix (r := rIxT K) ix_tup (pe_fld (pv 0) rfl) (pv 1) (fun _ _ => rfl)))
        (blkOk_by (own := [("passage", 3)]) (N := nNe) (sc := defScope sNearing) (by decide +kernel)) (fun _ _ _ _ _ => pg_name (i := 3) nd rfl (.inl rfl))
        (fun _ _ _ _ _ => pts_one (pt_cmpR op_lt (pe_dget (by exact hu) (pv 2) (pe_m GA N.cl (by exact hr) (pv 0) (pa_cons (pv 3) (pa_cons (pv 1) pa_nil))) (fun _ _ => rfl)) (pe_dget (by exact hu) (pv 2) (pv 1) (fun _ _ => rfl)) (nomark _)))
        (fun _ _ _ _ _ => pv 3)) pa_nil))), ?_⟩
    have DD := dst_is cn hg
    generalize dst n es g = d at *
    obtain ⟨dx, fs, a, e, h1, h2, h3, h4, h5, h6, h7⟩ := id net
    obtain ⟨ks, b, c1, c2, c3⟩ := cs_at h7 hp
    refine ⟨_, rfl, x, C, dx, fs, _, rfl, h1, N.cl, N.n6, h4, _, rfl, e, _, _, _, rfl, rfl, sq_of c1, c2, b, rfl, ⟨_, sq_of c3⟩, ?_⟩
    refine fun D0 nD => lc_it (walk_tup (xs := NV (drs es p))) (fun i H' => Same H H' ∧ H' D0 = some (.lst (NV (stpTo es d p i)))) ⟨same_upd nD, upd_same⟩ (fun i H' _ ⟨sm, _⟩ => sq_of (sm _ _ c3)) ?_ ?_
    · rintro i y _ H2 hi ⟨sm, hL⟩ ⟨rfl, hy⟩
      obtain ⟨o, ho, rfl⟩ := NV_get' hy
      have om := List.mem_of_getElem? ho
      have ol := (mem_drs.mp om).1
      have fl := (adj_lt cn.2.1 (oth_adj om)).2
      refine ⟨rfl, ?_⟩
      refine ⟨_, rfl, _, rfl, x, dx, fs, rfl, sm _ _ h1, h5 _ (by decide +kernel), _, rfl, _, rfl, x, n, es, o, p, rfl, net.same sm, ol, ?_⟩
      refine ⟨r, .int ((d (oth (es.getD o (0, 0)) p) : Nat) : Int), rfl, by rw [← kvD_in (hS _ fl)]; exact DGet.k (k := Sum.inl ((oth (es.getD o (0, 0)) p : Nat) : Int)) (sm _ _ hD), ?_⟩
      refine ⟨_, rfl, _, rfl, r, .int ((d p : Nat) : Int), rfl, by rw [← kvD_in (hS _ hp)]; exact DGet.k (k := Sum.inl (p : Int)) (sm _ _ hD), ?_⟩
      refine ⟨_, _, rfl, rfl, _, rfl, ?_⟩
      rw [stpTo_succ ho]
      by_cases z : d (oth (es.getD o (0, 0)) p) < d p
      · rw [if_pos (decide_eq_true z), show decide (((d (oth (es.getD o (0, 0)) p) : Nat) : Int) < ((d p : Nat) : Int)) = true from decide_eq_true (by omega)]
        refine iteT ⟨_, rfl, _, hL, by rw [NV_len]; exact Nat.lt_of_le_of_lt (stpTo_len _ _ _ _) (small1000 (by omega)), fun b o eb => ?_, by rw [upd_same, NV_snoc]⟩
        rw [upd_ne (ne_of_none eb nD)]
        exact sm _ _ eb
      · rw [if_neg (by simpa using z), show decide (((d (oth (es.getD o (0, 0)) p) : Nat) : Int) < ((d p : Nat) : Int)) = false from decide_eq_false (by omega), List.append_nil]
        exact iteF ⟨sm, hL⟩
    · rintro H2 ⟨sm, hL⟩
      have e0 : stpTo es d p (NV (drs es p)).length = stp es d p := by
        unfold stpTo
        rw [NV_len, List.take_length]
        rfl
      rw [e0] at hL
      obtain ⟨i, rr, es1, _⟩ := stp_ex cn.2.1 DD hp hz
      have hs := stp_rise es d p
      rw [es1] at hL q hs
      refine ⟨D0, NI (i :: rr), rfl, sl_of (by rw [← NV_NI]; exact hL), by rw [NI_len]; exact Nat.succ_pos _, fun m hm hmin => ?_⟩
      obtain ⟨m', hm', rfl⟩ := mem_NI hm
      have l1 := hmin (i : Int) (by unfold NI; exact List.mem_map.mpr ⟨i, List.mem_cons_self, rfl⟩)
      have l2 : i ≤ m' := by
        rcases List.mem_cons.mp hm' with z | z
        · omega
        · exact Nat.le_of_lt ((List.pairwise_cons.mp hs).1 m' z)
      obtain rfl : m' = i := by omega
      exact q H2 sm
/-! ### way -/
theorem pe_mX {X : Cx} {k : Nat} {C : Addr} {m : Str} {sp : Sp} {E : XK} {W : WX} {o e : Expr} {es : List Expr} {ta : TE} {t : TA} {apos pos : Pos} {pl : Sem Bool} (M : MC X.prog X.w X.K X.mg X.base (L2.CX X.prog X.w) C m k sp) (c : Cls X.K C) (hr : Room k X.A) (tk : Takes X W) (hW : ∀ cls d σ H, E cls d H → W cls d σ H) (he : PE X o ta) (ha : PA X (e :: es) t)
    (hst : starEach (e :: es) X.env = (false, eval e X.env) :: starEach es X.env := by rfl) (hpl : (backTo pos (starEach es X.env)).any (·.1) = false := by rfl) (ht : eval (.Call (.Attribute o m apos) (e :: es) [] pos) X.env = (do let ov ← eval o X.env; standAt apos.atName; let (f, first) ← holding [ov] (getMethod ov m pl); callWith pos f first (backTo pos (starEach (e :: es) X.env)) (backToKw pos (keywordEach [] X.env))) := by rfl) :
    PE X (.Call (.Attribute o m apos) (e :: es) [] pos) (tMethR C m sp E ta t) := by
  obtain ⟨f, hm, F⟩ := M.ex
  exact pe_methR he c hm F hr (passes_call tk hW) ha hst hpl ht
def spWay (K : PySem.W.Frag) (C CP : Addr) : Sp := fun vs H Q E => ∃ (x : Addr) (v1 v2 : V) (n : Nat) (es : List Ed), vs = [.ref x, v1, v2] ∧ NetAt5 C H x n es ∧ CN n es ∧ n ≤ 12 ∧ es.length ≤ 16 ∧
  ((∃ p g : Nat, v1 = .int (p : Int) ∧ v2 = .int (g : Int) ∧ p < n ∧ g < n ∧ ∀ H' r, Same H H' → Tp H' r (wayF n es p g) → Q (.ref r) H') ∨
   (BadV K H n v1 ∧ ∀ d, H d = none → E (.ref CP) (some d) (upd H d (.xd [("value", v1)]))) ∨
   (∃ p : Nat, v1 = .int (p : Int) ∧ p < n ∧ BadV K H n v2 ∧ ∀ d, H d = none → E (.ref CP) (some d) (upd H d (.xd [("value", v2)]))))
abbrev nWa : List Str := ["self", "place", "goal", "distances", "walk", "step"]
theorem scWay : FnScope nWa ["self", "place", "goal"] (defScope sWay) := ⟨rfl, rfl, rfl, by decide +kernel, rfl, by decide +kernel, by decide +kernel⟩
structure WayC (P : Program) (w : World) (K : PySem.W.Frag) (mg : Str → Option Value) (base : Heap) (C CP : Addr) : Prop where
  check : MC P w K mg base (L2.CX P w) C "_check_place" 3 (spCheck K C CP)
  across : MC P w K mg base CX0 C "_across" 1 (spAcross C)
  dists : MC P w K mg base CX0 C "_distances_to" 2 (spDists C)
  near : MC P w K mg base CX0 C "_nearing_step" 2 (spNear C)
theorem mf_way {C CP : Addr} {mc : Value} (T : Txt mg) (N : NetC K mg C mc) (G : WayC P w K mg base C CP) (D : Dm K C "way" "Network.way" sWay ["self", "place", "goal"]) : MF P w K mg base (L2.CX P w) C "way" "Network.way" sWay ["self", "place", "goal"] 4 (spWay K C CP) := by
  have nd := scWay.nd
  refine mf_ofX D scWay (fun vs H Q E h => ?_) (fun f cdv A outer s0 H vs Q E hr h => ?_)
  · obtain ⟨x, v1, v2, n, es, rfl, _⟩ := h
    rfl
  · obtain ⟨x, v1, v2, n, es, rfl, net, cn, hn, hl, q⟩ := h
    have hr1 := hr.mono (show 1 ≤ 3 by decide)
    have hr2 := hr.mono (show 2 ≤ 3 by decide)
    have tk : Takes (cxOf (L2.CX P w) P w K mg base nWa "Network.way" (defScope sWay) f cdv A outer s0 H E) (fun cls d _ H => E cls d H) := takes_of rfl rfl rfl rfl
    refine ⟨_, pss_cons (ps_expr (pe_mX (E := E) G.check N.cl hr tk (fun _ _ _ _ z => z) (pv 0) (pa_cons (pv 1) pa_nil)))
      <| pss_cons (ps_expr (pe_mX (E := E) G.check N.cl hr tk (fun _ _ _ _ z => z) (pv 0) (pa_cons (pv 2) pa_nil)))
      <| pss_cons (ps_set (i := 3) nd rfl (.inl rfl) (pe_m G.dists N.cl hr2 (pv 0) (pa_cons (pv 2) pa_nil)))
      <| pss_cons (ps_set (i := 4) nd rfl (.inl rfl) (pe_lst pa_nil))
      <| pss_cons (ps_while (passes_of rfl) (pt_cmpR op_ne (pv 1) (pv 2) (nomark _))
          (pss_cons (ps_set (i := 5) nd rfl (.inl rfl) (pe_m G.near N.cl hr2 (pv 0) (pa_cons (pv 1) (pa_cons (pv 3) pa_nil))))
          <| pss_cons (ps_expr (pe_bm PySem.F.plainAttrs_list PySem.F.slot_list_append PySem.F.type_list_append mt_append (pv 4) (pa_cons (pv 5) pa_nil)))
          <| pss_one (ps_set (i := 1) nd rfl (.inl rfl) (pe_m G.across N.cl hr1 (pv 0) (pa_cons (pv 5) (pa_cons (pv 1) pa_nil))))))
      <| pss_one (ps_ret (pe_callTy call_tuple_of (by rfl) T.tuple (by decide +kernel) (pa_cons (pv 4) pa_nil))), ?_⟩
    obtain ⟨dx, fs, a, e, h1, h2, h3, h4, h5, h6, h7⟩ := id net
    have look : ∀ m ∈ mNames, fs.lookup m = none := h5
    refine ⟨_, rfl, x, dx, fs, rfl, h1, look _ (by decide +kernel), _, rfl, x, v1, n, es, rfl, net, ?_⟩
    rcases q with ⟨p, g, rfl, rfl, hp, hg, q⟩ | ⟨bad, q⟩ | ⟨p, rfl, hp, bad, q⟩
    · refine .inl ⟨p, rfl, hp, ?_⟩
      refine ⟨_, rfl, x, dx, fs, rfl, h1, look _ (by decide +kernel), _, rfl, x, _, n, es, rfl, net, .inl ⟨g, rfl, hg, ?_⟩⟩
      refine ⟨_, rfl, x, dx, fs, rfl, h1, look _ (by decide +kernel), _, rfl, x, n, es, g, rfl, net, cn, hg, hn, fun H1 r S s1 nr hr1' hS => ?_⟩
      refine ⟨Nat.zero_le _, fun l nl => ?_⟩
      have s2 := s1.trans (same_upd (o := .lst []) nl)
      have hr2' := same_upd (o := .lst []) nl _ _ hr1'
      have hl2 : upd H1 l (.lst []) l = some (.lst (NV [])) := upd_same
      have nl' := s1.free nl
      have nrl : r ≠ l := ne_of_none hr1' nl
      generalize upd H1 l (.lst []) = H2 at *
      have DD := dst_is cn hg
      have el : (wy es (dst n es g) (dst n es g p) p).length = dst n es g p := wy_len _ _ _ _
      have dl := DD.lt p hp
      refine ⟨fun m σ H' => ∃ pre p' v5, m = dst n es g p' ∧ σ = [some (.ref x), some (.int (p' : Nat)), some (.int (g : Int)), some (.ref r), some (.ref l), v5] ∧ Same H H' ∧ H' r = some (.dK (kvD (dst n es g) S)) ∧ H' l = some (.lst (NV pre)) ∧ p' < n ∧ pre ++ wy es (dst n es g) (dst n es g p') p' = wy es (dst n es g) (dst n es g p) p,
        ⟨_, [], p, _, rfl, rfl, s2, hr2', hl2, hp, rfl⟩, ?_⟩
      rintro m σ H3 ⟨pre, p', v5, rfl, rfl, sm, hR, hL, hp', e⟩
      have le := congrArg List.length e
      rw [List.length_append, el, wy_len] at le
      refine ⟨_, rfl, _, rfl, rfl, _, rfl, ite2 (fun c => ?_) (fun c => ?_)⟩
      · have dz : dst n es g p' ≠ 0 := fun z => by
          have := DD.zo p' hp' z
          subst this
          simp at c
        obtain ⟨i, rr, es1, im, il, ol, eo⟩ := stp_ex cn.2.1 DD hp' dz
        refine ⟨fun σ' H' => ∃ pre p'' v5, dst n es g p'' < dst n es g p' ∧ σ' = [some (.ref x), some (.int (p'' : Nat)), some (.int (g : Int)), some (.ref r), some (.ref l), v5] ∧ Same H H' ∧ H' r = some (.dK (kvD (dst n es g) S)) ∧ H' l = some (.lst (NV pre)) ∧ p'' < n ∧ pre ++ wy es (dst n es g) (dst n es g p'') p'' = wy es (dst n es g) (dst n es g p) p,
          fun σ' H' ⟨pre, p'', v5, l1, l2⟩ => ⟨_, l1, pre, p'', v5, rfl, l2⟩, ?_⟩
        refine ⟨_, rfl, x, dx, fs, rfl, sm _ _ h1, look _ (by decide +kernel), _, rfl, _, rfl, x, r, n, es, g, p', S, rfl, net.same sm, cn, hg, hp', dz, hl, hR, hS, fun H4 s4 => ?_⟩
        rw [es1]
        have hL4 := s4 _ _ hL
        have hR4 := s4 _ _ hR
        have sm4 := sm.trans s4
        refine ⟨_, rfl, .inl ⟨rfl, _, sl_of hL4⟩, _, rfl, l, _, _, rfl, rfl, hL4, by rw [NV_len]; exact small1000 (by omega), ?_⟩
        have sm5 : Same H (upd H4 l (.lst (NV pre ++ [V.int (((i :: rr).headD 0 : Nat) : Int)]))) := same_in sm4 nl'
        have hR5 : upd H4 l (.lst (NV pre ++ [V.int (((i :: rr).headD 0 : Nat) : Int)])) r = some (.dK (kvD (dst n es g) S)) := by rw [upd_ne nrl]; exact hR4
        have hL5 : upd H4 l (.lst (NV pre ++ [V.int (((i :: rr).headD 0 : Nat) : Int)])) l = some (.lst (NV (pre ++ [i]))) := by rw [upd_same, NV_snoc]; rfl
        generalize upd H4 l (.lst (NV pre ++ [V.int (((i :: rr).headD 0 : Nat) : Int)])) = H5 at *
        refine ⟨_, rfl, x, dx, fs, rfl, sm5 _ _ h1, look _ (by decide +kernel), _, rfl, _, rfl, x, n, es, i, p', rfl, net.same sm5, il, ?_⟩
        refine ⟨pre ++ [i], oth (es.getD i (0, 0)) p', _, by omega, rfl, sm5, hR5, hL5, ol, ?_⟩
        rw [← e, List.append_assoc]
        congr 1
        rw [← eo]
        exact (wy_step es1).symm
      · have z : p' = g := by
          have := Bool.eq_false_iff.mpr c
          simp at this
          omega
        subst z
        rw [DD.z] at e
        have e' : pre = wy es (dst n es p') (dst n es p' p) p := by rw [← e]; exact (List.append_nil _).symm
        refine ⟨_, rfl, l, _, rfl, .inl ⟨sl_of hL, fun t nt => q _ t (sm.trans (same_upd nt)) ?_⟩⟩
        show upd H3 t _ t = some (.tup (NV (wayF n es p p')))
        rw [upd_same]
        unfold wayF
        rw [← e']
    · exact .inr ⟨bad, q⟩
    · refine .inl ⟨p, rfl, hp, ?_⟩
      exact ⟨_, rfl, x, dx, fs, rfl, h1, look _ (by decide +kernel), _, rfl, x, v2, n, es, rfl, net, .inr ⟨bad, q⟩⟩
end
end Hw

namespace Hw
open PySem PySem.Spec PyProof.Rows L2 ClX
section
variable {P : Program} {w : World} {K : PySem.W.Frag} {mg : Str → Option Value} {base : Heap}
/-! ### far_end, of a passage and one of its ends -/
def spFar (C : Addr) : Sp := fun vs H Q _ => ∃ (x : Addr) (n : Nat) (es : List Ed) (i p : Nat), vs = [.ref x, .int (i : Int), .int (p : Int)] ∧ NetAt5 C H x n es ∧ i ∈ drs es p ∧ Q (.int ((oth (es.getD i (0, 0)) p : Nat) : Int)) H
abbrev nFa : List Str := ["self", "passage", "place"]
theorem scFar : FnScope nFa ["self", "passage", "place"] (defScope sFarEnd) := ⟨rfl, rfl, rfl, by decide +kernel, rfl, by decide +kernel, by decide +kernel⟩
theorem mc_far {C : Addr} {mc : Value} (T : Txt mg) (N : NetC K mg C mc) (GI : Cal P w K mg base "is_index" 2 spIndex) (GW : Cal P w K mg base "is_whole" 1 spWhole) (GA : MC P w K mg base CX0 C "_across" 1 (spAcross C))
    (D : Dm K C "far_end" "Network.far_end" sFarEnd ["self", "passage", "place"]) : MC P w K mg base CX0 C "far_end" 3 (spFar C) := by
  have nd := scFar.nd
  refine mc_of D scFar (fun vs H Q E h => ?_) (fun f cdv A outer s0 H vs Q E hr h => ?_)
  · obtain ⟨x, n, es, i, p, rfl, _⟩ := h
    rfl
  · obtain ⟨x, n, es, i, p, rfl, net, hi, q⟩ := h
    have hr1 := hr.mono (show 1 ≤ 2 by decide)
    refine ⟨_, pss_cons (ps_if (pt_not (pt_val (pe_cl GI hr (by rfl) (pa_cons (pv 1) (pa_cons (pe_callB cr_len (by rfl) T.len PySem.boot_len (pa_cons (pe_fld (pv 0) rfl) pa_nil)) pa_nil))))) (pss_one ps_never) pss_nil)
      <| pss_cons (ps_if (PW.pt (pw_or (pt_not (pt_val (pe_cl GW hr1 (by rfl) (pa_cons (pv 2) pa_nil)))) (pw_or1 (pt_cmpR (r := rIn K true) op_notIn_seq (pv 2) (pe_ix (r := rIxT K) ix_tup (pe_fld (pv 0) rfl) (pv 1) (fun _ _ => rfl)) (by rfl))))) (pss_one ps_never) pss_nil)
      <| pss_one (ps_ret (pe_m GA N.cl hr1 (pv 0) (pa_cons (pv 1) (pa_cons (pv 2) pa_nil)))), ?_⟩
    obtain ⟨dx, fs, a, e, h1, h2, h3, h4, h5, ⟨ks, k1, k2, k3⟩, h7⟩ := id net
    obtain ⟨il, im⟩ := mem_drs.mp hi
    have kl := ed_len k2
    have hk : i < ks.length := by rw [kl]; exact il
    obtain ⟨k, hki⟩ : ∃ k, ks[i]? = some k := ⟨ks[i], List.getElem?_eq_getElem hk⟩
    obtain ⟨e', he', ek⟩ := ed_get k2 hki
    have tk := k3 k (List.mem_of_getElem? hki)
    rw [ek] at tk
    have at1 : atI (ks.map fun k => V.ref k.1) ((i : Nat) : Int) = some (.ref k.1) := atI_nat (by rw [List.getElem?_map, hki]; rfl)
    refine ⟨_, rfl, _, rfl, x, C, dx, fs, _, rfl, h1, N.cl, N.n2, h3, a, _, rfl, .inr (sq_of k1), _, _, rfl, ?_⟩
    rw [nv_len, kl]
    refine ⟨_, rfl, ?_⟩
    rw [show decide ((0 : Int) ≤ (i : Int) ∧ (i : Int) < (es.length : Int)) = true from decide_eq_true ⟨by omega, by omega⟩]
    refine iteF ?_
    refine ⟨_, rfl, _, rfl, ⟨_, rfl, iteF ?_⟩⟩
    refine ⟨_, rfl, _, rfl, x, C, dx, fs, _, rfl, h1, N.cl, N.n2, h3, _, rfl, a, _, _, _, rfl, rfl, sq_of k1, at1, k.1, _, rfl, .inr (sq_of tk), rfl, flat_NV _, _, rfl, ?_⟩
    rw [inV_NV, show decide (p ∈ pl e') = true from decide_eq_true (by rw [getD_of he'] at im; exact im)]
    refine iteF ?_
    exact ⟨_, rfl, x, dx, fs, rfl, h1, h5 _ (by decide +kernel), _, rfl, _, rfl, x, n, es, i, p, rfl, net, il, q⟩
end
/-! ### o.m(k = v, ..) -/
def tMethK (C : Addr) (m : Str) (sp : Sp) (gV : List V → List V → List V) (j : Nat) (E : XK) (ta : TE) (tk : TA) : TE := fun σ H Q => ta σ H fun x H1 => ∃ a dx fs, x = .ref a ∧ H1 a = some (.ins C dx fs) ∧ fs.lookup m = none ∧ tk σ H1 fun zs H2 => zs.length = j ∧ sp (gV [x] zs) H2 Q E
theorem pe_methK {X : Cx} {CX : CXT} {k : Nat} {C f : Addr} {fd : FuncData} {ps ks : List Str} {m : Str} {sp : Sp} {E : XK} {o : Expr} {kws : List Keyword} {ta : TE} {tk : TA} {apos pos : Pos} {pl : Sem Bool} {g : List Value → List Value → List Value} {gV : List V → List V → List V}
    (he : PE X o ta) (c : Cls X.K C) (hm : Meth X.K C m f) (F : FnOk X.prog X.w X.K X.mg X.base CX k f fd ps sp) (hr : Room k X.A) (hb : KBn X.K fd ps 1 ks g gV) (hx : Passes CX X E) (hkw : PK X kws tk)
    (hall : (backToKw pos (keywordEach kws X.env)).all (·.1.isSome) = true := by rfl) (hks : (backToKw pos (keywordEach kws X.env)).filterMap (·.1) = ks := by rfl)
    (hpl : ((backTo pos (starEach [] X.env)).any (·.1) || (backToKw pos (keywordEach kws X.env)).any (·.1.isNone)) = false := by rfl)
    (ht : eval (.Call (.Attribute o m apos) [] kws pos) X.env = (do let ov ← eval o X.env; standAt apos.atName; let (f, first) ← holding [ov] (getMethod ov m pl); callWith pos f first (backTo pos (starEach [] X.env)) (backToKw pos (keywordEach kws X.env))) := by rfl) :
    PE X (.Call (.Attribute o m apos) [] kws pos) (tMethK C m sp gV ks.length E ta tk) := by
  refine ⟨fun pins s σ H Q I h => ?_⟩
  refine PySem.W.methodCall_KW (pl := pl) (thn (he.run pins s σ H _ I h) fun u s1 ⟨x, H1, I1, rx, a, dx, fs, ex, ea, l, q⟩ => ?_) ht
  subst ex
  obtain rfl : u = Value.ref a := rx
  refine getmeth_ok I1 ea c hm l ?_
  refine PySem.W.callWith_KW0 (first := [.ref a]) (h₀ := X.base) I.ok.mod.kin hm.kp hall ?_ hpl
  refine thn (hkw.run pos pins s1 σ H1 _ I1 q) fun ws s2 ⟨zs, H2, I2, rz, l2, q2⟩ => ⟨I2.kIn, ?_⟩
  rw [hks]
  have r1 : Vals [V.ref a] [Value.ref a] := .cons rfl .nil
  have r2 := hb.rel r1 rz
  refine wpAny_call (codeAny_mono (F.run X.A X.stack s2 H2 ⟨[.ref a], ks.zip ws⟩ (g [.ref a] ws) (gV [V.ref a] zs) Q E hr I2.env0 (hb.to s2 [.ref a] ws I2.kIn rfl (rz.length.symm.trans l2)) r2 q2) fun r s' hq => ?_)
  cases r with
  | error e => exact hx pins σ H2 s2 e s' I2 hq
  | ok fl =>
    cases fl with
    | ret u => exact I2.after hq
    | next => exact False.elim hq
    | brk => exact False.elim hq
    | cont => exact False.elim hq
/-- goal = .., place = .. -/
def gGP {α : Type} : List α → List α → List α
  | [s], [g, p] => [s, p, g]
  | us, ws => us ++ ws
theorem gGP_rel {vs : List V} {us : List Value} {zs : List V} {ws : List Value} (r : Vals vs us) (q : Vals zs ws) : Vals (gGP vs zs) (gGP us ws) := by
  have app := r.append q
  cases r with
  | nil => exact app
  | cons r1 r2 =>
    cases r2 with
    | cons _ _ => exact app
    | nil =>
      cases q with
      | nil => exact app
      | cons q1 q2 =>
        cases q2 with
        | nil => exact app
        | cons q2 q3 =>
          cases q3 with
          | cons _ _ => exact app
          | nil => exact .cons r1 (.cons q2 (.cons q1 .nil))
theorem kb_way {K : PySem.W.Frag} {f : Addr} {fd : FuncData} (F : Fun K "way" "Network.way" sWay f fd) : KBn K fd ["self", "place", "goal"] 1 ["goal", "place"] gGP gGP := by
  obtain ⟨oc, od, kV, doc, pm, an, cdv, ct, osl, rfl, lk, cr⟩ := F.ex
  refine ⟨fun s us ws X l1 l2 => ?_, gGP_rel⟩
  match us, ws, l1, l2 with
  | [a], [b, c], _, _ => exact .of_eq rfl
end Hw

namespace Hw
open PySem PySem.Spec PyProof.Rows L2 ClX
section
variable {P : Program} {w : World} {K : PySem.W.Frag} {mg : Str → Option Value} {base : Heap}
/-! ### doors -/
def spDoors : Sp := fun vs H Q _ => ∃ (a : Addr) (es : List Ed) (u : Nat), vs = [.ref a, .int (u : Int)] ∧ EdT H a es ∧ es.length ≤ 100 ∧ ∀ H' r, Same H H' → H r = none → H' r = some (.lst (NV (drs es u))) → Q (.ref r) H'
abbrev nDo : List Str := ["_law_ties_here", "_law_here", "_law_at", "_law_pair"]
theorem scDoors : FnScope nDo ["_law_ties_here", "_law_here"] (defScope sDoors) := ⟨rfl, rfl, rfl, by decide +kernel, rfl, by decide +kernel, by decide +kernel⟩
theorem cal_doors (T : Txt mg) (D : Df K mg "_law_doors" sDoors ["_law_ties_here", "_law_here"]) : Cal P w K mg base "_law_doors" 1 spDoors := by
  have nd := scDoors.nd
  refine cal_of D scDoors (fun vs H Q E h => ?_) (fun f cdv A outer s0 H vs Q E hr h => ?_)
  · obtain ⟨a, es, u, rfl, _⟩ := h
    rfl
  · obtain ⟨a, es, u, rfl, he, hl, q⟩ := h
    refine ⟨_, pss_one (ps_ret (pe_lc (own := [("_law_at", 2), ("_law_pair", 3)]) (g := gTup K 2 (gCons (gName 2) (gCons (gName 3) gNil))) (by rfl) nd (pi_enumT (by rfl) T.enumerate (pa_cons (pv 0) pa_nil))
          (blkOk_by (own := [("_law_at", 2), ("_law_pair", 3)]) (N := nDo) (sc := defScope sDoors) (by decide +kernel)) (fun _ _ _ _ _ => pg_tup rfl (pgs_cons (pg_name (i := 2) nd rfl (.inl rfl)) (pgs_cons (pg_name (i := 3) nd rfl (.inl rfl)) pgs_nil)))
          (fun _ _ _ _ _ => pts_one (pt_cmpR (r := rIn K false) op_in_seq (pv 1) (pv 3) (by rfl))) (fun _ _ _ _ _ => pv 2))), ?_⟩
    obtain ⟨ks, k1, k2, k3⟩ := id he
    have kl := ed_len k2
    refine ⟨_, rfl, a, _, rfl, sq_of k1, fun D nD => lc_it (walk_enumT (xs := ks.map fun k => V.ref k.1)) (fun i H' => Same H H' ∧ H' D = some (.lst (NV (drsTo es u i)))) ⟨same_upd nD, upd_same⟩ (fun i H' _ ⟨sm, _⟩ => sq_of (sm _ _ k1)) ?_ ?_⟩
    · rintro i x H2 H3 hi ⟨sm, hD⟩ ⟨T1, i', y, rfl, nT, rfl, ei, ey⟩
      obtain rfl : V.int (i : Int) = i' := Option.some.inj ei
      obtain ⟨k, hk, rfl⟩ := refs_get ey
      obtain ⟨e, hei, ek⟩ := ed_get k2 hk
      rw [nv_len, kl] at hi
      have sT := same_upd (o := .tup [V.int (i : Int), V.ref k.1]) nT
      have tk := sT _ _ (sm _ _ (k3 k (List.mem_of_getElem? hk)))
      rw [ek] at tk
      refine ⟨T1, _, rfl, .inl (.inl upd_same), rfl, _, _, rfl, _, _, rfl, rfl, rfl, ?_⟩
      refine ⟨_, rfl, _, rfl, k.1, _, rfl, .inr (sq_of tk), rfl, flat_NV _, _, rfl, ?_⟩
      rw [inV_NV, drsTo_succ, getD_of hei]
      refine ite2 (fun z => ?_) (fun z => ?_)
      · have z' : decide (u ∈ [e.1, e.2]) = true := z
        rw [z']
        refine ⟨_, rfl, _, sT _ _ hD, ?_, fun b o eb => ?_, ?_⟩
        · rw [NV_len]
          exact Nat.lt_of_le_of_lt (drsTo_len _ _ _) (small1000 (by omega))
        · rw [upd_ne (ne_of_none eb nD)]
          exact sT _ _ (sm _ _ eb)
        · rw [if_pos rfl, upd_same, NV_snoc]
      · have z' : ¬ decide (u ∈ [e.1, e.2]) = true := z
        rw [if_neg z', List.append_nil]
        exact ⟨sm.trans sT, sT _ _ hD⟩
    · rintro H2 ⟨sm, hD⟩
      rw [nv_len, kl] at hD
      exact q H2 D sm nD hD

/-! ### a network is made, and walked -/
structure NetOk5 (P : Program) (w : World) (K : PySem.W.Frag) (mg : Str → Option Value) (base : Heap) (C CP : Addr) : Prop where
  cl : Cls K C
  gC : mg "Network" = some (.ref C)
  made : ∃ (f : Addr) (fd : FuncData), Mk K C f ∧ FnOk P w K mg base CX0 6 f fd ["self", "places", "passages"] (spInit5 C) ∧ L2.Binds K fd ["self", "places", "passages"] []
  way : MF P w K mg base (L2.CX P w) C "way" "Network.way" sWay ["self", "place", "goal"] 4 (spWay K C CP)
  far : MC P w K mg base CX0 C "far_end" 3 (spFar C)
  xp : Xc1 P w K mg base "InvalidPlace" CP "value"
def tNet5 (C : Addr) (t : TA) : TE := fun σ H Q => t σ H fun vs H1 => ∃ (a : Addr) (n : Nat) (es : List Ed), vs = [.int (n : Int), .ref a] ∧ EdT H1 a es ∧ CN n es ∧ n ≤ 12 ∧ es.length ≤ 16 ∧ ∀ H' x, Same H1 H' → H1 x = none → NetAt5 C H' x n es → Q (.ref x) H'
end
section
variable {X : Cx} {C CP : Addr} {o e : Expr} {es : List Expr} {kws : List Keyword} {p pos apos : Pos} {t tk : TA} {ta : TE}
theorem pe_net5 (N : NetOk5 X.prog X.w X.K X.mg X.base C CP) (hr : Room 7 X.A) (hg : Gl X "Network") (ha : PA X (e :: es) t) (he : starEach (e :: es) X.env = (false, eval e X.env) :: starEach es X.env := by rfl)
    (hpl : (backTo pos (starEach es X.env)).any (·.1) = false := by rfl) : PE X (.Call (.Name "Network" p) (e :: es) [] pos) (tNet5 C t) := by
  obtain ⟨f, fd, M, F, b⟩ := N.made
  refine ⟨fun pins s σ H Q I h => ?_⟩
  refine wpAny_Call_Name_kw (ld_glob I hg N.gC ?_ (by decide))
  refine PySem.W.callWith_K (h₀ := X.base) I.ok.mod.kin M.kp (thn (ha.run pos pins s σ H _ I h) fun us s1 ⟨vs, H1, I1, r, q⟩ => ⟨I1.kIn, ?_⟩) he hpl
  obtain ⟨a, n, es, rfl, ed, cn, hn, hl, q⟩ := q
  refine run_make M F hr b .nil pass0 I1 r fun x dx nx ndx nex => ?_
  have s0 : Same H1 (upd (upd H1 dx (.own x)) x (.ins C dx [])) := fun b o e => by
    rw [upd_ne (ne_of_none e nx), upd_ne (ne_of_none e ndx)]
    exact e
  exact ⟨x, dx, a, n, es, rfl, upd_same, ed.same s0, cn, hn, hl, fun H' kx net => ⟨rfl, q H' x (fun b o e => kx b o (ne_of_none e nx) (s0 b o e)) nx net⟩⟩
/-- what a call of way with two places gives -/
def WayR (C : Addr) (H2 : Hp) (vs : List V) (Q : VK) : Prop := ∃ (x : Addr) (p g n : Nat) (es : List Ed), vs = [.ref x, .int (p : Int), .int (g : Int)] ∧ NetAt5 C H2 x n es ∧ CN n es ∧ n ≤ 12 ∧ es.length ≤ 16 ∧ p < n ∧ g < n ∧ ∀ H' r, Same H2 H' → H2 r = none → Tp H' r (wayF n es p g) → Q (.ref r) H'
end
end Hw

/-! Distances, found passage by passage. No Python here. -/
namespace Hw
def gt (F : List (Option Nat)) (x : Nat) : Option Nat := F.getD x none
theorem gt_set {F : List (Option Nat)} {v x : Nat} {y : Option Nat} (h : v < F.length) : gt (F.set v y) x = if x = v then y else gt F x := by
  unfold gt
  rw [List.getD_eq_getElem?_getD, List.getD_eq_getElem?_getD]
  by_cases z : x = v
  · subst z
    rw [if_pos rfl, List.getElem?_set_self h]
    rfl
  · rw [if_neg z, List.getElem?_set_ne (Ne.symm z)]
theorem gt_at {F : List (Option Nat)} {x : Nat} (h : x < F.length) : F[x]? = some (gt F x) := by
  unfold gt
  rw [List.getD_eq_getElem?_getD, List.getElem?_eq_getElem h]
  rfl
/-- what passage (u, v) tells of v -/
def relax (F : List (Option Nat)) (u v : Nat) : List (Option Nat) := match gt F u with
  | none => F
  | some a => match gt F v with
    | none => F.set v (some (a + 1))
    | some b => if a + 1 < b then F.set v (some (a + 1)) else F
theorem relax_len (F : List (Option Nat)) (u v : Nat) : (relax F u v).length = F.length := by
  unfold relax
  split
  · rfl
  · split
    · rw [List.length_set]
    · split
      · rw [List.length_set]
      · rfl
structure Lo (n : Nat) (d : Nat → Nat) (F : List (Option Nat)) : Prop where
  len : F.length = n
  lo : ∀ x v, gt F x = some v → d x ≤ v
section
variable {n : Nat} {es : List Ed} (ve : VE n es) {g : Nat} {d : Nat → Nat} (D : IsD n es g d)
include ve D
theorem relax_ok {F : List (Option Nat)} (L : Lo n d F) {u v : Nat} (a : adj es u v) : Lo n d (relax F u v) ∧ (∀ x, gt F x = some (d x) → gt (relax F u v) x = some (d x)) ∧ (gt F u = some (d u) → d v = d u + 1 → gt (relax F u v) v = some (d v)) := by
  have lv := (adj_lt ve a).2
  have up := D.up _ _ a
  have vl : v < F.length := by rw [L.len]; exact lv
  refine ⟨⟨by rw [relax_len]; exact L.len, fun x w h => ?_⟩, fun x h => ?_, fun h e => ?_⟩
  · unfold relax at h
    split at h
    · exact L.lo x w h
    · rename_i a ea
      have la := L.lo u a ea
      split at h
      · rw [gt_set vl] at h
        split at h
        · rename_i z
          subst z
          cases h
          omega
        · exact L.lo x w h
      · split at h
        · rw [gt_set vl] at h
          split at h
          · rename_i z
            subst z
            cases h
            omega
          · exact L.lo x w h
        · exact L.lo x w h
  · unfold relax
    split
    · exact h
    · rename_i a ea
      have la := L.lo u a ea
      split
      · rename_i ev
        rw [gt_set vl, if_neg (fun z => by rw [z, ev] at h; cases h)]
        exact h
      · rename_i b eb
        split
        · rename_i lt
          rw [gt_set vl]
          split
          · rename_i z
            subst z
            rw [eb] at h
            cases h
            omega
          · exact h
        · exact h
  · unfold relax
    rw [h]
    simp only
    split
    · rw [gt_set vl, if_pos rfl, e]
    · rename_i b eb
      have lb := L.lo v b eb
      split
      · rw [gt_set vl, if_pos rfl, e]
      · rw [eb]
        congr 1
        omega
def rlx2 (F : List (Option Nat)) (e : Ed) : List (Option Nat) := relax (relax F e.1 e.2) e.2 e.1
theorem rlx2_ok {F : List (Option Nat)} (L : Lo n d F) {e : Ed} (he : e ∈ es) : Lo n d (rlx2 F e) ∧ (∀ x, gt F x = some (d x) → gt (rlx2 F e) x = some (d x)) ∧ ∀ u v, (e = (u, v) ∨ e = (v, u)) → gt F u = some (d u) → d v = d u + 1 → gt (rlx2 F e) v = some (d v) := by
  obtain ⟨a1, a2, a3⟩ := relax_ok ve D L (u := e.1) (v := e.2) (.inl he)
  obtain ⟨b1, b2, b3⟩ := relax_ok ve D a1 (u := e.2) (v := e.1) (.inr he)
  refine ⟨b1, fun x h => b2 x (a2 x h), fun u v h hu hv => ?_⟩
  rcases h with z | z
  · subst z
    exact b2 v (a3 hu hv)
  · subst z
    exact b3 (a2 u hu) hv
theorem fold_ok : ∀ (fs : List Ed) (F : List (Option Nat)), (∀ e ∈ fs, e ∈ es) → Lo n d F → Lo n d (fs.foldl rlx2 F) ∧ (∀ x, gt F x = some (d x) → gt (fs.foldl rlx2 F) x = some (d x)) ∧ ∀ u v, adj fs u v → gt F u = some (d u) → d v = d u + 1 → gt (fs.foldl rlx2 F) v = some (d v)
  | [], F, _, L => ⟨L, fun _ h => h, fun u v a => by rcases a with m | m <;> cases m⟩
  | e :: fs, F, hs, L => by
    obtain ⟨a1, a2, a3⟩ := rlx2_ok ve D L (hs e List.mem_cons_self)
    obtain ⟨b1, b2, b3⟩ := fold_ok fs (rlx2 F e) (fun x hx => hs x (List.mem_cons_of_mem _ hx)) a1
    refine ⟨b1, fun x h => b2 x (a2 x h), fun u v a hu hv => ?_⟩
    have first : (e = (u, v) ∨ e = (v, u)) → gt (fs.foldl rlx2 (rlx2 F e)) v = some (d v) := fun h => b2 v (a3 u v h hu hv)
    rcases a with m | m
    · rcases List.mem_cons.mp m with z | m
      · exact first (.inl z.symm)
      · exact b3 u v (.inl m) (a2 u hu) hv
    · rcases List.mem_cons.mp m with z | m
      · exact first (.inr z.symm)
      · exact b3 u v (.inr m) (a2 u hu) hv
omit ve D in
def bfN (es : List Ed) (F : List (Option Nat)) : Nat → List (Option Nat)
  | 0 => F
  | i + 1 => es.foldl rlx2 (bfN es F i)
theorem bf_ok {F : List (Option Nat)} (L : Lo n d F) (h0 : gt F g = some 0) : ∀ i, Lo n d (bfN es F i) ∧ ∀ x, x < n → d x ≤ i → gt (bfN es F i) x = some (d x)
  | 0 => ⟨L, fun x hx h => by
    have z := D.zo x hx (by omega)
    subst z
    rw [D.z]
    exact h0⟩
  | i + 1 => by
    obtain ⟨a1, a2⟩ := bf_ok L h0 i
    obtain ⟨b1, b2, b3⟩ := fold_ok ve D es (bfN es F i) (fun _ h => h) a1
    refine ⟨b1, fun x hx h => ?_⟩
    by_cases z : d x ≤ i
    · exact b2 x (a2 x hx z)
    · obtain ⟨y, a, q⟩ := D.dn x hx (by omega)
      exact b3 y x (adj_symm a) (a2 y (adj_lt ve a).2 (by omega)) (by omega)
theorem bf_all (hg : g < n) : bfN es ((List.replicate n none).set g (some 0)) n = (List.range n).map fun x => some (d x) := by
  have gl : g < (List.replicate n (none : Option Nat)).length := by rw [List.length_replicate]; exact hg
  have none_ : ∀ x, gt (List.replicate n (none : Option Nat)) x = none := fun x => by
    unfold gt
    rw [List.getD_eq_getElem?_getD, List.getElem?_replicate]
    split <;> rfl
  have L : Lo n d ((List.replicate n none).set g (some 0)) := by
    refine ⟨by rw [List.length_set, List.length_replicate], fun x v h => ?_⟩
    rw [gt_set gl] at h
    split at h
    · rename_i z
      subst z
      rw [D.z]
      exact Nat.zero_le _
    · rw [none_] at h
      cases h
  obtain ⟨a1, a2⟩ := bf_ok ve D L (by rw [gt_set gl, if_pos rfl]) n
  refine List.ext_getElem? fun x => ?_
  by_cases hx : x < n
  · rw [gt_at (by rw [a1.len]; exact hx), a2 x hx (Nat.le_of_lt (D.lt x hx)), List.getElem?_map, List.getElem?_range hx]
    rfl
  · rw [List.getElem?_eq_none (by rw [a1.len]; omega), List.getElem?_eq_none (by rw [List.length_map, List.length_range]; omega)]
end
end Hw

/-! p[::-1] of a pair. -/
namespace Hw
open PySem PySem.Spec PyProof.Rows L2 HT
/-- a slice without bounds that goes back, over two items: places 1, 0 -/
theorem back_two {prog : Program} {w : World} {A : Around} {E : Value → Shared → Prop} {st : Shared} {sl : Addr} {by_ : Value} {R : Int × Int × Nat → Shared → Prop} (at_ : st.heap.IsSliceOf sl .none .none by_) (one : IsPart by_ (some (-1))) (fin : R (1, -1, 2) st) :
    wpAny (model prog w) A (Builtin.Slice.sliceApplied (.ref sl) (pure ((2 : Nat) : Int))) R E st := by
  obtain ⟨ob, there, _, flds⟩ := at_
  have lo : Builtin.Slice.sliceAdjust none none (-1) ((2 : Nat) : Int) = ((1 : Int), (-1 : Int)) := by decide
  have many : Builtin.Slice.slicePlaces 1 (-1) (-1) = 2 := by decide
  unfold Builtin.Slice.sliceApplied
  unfold Builtin.Slice.sliceFields
  apply wpAny_bind; apply wpAny_bind
  apply wpAny_field there flds (x := .none) rfl
  apply wpAny_bind
  apply wpAny_field there flds (x := .none) rfl
  apply wpAny_bind
  apply wpAny_field there flds (x := by_) rfl
  apply wpAny_pure
  apply wpAny_bind
  apply slicePart_ one
  show wpAny _ _ (if ((-1 : Int) == 0) = true then _ else _) _ _ st
  rw [if_neg (by decide)]
  apply wpAny_bind; apply slicePart_none; apply wpAny_bind; apply slicePart_none; apply wpAny_bind; apply wpAny_pure
  show wpAny _ _ (match Builtin.Slice.sliceAdjust none none (-1) ((2 : Nat) : Int) with | (x, y) => pure (x, (-1 : Int), Builtin.Slice.slicePlaces x y (-1))) _ _ st
  rw [lo]
  show wpAny _ _ (pure ((1 : Int), (-1 : Int), Builtin.Slice.slicePlaces 1 (-1) (-1))) _ _ st
  rw [many]
  exact wpAny_pure fin
theorem pair_back {prog : Program} {w : World} {A : Around} {E : Value → Shared → Prop} {st : Shared} {t sl : Addr} {u v by_ : Value} {R : Value → Shared → Prop} (tup : IsTup st.heap t #[u, v]) (at_ : st.heap.IsSliceOf sl .none .none by_) (one : IsPart by_ (some (-1)))
    (fin : R (.ref st.heap.objs.size) { st with heap := st.heap.push { cls := .type "tuple", data := .seq #[v, u] } }) : wpAny (model prog w) A (getItem (.ref t) (.ref sl)) R E st := by
  have fits : sizeOk (.seq #[v, u]) := (by decide : 2 ≤ sizeLine)
  have isS : st.TypeIs (.ref sl) "slice" := let ⟨ob, e1, e2, _⟩ := at_; ⟨ob, e1, e2⟩
  unfold getItem
  apply wpAny_holding
  apply wpAny_bind
  apply wpAny_sequenceKey tup.typeIs (by decide)
  apply wpAny_bind
  apply wpAny_callSpecial?_slot (name := Str.ofString "__getitem__") tup.typeIs PyProof.Rows.slot_tuple_getitem
  refine wpAny_call_entry PyProof.Rows.slot_tuple_getitem tup.typeIs entry_tuple_getitem ?_ (args_tuple_getitem _ _)
  show wpAny _ _ (Builtin.Tuple.tupleItemsOf (.ref t) >>= _) _ _ st
  apply wpAny_bind
  apply tupleItemsOf_ tup
  apply wpAny_bind
  apply wpAny_typeOf isS
  rw [if_pos (by decide)]
  apply wpAny_bind
  apply back_two at_ one
  show wpAny _ _ (if ((1 : Int) == 0 && (-1 : Int) == 1 && (2 : Nat) == 2) = true then _ else _) _ _ st
  rw [if_neg (by decide), show ((List.range 2).filterMap fun (m : Nat) => (#[u, v] : Array Value)[((1 : Int) + (m : Int) * (-1)).toNat]?).toArray = #[v, u] from rfl]
  first
    | exact wpAny_bind (m := Builtin.Tuple.tupleExact _) (wpAny_newObj_type (wpAny_pure ⟨_, rfl, wpAny_pure fin⟩) fits)
    | exact wpAny_bind (m := Builtin.Tuple.tupleExact _) (wpAny_newObj_type (wpAny_bind (wpAny_pure (wpAny_pure ⟨_, rfl, wpAny_pure fin⟩))) fits)
    | exact wpAny_bind (wpAny_bind (m := Builtin.Tuple.tupleExact _) (wpAny_newObj_type (wpAny_pure (wpAny_pure ⟨_, rfl, wpAny_pure fin⟩)) fits))
    | exact wpAny_bind (wpAny_bind (m := Builtin.Tuple.tupleExact _) (wpAny_newObj_type (wpAny_pure ⟨_, rfl, wpAny_pure fin⟩) fits))
def tRev2 (K : PySem.W.Frag) (te : TE) : TE := fun σ H Q => te σ H fun x H1 => ∃ (a : Addr) (u v : V), x = .ref a ∧ SqT K H1 a [u, v] ∧ ∀ p, H1 p = none → Q (.ref p) (upd H1 p (.tup [v, u]))
/-- the parts of [::-1] leave all as it was -/
theorem part_none {X : Cx} {pins : List (Addr × Obj)} {σ : L2.St} {H : Hp} {st : Shared} {R : Value → Shared → Prop} (I : L2.Inv X pins σ H st) (fin : ∀ u s2, L2.Inv X pins σ H s2 → IsPart u none → R u s2) : wpAny (model X.prog X.w) X.A (evalPart none X.env) R X.xe st :=
  wpAny_mono (po_none.run pins st σ H (fun o G => o = none ∧ G = H) I ⟨rfl, rfl⟩) (fun u s2 ⟨_, _, J, part, e, eH⟩ => by subst e; subst eH; exact fin u s2 J part) fun _ _ z => z
theorem part_back {X : Cx} {pins : List (Addr × Obj)} {σ : L2.St} {H : Hp} {st : Shared} {R : Value → Shared → Prop} {k : Nat} {p1 p2 : Pos} (I : L2.Inv X pins σ H st) (fin : ∀ u s2, L2.Inv X pins σ H s2 → IsPart u (some (-1)) → R u s2) : wpAny (model X.prog X.w) X.A (evalPart (some (.UnaryOp .USub (.Constant (.int 1) k p1) p2)) X.env) R X.xe st :=
  wpAny_mono ((po_some (pe_un un_neg pe_int)).run pins st σ H (fun o G => o = some (-1) ∧ G = H) I ⟨1, rfl, -1, rfl, rfl, rfl⟩) (fun u s2 ⟨_, _, J, part, e, eH⟩ => by subst e; subst eH; exact fin u s2 J part) fun _ _ z => z
theorem pe_rev2 {X : Cx} {e : Expr} {te : TE} {k : Nat} {p1 p2 p3 pos : Pos} (he : PE X e te) : PE X (.Subscript e (.Slice none none (some (.UnaryOp .USub (.Constant (.int 1) k p1) p2)) p3) pos) (tRev2 X.K te) := by
  constructor
  intro pins st σ H Q I want
  refine Subscript_ (thn (he.run pins st σ H _ I want) fun v s1 ⟨x, H1, J1, rx, a, u0, v0, ex, two, fin⟩ => ?_)
  subst ex
  cases rx
  refine wpAny_Slice (part_none J1 fun vl s2 J2 pl => part_none J2 fun vu s3 J3 pu => part_back J3 fun vs s4 J4 pb => ?_)
  cases pl
  cases pu
  have J5 : L2.Inv X pins σ H1 { s4 with heap := s4.heap.push { cls := .type "slice", data := .fields #[.none, .none, vs] } } := J4.kept (t' := s4.toks) fun _ _ z => Heap.get?_push_of_some _ z
  obtain ⟨its, rel, tup, _⟩ := J5.tuple two
  cases rel with
  | cons ru rel =>
    cases rel with
    | cons rv rel =>
      cases rel
      show wpAny (model X.prog X.w) X.A (subscriptTail e _ (.ref a) (.ref s4.heap.objs.size)) (EP X pins σ Q) X.xe _
      refine tail_any (ops := [.ref a, .ref s4.heap.objs.size]) tup.typeIs (PyProof.Rows.slot_tuple_getitem.lookup) ?_ (by with_unfolding_all rfl)
      refine pair_back tup (Heap.IsSliceOf.new _ .none .none vs) pb ?_
      have new : Paired RelV [v0, u0] _ := .cons rv (.cons ru .nil)
      exact ⟨.ref _, _, J5.laid (t' := s4.toks) (o := .tup [v0, u0]) (fun _ _ z => Heap.get?_push_of_some _ z) (Nat.le_refl _) ⟨by show 2 ≤ sizeLine; decide, _, new, _, Heap.get?_push_size _ rfl, rfl, _, rfl⟩, rfl, fin _ (J5.hok.fresh (Nat.le_refl _))⟩
end Hw

namespace Hw
open PySem PySem.Spec PyProof.Rows L2 ClX
def oV : Option Nat → V
  | none => .non
  | some v => .int (v : Int)
def OV (F : List (Option Nat)) : List V := F.map oV
theorem OV_len (F : List (Option Nat)) : (OV F).length = F.length := by unfold OV; rw [List.length_map]
theorem OV_at {F : List (Option Nat)} {x : Nat} (h : x < F.length) : atI (OV F) ((x : Nat) : Int) = some (oV (gt F x)) := atI_nat (by
  unfold OV
  rw [List.getElem?_map, gt_at h]
  rfl)
theorem OV_set (F : List (Option Nat)) (x v : Nat) : (OV F).set x (V.int (v : Int)) = OV (F.set x (some v)) := by
  unfold OV
  rw [List.map_set]
  rfl
theorem OV_all (n : Nat) (d : Nat → Nat) : OV ((List.range n).map fun x => some (d x)) = NV ((List.range n).map d) := by
  unfold OV NV
  rw [List.map_map, List.map_map]
  rfl
def stepT (F : List (Option Nat)) (e : Ed) (i : Nat) : List (Option Nat) := if i = 0 then F else if i = 1 then relax F e.1 e.2 else rlx2 F e
section
variable {P : Program} {w : World} {K : PySem.W.Frag} {mg : Str → Option Value} {base : Heap}
/-! ### spans -/
def spSpans : Sp := fun vs H Q _ => ∃ (a : Addr) (n : Nat) (es : List Ed) (g : Nat), vs = [.int (n : Int), .ref a, .int (g : Int)] ∧ EdT H a es ∧ CN n es ∧ g < n ∧ n ≤ 12 ∧ es.length ≤ 16 ∧ ∀ H' r, Same H H' → H r = none → H' r = some (.lst (NV ((List.range (n : Nat)).map (dst n es g)))) → Q (.ref r) H'
abbrev nSs : List Str := ["_law_many", "_law_ties_here", "_law_spot", "_law_found", "_law_n", "_law_pair", "_law_here", "_law_far"]
theorem scSpans : FnScope nSs ["_law_many", "_law_ties_here", "_law_spot"] (defScope sSpans) := ⟨rfl, rfl, rfl, by decide +kernel, rfl, by decide +kernel, by decide +kernel⟩
theorem cal_spans (T : Txt mg) (D : Df K mg "_law_spans" sSpans ["_law_many", "_law_ties_here", "_law_spot"]) : Cal P w K mg base "_law_spans" 1 spSpans := by
  have nd := scSpans.nd
  refine cal_of D scSpans (fun vs H Q E h => ?_) (fun f cdv A outer s0 H vs Q E hr h => ?_)
  · obtain ⟨a, n, es, g, rfl, _⟩ := h
    rfl
  · obtain ⟨a, n, es, g, rfl, he, cn, hg, hn, hl, q⟩ := h
    refine ⟨_, pss_cons (ps_set (i := 3) nd rfl (.inl rfl) (pe_op op_rep (pe_lst (pa_cons pe_non pa_nil)) (pv 0)))
      <| pss_cons (ps_asg pe_int (pg_sub (pv 3) (pv 2) set_list))
      <| pss_cons (ps_for PassesOwn.never rfl (pi_range1 (by rfl) T.range (pa_cons (pv 0) pa_nil)) (pg_name (i := 4) nd rfl (.inl rfl))
          (pss_one (ps_for PassesOwn.never rfl (pi_tup (pv 1)) (pg_name (i := 5) nd rfl (.inl rfl))
            (pss_one (ps_for PassesOwn.never rfl (pi_tup (pe_tup (pa_cons (pv 5) (pa_cons (pe_rev2 (pv 5)) pa_nil)))) (pg_tup rfl (pgs_cons (pg_name (i := 6) nd rfl (.inl rfl)) (pgs_cons (pg_name (i := 7) nd rfl (.inl rfl)) pgs_nil)))
              (pss_one (ps_if (PW.pt (pw_and (pt_cmpR op_notN (pe_ix (r := rIxL K) ix_list (pv 3) (pv 6) (fun _ _ => rfl)) pe_non (nomark _))
                  (pw_and1 (PW.pt (pw_or (pt_cmpR op_isN (pe_ix (r := rIxL K) ix_list (pv 3) (pv 7) (fun _ _ => rfl)) pe_non (nomark _))
                    (pw_or1 (pt_cmpR op_gt (pe_ix (r := rIxL K) ix_list (pv 3) (pv 7) (fun _ _ => rfl)) (pe_op op_add (pe_ix (r := rIxL K) ix_list (pv 3) (pv 6) (fun _ _ => rfl)) pe_int) (nomark _))))))))
                (pss_one (ps_asg (pe_op op_add (pe_ix (r := rIxL K) ix_list (pv 3) (pv 6) (fun _ _ => rfl)) pe_int) (pg_sub (pv 3) (pv 7) set_list))) pss_nil)))))))
      <| pss_one (ps_ret (pv 3)), ?_⟩
    have DD := dst_is cn hg
    generalize dst n es g = d at *
    obtain ⟨ks, k1, k2, k3⟩ := id he
    have kl := ed_len k2
    refine ⟨by show 1 ≤ sizeLine; decide, fun l0 n0 => ?_⟩
    have s1 := same_upd (o := .lst [V.non]) n0
    refine ⟨_, rfl, l0, _, _, rfl, rfl, upd_same, by omega, by omega, ?_, fun l nl => ?_⟩
    · show 1 * _ ≤ _
      rw [Int.toNat_natCast]
      exact Nat.le_of_lt (small1000 (by omega))
    rw [rep_flat]
    have s2 := s1.trans (same_upd (o := .lst (List.replicate n V.non)) nl)
    have nl0 := s1.free nl
    have hl2 : upd (upd H l0 (.lst [V.non])) l (.lst (List.replicate n V.non)) l = some (.lst (OV (List.replicate n none))) := by
      rw [upd_same]
      unfold OV
      rw [List.map_replicate]
      rfl
    generalize upd (upd H l0 (.lst [V.non])) l (.lst (List.replicate n V.non)) = H2 at *
    have gl : g < (OV (List.replicate n none)).length := by rw [OV_len, List.length_replicate]; exact hg
    refine ⟨_, rfl, _, rfl, l, _, _, g, rfl, rfl, hl2, ix_at gl rfl, ?_⟩
    have e0 : (OV (List.replicate n none)).set g (V.int 0) = OV ((List.replicate n none).set g (some 0)) := OV_set _ g 0
    rw [e0]
    have s3 : Same H (upd H2 l (.lst (OV ((List.replicate n none).set g (some 0))))) := same_in s2 nl0
    have hl3 : upd H2 l (.lst (OV ((List.replicate n none).set g (some 0)))) l = some (.lst (OV ((List.replicate n none).set g (some 0)))) := upd_same
    generalize upd H2 l (.lst (OV ((List.replicate n none).set g (some 0)))) = H3 at *
    have flen : ∀ i, (bfN es ((List.replicate n none).set g (some 0)) i).length = n := fun i => by
      have fold : ∀ (fs : List Ed) (F : List (Option Nat)), (fs.foldl rlx2 F).length = F.length := fun fs => by
        induction fs with
        | nil => exact fun _ => rfl
        | cons e fs ih =>
          intro F
          rw [List.foldl_cons, ih]
          unfold rlx2
          rw [relax_len, relax_len]
      induction i with
      | zero => show ((List.replicate n none).set g (some 0)).length = n; rw [List.length_set, List.length_replicate]
      | succ i ih => show (es.foldl rlx2 _).length = n; rw [fold, ih]
    have tlen : ∀ i j, ((es.take j).foldl rlx2 (bfN es ((List.replicate n none).set g (some 0)) i)).length = n := fun i j => by
      have fold : ∀ (fs : List Ed) (F : List (Option Nat)), (fs.foldl rlx2 F).length = F.length := fun fs => by
        induction fs with
        | nil => exact fun _ => rfl
        | cons e fs ih =>
          intro F
          rw [List.foldl_cons, ih]
          unfold rlx2
          rw [relax_len, relax_len]
      rw [fold, flen]
    have fin := bf_all cn.2.1 DD hg
    generalize (List.replicate n none).set g (some 0) = F0 at *
    refine ⟨_, rfl, _, rfl, by omega, by omega, ?_⟩
    rw [Int.toNat_natCast]
    refine for_it walk_rg0 (fun i σ H' => ∃ v4 v5 v6 v7, σ = [some (.int (n : Int)), some (.ref a), some (.int (g : Int)), some (.ref l), v4, v5, v6, v7] ∧ Same H H' ∧ H' l = some (.lst (OV (bfN es F0 i)))) ⟨_, _, _, _, rfl, s3, hl3⟩ (fun _ _ _ _ _ => trivial) ?_ ?_
    · rintro i x σ _ H4 hi ⟨v4, v5, v6, v7, rfl, sm4, hL4⟩ ⟨rfl, rfl⟩
      refine ⟨_, rfl, a, rfl, ⟨_, sq_of (sm4 _ _ k1)⟩, for_it (walk_tup (xs := ks.map fun k => V.ref k.1)) (fun j σ H' => ∃ v5 v6 v7, σ = [some (.int (n : Int)), some (.ref a), some (.int (g : Int)), some (.ref l), some (.int (i : Int)), v5, v6, v7] ∧ Same H H' ∧ H' l = some (.lst (OV ((es.take j).foldl rlx2 (bfN es F0 i)))))
        ⟨_, _, _, rfl, sm4, hL4⟩ (fun j σ H' _ ⟨_, _, _, _, s, _⟩ => sq_of (s _ _ k1)) ?_ ?_⟩
      · rintro j y σ _ H5 hj ⟨v5, v6, v7, rfl, sm5, hL5⟩ ⟨rfl, hy⟩
        obtain ⟨k, hk, rfl⟩ := refs_get hy
        obtain ⟨e, hei, ek⟩ := ed_get k2 hk
        have tk := sm5 _ _ (k3 k (List.mem_of_getElem? hk))
        rw [ek] at tk
        have be := cn.2.1 e (List.mem_of_getElem? hei)
        have Fl := tlen i j
        have nxt : (es.take (j + 1)).foldl rlx2 (bfN es F0 i) = rlx2 ((es.take j).foldl rlx2 (bfN es F0 i)) e := by
          rw [List.take_add_one, hei, List.foldl_append]
          rfl
        rw [nxt]
        generalize (es.take j).foldl rlx2 (bfN es F0 i) = F at *
        refine ⟨_, rfl, _, rfl, k.1, .int (e.1 : Int), .int (e.2 : Int), rfl, sq_of tk, fun p np => ⟨by show 2 ≤ sizeLine; decide, fun t nt => ?_⟩⟩
        have hp6 : Tp (upd H5 p (.tup [.int (e.2 : Int), .int (e.1 : Int)])) p [e.2, e.1] := upd_same
        have s6 := same_upd (o := .tup [V.int (e.2 : Int), V.int (e.1 : Int)]) np
        generalize upd H5 p (.tup [V.int (e.2 : Int), V.int (e.1 : Int)]) = H6 at *
        have s7 := s6.trans (same_upd (o := .tup [V.ref k.1, V.ref p]) nt)
        have hp7 := same_upd (o := .tup [V.ref k.1, V.ref p]) nt _ _ hp6
        have ht7 : upd H6 t (.tup [V.ref k.1, V.ref p]) t = some (.tup [V.ref k.1, V.ref p]) := upd_same
        generalize upd H6 t (.tup [V.ref k.1, V.ref p]) = H7 at *
        have tk7 := s7 _ _ tk
        have hL7 := s7 _ _ hL5
        have sm7 := sm5.trans s7
        refine ⟨t, rfl, ⟨_, sq_of ht7⟩, for_it (walk_tup (xs := [V.ref k.1, V.ref p])) (fun c σ H' => ∃ v6 v7, σ = [some (.int (n : Int)), some (.ref a), some (.int (g : Int)), some (.ref l), some (.int (i : Int)), some (.ref k.1), v6, v7] ∧ Same H H' ∧ H' l = some (.lst (OV (stepT F e c))) ∧ Tp H' k.1 [e.1, e.2] ∧ Tp H' p [e.2, e.1] ∧ H' t = some (.tup [V.ref k.1, V.ref p]))
          ⟨_, _, rfl, sm7, hL7, tk7, hp7, ht7⟩ (fun c σ H' _ ⟨_, _, _, _, _, _, _, z⟩ => sq_of z) ?_ ?_⟩
        · rintro c z σ _ H8 hc ⟨v6, v7, rfl, sm8, hL8, tk8, hp8, ht8⟩ ⟨rfl, hz⟩
          obtain ⟨b, u, v, rfl, hb, es1, hu, hv, hlen⟩ : ∃ b u v, z = V.ref b ∧ Tp H8 b [u, v] ∧ stepT F e (c + 1) = relax (stepT F e c) u v ∧ u < n ∧ v < n ∧ (stepT F e c).length = n := by
            match c, hc with
            | 0, _ => exact ⟨k.1, e.1, e.2, (Option.some.inj hz).symm, tk8, rfl, by omega, be.2, Fl⟩
            | 1, _ => exact ⟨p, e.2, e.1, (Option.some.inj hz).symm, hp8, rfl, be.2, by omega, (relax_len _ _ _).trans Fl⟩
          rw [es1]
          generalize stepT F e c = G at *
          have gu := OV_at (F := G) (x := u) (by omega)
          have gv := OV_at (F := G) (x := v) (by omega)
          have sL := sl_of (K := K) hL8
          refine ⟨b, _, rfl, sq_of hb, rfl, _, _, rfl, _, _, rfl, rfl, ?_⟩
          refine ⟨_, rfl, _, rfl, l, _, _, _, rfl, rfl, sL, gu, rfl, _, rfl, ?_⟩
          have keep : (relax G u v = G) → (Same H H8 ∧ H8 l = some (.lst (OV (relax G u v))) ∧ Tp H8 k.1 [e.1, e.2] ∧ Tp H8 p [e.2, e.1] ∧ H8 t = some (.tup [V.ref k.1, V.ref p])) := fun h => by
            rw [h]
            exact ⟨sm8, hL8, tk8, hp8, ht8⟩
          have put : ∀ x : Nat, relax G u v = G.set v (some (x + 1)) → (Same H (upd H8 l (.lst (OV (relax G u v)))) ∧ upd H8 l (.lst (OV (relax G u v))) l = some (.lst (OV (relax G u v))) ∧ Tp (upd H8 l (.lst (OV (relax G u v)))) k.1 [e.1, e.2] ∧ Tp (upd H8 l (.lst (OV (relax G u v)))) p [e.2, e.1] ∧ upd H8 l (.lst (OV (relax G u v))) t = some (.tup [V.ref k.1, V.ref p])) := fun x h =>
            ⟨same_in sm8 nl0, upd_same, tp_upd tk8 hL8, tp_upd hp8 hL8, by rw [upd_ne (ne_of ht8 hL8 (by intro q; cases q))]; exact ht8⟩
          have vl : v < (OV G).length := by rw [OV_len]; omega
          have setI : ∀ x : Nat, (OV G).set v (V.int ((x : Nat) : Int)) = OV (G.set v (some x)) := OV_set G v
          cases eu : gt G u with
          | none =>
            have rl : relax G u v = G := by unfold relax; rw [eu]
            refine iteF ?_
            exact ⟨_, _, rfl, keep rl⟩
          | some x =>
            rw [eu] at gu
            refine iteT ?_
            refine ⟨_, rfl, _, rfl, l, _, _, _, rfl, rfl, sL, gv, rfl, _, rfl, ?_⟩
            cases ev : gt G v with
            | none =>
              have rl : relax G u v = G.set v (some (x + 1)) := by unfold relax; rw [eu]; simp only [ev]
              refine iteT ?_
              refine iteT ?_
              refine ⟨_, rfl, _, rfl, l, _, _, _, rfl, rfl, sL, gu, _, _, rfl, rfl, ?_⟩
              refine ⟨_, rfl, _, rfl, l, _, _, v, rfl, rfl, hL8, ix_at vl rfl, ?_⟩
              dsimp only
              rw [show ((x : Nat) : Int) + 1 = ((x + 1 : Nat) : Int) by omega, setI, ← rl]
              exact ⟨_, _, rfl, put x rl⟩
            | some y =>
              rw [ev] at gv
              refine iteF ?_
              refine ⟨_, rfl, _, rfl, l, _, _, _, rfl, rfl, sL, gv, _, rfl, _, rfl, l, _, _, _, rfl, rfl, sL, gu, _, _, rfl, rfl, _, _, rfl, rfl, _, rfl, ?_⟩
              dsimp only
              by_cases lt : x + 1 < y
              · have rl : relax G u v = G.set v (some (x + 1)) := by unfold relax; rw [eu]; simp only [ev]; rw [if_pos lt]
                rw [show decide (((x : Nat) : Int) + 1 < ((y : Nat) : Int)) = true from decide_eq_true (by omega)]
                refine iteT ?_
                refine ⟨_, rfl, _, rfl, l, _, _, _, rfl, rfl, sL, gu, _, _, rfl, rfl, ?_⟩
                refine ⟨_, rfl, _, rfl, l, _, _, v, rfl, rfl, hL8, ix_at vl rfl, ?_⟩
                dsimp only
                rw [show ((x : Nat) : Int) + 1 = ((x + 1 : Nat) : Int) by omega, setI, ← rl]
                exact ⟨_, _, rfl, put x rl⟩
              · have rl : relax G u v = G := by unfold relax; rw [eu]; simp only [ev]; rw [if_neg lt]
                rw [show decide (((x : Nat) : Int) + 1 < ((y : Nat) : Int)) = false from decide_eq_false (by omega)]
                refine iteF ?_
                exact ⟨_, _, rfl, keep rl⟩
        · rintro σ H8 ⟨v6, v7, rfl, sm8, hL8, _⟩
          exact ⟨_, _, _, rfl, sm8, hL8⟩
      · rintro σ H5 ⟨v5, v6, v7, rfl, sm5, hL5⟩
        rw [nv_len, kl, List.take_length] at hL5
        exact ⟨_, _, _, _, rfl, sm5, hL5⟩
    · rintro σ H4 ⟨v4, v5, v6, v7, rfl, sm4, hL4⟩
      rw [fin, OV_all] at hL4
      exact ⟨_, rfl, q H4 l sm4 nl0 hL4⟩
end
end Hw

namespace Hw
open PySem PySem.Spec PyProof.Rows L2 ClX
/-! ### the sum of a pair -/
def rSumT (K : PySem.W.Frag) : List V → Hp → VK → Prop := fun vs H Q => ∃ (a : Addr) (ns : List Int), vs = [V.ref a] ∧ SqT K H a (ns.map V.int) ∧ Q (.int ns.sum) H
theorem cr_sumT {X : Cx} (hc : X.calm = true) : CallR X (.builtin "sum") (rSumT X.K) := by
  intro pins s σ H vs us Q I r h
  obtain ⟨a, ns, rfl, hs, q⟩ := h
  obtain ⟨its, rv, tT, _⟩ := I.tuple hs
  rw [Vals.ref1 r]
  obtain ⟨xs, e⟩ := rv.ints.allInts.items
  have hn : numsOf (intItems xs).toList = ns := by rw [← e]; exact rv.ints.numsOf
  rw [nums_intItems] at hn
  rw [e] at tT
  refine PySem.W.ktm_sumG (I.ok.hd hc) tT fun h' tk t' hk => ?_
  rw [preSum_eq, List.take_of_length_le (by simp), hn]
  exact ⟨.int _, H, I.kept hk, ⟨_, rfl⟩, q⟩
theorem nd_at {n x : Nat} {d : Nat → Nat} (h : x < n) : atI (NV ((List.range n).map d)) ((x : Nat) : Int) = some (.int ((d x : Nat) : Int)) := atI_nat (by
  unfold NV
  rw [List.getElem?_map, List.getElem?_map, List.getElem?_range h]
  rfl)
theorem sum_oth {e : Ed} {p : Nat} (h : p ∈ [e.1, e.2]) : ([(e.1 : Int), (e.2 : Int)] : List Int).sum - (p : Int) = ((oth e p : Nat) : Int) := by
  obtain ⟨a, b⟩ := oth_sum h
  rw [a]
  simp only [List.sum_cons, List.sum_nil]
  omega
section
variable {P : Program} {w : World} {K : PySem.W.Frag} {mg : Str → Option Value} {base : Heap}
/-! ### least_way -/
def spLw : Sp := fun vs H Q _ => ∃ (a b : Addr) (n : Nat) (es : List Ed) (g p : Nat), vs = [.ref a, .ref b, .int (p : Int)] ∧ EdT H a es ∧ H b = some (.lst (NV ((List.range (n : Nat)).map (dst n es g)))) ∧ CN n es ∧ g < n ∧ p < n ∧ n ≤ 12 ∧ es.length ≤ 16 ∧
  ∀ H' r, Same H H' → Tp H' r (wayF n es p g) → Q (.ref r) H'
abbrev nLw : List Str := ["_law_ties_here", "_law_spans_here", "_law_here", "_law_found", "_law_n", "_law_some", "_law_at"]
theorem scLw : FnScope nLw ["_law_ties_here", "_law_spans_here", "_law_here"] (defScope sLeastWay) := ⟨rfl, rfl, rfl, by decide +kernel, rfl, by decide +kernel, by decide +kernel⟩
theorem cal_lw (T : Txt mg) (GD : Cal P w K mg base "_law_doors" 1 spDoors) (D : Df K mg "_law_least_way" sLeastWay ["_law_ties_here", "_law_spans_here", "_law_here"]) : Cal P w K mg base "_law_least_way" 2 spLw := by
  have nd := scLw.nd
  refine cal_of D scLw (fun vs H Q E h => ?_) (fun f cdv A outer s0 H vs Q E hr h => ?_)
  · obtain ⟨a, b, n, es, g, p, rfl, _⟩ := h
    rfl
  · obtain ⟨a, b, n, es, g, p, rfl, he, hb, cn, hg, hp, hn, hl, q⟩ := h
    refine ⟨_, pss_cons (ps_set (i := 3) nd rfl (.inl rfl) (pe_lst pa_nil))
      <| pss_cons (ps_for PassesOwn.never rfl (pi_range1 (by rfl) T.range (pa_cons (pe_ix (r := rIxL K) ix_list (pv 1) (pv 2) (fun _ _ => rfl)) pa_nil)) (pg_name (i := 4) nd rfl (.inl rfl))
          (pss_cons (ps_setLc (i := 5) (own := [("_law_at", 6)]) (g := gName 6) (by rfl) nd rfl rfl (sw_true rfl rfl rfl (by decide +kernel)) (pi_list (pe_cl GD hr (by rfl) (pa_cons (pv 0) (pa_cons (pv 2) pa_nil))))
              (blkOk_by (own := [("_law_at", 6)]) (N := nLw) (sc := defScope sLeastWay) (by decide +kernel)) (fun _ _ _ _ _ => pg_name (i := 6) nd rfl (.inl rfl))
              (fun _ _ _ _ _ => pts_one (pt_cmpR op_eq (pe_ix (r := rIxL K) ix_list (pv 1) (pe_op op_sub (pe_callB (r := rSumT K) (cr_sumT rfl) (by rfl) T.sum (by decide +kernel) (pa_cons (pe_ix (r := rIxT K) ix_tup (pv 0) (pv 6) (fun _ _ => rfl)) pa_nil)) (pv 2)) (fun _ _ => rfl))
                (pe_op op_sub (pe_ix (r := rIxL K) ix_list (pv 1) (pv 2) (fun _ _ => rfl)) pe_int) (nomark _)))
              (fun _ _ _ _ _ => pv 6))
          <| pss_cons (ps_expr (pe_bm PySem.F.plainAttrs_list PySem.F.slot_list_append PySem.F.type_list_append mt_append (pv 3) (pa_cons (pe_ix (r := rIxL K) ix_list (pv 5) pe_int (fun _ _ => rfl)) pa_nil)))
          <| pss_one (ps_set (i := 2) nd rfl (.inr rfl) (pe_op op_sub (pe_callB (cr_sumT rfl) (by rfl) T.sum (by decide +kernel) (pa_cons (pe_ix (r := rIxT K) ix_tup (pv 0) (pe_ix (r := rIxL K) ix_list (pv 5) pe_int (fun _ _ => rfl)) (fun _ _ => rfl)) pa_nil)) (pv 2)))))
      <| pss_one (ps_ret (pe_callTy call_tuple_of (by rfl) T.tuple (by decide +kernel) (pa_cons (pv 3) pa_nil))), ?_⟩
    have DD := dst_is cn hg
    unfold wayF at q
    generalize dst n es g = d at *
    obtain ⟨ks, k1, k2, k3⟩ := id he
    have kl := ed_len k2
    have dl := DD.lt p hp
    have el : (wy es d (d p) p).length = d p := wy_len _ _ _ _
    refine ⟨Nat.zero_le _, fun l nl => ?_⟩
    have s1 := same_upd (o := .lst []) nl
    have hl1 : upd H l (.lst []) l = some (.lst (NV [])) := upd_same
    generalize upd H l (.lst []) = H1 at *
    refine ⟨_, rfl, _, rfl, b, _, _, _, rfl, rfl, sl_of (s1 _ _ hb), nd_at hp, _, rfl, by omega, by omega, ?_⟩
    rw [Int.toNat_natCast]
    refine for_it walk_rg0 (fun i σ H' => ∃ pre p' v4 v5 v6, σ = [some (.ref a), some (.ref b), some (.int (p' : Nat)), some (.ref l), v4, v5, v6] ∧ Same H H' ∧ H' l = some (.lst (NV pre)) ∧ p' < n ∧ pre.length = i ∧ d p' + i = d p ∧ pre ++ wy es d (d p') p' = wy es d (d p) p)
      ⟨[], p, _, _, _, rfl, s1, hl1, hp, rfl, rfl, rfl⟩ (fun _ _ _ _ _ => trivial) ?_ ?_
    · rintro i y σ _ H2 hi ⟨pre, p', v4, v5, v6, rfl, sm, hL, hp', pl_, di, e⟩ ⟨rfl, rfl⟩
      have dz : d p' ≠ 0 := by omega
      obtain ⟨o, rr, es1, om, ol, oo, eo⟩ := stp_ex cn.2.1 DD hp' dz
      refine ⟨_, rfl, _, rfl, a, es, p', rfl, he.same sm, by omega, fun H3 r s3 nr hr3 => ?_⟩
      have sm3 := sm.trans s3
      have nrl : l ≠ r := ne_of_none hL nr
      have hL3 := s3 _ _ hL
      refine ⟨r, rfl, ⟨_, sl_of hr3⟩, fun D0 nD => lc_it (walk_list (xs := NV (drs es p'))) (fun j H' => Same H3 H' ∧ H' D0 = some (.lst (NV (stpTo es d p' j)))) ⟨same_upd nD, upd_same⟩ (fun j H' _ ⟨s4, _⟩ => sl_of (s4 _ _ hr3)) ?_ ?_⟩
      · rintro j z _ H4 hj ⟨s4, hD⟩ ⟨rfl, hz⟩
        obtain ⟨o', ho, rfl⟩ := NV_get' hz
        have om' := List.mem_of_getElem? ho
        obtain ⟨ol', om2⟩ := mem_drs.mp om'
        have fl := (adj_lt cn.2.1 (oth_adj om')).2
        have sm4 := sm3.trans s4
        obtain ⟨k, hk, ek⟩ := ed_at k2 (get_at ol')
        have tk := sm4 _ _ (k3 k (List.mem_of_getElem? hk))
        rw [ek] at tk
        have at1 : atI (ks.map fun k => V.ref k.1) ((o' : Nat) : Int) = some (.ref k.1) := atI_nat (by rw [List.getElem?_map, hk]; rfl)
        have eN : NV (pl (es.getD o' (0, 0))) = ([((es.getD o' (0, 0)).1 : Int), ((es.getD o' (0, 0)).2 : Int)] : List Int).map V.int := rfl
        have tk2 : H4 k.1 = some (.tup (NV (pl (es.getD o' (0, 0))))) := tk
        rw [eN] at tk2
        refine ⟨rfl, ?_⟩
        refine ⟨_, rfl, _, rfl, _, rfl, a, _, _, _, rfl, rfl, sq_of (sm4 _ _ k1), at1, k.1, _, rfl, sq_of tk2, _, rfl, _, _, rfl, rfl, ?_⟩
        dsimp only
        rw [sum_oth om2]
        refine ⟨b, _, _, _, rfl, rfl, sl_of (sm4 _ _ hb), nd_at fl, ?_⟩
        refine ⟨_, rfl, _, rfl, b, _, _, _, rfl, rfl, sl_of (sm4 _ _ hb), nd_at hp', _, _, rfl, rfl, rfl, _, rfl, ?_⟩
        rw [stpTo_succ ho]
        have iff := stp_eq DD om'
        refine ite2 (fun c => ?_) (fun c => ?_)
        · have c' : d (oth (es.getD o' (0, 0)) p') < d p' := iff.mpr (by
            have := of_decide_eq_true c
            generalize d (oth (es.getD o' (0, 0)) p') = z1 at *
            simp at this
            omega)
          rw [if_pos (decide_eq_true c')]
          refine ⟨_, rfl, _, hD, by rw [NV_len]; exact Nat.lt_of_le_of_lt (stpTo_len _ _ _ _) (small1000 (by omega)), fun b o eb => ?_, by rw [upd_same, NV_snoc]⟩
          rw [upd_ne (ne_of_none eb nD)]
          exact s4 _ _ eb
        · have c' : ¬ d (oth (es.getD o' (0, 0)) p') < d p' := fun h => by
            have h2 := iff.mp h
            have := of_decide_eq_false (Bool.eq_false_iff.mpr c)
            generalize d (oth (es.getD o' (0, 0)) p') = z1 at *
            simp at this
            omega
          rw [if_neg (by simpa using c'), List.append_nil]
          exact ⟨s4, hD⟩
      · rintro H4 ⟨s4, hD⟩
        have e0 : stpTo es d p' (NV (drs es p')).length = stp es d p' := by
          unfold stpTo
          rw [NV_len, List.take_length]
          rfl
        rw [e0, es1] at hD
        have hL4 := s4 _ _ hL3
        have sm4 := sm3.trans s4
        have at00 : atI (NV (o :: rr)) ((0 : Nat) : Int) = some (.int (o : Int)) := atI_nat rfl
        have at0 : atI (NV (o :: rr)) 0 = some (.int (o : Int)) := at00
        have ndl : D0 ≠ l := by
          intro z
          subst z
          rw [hL3] at nD
          cases nD
        refine ⟨_, rfl, .inl ⟨rfl, _, sl_of hL4⟩, _, rfl, D0, _, _, _, rfl, rfl, sl_of hD, at0, l, _, _, rfl, rfl, hL4, by rw [NV_len]; exact small1000 (by omega), ?_⟩
        have sm5 : Same H (upd H4 l (.lst (NV pre ++ [V.int (o : Int)]))) := same_in sm4 nl
        have hD5 : upd H4 l (.lst (NV pre ++ [V.int (o : Int)])) D0 = some (.lst (NV (o :: rr))) := by rw [upd_ne ndl]; exact hD
        have hL5 : upd H4 l (.lst (NV pre ++ [V.int (o : Int)])) l = some (.lst (NV (pre ++ [o]))) := by rw [upd_same, NV_snoc]
        generalize upd H4 l (.lst (NV pre ++ [V.int (o : Int)])) = H5 at *
        obtain ⟨_, om2⟩ := mem_drs.mp om
        obtain ⟨k, hk, ek⟩ := ed_at k2 (get_at ol)
        have tk := sm5 _ _ (k3 k (List.mem_of_getElem? hk))
        rw [ek] at tk
        have at1 : atI (ks.map fun k => V.ref k.1) ((o : Nat) : Int) = some (.ref k.1) := atI_nat (by rw [List.getElem?_map, hk]; rfl)
        have eN : NV (pl (es.getD o (0, 0))) = ([((es.getD o (0, 0)).1 : Int), ((es.getD o (0, 0)).2 : Int)] : List Int).map V.int := rfl
        rw [eN] at tk
        refine ⟨_, rfl, _, rfl, D0, _, _, _, rfl, rfl, sl_of hD5, at0, a, _, _, _, rfl, rfl, sq_of (sm5 _ _ k1), at1, k.1, _, rfl, sq_of tk, _, rfl, _, _, rfl, rfl, ?_⟩
        dsimp only
        rw [sum_oth om2]
        refine ⟨pre ++ [o], oth (es.getD o (0, 0)) p', _, _, _, rfl, sm5, hL5, oo, by rw [List.length_append, List.length_singleton]; omega, by omega, ?_⟩
        rw [← e, List.append_assoc]
        congr 1
        rw [← eo]
        exact (wy_step es1).symm
    · rintro σ H2 ⟨pre, p', v4, v5, v6, rfl, sm, hL, hp', pl_, di, e⟩
      have z : d p' = 0 := by omega
      rw [z] at e
      have e' : pre = wy es d (d p) p := by rw [← e]; exact (List.append_nil _).symm
      refine ⟨_, rfl, l, _, rfl, .inl ⟨sl_of hL, fun t nt => q _ t (sm.trans (same_upd nt)) ?_⟩⟩
      show upd H2 t _ t = some (.tup (NV (wy es d (d p) p)))
      rw [upd_same, ← e']
end
end Hw

/-! repr of data: it asks that no repr is under way, which the level alone does not tell. -/
namespace Hw
open PySem PySem.Spec PyProof.Rows L2
/-- no repr is under way below -/
def NoG (A : Around) : Prop := A.guards = some []
theorem NoG.deeper {A : Around} (g : NoG A) (env : Env) : NoG (A.deeper env) := g
/-- a promise that is kept where no repr is under way -/
def FnG (P : Program) (w : World) (K : PySem.W.Frag) (mg : Str → Option Value) (base : Heap) (k : Nat) (f : Addr) (fd : FuncData) (ps : List Str) (sp : Sp) : Prop :=
  ∀ (A : Around), NoG A → Room k A → ∀ (outer : List Env) (st : Shared) (H : Hp) (ar : Args) (us : List Value) (vs : List V) (Q : VK) (E : XK),
    Env0 P w K mg base A outer st H → BindsTo st fd ar (ps.zip us) → Vals vs us → sp vs H Q E → codeAny (model P w) A (.call (.ref f) ar) (CR CX0 outer P w H st Q E) st
section
variable {P : Program} {w : World} {K : PySem.W.Frag} {mg : Str → Option Value} {base : Heap}
theorem okG {x qual : Str} {stm : Stmt} {f : Addr} {fd : FuncData} {N ps : List Str} {k : Nat} {sp : Sp} (F : Fun K x qual stm f fd) (S : FnScope N ps (defScope stm)) (ln : ∀ vs H Q E, sp vs H Q E → vs.length = ps.length)
    (body : ∀ (cdv : Value) (A : Around) (outer : List Env) (st : Shared) (H : Hp) (vs : List V) (Q : VK) (E : XK), NoG A → Room k (A.deeper (envOfC qual (defScope stm) st.heap.objs.size f cdv)) → sp vs H Q E →
      ∃ t, PSs (cxOf CX0 P w K mg base N qual (defScope stm) f cdv A outer st H E).nox (defBody stm) t ∧ t { nx := fun _ H' => Q .non H', rt := Q } (start N vs) H) :
    FnG P w K mg base (k + 1) f fd ps sp := by
  obtain ⟨oc, od, kV, doc, pm, an, cdv, ct, osl, rfl, lk, cr⟩ := F.ex
  intro A g rm outer st H ar us vs Q E e0 bn rl hs
  have eq := ln _ _ _ _ hs
  have keep := e0.mod.kin.keeps fun b o e => (e0.bs b o e).1
  have nolim := e0.mod.nolimit.keeps fun b o e => (e0.bs b o e).1
  refine codeAny_call_function rm.depth (keep _ _ lk) rfl S.co S.gen rfl (PySem.W.codeRec_of keep cr) (bn _ _ _ _ ?_)
  refine wpAny_newFunctionEnv_cells S.kind ?_ fun env ee s1 ic => ?_
  · rintro ⟨y, u⟩ hy
    have hp := S.par y (List.of_mem_zip hy).1
    exact hp.elim Or.inl fun q => Or.inr ⟨q, PySem.W.cellsFrom_some _ _ _ (Or.inl q)⟩
  · subst ee
    obtain ⟨t, ht, q⟩ := body cdv A outer st H vs Q E g (rm.deeper _) hs
    have I0 := inv_start (CX := CX0) (E := E) S rm.hd e0 eq rl ic
    refine ⟨nolim.keeps ic.toInCall.keep, codeAny_func (wpAny_mono (ht.nox.run [] s1 (start N vs) H _ I0 q) (fun fl s2 r => ?_) fun _ _ z => z)⟩
    cases fl with
    | ret u => exact let ⟨v, _, H', J, rv, q2⟩ := r; ⟨v, H', J.os, J.bare, J.base, J.hok, rv, q2⟩
    | next => exact let ⟨_, H', J, q2⟩ := r; ⟨V.non, H', J.os, J.bare, J.base, J.hok, rfl, q2⟩
    | brk => exact let ⟨_, _, _, z⟩ := r; z.elim
    | cont => exact let ⟨_, _, _, z⟩ := r; z.elim
/-- a def that can be called by its name where no repr is under way -/
structure CalG (P : Program) (w : World) (K : PySem.W.Frag) (mg : Str → Option Value) (base : Heap) (x : Str) (k : Nat) (ps : List Str) (sp : Sp) : Prop where
  ex : ∃ (f : Addr) (fd : FuncData), mg x = some (.ref f) ∧ PySem.W.keepIn K (.ref f) = true ∧ Binds K fd ps [] ∧ (∀ vs H Q E, sp vs H Q E → vs.length = ps.length) ∧ FnG P w K mg base k f fd ps sp
theorem calG_of {x : Str} {stm : Stmt} {N ps : List Str} {k : Nat} {sp : Sp} (D : Df K mg x stm ps) (S : FnScope N ps (defScope stm)) (ln : ∀ vs H Q E, sp vs H Q E → vs.length = ps.length)
    (body : ∀ (f : Addr) (cdv : Value) (A : Around) (outer : List Env) (st : Shared) (H : Hp) (vs : List V) (Q : VK) (E : XK), NoG A → Room k (A.deeper (envOfC x (defScope stm) st.heap.objs.size f cdv)) → sp vs H Q E →
      ∃ t, PSs (cxOf CX0 P w K mg base N x (defScope stm) f cdv A outer st H E).nox (defBody stm) t ∧ t { nx := fun _ H' => Q .non H', rt := Q } (start N vs) H) : CalG P w K mg base x (k + 1) ps sp := by
  obtain ⟨f, fd, F, b, g⟩ := D.ex
  exact ⟨f, fd, g, F.kp, b, ln, okG F S ln fun cdv A outer st H vs Q E => body f cdv A outer st H vs Q E⟩
end
section
variable {X : Cx}
theorem pe_clG {k : Nat} {sp : Sp} {ps : List Str} {x : Str} {p pos : Pos} {e : Expr} {es : List Expr} {t : TA} (c : CalG X.prog X.w X.K X.mg X.base x k ps sp) (g : NoG X.A) (hr : Room k X.A) (hg : Gl X x) (ha : PA X (e :: es) t) (hdb : (x == ("__debug__" : Str)) = false := by decide)
    (he : starEach (e :: es) X.env = (false, eval e X.env) :: starEach es X.env := by rfl) (hpl : (backTo pos (starEach es X.env)).any (·.1) = false := by rfl) :
    PE X (.Call (.Name x p) (e :: es) [] pos) (tCal sp t) := by
  obtain ⟨f, fd, hm, hk, b, ln, F⟩ := c.ex
  refine ⟨fun pins st σ H Q I h => wpAny_Call_Name_kw (ld_glob I hg hm ?_ hdb)⟩
  refine PySem.W.callWith_K (h₀ := X.base) I.ok.mod.kin hk (thn (ha.run pos pins st σ H _ I h) fun us s1 ⟨vs, H1, I1, r, q⟩ => ⟨I1.kIn, wpAny_call ?_⟩) he hpl
  have bd : BindsTo s1 fd ⟨us, []⟩ (ps.zip us) := by
    have z := b s1 us I1.kIn (by rw [← ln _ _ _ _ q, r.length, List.append_nil])
    rw [List.append_nil] at z
    exact z
  refine codeAny_mono (F X.A g hr X.stack s1 H1 ⟨us, []⟩ us vs Q E0 I1.env0 bd r q) fun rs s2 hq => ?_
  cases rs with
  | error er => exact (hq : False).elim
  | ok fl =>
    cases fl with
    | ret u => exact I1.after hq
    | next => exact (hq : False).elim
    | brk => exact (hq : False).elim
    | cont => exact (hq : False).elim
/-! ### repr of tuples of numbers, and of tuples of them -/
def dT (p : List Nat) : PyData := .tuple ((NI p).map PyData.int)
def dCT (cs : List (List Nat)) : PyData := .tuple (cs.map dT)
/-- few and small numbers -/
def Sm (p : List Nat) : Prop := p.length ≤ 100 ∧ ∀ x ∈ p, x < 1000
theorem log_small {x : Nat} (h : x < 1000) : (x : Int).natAbs.log2 < 10 := by
  rw [Int.natAbs_natCast]
  by_cases z : x = 0
  · subst z; decide
  · exact (Nat.log2_lt z).mpr (by omega)
theorem show_ints : ∀ p : List Nat, (∀ x ∈ p, x < 1000) → PyData.showableAll ((NI p).map PyData.int) = true
  | [], _ => rfl
  | x :: p, h => by
    have := log_small (h x List.mem_cons_self)
    show (decide ((x : Int).natAbs.log2 < 1920) && PyData.showableAll ((NI p).map PyData.int)) = true
    rw [decide_eq_true (by omega), show_ints p fun y hy => h y (List.mem_cons_of_mem _ hy)]
    rfl
theorem short_ints : ∀ p : List Nat, (∀ x ∈ p, x < 1000) → PyData.intsShortAll 13 ((NI p).map PyData.int) = true
  | [], _ => rfl
  | x :: p, h => by
    have hx := h x List.mem_cons_self
    have l := toString_length_le (v := (x : Int)) (by omega) (k := 3) (by decide) (by omega)
    show (decide ((PyData.shown (.int (x : Int))).length ≤ 13) && PyData.intsShortAll 13 ((NI p).map PyData.int)) = true
    have l2 : (PyData.shown (.int (x : Int))).length ≤ 13 := by
      unfold PyData.shown
      exact Nat.le_trans l (by decide)
    rw [decide_eq_true l2, short_ints p fun y hy => h y (List.mem_cons_of_mem _ hy)]
    rfl
theorem weight_ints : ∀ p : List Nat, (∀ x ∈ p, x < 1000) → PyData.weightAll ((NI p).map PyData.int) ≤ 12 * p.length
  | [], _ => Nat.zero_le _
  | x :: p, h => by
    have hx := log_small (h x List.mem_cons_self)
    have ih := weight_ints p fun y hy => h y (List.mem_cons_of_mem _ hy)
    have w : PyData.weight (.int (x : Int)) ≤ 11 := by
      unfold PyData.weight
      split <;> omega
    show PyData.weight (.int (x : Int)) + 1 + PyData.weightAll ((NI p).map PyData.int) ≤ 12 * (p.length + 1)
    omega
theorem show_dT {p : List Nat} (h : Sm p) : (dT p).showable = true := show_ints p h.2
theorem weight_dT {p : List Nat} (h : Sm p) : (dT p).weight ≤ 1200 := by
  have := weight_ints p h.2
  have := h.1
  show PyData.weightAll ((NI p).map PyData.int) ≤ 1200
  omega
theorem depth_dT (p : List Nat) : (dT p).depth = 1 := by
  show PyData.depthAll ((NI p).map PyData.int) + 1 = 1
  rw [depth_ints]
theorem lay_dT (p : List Nat) : (dT p).canLay0 = true := lay_ints _
theorem short_dT {p : List Nat} (h : Sm p) : (dT p).intsShort 13 = true := short_ints p h.2
theorem line_dT {p : List Nat} (h : Sm p) : (dT p).shown.length ≤ sizeLine := by
  have w := weight_dT h
  have d := depth_dT p
  have l : PyData.layable0 (dT p) = true := by
    show ((dT p).canLay0 && decide ((dT p).depth ≤ 64) && decide ((dT p).weight ≤ 2 ^ 20)) = true
    rw [lay_dT, d, decide_eq_true (show (dT p).weight ≤ 2 ^ 20 by omega)]
    rfl
  exact Nat.le_trans (shown_le13 l (short_dT h)) (by decide)
def SmC (cs : List (List Nat)) : Prop := cs.length ≤ 100 ∧ ∀ c ∈ cs, Sm c
theorem all_dCT : ∀ cs : List (List Nat), (∀ c ∈ cs, Sm c) → PyData.showableAll (cs.map dT) = true ∧ PyData.canLayAll0 (cs.map dT) = true ∧ PyData.intsShortAll 13 (cs.map dT) = true ∧ PyData.weightAll (cs.map dT) ≤ 1201 * cs.length ∧ PyData.depthAll (cs.map dT) ≤ 1
  | [], _ => ⟨rfl, rfl, rfl, Nat.zero_le _, Nat.zero_le _⟩
  | c :: cs, h => by
    have hc := h c List.mem_cons_self
    obtain ⟨a1, a2, a3, a4, a5⟩ := all_dCT cs fun d hd => h d (List.mem_cons_of_mem _ hd)
    refine ⟨?_, ?_, ?_, ?_, ?_⟩
    · show ((dT c).showable && PyData.showableAll (cs.map dT)) = true
      rw [show_dT hc, a1]; rfl
    · show ((dT c).canLay0 && PyData.canLayAll0 (cs.map dT)) = true
      rw [lay_dT, a2]; rfl
    · show ((dT c).intsShort 13 && PyData.intsShortAll 13 (cs.map dT)) = true
      rw [short_dT hc, a3]; rfl
    · show (dT c).weight + 1 + PyData.weightAll (cs.map dT) ≤ 1201 * (cs.length + 1)
      have := weight_dT hc
      omega
    · show max (dT c).depth (PyData.depthAll (cs.map dT)) ≤ 1
      rw [depth_dT]
      exact Nat.max_le.mpr ⟨Nat.le_refl _, a5⟩
theorem line_dCT {cs : List (List Nat)} (h : SmC cs) : (dCT cs).shown.length ≤ sizeLine := by
  obtain ⟨a1, a2, a3, a4, a5⟩ := all_dCT cs h.2
  have h1 := h.1
  have l : PyData.layable0 (dCT cs) = true := by
    show ((dCT cs).canLay0 && decide ((dCT cs).depth ≤ 64) && decide ((dCT cs).weight ≤ 2 ^ 20)) = true
    have d : (dCT cs).depth ≤ 64 := by
      show PyData.depthAll (cs.map dT) + 1 ≤ 64
      omega
    have w : (dCT cs).weight ≤ 2 ^ 20 := by
      show PyData.weightAll (cs.map dT) ≤ 2 ^ 20
      omega
    rw [decide_eq_true d, decide_eq_true w]
    show (PyData.canLayAll0 (cs.map dT) && true && true) = true
    rw [a2]; rfl
  exact Nat.le_trans (shown_le13 l a3) (by decide)
theorem hd_dT (p : List Nat) : (dT p).hasDict = false := PyData.hasDict_of_canLay _ (lay_dT p)
theorem reads_dT {H : Hp} {pins : List (Addr × Obj)} {σ : L2.St} {st : Shared} (I : L2.Inv X pins σ H st) {a : Addr} {p : List Nat} (h : Tp H a p) : Reads st.heap (.ref a) (dT p) [] := by
  obtain ⟨its, rv, ⟨o, ho, hc, n, hd⟩, _⟩ := I.tuple (sq_of (K := X.K) h)
  rw [NV_NI] at rv
  exact Reads.tuple ho hc hd (by simpa using reads_ints (h := st.heap) rv)
def rReprT : List V → Hp → VK → Prop := fun vs H Q => ∃ (a : Addr) (p : List Nat), vs = [.ref a] ∧ Tp H a p ∧ Sm p ∧ Q (.str (dT p).shown) H
theorem cr_reprT (g : NoG X.A) (hu : X.A.units + 64 < cLine) : CallR X (.builtin "repr") rReprT := by
  rintro pins st σ H vs us Q I r ⟨a, p, rfl, h, sm, q⟩
  rw [Vals.ref1 r]
  have rd := reads_dT I h
  refine repr_of_reads' rd (show_dT sm) (fun z => by rw [hd_dT] at z; cases z) g (by rw [depth_dT]; omega) (fun _ _ e => e) (fun h' u tk kp => ?_) (line_dT sm)
  exact ⟨.str _, H, I.kept kp, ⟨_, rfl⟩, q⟩
end
end Hw

/-! repr of any data without dicts. -/
namespace Hw
open PySem PySem.Spec PyProof.Rows L2
structure ShD (d : PyData) : Prop where
  sh : d.showable = true
  nd : d.hasDict = false
  dp : d.depth ≤ 60
  ln : d.shown.length ≤ sizeLine
def rReprD (K : PySem.W.Frag) : List V → Hp → VK → Prop := fun vs H Q => ∃ (a : Addr) (d : PyData), vs = [.ref a] ∧ Dp K H (.ref a) d ∧ ShD d ∧ Q (.str d.shown) H
theorem cr_reprD {X : Cx} (g : NoG X.A) (hu : X.A.units + 64 < cLine) : CallR X (.builtin "repr") (rReprD X.K) := by
  rintro pins st σ H vs us Q I r ⟨a, d, rfl, h, sd, q⟩
  rw [Vals.ref1 r]
  obtain ⟨as, rd⟩ := Dp.reads I d (.ref a) (.ref a) h rfl
  have := sd.dp
  refine repr_of_reads' rd sd.sh (fun z => by rw [sd.nd] at z; cases z) g (by omega) (fun _ _ e => e) (fun h' u tk kp => ?_) sd.ln
  exact ⟨.str _, H, I.kept kp, ⟨_, rfl⟩, q⟩
def dCL (cs : List (List Nat)) : PyData := .list (cs.map dT)
theorem sh_dCL {cs : List (List Nat)} (h : SmC cs) : ShD (dCL cs) := by
  obtain ⟨a1, a2, a3, a4, a5⟩ := all_dCT cs h.2
  have h1 := h.1
  have dp : (dCL cs).depth ≤ 2 := by
    show PyData.depthAll (cs.map dT) + 1 ≤ 2
    omega
  have l : PyData.layable0 (dCL cs) = true := by
    show ((dCL cs).canLay0 && decide ((dCL cs).depth ≤ 64) && decide ((dCL cs).weight ≤ 2 ^ 20)) = true
    have d : (dCL cs).depth ≤ 64 := by omega
    have w : (dCL cs).weight ≤ 2 ^ 20 := by
      show PyData.weightAll (cs.map dT) ≤ 2 ^ 20
      omega
    rw [decide_eq_true d, decide_eq_true w]
    show (PyData.canLayAll0 (cs.map dT) && true && true) = true
    rw [a2]; rfl
  refine ⟨a1, PyData.hasDict_of_canLay _ a2, by omega, ?_⟩
  exact Nat.le_trans (shown_le13 l a3) (by decide)
theorem dp_cl {K : PySem.W.Frag} {H : Hp} {a : Addr} {ks : List (Addr × List Nat)} (h : SqL K H a (ks.map fun k => V.ref k.1)) (hk : ∀ k ∈ ks, Tp H k.1 k.2) : Dp K H (.ref a) (dCL (ks.map (·.2))) := Dp.lst h (dpa_cs (K := K) ks hk)
end Hw

namespace Hw
open PySem PySem.Spec PyProof.Rows L2 ClX
theorem way_step {n : Nat} {es : List Ed} (cn : CN n es) {g p : Nat} (hg : g < n) (hp : p < n) (h : dst n es g p ≠ 0) : ∃ i, wayF n es p g = i :: wayF n es (oth (es.getD i (0, 0)) p) g ∧ i ∈ drs es p ∧ oth (es.getD i (0, 0)) p < n := by
  have DD := dst_is cn hg
  obtain ⟨i, rr, es1, im, il, ol, eo⟩ := stp_ex cn.2.1 DD hp h
  refine ⟨i, ?_, im, ol⟩
  unfold wayF
  rw [← eo]
  exact wy_step es1
theorem way_nil {n : Nat} {es : List Ed} {g p : Nat} (h : dst n es g p = 0) : wayF n es p g = [] := by
  unfold wayF
  rw [h]
  rfl
theorem way_len (n : Nat) (es : List Ed) (p g : Nat) : (wayF n es p g).length = dst n es g p := wy_len _ _ _ _
theorem way_sm {n : Nat} {es : List Ed} (cn : CN n es) {g p : Nat} (hg : g < n) (hp : p < n) (hn : n ≤ 12) (hl : es.length ≤ 16) : Sm (wayF n es p g) := by
  have DD := dst_is cn hg
  refine ⟨by rw [way_len]; have := DD.lt p hp; omega, fun x hx => ?_⟩
  have := wy_lt cn.2.1 DD _ p hp rfl x hx
  omega
theorem pe_m0 {X : Cx} {k : Nat} {C : Addr} {m : Str} {sp : Sp} {o e : Expr} {es : List Expr} {ta : TE} {t : TA} {apos pos : Pos} {pl : Sem Bool} (M : MC X.prog X.w X.K X.mg X.base (L2.CX X.prog X.w) C m k sp) (c : Cls X.K C) (hr : Room k X.A) (he : PE X o ta) (ha : PA X (e :: es) t)
    (hst : starEach (e :: es) X.env = (false, eval e X.env) :: starEach es X.env := by rfl) (hpl : (backTo pos (starEach es X.env)).any (·.1) = false := by rfl) (ht : eval (.Call (.Attribute o m apos) (e :: es) [] pos) X.env = (do let ov ← eval o X.env; standAt apos.atName; let (f, first) ← holding [ov] (getMethod ov m pl); callWith pos f first (backTo pos (starEach (e :: es) X.env)) (backToKw pos (keywordEach [] X.env))) := by rfl) :
    PE X (.Call (.Attribute o m apos) (e :: es) [] pos) (tM C m sp ta t) := by
  obtain ⟨f, hm, F⟩ := M.ex
  exact pe_methR he c hm F hr passL ha hst hpl ht
section
variable {P : Program} {w : World} {K : PySem.W.Frag} {mg : Str → Option Value} {base : Heap}
structure RtC (P : Program) (w : World) (K : PySem.W.Frag) (mg : Str → Option Value) (base : Heap) (C CP : Addr) : Prop where
  net : NetOk5 P w K mg base C CP
  spans : Cal P w K mg base "_law_spans" 1 spSpans
  lw : Cal P w K mg base "_law_least_way" 2 spLw
def spRight (C : Addr) : Sp := fun vs H Q _ => ∃ (x a : Addr) (n : Nat) (es : List Ed), vs = [.ref x, .int (n : Int), .ref a] ∧ NetAt5 C H x n es ∧ EdT H a es ∧ CN n es ∧ n ≤ 12 ∧ es.length ≤ 16 ∧ ∀ H', Same H H' → Q (.bl true) H'
abbrev nRt : List Str := ["_law_net", "_law_many", "_law_ties_here", "_law_spot", "_law_spans_here", "_law_here", "_law_due"]
theorem scRight : FnScope nRt ["_law_net", "_law_many", "_law_ties_here"] (defScope sRight) := ⟨rfl, rfl, rfl, by decide +kernel, rfl, by decide +kernel, by decide +kernel⟩
theorem cal_right {C CP : Addr} (T : Txt mg) (G : RtC P w K mg base C CP) (D : Df K mg "_law_right" sRight ["_law_net", "_law_many", "_law_ties_here"]) : CalG P w K mg base "_law_right" 5 ["_law_net", "_law_many", "_law_ties_here"] (spRight C) := by
  have nd := scRight.nd
  obtain ⟨fw, fdw, Fw, bw, mw, okw⟩ := G.net.way.ex
  have W := G.net.way.mc
  have c := G.net.cl
  refine calG_of D scRight (fun vs H Q E h => ?_) (fun f cdv A outer s0 H vs Q E hg hr h => ?_)
  · obtain ⟨x, a, n, es, rfl, _⟩ := h
    rfl
  · obtain ⟨x, a, n, es, rfl, net, he, cn, hn, hl, q⟩ := h
    have hr1 := hr.mono (show 1 ≤ 4 by decide)
    have hr2 := hr.mono (show 2 ≤ 4 by decide)
    have hr3 := hr.mono (show 3 ≤ 4 by decide)
    have hu := hr.units
    refine ⟨_, pss_cons (ps_for PassesOwn.never rfl (pi_range1 (by rfl) T.range (pa_cons (pv 1) pa_nil)) (pg_name (i := 3) nd rfl (.inl rfl))
          (pss_cons (ps_set (i := 4) nd rfl (.inl rfl) (pe_cl G.spans hr1 (by rfl) (pa_cons (pv 1) (pa_cons (pv 2) (pa_cons (pv 3) pa_nil)))))
          <| pss_one (ps_for PassesOwn.never rfl (pi_range1 (by rfl) T.range (pa_cons (pv 1) pa_nil)) (pg_name (i := 5) nd rfl (.inl rfl))
            (pss_cons (ps_set (i := 6) nd rfl (.inl rfl) (pe_cl G.lw hr2 (by rfl) (pa_cons (pv 2) (pa_cons (pv 4) (pa_cons (pv 5) pa_nil)))))
            <| pss_cons (ps_if (pt_cmpR op_ne (pe_callB (cr_reprD (hg.deeper _) hu) (by rfl) T.repr (by decide +kernel) (pa_cons (pe_lst (pa_cons (pe_m0 W c hr (pv 0) (pa_cons (pv 5) (pa_cons (pv 3) pa_nil))) (pa_cons (pe_methK (E := E0) (pv 0) c mw okw hr (kb_way Fw) passL (pk_cons (pv 3) (pk_cons (pv 5) pk_nil))) pa_nil))) pa_nil))
                (pe_callB (cr_reprD (hg.deeper _) hu) (by rfl) T.repr (by decide +kernel) (pa_cons (pe_lst (pa_cons (pv 6) (pa_cons (pv 6) pa_nil))) pa_nil)) (nomark _)) (pss_one ps_never) pss_nil)
            <| pss_cons (ps_if (pt_cmpR op_ne (pe_callB cr_len (by rfl) T.len PySem.boot_len (pa_cons (pe_m0 W c hr (pv 0) (pa_cons (pv 3) (pa_cons (pv 5) pa_nil))) pa_nil)) (pe_callB cr_len (by rfl) T.len PySem.boot_len (pa_cons (pv 6) pa_nil)) (nomark _)) (pss_one ps_never) pss_nil)
            <| pss_one (ps_if (PW.pt (pw_and (pt_cmpR (op_neD hu) (pv 6) (pe_tup pa_nil) (nomark _)) (pw_and1 (pt_cmpR (op_neD hu) (pe_m0 W c hr (pv 0) (pa_cons (pe_m G.net.far c hr3 (pv 0) (pa_cons (pe_ix (r := rIxT K) ix_tup (pv 6) pe_int (fun _ _ => rfl)) (pa_cons (pv 5) pa_nil))) (pa_cons (pv 3) pa_nil)))
                (pe_slice (r := rSlA K) sl_tupA (pv 6) (po_some pe_int) po_none) (nomark _))))) (pss_one ps_never) pss_nil)))))
      <| pss_one (ps_ret pe_bl), ?_⟩
    refine ⟨_, rfl, _, rfl, by omega, by omega, ?_⟩
    rw [Int.toNat_natCast]
    refine for_it walk_rg0 (fun i σ H' => ∃ v3 v4 v5 v6, σ = [some (.ref x), some (.int (n : Int)), some (.ref a), v3, v4, v5, v6] ∧ Same H H') ⟨_, _, _, _, rfl, fun _ _ z => z⟩ (fun _ _ _ _ _ => trivial) ?_ ?_
    · rintro g y σ _ H2 hg' ⟨v3, v4, v5, v6, rfl, sm⟩ ⟨rfl, rfl⟩
      refine ⟨_, rfl, _, rfl, _, rfl, a, n, es, g, rfl, he.same sm, cn, hg', hn, hl, fun H3 b s3 nb hb => ?_⟩
      have sm3 := sm.trans s3
      refine ⟨_, rfl, _, rfl, by omega, by omega, ?_⟩
      rw [Int.toNat_natCast]
      refine for_it walk_rg0 (fun i σ H' => ∃ v5 v6, σ = [some (.ref x), some (.int (n : Int)), some (.ref a), some (.int (g : Int)), some (.ref b), v5, v6] ∧ Same H H' ∧ H' b = some (.lst (NV ((List.range n).map (dst n es g))))) ⟨_, _, rfl, sm3, hb⟩ (fun _ _ _ _ _ => trivial) ?_ ?_
      · rintro p z σ _ H4 hp ⟨v5, v6, rfl, sm4, hb4⟩ ⟨rfl, rfl⟩
        refine ⟨_, rfl, _, rfl, _, rfl, a, b, n, es, g, p, rfl, he.same sm4, hb4, cn, hg', hp, hn, hl, fun H5 du s5 hdu => ?_⟩
        have sm5 := sm4.trans s5
        obtain ⟨dx, fs, _, _, h1, _, _, _, h5, _, _⟩ := id net
        have look : ∀ m ∈ mNames, fs.lookup m = none := h5
        have nW := look "way" (by decide +kernel)
        have nF := look "far_end" (by decide +kernel)
        have sw := way_sm cn hg' hp hn hl
        have sc : SmC [wayF n es p g, wayF n es p g] := by
          refine ⟨by show 2 ≤ 100; decide, fun c hc => ?_⟩
          rcases List.mem_cons.mp hc with z | z
          · rw [z]; exact sw
          · rw [List.mem_singleton.mp z]; exact sw
        have hb5 := s5 _ _ hb4
        -- both ways
        refine ⟨_, rfl, x, dx, fs, rfl, sm5 _ _ h1, nW, _, rfl, _, rfl, x, _, _, n, es, rfl, net.same sm5, cn, hn, hl, .inl ⟨p, g, rfl, rfl, hp, hg', fun H6 w1 s6 hw1 => ?_⟩⟩
        have sm6 := sm5.trans s6
        refine ⟨_, rfl, x, dx, fs, rfl, sm6 _ _ h1, nW, _, rfl, _, rfl, rfl, x, _, _, n, es, rfl, net.same sm6, cn, hn, hl, .inl ⟨p, g, rfl, rfl, hp, hg', fun H7 w2 s7 hw2 => ?_⟩⟩
        have sm7 := sm6.trans s7
        refine ⟨by show 2 ≤ sizeLine; decide, fun l1 nl1 => ?_⟩
        have s8 := same_upd (o := .lst [V.ref w1, V.ref w2]) nl1
        have hl1 : upd H7 l1 (.lst [V.ref w1, V.ref w2]) l1 = some (.lst ([(w1, wayF n es p g), (w2, wayF n es p g)].map fun k => V.ref k.1)) := upd_same
        have hw18 := s8 _ _ (s7 _ _ hw1)
        have hw28 := s8 _ _ hw2
        have s58 := (s6.trans s7).trans s8
        generalize upd H7 l1 (.lst [V.ref w1, V.ref w2]) = H8 at *
        refine ⟨l1, dCL [wayF n es p g, wayF n es p g], rfl, dp_cl (ks := [(w1, wayF n es p g), (w2, wayF n es p g)]) (sl_of hl1) (fun k hk => ?_), sh_dCL sc, ?_⟩
        · rcases List.mem_cons.mp hk with z | z
          · rw [z]; exact hw18
          · rw [List.mem_singleton.mp z]; exact hw28
        refine ⟨_, rfl, _, rfl, by show 2 ≤ sizeLine; decide, fun l2 nl2 => ?_⟩
        have s9 := same_upd (o := .lst [V.ref du, V.ref du]) nl2
        have hl2 : upd H8 l2 (.lst [V.ref du, V.ref du]) l2 = some (.lst ([(du, wayF n es p g), (du, wayF n es p g)].map fun k => V.ref k.1)) := upd_same
        have s59 := s58.trans s9
        have hd9 : Tp (upd H8 l2 (.lst [V.ref du, V.ref du])) du (wayF n es p g) := s59 _ _ hdu
        have hb9 := s59 _ _ hb5
        have sm9 := sm5.trans s59
        generalize upd H8 l2 (.lst [V.ref du, V.ref du]) = H9 at *
        refine ⟨l2, dCL [wayF n es p g, wayF n es p g], rfl, dp_cl (ks := [(du, wayF n es p g), (du, wayF n es p g)]) (sl_of hl2) (fun k hk => ?_), sh_dCL sc, rfl, _, rfl, ?_⟩
        · rcases List.mem_cons.mp hk with z | z
          · rw [z]; exact hd9
          · rw [List.mem_singleton.mp z]; exact hd9
        rw [show decide (V.str (dCL [wayF n es p g, wayF n es p g]).shown = V.str (dCL [wayF n es p g, wayF n es p g]).shown) = true from decide_eq_true rfl]
        refine iteF ?_
        -- the way back is as long
        refine ⟨_, rfl, x, dx, fs, rfl, sm9 _ _ h1, nW, _, rfl, _, rfl, x, _, _, n, es, rfl, net.same sm9, cn, hn, hl, .inl ⟨g, p, rfl, rfl, hg', hp, fun HA w3 sA hw3 => ?_⟩⟩
        have smA := sm9.trans sA
        have hdA : Tp HA du (wayF n es p g) := sA _ _ hd9
        have hbA := sA _ _ hb9
        refine ⟨w3, _, rfl, .inr (sq_of hw3), _, rfl, du, _, rfl, .inr (sq_of hdA), rfl, _, rfl, ?_⟩
        rw [NV_len, NV_len, way_len, way_len, dst_symm cn hg' hp]
        rw [show decide (V.int ((dst n es p g : Nat) : Int) = V.int ((dst n es p g : Nat) : Int)) = true from decide_eq_true rfl]
        refine iteF ?_
        -- it goes on
        refine ⟨_, rfl, Nat.zero_le _, fun t nt => ?_⟩
        have sB := same_upd (o := .tup []) nt
        have ht : Tp (upd HA t (.tup [])) t [] := upd_same
        have smB := smA.trans sB
        have hdB : Tp (upd HA t (.tup [])) du (wayF n es p g) := sB _ _ hdA
        have hbB := sB _ _ hbA
        generalize upd HA t (.tup []) = HB at *
        refine ⟨_, _, dp_tp hdB, dp_tp ht, shaped_ti _, shaped_ti _, _, rfl, ?_⟩
        rw [eqv_tp]
        by_cases z : dst n es g p = 0
        · rw [show decide (wayF n es p g = []) = true from decide_eq_true (way_nil z)]
          refine iteF ?_
          exact ⟨_, _, rfl, smB, hbB⟩
        · obtain ⟨i, ew, im, ol⟩ := way_step cn hg' hp z
          rw [show decide (wayF n es p g = []) = false from decide_eq_false (by rw [ew]; intro q; cases q)]
          refine iteT ?_
          have at00 : atI (NV (wayF n es p g)) ((0 : Nat) : Int) = some (.int (i : Int)) := by rw [ew]; exact atI_nat rfl
          have at0 : atI (NV (wayF n es p g)) 0 = some (.int (i : Int)) := at00
          refine ⟨_, rfl, x, dx, fs, rfl, smB _ _ h1, nW, _, rfl, x, dx, fs, rfl, smB _ _ h1, nF, _, rfl, du, _, _, _, rfl, rfl, sq_of hdB, at0, _, rfl, x, n, es, i, p, rfl, net.same smB, im, ?_⟩
          refine ⟨_, rfl, x, _, _, n, es, rfl, net.same smB, cn, hn, hl, .inl ⟨oth (es.getD i (0, 0)) p, g, rfl, rfl, ol, hg', fun HC w4 sC hw4 => ?_⟩⟩
          have smC := smB.trans sC
          have hdC : HC du = some (.tup (NV (wayF n es p g))) := sC _ _ hdB
          have hbC := sC _ _ hbB
          refine ⟨_, rfl, _, rfl, ?_⟩
          dsimp only [tNoPart]
          refine sl_drop (k := 1) hdC fun p3 HD sD hp3 => ?_
          have hp4 : Tp HD p3 (wayF n es (oth (es.getD i (0, 0)) p) g) := by
            show HD p3 = _
            rw [hp3, NV_drop, ew]
            rfl
          refine ⟨_, _, dp_tp (sD _ _ hw4), dp_tp hp4, shaped_ti _, shaped_ti _, _, rfl, ?_⟩
          rw [eqv_tp, decide_eq_true rfl]
          refine iteF ?_
          exact ⟨_, _, rfl, smC.trans sD, sD _ _ hbC⟩
      · rintro σ H4 ⟨v5, v6, rfl, sm4, hb4⟩
        exact ⟨_, _, _, _, rfl, sm4⟩
    · rintro σ H2 ⟨v3, v4, v5, v6, rfl, sm⟩
      exact q _ sm
end
end Hw

/-! try .. except X as e, where the suite hands the exception on: it is tracked behind the try. -/
namespace Hw
open PySem PySem.Spec PyProof.Rows L2
/-- an exception at a, of the class cls, its own dict at d -/
def exk (a : Addr) (cls : Value) (d : Option Addr) : HO := .ext fun h => ∃ (oe : Obj) (vs : Array Value), h.get? a = some oe ∧ Zc cls d oe ∧ oe.data = .fields vs
theorem exk_ok {P : Program} {w : World} {H : Hp} {h : Heap} {a : Addr} {cls : Value} {d : Option Addr} {oe : Obj} {vs : Array Value} (e : h.get? a = some oe) (z : Zc cls d oe) (hd : oe.data = .fields vs) : ObjOk P w H h a (exk a cls d) :=
  ⟨⟨oe, vs, e, z, hd⟩, ⟨oe, e⟩, fun h1 h2 z k => by
    obtain ⟨o, v, q, r⟩ := z
    exact ⟨o, v, k _ q, r⟩⟩
theorem exk_at {P : Program} {w : World} {H : Hp} {h : Heap} {a : Addr} {cls : Value} {d : Option Addr} (hok : HOk P w H h) (he : H a = some (exk a cls d)) : ∃ (oe : Obj) (vs : Array Value), h.get? a = some oe ∧ Zc cls d oe ∧ oe.data = .fields vs := by
  have x : ObjOk P w H h a (.ext fun h => ∃ (oe : Obj) (vs : Array Value), h.get? a = some oe ∧ Zc cls d oe ∧ oe.data = .fields vs) := hok a _ he
  exact x.1
theorem un_track {fs ex : List Addr} {H0 H : Hp} {h0 h : Heap} {a : Addr} {o : HO} (u : Un fs ex H0 H h0 h) (n0 : h0.get? a = none) (na : H a = none) : Un fs ex H0 (upd H a o) h0 h where
  keep := u.keep
  slot := u.slot
  free := fun b x q n y => by
    rw [upd_ne (fun z => by rw [z, n0] at q; cases q)]
    exact u.free b x q n y
  there := u.there
  tups := fun b xs q => by
    have := u.tups b xs q
    rw [upd_ne (ne_of_none this na)]
    exact this
  frzs := fun b x y q => by
    have := u.frzs b x y q
    rw [upd_ne (ne_of_none this na)]
    exact this
  tbls := fun b ps q => by
    obtain ⟨more, e⟩ := u.tbls b ps q
    exact ⟨more, by rw [upd_ne (ne_of_none e na)]; exact e⟩
theorem hok_track {P : Program} {w : World} {H : Hp} {h : Heap} {a : Addr} {o : HO} (x : HOk P w H h) (na : H a = none) (new : ObjOk P w (upd H a o) h a o) : HOk P w (upd H a o) h := fun b u e => by
  by_cases hb : b = a
  · subst hb
    rw [upd_same] at e
    cases e
    exact new
  · rw [upd_ne hb] at e
    exact (x b u e).stay (fun c v _ q => q) (fun c q => by rw [upd_ne (ne_of_none q na)]; exact q) fun c xs q => by rw [upd_ne (ne_of_none q na)]; exact q
theorem inv_track {X : Cx} {pins : List (Addr × Obj)} {σ : L2.St} {H : Hp} {s : Shared} {a : Addr} {o : HO} {oe : Obj} {vs : Array Value} (I : L2.Inv X pins σ H s) (ea : s.heap.get? a = some oe) (hd : oe.data = .fields vs) (na : H a = none) (n0 : X.s_0.heap.get? a = none) (nL : a ≠ X.env.locals)
    (np : ∀ p ∈ X.pn ++ pins, p.1 ≠ a) (new : ObjOk X.prog X.w (upd H a o) s.heap a o) : L2.Inv X pins σ (upd H a o) s := by
  refine ⟨I.ok, I.os, I.bare, un_track I.base n0 na, I.loc, I.cell, by rw [upd_ne (Ne.symm nL)]; exact I.free, fun x c e => ?_, fun p hp => ?_, hok_track I.hok na new, I.len⟩
  · have nc : c ≠ a := fun z => by
      obtain ⟨v, w⟩ := I.cell x c e
      rw [z] at w
      obtain ⟨o', e1, e2⟩ := w
      rw [ea] at e1
      cases e1
      rw [hd] at e2
      cases e2
    rw [upd_ne nc]
    exact I.freeC x c e
  · obtain ⟨h1, h2, h3, h4, h5⟩ := I.pin p hp
    exact ⟨h1, by rw [upd_ne (np p hp)]; exact h2, h3, h4, h5⟩
/-- what stands in no frame is no frame of ours -/
theorem off_frames {X : Cx} (hs : X.stack = X.env :: X.outer) (hf : X.env.frame = some X.env.locals) {a : Addr} (h : a ∉ frs X.stack) : a ≠ X.env.locals ∧ a ∉ X.fs := by
  have e : frs X.stack = X.env.locals :: frs X.outer := by
    rw [hs]
    unfold frs
    rw [List.filterMap_cons_some hf]
  rw [e] at h
  exact ⟨fun z => h (by rw [z]; exact List.mem_cons_self), fun z => h (List.mem_cons_of_mem _ z)⟩
/-- only the plain end -/
def onlyNx (D : Ends) : Ends := { nx := D.nx, rt := fun _ _ => False, bk := fun _ _ => False, ct := fun _ _ => False }
/-- an exception that the clause names; behind the suite it is tracked, and the name is gone -/
def wKp (K : PySem.W.Frag) (c : Value) (i : Nat) (ts : Addr → Value → Option Addr → TS) (D : Ends) : WX := fun cls d σ H =>
  PySem.W.exmOne K cls c = some true ∧ ∀ a, H a = none → ts a cls d (onlyNx { D with nx := fun σ' H' => H' a = none → D.nx (σ'.set i none) (upd H' a (exk a cls d)) }) (σ.set i (some (.ref a))) H
theorem ps_try_kp {X : Cx} {x n : Str} {c : Value} {i : Nat} {body rest : List Stmt} {first : Stmt} {np p1 p2 : Pos} {tb : WX → TS} {ts : Addr → Value → Option Addr → TS}
    (hs : X.stack = X.env :: X.outer) (hf : X.env.frame = some X.env.locals) (nd : X.N.Nodup) (hi : X.N[i]? = some n) (kn : X.env.kindOf n = some .local) (nm : L2.Names X x c) (hex : X.ex = [])
    (bodyOk : ∀ (W : WX) (pn : List (Addr × Obj)) (xe : Value → Shared → Prop), L2.Takes (X.tr pn xe) W → PassesOwn (model X.prog X.w) X.A X.env xe → PSs (X.tr pn xe) body (tb W))
    (suiteOk : ∀ (a : Addr) (oe : Obj) (cls : Value) (d : Option Addr) (pn : List (Addr × Obj)), Zc cls d oe → (∃ vs, oe.data = .fields vs) → PSs (X.suite a ((a, oe) :: pn)) (first :: rest) (ts a cls d)) :
    PS X (.Try body [.ExceptHandler (some (.Name x np)) (some n) (first :: rest) p1] [] [] p2) (fun D σ H => tb (wKp X.K c i ts D) (onlyNx D) σ H) := by
  constructor
  intro pins st σ H D I want
  have frm : X.A.frames = some (X.env :: X.outer) := I.ok.frames.trans (congrArg some hs)
  refine wpAny_Try_except ?_
  refine wpAny_mono ((bodyOk (wKp X.K c i ts D) (X.pn ++ pins) _ ?caught PassesOwn.looking).run [] st σ H (onlyNx D) (I.toTry _) want) ?plain (fun _ _ z => z)
  case plain =>
    intro fl s1 q
    cases fl with
    | next =>
      obtain ⟨σ1, H1, J, w⟩ := q
      refine wpAny_execs_nil ⟨σ1, H1, J.ofTry I.ok, w⟩
    | brk => exact let ⟨_, _, _, w⟩ := q; w.elim
    | cont => exact let ⟨_, _, _, w⟩ := q; w.elim
    | ret u => exact let ⟨_, _, _, _, _, w⟩ := q; w.elim
  case caught =>
    rintro u s1 ⟨a, B, sI, ps, σ1, H1, cls, d, rfl, J0, kept, up, sky, na, eos, gens, match_, suite⟩
    have J := J0.ofTry I.ok
    show wpAny _ _ (noteFrame (.ref a) X.env) _ _ _
    refine Sky.land Zc.steady frm hf (by rw [← hs]; exact sky) fun g1 fl1 up1 => ?_
    obtain ⟨oA, vA, atA, zA, dA⟩ := fl1.there
    have noB : B.get? a = none := fl1.2.1
    have out : a ∉ frs X.stack := fun m => by
      rw [hs] at m
      obtain ⟨_, w, atW, nf⟩ := fl1.2.2.1.mem m
      rw [atA] at atW
      cases atW
      exact nf _ dA
    obtain ⟨notL, notF⟩ := off_frames hs hf out
    have noI : sI.heap.get? a = none := by
      rcases e : sI.heap.get? a with _ | w
      · rfl
      · rw [kept a w e out] at noB
        cases noB
    have no0 : X.s_0.heap.get? a = none := by
      rcases e : X.s_0.heap.get? a with _ | w
      · rfl
      · obtain ⟨w', e'⟩ := J.base.there a w e (by rw [hex]; intro z; cases z)
        rw [noI] at e'
        cases e'
    have noP : ∀ p ∈ X.pn ++ pins, p.1 ≠ a := fun p hp z => by
      have := (J.pin p hp).1
      rw [z, noI] at this
      cases this
    have J1 : L2.Inv X pins σ1 H1 { s1 with heap := g1 } := J.landed kept fl1.1 (up.trans up1) eos gens
    have su1 := J1.suite atA dA na notL notF
    refine wpAny_handleBy_cons (codeAny_handlers_test ?_) (fun z => by cases z)
    have isT : PySem.W.Looks (model X.prog X.w) g1 (typeOf (.ref a)) cls := fun _ _ _ t more fin => wpAny_typeOf_ref (more _ _ atA) (zA.1.symm ▸ fin)
    have yes := PySem.W.exm_one (M := model X.prog X.w) J1.kIn isT match_
    have named : ∀ {R F : Value → Shared → Prop}, R c { s1 with heap := g1 } → wpAny (model X.prog X.w) (X.A.mark (some (.ref a))) (eval (.Name x np) X.env) R F { s1 with heap := g1 } := fun {R F} fin => by
      rcases nm with ⟨gl, dbg, own | ⟨no, blt, other⟩⟩
      · exact ld_glob su1 gl own fin dbg
      · exact ld_blt su1 gl no blt fin other dbg
    refine named (yes.here (codeAny_handlers_suite_as ?_))
    refine HandSPX.lands_againZ fl1 fun g2 fl2 up2 => ?_
    obtain ⟨oB, vB, atB, zB, dB⟩ := fl2.there
    have J2 : L2.Inv X pins σ1 H1 { s1 with heap := g2 } := J.landed kept fl2.1 ((up.trans up1).trans up2) eos gens
    have su2 := J2.suite atB dB na notL notF
    refine store_ok (X := X.suite a _) (v := .ref a) su2 nd hi (.inl kn) rfl (fun s3 su3 => ?_) (.inr kn)
    refine wpAny_mono ((suiteOk a oB cls d (X.pn ++ pins) zB ⟨_, dB⟩).run [] s3 _ H1 _ su3 (suite a na)) (fun fl s4 q => ?_) (fun _ _ z => z.elim)
    cases fl with
    | next =>
      obtain ⟨σ4, H4, su4, w⟩ := q
      obtain ⟨at4, no4, _⟩ := su4.pin (a, oB) (List.mem_append_left _ List.mem_cons_self)
      exact gone_ok (inv_track (o := exk a cls d) (su4.unsuite I.ok) at4 dB no4 no0 notL noP (exk_ok at4 zB dB)) nd hi kn fun _ fin => ⟨_, _, fin, w no4⟩
    | brk => exact let ⟨_, _, _, w⟩ := q; w.elim
    | cont => exact let ⟨_, _, _, w⟩ := q; w.elim
    | ret u => exact let ⟨_, _, _, _, _, w⟩ := q; w.elim
/-- err.f, err a tracked exception -/
def tXk (C : Addr) (f : Str) (te : TE) : TE := fun σ H Q => te σ H fun x H1 => ∃ (a dd : Addr) (fs : List (Str × V)) (v : V), x = .ref a ∧ H1 a = some (exk a (.ref C) (some dd)) ∧ H1 dd = some (.xd fs) ∧ fs.lookup f = some v ∧ Q v H1
theorem pe_xk {X : Cx} {C : Addr} {e : Expr} {te : TE} {pos : Pos} {n : Str} (T : XfC X.K C) (own : PySem.W.findIn X.K (.ref C) n = some none) (he : PE X e te) (plain : attributeBase e n X.env (eval e X.env) = eval e X.env := by rfl) : PE X (.Attribute e n pos) (tXk C n te) := by
  constructor
  intro pins st σ H Q I want
  refine attr_of plain (thn (he.run pins st σ H _ I want) fun u s1 ⟨x, H1, J, rx, a, dd, fs, v, ex, kept, dict, there, fin⟩ => ?_)
  subst ex
  cases rx
  obtain ⟨ob, arr, atA, zA, dA⟩ := exk_at J.hok kept
  obtain ⟨names, ns, rel⟩ := (show ObjOk X.prog X.w H1 s1.heap dd (.xd fs) from J.hok dd _ dict)
  obtain ⟨od, atD, look⟩ := lookIn_ns ns
  have relN := rel n
  rw [there] at relN
  obtain ⟨u, eu, ru⟩ := RelO.some_of relN
  have inst : PySem.W.InstAt s1.heap a ob C (some od) := by
    refine ⟨atA, zA.1, ?_, by rw [zA.2]; exact atD⟩
    unfold PySem.W.notCls
    rw [dA] <;> rfl
  refine HandSPX.exc_get J.kIn inst T.ga T.gg T.exC ?_ (handed_of ru) ⟨v, H1, J.tok _, ru, fin⟩
  exact PySem.W.findObj_own T.hdC own rfl (by rw [look, eu])
end Hw

/-! repr of three lists of one value, a dict without items among the values. -/
namespace Hw
open PySem PySem.Spec PyProof.Rows L2
def Dy (K : PySem.W.Frag) (H : Hp) (v : V) (d : PyData) : Prop := (Dp K H v d ∧ d.hasDict = false) ∨ ∃ a, v = .ref a ∧ H a = some (.dK []) ∧ d = .dict []
def d3 (d : PyData) : PyData := .list [.list [d], .list [d], .list [d]]
structure ShY (d : PyData) : Prop where
  sh : d.showable = true
  dp : d.depth ≤ 60
  ln : d.shown.length ≤ sizeLine
section
variable {X : Cx} {pins : List (Addr × Obj)} {σ : L2.St} {H : Hp} {st : Shared}
theorem lst_at (I : L2.Inv X pins σ H st) {b : Addr} {xs : List V} (h : H b = some (.lst xs)) : ∃ (its : List Value) (n : Nat), Vals xs its ∧ st.heap.get? b = some { cls := .type "list", data := .seq its.toArray n } := by
  have z : ObjOk X.prog X.w H st.heap b (.lst xs) := I.hok b _ h
  exact z.2
theorem dy_reads (I : L2.Inv X pins σ H st) {v : V} {d : PyData} {u : Value} (h : Dy X.K H v d) (r : RelV v u) : ∃ as, Reads st.heap u d as ∧ (d.hasDict = true → PySem.sysModules ∉ as) := by
  rcases h with ⟨h, nd⟩ | ⟨a, rfl, ha, rfl⟩
  · obtain ⟨as, q⟩ := Dp.reads I d v u h r
    exact ⟨as, q, fun z => by rw [nd] at z; cases z⟩
  · obtain rfl : u = Value.ref a := r
    obtain ⟨_, hs, vs, kv, o, es, ep, e1, e2, e3, _, e4, _⟩ := (show ObjOk X.prog X.w H st.heap a (.dK []) from I.hok a _ ha)
    cases kv
    have e5 : es.toList = [] := by
      generalize es.toList = l at e4
      cases e4
      rfl
    refine ⟨_, Reads.dict (kvs := []) e1 e2.1 e3 (as := []) (bs := []) (by rw [e5]; exact .nil) (by rw [e5]; exact .nil), fun _ m => ?_⟩
    have m' : PySem.sysModules ∈ [a] := by simpa using m
    rw [← List.mem_singleton.mp m'] at hs
    simp at hs
def rRepr3 (K : PySem.W.Frag) : List V → Hp → VK → Prop := fun vs H Q => ∃ (a b1 b2 b3 : Addr) (v : V) (d : PyData), vs = [.ref a] ∧ H a = some (.lst [.ref b1, .ref b2, .ref b3]) ∧ H b1 = some (.lst [v]) ∧ H b2 = some (.lst [v]) ∧ H b3 = some (.lst [v]) ∧ b1 ≠ PySem.sysModules ∧ b2 ≠ PySem.sysModules ∧ b3 ≠ PySem.sysModules ∧ Dy K H v d ∧ ShY (d3 d) ∧ Q (.str (d3 d).shown) H
theorem one_reads (I : L2.Inv X pins σ H st) {b : Addr} {v : V} {d : PyData} (h : H b = some (.lst [v])) (nb : b ≠ PySem.sysModules) (dy : Dy X.K H v d) : ∃ as, Reads st.heap (.ref b) (.list [d]) as ∧ (d.hasDict = true → PySem.sysModules ∉ as) := by
  obtain ⟨its, n, rv, e⟩ := lst_at I h
  cases rv with
  | cons ru r =>
    cases r
    obtain ⟨as, q, ns⟩ := dy_reads I dy ru
    refine ⟨_, Reads.list (xs := [d]) e rfl rfl (ReadsAll.cons q .nil), fun hd m => ?_⟩
    rcases List.mem_cons.mp m with z | z
    · exact nb z.symm
    · rw [List.append_nil] at z
      exact ns hd z
/-- repr of a list: only what it holds must not be the modules' dict -/
theorem repr_lst {prog : Program} {w : World} {A : Around} {E : Value → Shared → Prop} {s : Shared} {Q : Value → Shared → Prop} {a : Addr} {its : List Value} {n : Nat} {xs : List PyData} {as : List Addr} (e : s.heap.get? a = some { cls := .type "list", data := .seq its.toArray n }) (ne : its ≠ [])
    (r : ReadsAll s.heap its xs as) (sy : ShY (.list xs)) (hs : PyData.hasDictAll xs = true → PySem.sysModules ∉ as) (g : A.guards = some []) (hu : A.units + 64 < cLine)
    (hQ : ∀ h' u tk, (∀ b o, s.heap.get? b = some o → h'.get? b = some o) → Q (.str (PyData.list xs).shown u) { s with heap := h', toks := tk }) : wpAny (model prog w) A (call (.builtin "repr") [.ref a]) Q E s := by
  have ln : (listText (PyData.shownAll xs)).length ≤ sizeLine := by simpa only [PyData.shown] using sy.ln
  have sw : PyData.showableAll xs = true := by simpa [PyData.showable] using sy.sh
  have dp := sy.dp
  have r' : ReadsAll s.heap its.toArray.toList xs as := by simpa using r
  obtain ⟨bs, hb, hk⟩ := ReprAllK.of_readsAll (prog := prog) (w := w) r' sw hs (fun t ht => Nat.le_trans (listText_mem_le ht) ln)
  have na : a ∉ bs := not_mem_of_deeper (.list e rfl rfl r') (by simp only [PyData.depth]; omega) hb
  simp only [PyData.shown] at hQ
  simp only [PyData.depth] at dp
  have ty : s.TypeIs (.ref a) "list" := ⟨_, e, rfl⟩
  refine call_repr_slot (A := A) (T := "list") (idr := "list.__repr__") (by omega) ty PySem.F.slot_list_repr.toG ?_
  cases its with
  | nil => exact absurd rfl ne
  | cons x l => exact call_list_reprK e rfl rfl na (by simpa using hk.length_eq) (fun i y z => hk.item i y (by simpa using z)) g (fun b _ => Clear.nil b) (by show A.units + 1 + _ < cLine; omega) (fun _ _ z => z) (fun h' u tk kp => ⟨_, _, rfl, hQ h' u tk kp⟩) ln
theorem cr_repr3 (g : NoG X.A) (hu : X.A.units + 64 < cLine) : CallR X (.builtin "repr") (rRepr3 X.K) := by
  rintro pins st σ H vs us Q I r ⟨a, b1, b2, b3, v, d, rfl, ha, h1, h2, h3, m1, m2, m3, dy, sd, q⟩
  rw [Vals.ref1 r]
  obtain ⟨as1, q1, n1⟩ := one_reads I h1 m1 dy
  obtain ⟨as2, q2, n2⟩ := one_reads I h2 m2 dy
  obtain ⟨as3, q3, n3⟩ := one_reads I h3 m3 dy
  obtain ⟨its, n, rv, e⟩ := lst_at I ha
  cases rv with
  | cons r1 rv =>
    cases rv with
    | cons r2 rv =>
      cases rv with
      | cons r3 rv =>
        cases rv
        cases r1
        cases r2
        cases r3
        refine repr_lst (xs := [.list [d], .list [d], .list [d]]) e (by simp) (ReadsAll.cons q1 (ReadsAll.cons q2 (ReadsAll.cons q3 .nil))) sd (fun hd m => ?_) g hu (fun h' u tk kp => ⟨.str _, H, I.kept kp, ⟨_, rfl⟩, q⟩)
        have hd' : d.hasDict = true := by simpa [PyData.hasDictAll, PyData.hasDict] using hd
        simp only [List.mem_append, List.not_mem_nil, or_false] at m
        rcases m with m | m | m
        · exact n1 hd' m
        · exact n2 hd' m
        · exact n3 hd' m
/-- a list literal, its place told to be none of the modules' -/
def tLstB (t : TA) : TE := fun σ H Q => t σ H fun xs H1 => xs.length ≤ sizeLine ∧ ∀ p, H1 p = none → p ≠ PySem.sysModules → Q (.ref p) (upd H1 p (.lst xs))
theorem pe_lstB {es : List Expr} {t : TA} {pos : Pos} (h : PA X es t) : PE X (.List es pos) (tLstB t) := by
  refine ⟨fun pins s σ H Q I hq => ?_⟩
  refine wpAny_List_spliced (thn (h.run pos pins s σ H _ I hq) fun us s1 hh => ?_)
  obtain ⟨ws, H2, J, rel, le, fin⟩ := hh
  have fr : H2 s1.heap.objs.size = none := J.hok.fresh (Nat.le_refl _)
  have big := J.big
  refine ⟨by rw [← rel.length]; exact le, .ref s1.heap.objs.size, upd H2 s1.heap.objs.size (.lst ws), ?_, rfl, fin _ fr (Nat.ne_of_gt big)⟩
  exact J.laid (t' := s1.toks) (fun _ _ z => Heap.get?_push_of_some _ z) (Nat.le_refl _) ⟨le, us, 0, rel, Heap.get?_push_size _ rfl⟩
end
end Hw

namespace Hw
open PySem PySem.Spec PyProof.Rows L2 ClX
/-- o.m(e, ..) inside a try -/
def tMethE (C : Addr) (m : Str) (sp : Sp) (E : L2.St → XK) (ta : TE) (t : TA) : TE := fun σ H Q => ta σ H fun x H1 => ∃ a dx fs, x = .ref a ∧ H1 a = some (.ins C dx fs) ∧ fs.lookup m = none ∧ t σ H1 fun vs H2 => sp (x :: vs) H2 Q (E σ)
theorem pe_mE {X : Cx} {k : Nat} {C : Addr} {m : Str} {sp : Sp} {E : L2.St → XK} {o e : Expr} {es : List Expr} {ta : TE} {t : TA} {apos pos : Pos} {pl : Sem Bool} (M : MC X.prog X.w X.K X.mg X.base (L2.CX X.prog X.w) C m k sp) (c : Cls X.K C) (hr : Room k X.A) (hx : ∀ σ, L2.PassesAt (L2.CX X.prog X.w) X σ (E σ)) (he : PE X o ta) (ha : PA X (e :: es) t)
    (hst : starEach (e :: es) X.env = (false, eval e X.env) :: starEach es X.env := by rfl) (hpl : (backTo pos (starEach es X.env)).any (·.1) = false := by rfl) (ht : eval (.Call (.Attribute o m apos) (e :: es) [] pos) X.env = (do let ov ← eval o X.env; standAt apos.atName; let (f, first) ← holding [ov] (getMethod ov m pl); callWith pos f first (backTo pos (starEach (e :: es) X.env)) (backToKw pos (keywordEach [] X.env))) := by rfl) :
    PE X (.Call (.Attribute o m apos) (e :: es) [] pos) (tMethE C m sp E ta t) := by
  obtain ⟨f, hm, F⟩ := M.ex
  refine ⟨fun pins s σ H Q I h => ?_⟩
  refine PySem.W.methodCall_KW (pl := pl) (thn (he.run pins s σ H _ I h) fun u s1 ⟨x, H1, I1, rx, a, dx, fs, ex, ea, l, q⟩ => ?_) ht
  subst ex
  obtain rfl : u = Value.ref a := rx
  refine getmeth_ok I1 ea c hm l ?_
  refine PySem.W.callWith_K (first := [.ref a]) (h₀ := X.base) I.ok.mod.kin hm.kp (thn (ha.run pos pins s1 σ H1 _ I1 q) fun us s2 ⟨vs, H2, I2, r, q2⟩ => ⟨I2.kIn, ?_⟩) hst hpl
  refine wpAny_call (codeAny_mono (F X.A X.stack s2 H2 (.ref a :: us) (.ref a :: vs) Q (E σ) hr I2.env0 (.cons rfl r) q2) fun r s' hq => ?_)
  cases r with
  | error e => exact hx σ pins H2 s2 e s' I2 hq
  | ok fl =>
    cases fl with
    | ret u => exact I2.after hq
    | next => exact False.elim hq
    | brk => exact False.elim hq
    | cont => exact False.elim hq
section
variable {P : Program} {w : World} {K : PySem.W.Frag} {mg : Str → Option Value} {base : Heap}
/-! ### value -/
def spValue (K : PySem.W.Frag) (C : Addr) : Sp := fun vs H Q _ => ∃ (x : Addr) (v1 v2 v : V) (n : Nat) (es : List Ed), vs = [.ref x, v1, v2] ∧ NetAt5 C H x n es ∧ CN n es ∧ n ≤ 12 ∧ es.length ≤ 16 ∧
  ((BadV K H n v1 ∧ v = v1) ∨ (∃ p : Nat, v1 = .int (p : Int) ∧ p < n ∧ BadV K H n v2 ∧ v = v2)) ∧ ∀ H' r, Same H H' → H r = none → r ≠ PySem.sysModules → H' r = some (.lst [v]) → Q (.ref r) H'
abbrev nVa : List Str := ["_law_net", "_law_one_end", "_law_far", "_law_error", "e"]
theorem scValue : FnScope nVa ["_law_net", "_law_one_end", "_law_far"] (defScope sValue) := ⟨rfl, rfl, rfl, by decide +kernel, rfl, by decide +kernel, by decide +kernel⟩
theorem cal_value {C CP : Addr} (T : Txt mg) (G : NetOk5 P w K mg base C CP) (D : Df K mg "_law_value" sValue ["_law_net", "_law_one_end", "_law_far"]) : Cal P w K mg base "_law_value" 5 (spValue K C) := by
  have nd := scValue.nd
  have W := G.way.mc
  have c := G.cl
  refine cal_of D scValue (fun vs H Q E h => ?_) (fun f cdv A outer s0 H vs Q E hr h => ?_)
  · obtain ⟨x, v1, v2, v, n, es, rfl, _⟩ := h
    rfl
  · obtain ⟨x, v1, v2, v, n, es, rfl, net, cn, hn, hl, bad, q⟩ := h
    refine ⟨_, pss_cons (ps_set (i := 3) nd rfl (.inl rfl) pe_non)
      <| pss_cons (ps_try_kp (i := 4) (c := .ref CP) (tb := fun W => tDrop (tMethE C "way" (spWay K C CP) (L2.WE W) (tVar 0) (tCons (tVar 1) (tCons (tVar 2) tNil)))) (ts := fun _ _ _ => tAsg (tVar 4) (gName 3)) rfl rfl nd rfl rfl ⟨rfl, by decide, .inl G.xp.gC⟩ rfl
          (fun W' pn xe tk _ => pss_one (ps_expr (by exact (pe_mE W c hr (fun σ => L2.passAt tk σ) (pv 0) (pa_cons (pv 1) (pa_cons (pv 2) pa_nil))))))
          (fun a oe cls d pn hz hf => pss_one (ps_set (i := 3) nd rfl (Or.inl rfl) (by exact (pv 4)))))
      <| pss_one (ps_ret (pe_ifExp (pt_cmpR op_isN (pv 3) pe_non (nomark _)) (pe_lst pa_nil) (pe_lstB (pa_cons (pe_xk G.xp.xf G.xp.noF (pv 3)) pa_nil)))), ?_⟩
    obtain ⟨dx, fs, _, _, h1, _, _, _, h5, _, _⟩ := id net
    have nW : fs.lookup ("way" : Str) = none := h5 _ (by decide +kernel)
    have key : ∀ d a u, H d = none → upd H d (.xd [("value", u)]) a = none → Same H (upd (upd H d (.xd [("value", u)])) a (exk a (.ref CP) (some d))) ∧ upd (upd H d (.xd [("value", u)])) a (exk a (.ref CP) (some d)) d = some (.xd [("value", u)]) := fun d a u nd na => by
      have z2 : d ≠ a := fun y => by rw [← y, upd_same] at na; cases na
      refine ⟨fun b o eb => ?_, by rw [upd_ne z2, upd_same]⟩
      have z1 : b ≠ a := fun z => by
        rw [← z, upd_ne (ne_of_none eb nd), eb] at na
        cases na
      rw [upd_ne z1, upd_ne (ne_of_none eb nd)]
      exact eb
    refine ⟨_, rfl, x, dx, fs, rfl, h1, nW, _, rfl, _, rfl, x, v1, v2, n, es, rfl, net, cn, hn, hl, ?_⟩
    rcases bad with ⟨bad, rfl⟩ | ⟨p, rfl, hp, bad, rfl⟩
    · refine .inr (.inl ⟨bad, fun d nd => ?_⟩)
      refine ⟨G.xp.te, fun a na => ?_⟩
      refine ⟨_, rfl, fun na' => ?_⟩
      obtain ⟨sk, hd⟩ := key d a _ nd na
      refine ⟨_, rfl, rfl, _, rfl, iteF ?_⟩
      refine ⟨_, rfl, a, d, _, _, rfl, upd_same, hd, rfl, by show 1 ≤ sizeLine; decide, fun l nl ml => q _ l (sk.trans (same_upd nl)) ?_ ml upd_same⟩
      exact sk.free nl
    · refine .inr (.inr ⟨p, rfl, hp, bad, fun d nd => ?_⟩)
      refine ⟨G.xp.te, fun a na => ?_⟩
      refine ⟨_, rfl, fun na' => ?_⟩
      obtain ⟨sk, hd⟩ := key d a _ nd na
      refine ⟨_, rfl, rfl, _, rfl, iteF ?_⟩
      refine ⟨_, rfl, a, d, _, _, rfl, upd_same, hd, rfl, by show 1 ≤ sizeLine; decide, fun l nl ml => q _ l (sk.trans (same_upd nl)) ?_ ml upd_same⟩
      exact sk.free nl
end
end Hw

namespace Hw
open PySem PySem.Spec PyProof.Rows L2 ClX
section
variable {P : Program} {w : World} {K : PySem.W.Frag} {mg : Str → Option Value} {base : Heap}
theorem odd_tup {H : Hp} {r : Addr} {ys : List V} (h : H r = some (.tup ys)) : OddV K H (.ref r) := ⟨_, false, false, .base (.tup h), kit_ty (by decide +kernel), kit_ty (by decide +kernel), .inl rfl⟩
theorem odd_lst {H : Hp} {r : Addr} {ys : List V} (h : H r = some (.lst ys)) : OddV K H (.ref r) := ⟨_, false, false, .base (.lst h), kit_ty (by decide +kernel), kit_ty (by decide +kernel), .inl rfl⟩
theorem odd_dict {H : Hp} {r : Addr} {kvs : List (Key × V)} (h : H r = some (.dK kvs)) : OddV K H (.ref r) := ⟨_, false, false, .base (.dK h), kit_ty (by decide +kernel), kit_ty (by decide +kernel), .inl rfl⟩
theorem odd_non {H : Hp} : OddV K H .non := ⟨_, false, false, .base .non, kit_ty (by decide +kernel), kit_ty (by decide +kernel), .inl rfl⟩
theorem odd_str {H : Hp} {x : Str} : OddV K H (.str x) := ⟨_, false, false, .base (.str x), kit_ty (by decide +kernel), kit_ty (by decide +kernel), .inl rfl⟩
theorem odd_bl {H : Hp} {b : Bool} : OddV K H (.bl b) := ⟨_, true, true, .base (.bl b), kit_ty (by decide +kernel), kit_ty (by decide +kernel), .inr rfl⟩
/-! ### doubled -/
def spDoubled : Sp := fun vs H Q _ => ∃ i : Nat, vs = [.int (i : Int)] ∧ i ≤ 1 ∧ ∀ H' r, Same H H' → (∃ ys, (i = 0 ∧ H' r = some (.tup ys)) ∨ (i = 1 ∧ H' r = some (.lst ys))) → Q (.ref r) H'
abbrev nDb : List Str := ["_law_way", "_law_found", "_law_n"]
theorem scDoubled : FnScope nDb ["_law_way"] (defScope sDoubled) := ⟨rfl, rfl, rfl, by decide +kernel, rfl, by decide +kernel, by decide +kernel⟩
theorem cal_doubled (T : Txt mg) (D : Df K mg "_law_doubled" sDoubled ["_law_way"]) : Cal P w K mg base "_law_doubled" 1 spDoubled := by
  have nd := scDoubled.nd
  refine cal_of D scDoubled (fun vs H Q E h => ?_) (fun f cdv A outer s H vs Q E hr h => ?_)
  · obtain ⟨i, rfl, _⟩ := h
    rfl
  · obtain ⟨i, rfl, hi, q⟩ := h
    refine ⟨_, pss_cons (ps_set (i := 1) nd rfl (.inl rfl) (pe_tup pa_nil))
      <| pss_cons (ps_for PassesOwn.never rfl (pi_range1 (by rfl) T.range (pa_cons pe_int pa_nil)) (pg_name (i := 2) nd rfl (.inl rfl))
          (pss_one (ps_set (i := 1) nd rfl (.inl rfl) (pe_ix (r := rIxL K) ix_list (pe_lst (pa_cons (pe_tup (pa_cons (pv 1) (pa_cons (pv 1) pa_nil))) (pa_cons (pe_lst (pa_cons (pv 1) (pa_cons (pv 1) pa_nil))) pa_nil))) (pv 0) (fun _ _ => rfl)))))
      <| pss_one (ps_ret (pv 1)), ?_⟩
    refine ⟨Nat.zero_le _, fun t nt => ?_⟩
    have s1 := same_upd (o := .tup []) nt
    refine ⟨60, rfl, by decide, by decide, ?_⟩
    refine for_it (walk_rg0 (n := 60)) (fun j σ H' => ∃ r v2, σ = [some (.int (i : Int)), some (.ref r), v2] ∧ Same H H' ∧ (0 < j → ∃ ys, (i = 0 ∧ H' r = some (.tup ys)) ∨ (i = 1 ∧ H' r = some (.lst ys)))) ⟨t, _, rfl, s1, fun z => absurd z (Nat.lt_irrefl _)⟩ (fun _ _ _ _ _ => trivial) ?_ ?_
    · rintro j y σ _ H2 hj ⟨r, v2, rfl, sm, _⟩ ⟨rfl, rfl⟩
      refine ⟨_, rfl, _, rfl, by show 2 ≤ sizeLine; decide, fun t2 n2 => ?_⟩
      have s2 := same_upd (o := .tup [V.ref r, V.ref r]) n2
      have ht : upd H2 t2 (.tup [V.ref r, V.ref r]) t2 = some (.tup [V.ref r, V.ref r]) := upd_same
      generalize upd H2 t2 (.tup [V.ref r, V.ref r]) = H3 at *
      refine ⟨_, rfl, _, rfl, by show 2 ≤ sizeLine; decide, fun l3 n3 => ?_⟩
      have s3 := same_upd (o := .lst [V.ref r, V.ref r]) n3
      have ht3 := s3 _ _ ht
      have hl3 : upd H3 l3 (.lst [V.ref r, V.ref r]) l3 = some (.lst [V.ref r, V.ref r]) := upd_same
      generalize upd H3 l3 (.lst [V.ref r, V.ref r]) = H4 at *
      refine ⟨by show 2 ≤ sizeLine; decide, fun l4 n4 => ?_⟩
      have s4 := same_upd (o := .lst [V.ref t2, V.ref l3]) n4
      have ht4 := s4 _ _ ht3
      have hl4 := s4 _ _ hl3
      have h4 : upd H4 l4 (.lst [V.ref t2, V.ref l3]) l4 = some (.lst [V.ref t2, V.ref l3]) := upd_same
      generalize upd H4 l4 (.lst [V.ref t2, V.ref l3]) = H5 at *
      have sm5 := ((sm.trans s2).trans s3).trans s4
      by_cases z : i = 0
      · subst z
        have a0 : atI [V.ref t2, V.ref l3] ((0 : Nat) : Int) = some (.ref t2) := atI_nat rfl
        exact ⟨_, rfl, l4, _, _, _, rfl, rfl, sl_of h4, a0, t2, _, rfl, sm5, fun _ => ⟨_, .inl ⟨rfl, ht4⟩⟩⟩
      · obtain rfl : i = 1 := by omega
        have a1 : atI [V.ref t2, V.ref l3] ((1 : Nat) : Int) = some (.ref l3) := atI_nat rfl
        exact ⟨_, rfl, l4, _, _, _, rfl, rfl, sl_of h4, a1, l3, _, rfl, sm5, fun _ => ⟨_, .inr ⟨rfl, hl4⟩⟩⟩
    · rintro σ H2 ⟨r, v2, rfl, sm, hg⟩
      exact ⟨_, rfl, q H2 r sm (hg (by decide))⟩
end
end Hw

namespace Hw
open PySem PySem.Spec PyProof.Rows L2
theorem y1 : ShY (d3 (.int (0 - 1))) := ⟨by decide +kernel, by decide +kernel, by decide +kernel⟩
theorem y2 (n : Nat) (h : n ≤ 12) : ShY (d3 (.int (n : Int))) := by
  have : n = 0 ∨ n = 1 ∨ n = 2 ∨ n = 3 ∨ n = 4 ∨ n = 5 ∨ n = 6 ∨ n = 7 ∨ n = 8 ∨ n = 9 ∨ n = 10 ∨ n = 11 ∨ n = 12 := by omega
  rcases this with rfl | rfl | rfl | rfl | rfl | rfl | rfl | rfl | rfl | rfl | rfl | rfl | rfl <;> exact ⟨by decide +kernel, by decide +kernel, by decide +kernel⟩
theorem y3 : ShY (d3 .none) := ⟨by decide +kernel, by decide +kernel, by decide +kernel⟩
theorem y4 (b : Bool) : ShY (d3 (.bool b)) := by cases b <;> exact ⟨by decide +kernel, by decide +kernel, by decide +kernel⟩
theorem y6 : ShY (d3 (.str "0")) := ⟨by decide +kernel, by decide +kernel, by decide +kernel⟩
theorem y7 : ShY (d3 (.tuple [.int 0])) := ⟨by decide +kernel, by decide +kernel, by decide +kernel⟩
theorem y8 : ShY (d3 (.list [.int 0])) := ⟨by decide +kernel, by decide +kernel, by decide +kernel⟩
theorem y9 : ShY (d3 (.dict [])) := ⟨by decide +kernel, by decide +kernel, by decide +kernel⟩
theorem y10 : ShY (d3 (.int (10 ^ 30))) := ⟨by decide +kernel, by decide +kernel, by decide +kernel⟩
end Hw

namespace Hw
open PySem PySem.Spec PyProof.Rows L2 ClX
theorem dp_same {K : PySem.W.Frag} {H H' : Hp} {a : Addr} (s : Same H H') {xs : List V} (h : H a = some (.lst xs) ∨ H a = some (.tup xs)) : H' a = some (.lst xs) ∨ H' a = some (.tup xs) := h.imp (s _ _) (s _ _)
def GoodAt (K : PySem.W.Frag) (H : Hp) (n : Nat) (v : V) : Prop := BadV K H n v ∧ ∃ d, (∀ H', Same H H' → Dy K H' v d) ∧ ShY (d3 d)
section
variable {P : Program} {w : World} {K : PySem.W.Frag} {mg : Str → Option Value} {base : Heap}
/-! ### refused_right -/
structure RfC (P : Program) (w : World) (K : PySem.W.Frag) (mg : Str → Option Value) (base : Heap) (C : Addr) : Prop where
  value : Cal P w K mg base "_law_value" 5 (spValue K C)
  doubled : Cal P w K mg base "_law_doubled" 1 spDoubled
def spRefused (C : Addr) : Sp := fun vs H Q _ => ∃ (x : Addr) (n : Nat) (es : List Ed), vs = [.ref x, .int (n : Int)] ∧ NetAt5 C H x n es ∧ CN n es ∧ n ≤ 12 ∧ es.length ≤ 16 ∧ ∀ H', Same H H' → Q (.bl true) H'
abbrev nRf : List Str := ["_law_net", "_law_many", "_law_box", "_law_odd", "_law_told"]
theorem scRefused : FnScope nRf ["_law_net", "_law_many"] (defScope sRefused) := ⟨rfl, rfl, rfl, by decide +kernel, rfl, by decide +kernel, by decide +kernel⟩
theorem cal_refused {C : Addr} (T : Txt mg) (G : RfC P w K mg base C) (D : Df K mg "_law_refused_right" sRefused ["_law_net", "_law_many"]) : CalG P w K mg base "_law_refused_right" 6 ["_law_net", "_law_many"] (spRefused C) := by
  have nd := scRefused.nd
  have GV := G.value
  refine calG_of D scRefused (fun vs H Q E h => ?_) (fun f cdv A outer s0 H vs Q E hg hr h => ?_)
  · obtain ⟨x, n, es, rfl, _⟩ := h
    rfl
  · obtain ⟨x, n, es, rfl, net, cn, hn, hl, q⟩ := h
    have hr1 := hr.mono (show 1 ≤ 5 by decide)
    have hu := hr.units
    refine ⟨_, pss_cons (ps_set (i := 2) nd rfl (.inl rfl) (pe_lst (pa_cons pe_str pa_nil)))
      <| pss_cons (ps_for PassesOwn.never rfl (pi_tup (pe_tup (pa_cons (pe_op op_sub pe_int pe_int) (pa_cons (pv 1) (pa_cons pe_non (pa_cons pe_bl (pa_cons pe_bl (pa_cons pe_str (pa_cons (pe_tup (pa_cons pe_int pa_nil)) (pa_cons (pe_lst (pa_cons pe_int pa_nil)) (pa_cons pe_dnewK (pa_cons (pe_op op_pow pe_int pe_int) pa_nil)))))))))))) (pg_name (i := 3) nd rfl (.inl rfl))
          (pss_cons (ps_set (i := 4) nd rfl (.inl rfl) (pe_lst (pa_cons (pe_cl GV hr (by rfl) (pa_cons (pv 0) (pa_cons (pv 3) (pa_cons pe_int pa_nil)))) (pa_cons (pe_cl GV hr (by rfl) (pa_cons (pv 0) (pa_cons pe_int (pa_cons (pv 3) pa_nil)))) (pa_cons (pe_cl GV hr (by rfl) (pa_cons (pv 0) (pa_cons (pv 3) (pa_cons pe_str pa_nil)))) pa_nil)))))
          <| pss_one (ps_if (pt_cmpR op_ne (pe_callB (cr_repr3 (hg.deeper _) hu) (by rfl) T.repr (by decide +kernel) (pa_cons (pv 4) pa_nil))
              (pe_callB (cr_repr3 (hg.deeper _) hu) (by rfl) T.repr (by decide +kernel) (pa_cons (pe_op op_rep (pe_lst (pa_cons (pe_lstB (pa_cons (pv 3) pa_nil)) pa_nil)) pe_int) pa_nil)) (nomark _)) (pss_one ps_never) pss_nil)))
      <| pss_cons (ps_set (i := 4) nd rfl (.inl rfl) (pe_lst (pa_cons (pe_cl GV hr (by rfl) (pa_cons (pv 0) (pa_cons (pv 2) (pa_cons pe_int pa_nil)))) (pa_cons (pe_cl GV hr (by rfl) (pa_cons (pv 0) (pa_cons pe_int (pa_cons (pv 2) pa_nil)))) pa_nil))))
      <| pss_cons (ps_expr (pe_bm PySem.F.plainAttrs_list PySem.F.slot_list_append PySem.F.type_list_append mt_append (pv 2) (pa_cons pe_str pa_nil)))
      <| pss_cons (ps_if (pt_cmpR (op_neD hu) (pv 4) (pe_op op_rep (pe_lst (pa_cons (pe_lst (pa_cons (pe_lst (pa_cons pe_str (pa_cons pe_str pa_nil))) pa_nil)) pa_nil)) pe_int) (nomark _)) (pss_one ps_never) pss_nil)
      <| pss_one (ps_ret (pe_cmpR (op_eqD hu) (pe_lst (pa_cons (pe_callB cr_len (by rfl) T.len PySem.boot_len (pa_cons (pe_cl GV hr (by rfl) (pa_cons (pv 0) (pa_cons (pe_cl G.doubled hr1 (by rfl) (pa_cons pe_int pa_nil)) (pa_cons pe_int pa_nil)))) pa_nil))
          (pa_cons (pe_callB cr_len (by rfl) T.len PySem.boot_len (pa_cons (pe_cl GV hr (by rfl) (pa_cons (pv 0) (pa_cons pe_int (pa_cons (pe_cl G.doubled hr1 (by rfl) (pa_cons pe_int pa_nil)) pa_nil)))) pa_nil)) pa_nil))) (pe_lst (pa_cons pe_int (pa_cons pe_int pa_nil))) (nomark _))), ?_⟩
    refine ⟨by show 1 ≤ sizeLine; decide, fun bx nbx => ?_⟩
    have s1 := same_upd (o := .lst [V.str "a"]) nbx
    have hbx1 : upd H bx (.lst [V.str "a"]) bx = some (.lst [V.str "a"]) := upd_same
    generalize upd H bx (.lst [V.str "a"]) = H1 at *
    refine ⟨_, _, rfl, rfl, _, rfl, by show 1 ≤ sizeLine; decide, fun t2 n2 => ?_⟩
    have s2 := same_upd (o := .tup [V.int 0]) n2
    have ht2 : upd H1 t2 (.tup [V.int 0]) t2 = some (.tup [V.int 0]) := upd_same
    generalize upd H1 t2 (.tup [V.int 0]) = H2 at *
    refine ⟨by show 1 ≤ sizeLine; decide, fun l3 n3 => ?_⟩
    have s3 := same_upd (o := .lst [V.int 0]) n3
    have hl3 : upd H2 l3 (.lst [V.int 0]) l3 = some (.lst [V.int 0]) := upd_same
    generalize upd H2 l3 (.lst [V.int 0]) = H3 at *
    refine fun d4 n4 => ?_
    have s4 := same_upd (o := .dK []) n4
    have hd4 : upd H3 d4 (.dK []) d4 = some (.dK []) := upd_same
    generalize upd H3 d4 (.dK []) = H4 at *
    refine ⟨_, _, rfl, rfl, ⟨by decide, by decide, by decide⟩, by show 10 ≤ sizeLine; decide, fun t5 n5 => ?_⟩
    have e30 : (10 : Int) ^ (30 : Int).toNat = 10 ^ 30 := rfl
    have s5 := same_upd (o := .tup [V.int (0 - 1), .int (n : Int), .non, .bl true, .bl false, .str "0", .ref t2, .ref l3, .ref d4, .int (10 ^ 30)]) n5
    have ht5 : upd H4 t5 (.tup [V.int (0 - 1), .int (n : Int), .non, .bl true, .bl false, .str "0", .ref t2, .ref l3, .ref d4, .int (10 ^ 30)]) t5 = some (.tup [V.int (0 - 1), .int (n : Int), .non, .bl true, .bl false, .str "0", .ref t2, .ref l3, .ref d4, .int (10 ^ 30)]) := upd_same
    have smT := (((s1.trans s2).trans s3).trans s4).trans s5
    have hbx5 := s5 _ _ (s4 _ _ (s3 _ _ (s2 _ _ hbx1)))
    have ht25 := s5 _ _ (s4 _ _ (s3 _ _ ht2))
    have hl35 := s5 _ _ (s4 _ _ hl3)
    have hd45 := s5 _ _ hd4
    obtain ⟨H5, eH5⟩ : ∃ H5, H5 = upd H4 t5 (.tup [V.int (0 - 1), .int (n : Int), .non, .bl true, .bl false, .str "0", .ref t2, .ref l3, .ref d4, .int (10 ^ 30)]) := ⟨_, rfl⟩
    rw [← eH5] at s5 ht5 smT hbx5 ht25 hl35 hd45
    have good : ∀ v ∈ [V.int (0 - 1), .int (n : Int), .non, .bl true, .bl false, .str "0", .ref t2, .ref l3, .ref d4, .int (10 ^ 30)], ∀ H', Same H5 H' → GoodAt K H' n v := fun v hv H' sm => by
      simp only [List.mem_cons, List.not_mem_nil, or_false] at hv
      rcases hv with rfl | rfl | rfl | rfl | rfl | rfl | rfl | rfl | rfl | rfl
      · exact ⟨.inl ⟨_, rfl, by omega⟩, _, fun _ _ => .inl ⟨.int _, rfl⟩, y1⟩
      · exact ⟨.inl ⟨_, rfl, by omega⟩, _, fun _ _ => .inl ⟨.int _, rfl⟩, y2 n hn⟩
      · exact ⟨.inr odd_non, _, fun _ _ => .inl ⟨.non, rfl⟩, y3⟩
      · exact ⟨.inr odd_bl, _, fun _ _ => .inl ⟨.bl _, rfl⟩, y4 _⟩
      · exact ⟨.inr odd_bl, _, fun _ _ => .inl ⟨.bl _, rfl⟩, y4 _⟩
      · exact ⟨.inr odd_str, _, fun _ _ => .inl ⟨.str _, rfl⟩, y6⟩
      · exact ⟨.inr (odd_tup (sm _ _ ht25)), _, fun _ z => .inl ⟨.tup (sq_of (z _ _ (sm _ _ ht25))) (.cons (.int 0) .nil), rfl⟩, y7⟩
      · exact ⟨.inr (odd_lst (sm _ _ hl35)), _, fun _ z => .inl ⟨.lst (sl_of (z _ _ (sm _ _ hl35))) (.cons (.int 0) .nil), rfl⟩, y8⟩
      · exact ⟨.inr (odd_dict (sm _ _ hd45)), _, fun _ z => .inr ⟨d4, rfl, z _ _ (sm _ _ hd45), rfl⟩, y9⟩
      · exact ⟨.inl ⟨_, rfl, by omega⟩, _, fun _ _ => .inl ⟨.int _, rfl⟩, y10⟩
    have n0 : 0 < n := cn.1
    refine ⟨t5, rfl, ⟨_, sq_of upd_same⟩, ?_⟩
    refine for_it (walk_tup (xs := [V.int (0 - 1), .int (n : Int), .non, .bl true, .bl false, .str "0", .ref t2, .ref l3, .ref d4, .int (10 ^ 30)])) (fun i σ H' => ∃ v3 v4, σ = [some (.ref x), some (.int (n : Int)), some (.ref bx), v3, v4] ∧ Same H5 H') ⟨none, none, rfl, by rw [eH5]; exact fun _ _ z => z⟩ (fun i σ H' _ ⟨_, _, _, z⟩ => sq_of (z _ _ ht5)) ?_ ?_
    · rintro i v σ _ H6 hi ⟨v3, v4, rfl, sm⟩ ⟨rfl, hv⟩
      have gv := good v (List.mem_of_getElem? hv)
      have gv2 : ∀ H', Same H5 H' → ∃ d, (∀ H'', Same H' H'' → Dy K H'' v d) ∧ ShY (d3 d) := fun H' z => (gv H' z).2
      clear good
      have net6 := net.same (smT.trans sm)
      refine ⟨_, rfl, _, rfl, x, v, .int 0, v, n, es, rfl, net6, cn, hn, hl, .inl ⟨(gv _ sm).1, rfl⟩, fun H7 b1 s7 nb1 mb1 hb1 => ?_⟩
      have sm7 := sm.trans s7
      refine ⟨_, rfl, _, rfl, x, .int 0, v, v, n, es, rfl, net.same (smT.trans sm7), cn, hn, hl, .inr ⟨0, rfl, n0, (gv _ sm7).1, rfl⟩, fun H8 b2 s8 nb2 mb2 hb2 => ?_⟩
      have sm8 := sm7.trans s8
      refine ⟨_, rfl, _, rfl, x, v, .str "goal", v, n, es, rfl, net.same (smT.trans sm8), cn, hn, hl, .inl ⟨(gv _ sm8).1, rfl⟩, fun H9 b3 s9 nb3 mb3 hb3 => ?_⟩
      have sm9 := sm8.trans s9
      refine ⟨by show 3 ≤ sizeLine; decide, fun ta na => ?_⟩
      have sA := same_upd (o := .lst [V.ref b1, V.ref b2, V.ref b3]) na
      have hta : upd H9 ta (.lst [V.ref b1, V.ref b2, V.ref b3]) ta = some (.lst [V.ref b1, V.ref b2, V.ref b3]) := upd_same
      have hb1A := sA _ _ (s9 _ _ (s8 _ _ hb1))
      have hb2A := sA _ _ (s9 _ _ hb2)
      have hb3A := sA _ _ hb3
      have smA := sm9.trans sA
      generalize upd H9 ta (.lst [V.ref b1, V.ref b2, V.ref b3]) = HA at *
      obtain ⟨dd, dyA, shy⟩ := gv2 HA smA
      refine ⟨_, rfl, ta, b1, b2, b3, v, dd, rfl, hta, hb1A, hb2A, hb3A, mb1, mb2, mb3, dyA HA (fun _ _ z => z), shy, ?_⟩
      refine ⟨_, rfl, by show 1 ≤ sizeLine; decide, fun c nc mc => ?_⟩
      have sB := same_upd (o := .lst [v]) nc
      have hcB : upd HA c (.lst [v]) c = some (.lst [v]) := upd_same
      generalize upd HA c (.lst [v]) = HB at *
      refine ⟨by show 1 ≤ sizeLine; decide, fun l0 nl0 => ?_⟩
      have sC := sB.trans (same_upd (o := .lst [V.ref c]) nl0)
      have hcC := same_upd (o := .lst [V.ref c]) nl0 _ _ hcB
      have hlC : upd HB l0 (.lst [V.ref c]) l0 = some (.lst [V.ref c]) := upd_same
      generalize upd HB l0 (.lst [V.ref c]) = HC at *
      refine ⟨l0, 3, _, rfl, rfl, hlC, by decide, by decide, by show 3 ≤ sizeLine; decide, fun l1 nl1 => ?_⟩
      have sD := sC.trans (same_upd (o := .lst (List.replicate (Int.toNat 3) [V.ref c]).flatten) nl1)
      have hcD := same_upd (o := .lst (List.replicate (Int.toNat 3) [V.ref c]).flatten) nl1 _ _ hcC
      have hlD : upd HC l1 (.lst (List.replicate (Int.toNat 3) [V.ref c]).flatten) l1 = some (.lst [V.ref c, V.ref c, V.ref c]) := upd_same
      generalize upd HC l1 (.lst (List.replicate (Int.toNat 3) [V.ref c]).flatten) = HD at *
      refine ⟨l1, c, c, c, v, dd, rfl, hlD, hcD, hcD, hcD, mc, mc, mc, dyA HD sD, shy, rfl, _, rfl, ?_⟩
      rw [show decide (V.str (d3 dd).shown = V.str (d3 dd).shown) = true from decide_eq_true rfl]
      exact iteF ⟨_, _, rfl, smA.trans sD⟩
    · rintro σ H6 ⟨v3, v4, rfl, sm⟩
      clear good
      have sm6 := smT.trans sm
      have hbx6 := sm _ _ hbx5
      clear eH5 hbx5 ht25 hl35 hd45 ht5 smT
      refine ⟨_, rfl, _, rfl, x, .ref bx, .int 0, .ref bx, n, es, rfl, net.same sm6, cn, hn, hl, .inl ⟨.inr (odd_lst hbx6), rfl⟩, fun H7 b1 s7 nb1 mb1 hb1 => ?_⟩
      have n1x : b1 ≠ bx := fun z => by rw [z, hbx6] at nb1; cases nb1
      have sm7 := sm6.trans s7
      have hbx7 := s7 _ _ hbx6
      refine ⟨_, rfl, _, rfl, x, .int 0, .ref bx, .ref bx, n, es, rfl, net.same sm7, cn, hn, hl, .inr ⟨0, rfl, n0, .inr (odd_lst hbx7), rfl⟩, fun H8 b2 s8 nb2 mb2 hb2 => ?_⟩
      have n2x : b2 ≠ bx := fun z => by rw [z, hbx7] at nb2; cases nb2
      have sm8 := sm7.trans s8
      have hbx8 := s8 _ _ hbx7
      have hb18 := s8 _ _ hb1
      refine ⟨by show 2 ≤ sizeLine; decide, fun ta na => ?_⟩
      have nax : ta ≠ bx := fun z => by rw [z, hbx8] at na; cases na
      have sm9 := sm8.trans (same_upd (o := .lst [V.ref b1, V.ref b2]) na)
      have hta9 : upd H8 ta (.lst [V.ref b1, V.ref b2]) ta = some (.lst [V.ref b1, V.ref b2]) := upd_same
      have hb19 := same_upd (o := .lst [V.ref b1, V.ref b2]) na _ _ hb18
      have hb29 := same_upd (o := .lst [V.ref b1, V.ref b2]) na _ _ hb2
      have hbx9 := same_upd (o := .lst [V.ref b1, V.ref b2]) na _ _ hbx8
      generalize upd H8 ta (.lst [V.ref b1, V.ref b2]) = H9 at *
      refine ⟨_, rfl, .inl ⟨rfl, _, sl_of hbx9⟩, bx, _, _, rfl, rfl, hbx9, by show 1 < sizeLine; decide, ?_⟩
      have smA : Same H (upd H9 bx (.lst ([V.str "a"] ++ [V.str "more"]))) := same_in sm9 nbx
      have htaA : upd H9 bx (.lst ([V.str "a"] ++ [V.str "more"])) ta = some (.lst [V.ref b1, V.ref b2]) := by rw [upd_ne nax]; exact hta9
      have hb1A : upd H9 bx (.lst ([V.str "a"] ++ [V.str "more"])) b1 = some (.lst [V.ref bx]) := by rw [upd_ne n1x]; exact hb19
      have hb2A : upd H9 bx (.lst ([V.str "a"] ++ [V.str "more"])) b2 = some (.lst [V.ref bx]) := by rw [upd_ne n2x]; exact hb29
      have hbxA : upd H9 bx (.lst ([V.str "a"] ++ [V.str "more"])) bx = some (.lst [V.str "a", V.str "more"]) := upd_same
      generalize upd H9 bx (.lst ([V.str "a"] ++ [V.str "more"])) = HA at *
      refine ⟨_, rfl, by show 2 ≤ sizeLine; decide, fun m1 nm1 => ?_⟩
      have sB := same_upd (o := .lst [V.str "a", V.str "more"]) nm1
      have hm1 : upd HA m1 (.lst [V.str "a", V.str "more"]) m1 = some (.lst [V.str "a", V.str "more"]) := upd_same
      generalize upd HA m1 (.lst [V.str "a", V.str "more"]) = HB at *
      refine ⟨by show 1 ≤ sizeLine; decide, fun m2 nm2 => ?_⟩
      have sC := sB.trans (same_upd (o := .lst [V.ref m1]) nm2)
      have hm1C := same_upd (o := .lst [V.ref m1]) nm2 _ _ hm1
      have hm2 : upd HB m2 (.lst [V.ref m1]) m2 = some (.lst [V.ref m1]) := upd_same
      generalize upd HB m2 (.lst [V.ref m1]) = HC at *
      refine ⟨by show 1 ≤ sizeLine; decide, fun m3 nm3 => ?_⟩
      have sD := sC.trans (same_upd (o := .lst [V.ref m2]) nm3)
      have hm1D := same_upd (o := .lst [V.ref m2]) nm3 _ _ hm1C
      have hm2D := same_upd (o := .lst [V.ref m2]) nm3 _ _ hm2
      have hm3 : upd HC m3 (.lst [V.ref m2]) m3 = some (.lst [V.ref m2]) := upd_same
      generalize upd HC m3 (.lst [V.ref m2]) = HD at *
      refine ⟨m3, 2, _, rfl, rfl, hm3, by decide, by decide, by show 2 ≤ sizeLine; decide, fun m4 nm4 => ?_⟩
      have sE := sD.trans (same_upd (o := .lst (List.replicate (Int.toNat 2) [V.ref m2]).flatten) nm4)
      have hm1E := same_upd (o := .lst (List.replicate (Int.toNat 2) [V.ref m2]).flatten) nm4 _ _ hm1D
      have hm2E := same_upd (o := .lst (List.replicate (Int.toNat 2) [V.ref m2]).flatten) nm4 _ _ hm2D
      have hm4 : upd HD m4 (.lst (List.replicate (Int.toNat 2) [V.ref m2]).flatten) m4 = some (.lst [V.ref m2, V.ref m2]) := upd_same
      generalize upd HD m4 (.lst (List.replicate (Int.toNat 2) [V.ref m2]).flatten) = HE at *
      have bxd : Dp K HE (.ref bx) (.list [.str "a", .str "more"]) := .lst (sl_of (sE _ _ hbxA)) (.cons (.str _) (.cons (.str _) .nil))
      have m1d : Dp K HE (.ref m1) (.list [.str "a", .str "more"]) := .lst (sl_of hm1E) (.cons (.str _) (.cons (.str _) .nil))
      have m2d : Dp K HE (.ref m2) (.list [.list [.str "a", .str "more"]]) := .lst (sl_of hm2E) (.cons m1d .nil)
      refine ⟨.list [.list [.list [.str "a", .str "more"]], .list [.list [.str "a", .str "more"]]], .list [.list [.list [.str "a", .str "more"]], .list [.list [.str "a", .str "more"]]],
        .lst (sl_of (sE _ _ htaA)) (.cons (.lst (sl_of (sE _ _ hb1A)) (.cons bxd .nil)) (.cons (.lst (sl_of (sE _ _ hb2A)) (.cons bxd .nil)) .nil)), .lst (sl_of hm4) (.cons m2d (.cons m2d .nil)), by decide +kernel, by decide +kernel, _, rfl, ?_⟩
      rw [show PyData.eqv (.list [.list [.list [.str "a", .str "more"]], .list [.list [.str "a", .str "more"]]]) (.list [.list [.list [.str "a", .str "more"]], .list [.list [.str "a", .str "more"]]]) = true by decide +kernel]
      refine iteF ?_
      have smE := smA.trans sE
      clear bxd m1d m2d
      refine ⟨_, rfl, 0, rfl, by decide, fun HF r1 sF hr1' => ?_⟩
      have smF := smE.trans sF
      have o1 : OddV K HF (.ref r1) := by
        obtain ⟨ys, ⟨_, z⟩ | ⟨z, _⟩⟩ := hr1'
        · exact odd_tup z
        · exact absurd z (by decide)
      refine ⟨x, .ref r1, .int 0, .ref r1, n, es, rfl, net.same smF, cn, hn, hl, .inl ⟨.inr o1, rfl⟩, fun HG b3 sG nb3 mb3 hb3 => ?_⟩
      have smG := smF.trans sG
      refine ⟨b3, _, rfl, .inl (sl_of hb3), ?_⟩
      refine ⟨_, rfl, 1, rfl, by decide, fun HI r2 sI hr2' => ?_⟩
      have smI := smG.trans sI
      have o2 : OddV K HI (.ref r2) := by
        obtain ⟨ys, ⟨z, _⟩ | ⟨_, z⟩⟩ := hr2'
        · exact absurd z (by decide)
        · exact odd_lst z
      refine ⟨x, .int 0, .ref r2, .ref r2, n, es, rfl, net.same smI, cn, hn, hl, .inr ⟨0, rfl, n0, .inr o2, rfl⟩, fun HJ b4 sJ nb4 mb4 hb4 => ?_⟩
      have smJ := smI.trans sJ
      refine ⟨b4, _, rfl, .inl (sl_of hb4), by show 2 ≤ sizeLine; decide, fun m5 nm5 => ?_⟩
      have smK := smJ.trans (same_upd (o := .lst [V.int 1, V.int 1]) nm5)
      have hm5 : upd HJ m5 (.lst [V.int 1, V.int 1]) m5 = some (.lst (([1, 1] : List Int).map V.int)) := upd_same
      refine ⟨by show 2 ≤ sizeLine; decide, fun m6 nm6 => ?_⟩
      have hm56 := same_upd (o := .lst [V.int 1, V.int 1]) nm6 _ _ hm5
      have hm6 : upd (upd HJ m5 (.lst [V.int 1, V.int 1])) m6 (.lst [V.int 1, V.int 1]) m6 = some (.lst (([1, 1] : List Int).map V.int)) := upd_same
      refine ⟨_, _, dp_li (sl_of hm56), dp_li (sl_of hm6), shaped_li _, shaped_li _, ?_⟩
      rw [eqv_li, decide_eq_true rfl]
      exact q _ (smK.trans (same_upd nm6))
end
end Hw

namespace Hw
open PySem PySem.Spec PyProof.Rows L2 ClX
theorem cn_one : CN 1 [] := by
  refine ⟨Nat.le_refl _, fun e m => ?_, fun v hv => ?_⟩
  · cases m
  · obtain rfl : v = 0 := by omega
    exact Rch.refl _
theorem CN.with {n : Nat} {es fs : List Ed} (h : CN n es) (hf : VE n fs) : CN n (es ++ fs) := ⟨h.1, h.2.1.app hf, fun v hv => (h.2.2 v hv).mono fun e m => List.mem_append_left _ m⟩
/-- passages from a place to the next -/
def nxE (p : List Nat) : List Ed := p.map fun i => (i, i + 1)
theorem nxE_snoc (p : List Nat) (i : Nat) : nxE (p ++ [i]) = nxE p ++ [(i, i + 1)] := by unfold nxE; rw [List.map_append]; rfl
theorem cn_path : CN 12 (nxE (List.range 11)) := by
  have h := cn_one.tree (fun i => i) 11 fun i _ => by omega
  have e : nxE (List.range 11) = [] ++ (List.range 11).map fun i => (i, 1 + i) := by
    unfold nxE
    rw [List.nil_append]
    exact List.map_congr_left fun i _ => by rw [Nat.add_comm]
  rw [e]
  exact h
theorem edl_nxt {H : Hp} {D t : Addr} {es : List Ed} {i : Nat} (h : EdL H D es) (nt : H t = none) : ∃ acc, upd H t (.tup [V.int (i : Int), V.int ((i : Int) + 1)]) D = some (.lst acc) ∧ acc.length = es.length ∧
    EdL (upd (upd H t (.tup [V.int (i : Int), V.int ((i : Int) + 1)])) D (.lst (acc ++ [V.ref t]))) D (es ++ [(i, i + 1)]) := by
  obtain ⟨ks, k1, k2, k3⟩ := h
  have s1 := same_upd (o := .tup [V.int (i : Int), V.int ((i : Int) + 1)]) nt
  have hD := s1 _ _ k1
  have ht : upd H t (.tup [V.int (i : Int), V.int ((i : Int) + 1)]) t = some (.tup (NV (pl (i, i + 1)))) := upd_same
  refine ⟨_, hD, by rw [nv_len, ed_len k2], ks ++ [(t, pl (i, i + 1))], ?_, ?_, fun k hk => ?_⟩
  · rw [upd_same, List.map_append]
    rfl
  · rw [List.map_append, k2, List.map_append]
    rfl
  · rcases List.mem_append.mp hk with m | m
    · exact tp_upd (s1 _ _ (k3 k m)) hD
    · rw [List.mem_singleton.mp m]
      exact tp_upd ht hD
section
variable {P : Program} {w : World} {K : PySem.W.Frag} {mg : Str → Option Value} {base : Heap}
def spLaw (K : PySem.W.Frag) : Sp := fun vs H Q _ => ∃ (a : Addr) (ns : List Int), vs = [.ref a] ∧ SqL K H a (ns.map V.int) ∧ ns.length ≤ 63 ∧ ∀ H', Q (.bl true) H'
abbrev nLaw : List Str := ["_law_script", "_law_m", "_law_again", "_law_many", "_law_ties_here", "_law_net", "_law_at"]
theorem scLaw : FnScope nLaw ["_law_script"] (defScope sLaw) := ⟨rfl, rfl, rfl, by decide +kernel, rfl, by decide +kernel, by decide +kernel⟩
structure LwC (P : Program) (w : World) (K : PySem.W.Frag) (mg : Str → Option Value) (base : Heap) (C CP : Addr) : Prop where
  net : NetOk5 P w K mg base C CP
  begun : Cal P w K mg base "_law_begun" 2 (spBegun K)
  draw : Cal P w K mg base "_law_draw" 2 spDraw
  ties : Cal P w K mg base "_law_ties" 5 spTies
  mixedUp : Cal P w K mg base "_law_mixed_up" 3 (spMixedUp K)
  right : CalG P w K mg base "_law_right" 5 ["_law_net", "_law_many", "_law_ties_here"] (spRight C)
  ref : CalG P w K mg base "_law_refused_right" 6 ["_law_net", "_law_many"] (spRefused C)
theorem ok_law {C CP : Addr} {f : Addr} {fd : FuncData} (T : Txt mg) (G : LwC P w K mg base C CP) (F : Fun K "law" "law" sLaw f fd) : FnG P w K mg base 9 f fd ["_law_script"] (spLaw K) := by
  have nd := scLaw.nd
  have W := G.net.way.mc
  have c := G.net.cl
  refine okG F scLaw (fun vs H Q E h => ?_) (fun cdv A outer s0 H vs Q E hg hr h => ?_)
  · obtain ⟨a, ns, rfl, _⟩ := h
    rfl
  · obtain ⟨a, ns, rfl, ha, hl, q⟩ := h
    have hr2 := hr.mono (show 2 ≤ 8 by decide)
    have hr3 := hr.mono (show 3 ≤ 8 by decide)
    have hr4 := hr.mono (show 4 ≤ 8 by decide)
    have hr5 := hr.mono (show 5 ≤ 8 by decide)
    have hr6 := hr.mono (show 6 ≤ 8 by decide)
    have hr7 := hr.mono (show 7 ≤ 8 by decide)
    have hu := hr.units
    refine ⟨_, pss_cons (ps_set (i := 1) nd rfl (.inl rfl) (pe_cl G.begun hr2 (by rfl) (pa_cons (pv 0) pa_nil)))
      <| pss_cons (ps_for PassesOwn.never rfl (pi_range1 (by rfl) T.range (pa_cons pe_int pa_nil)) (pg_name (i := 2) nd rfl (.inl rfl))
          (pss_cons (ps_asg (pe_cl G.ties hr5 (by rfl) (pa_cons (pv 1) (pa_cons (pe_op op_add pe_int (pe_cl G.draw hr2 (by rfl) (pa_cons (pv 1) (pa_cons pe_int pa_nil)))) (pa_cons (pe_cl G.draw hr2 (by rfl) (pa_cons (pv 1) (pa_cons pe_int pa_nil))) (pa_cons (pe_cl G.draw hr2 (by rfl) (pa_cons (pv 1) (pa_cons pe_int pa_nil))) pa_nil)))))
              (pg_tup rfl (pgs_cons (pg_name (i := 3) nd rfl (.inl rfl)) (pgs_cons (pg_name (i := 4) nd rfl (.inl rfl)) pgs_nil))))
          <| pss_cons (ps_set (i := 5) nd rfl (.inl rfl) (pe_net5 G.net hr7 (by rfl) (pa_cons (pv 3) (pa_cons (pv 4) pa_nil))))
          <| pss_one (ps_if (PW.pt (pw_or (pt_not (pt_val (pe_clG G.right (hg.deeper _) hr5 (by rfl) (pa_cons (pv 5) (pa_cons (pv 3) (pa_cons (pv 4) pa_nil)))))) (pw_or1 (pt_not (pt_val (pe_clG G.ref (hg.deeper _) hr6 (by rfl) (pa_cons (pv 5) (pa_cons (pv 3) pa_nil)))))))) (pss_one ps_never) pss_nil)))
      <| pss_cons (ps_set (i := 4) nd rfl (.inl rfl) (pe_op op_cat
          (pe_lc (own := [("_law_at", 6)]) (g := gName 6) (by rfl) nd (pi_range1 (by rfl) T.range (pa_cons pe_int pa_nil)) (blkOk_by (own := [("_law_at", 6)]) (N := nLaw) (sc := defScope sLaw) (by decide +kernel)) (fun _ _ _ _ _ => pg_name (i := 6) nd rfl (.inl rfl)) (fun _ _ _ _ _ => pts_nil)
            (fun _ _ _ _ _ => pe_tup (pa_cons (pv 6) (pa_cons (pe_op op_add (pv 6) pe_int) pa_nil))))
          (pe_lc (own := [("_law_at", 6)]) (g := gName 6) (by rfl) nd (pi_list (pe_slice sl_list (pe_cl G.mixedUp hr3 (by rfl) (pa_cons (pv 1) (pa_cons (pe_listRg (by rfl) (by rfl) T.list (prg_1 (by rfl) T.range pe_int)) pa_nil))) po_none (po_some pe_int)))
            (blkOk_by (own := [("_law_at", 6)]) (N := nLaw) (sc := defScope sLaw) (by decide +kernel)) (fun _ _ _ _ _ => pg_name (i := 6) nd rfl (.inl rfl)) (fun _ _ _ _ _ => pts_nil)
            (fun _ _ _ _ _ => pe_tup (pa_cons (pv 6) (pa_cons (pe_op op_add (pv 6) pe_int) pa_nil))))))
      <| pss_cons (ps_set (i := 4) nd rfl (.inl rfl) (pe_callTy call_tuple_of (by rfl) T.tuple (by decide +kernel) (pa_cons (pe_cl G.mixedUp hr3 (by rfl) (pa_cons (pv 1) (pa_cons (pv 4) pa_nil))) pa_nil)))
      <| pss_one (ps_ret (pe_and (pe_clG G.right (hg.deeper _) hr5 (by rfl) (pa_cons (pe_net5 G.net hr7 (by rfl) (pa_cons pe_int (pa_cons (pv 4) pa_nil))) (pa_cons pe_int (pa_cons (pv 4) pa_nil))))
          (pe_one (pe_cmpR (op_eqD hu) (pe_m0 W c hr4 (pe_net5 G.net hr7 (by rfl) (pa_cons pe_int (pa_cons (pe_tup pa_nil) pa_nil))) (pa_cons pe_int (pa_cons pe_int pa_nil))) (pe_tup pa_nil) (nomark _))))), ?_⟩
    refine ⟨_, rfl, a, ns, rfl, ha, hl, fun H1 m lg lc s1 M1 => ?_⟩
    refine ⟨5, rfl, by decide, by decide, ?_⟩
    refine for_it (walk_rg0 (n := 5)) (fun i σ H' => ∃ v2 v3 v4 v5 v6 s', σ = [some (.ref a), some (.ref m), v2, v3, v4, v5, v6] ∧ MOk H' m lg lc s' ∧ s' ≤ 400 * i) ⟨_, _, _, _, _, 0, rfl, M1, by omega⟩ (fun _ _ _ _ _ => trivial) ?_ ?_
    · rintro i y σ _ H2 hi ⟨v2, v3, v4, v5, v6, s, rfl, M, hs⟩ ⟨rfl, rfl⟩
      refine ⟨_, rfl, _, rfl, m, lg, lc, s, 3, rfl, M, by omega, by omega, by omega, fun H3 d1 hd1 kp3 M3 => ?_⟩
      refine ⟨_, _, rfl, rfl, _, rfl, m, lg, lc, s + 1, 3, rfl, M3, by omega, by omega, by omega, fun H4 d2 hd2 kp4 M4 => ?_⟩
      refine ⟨_, rfl, m, lg, lc, s + 2, 3, rfl, M4, by omega, by omega, by omega, fun H5 d3 hd3 kp5 M5 => ?_⟩
      have e1 : (1 : Int) + (d1 : Int) = ((1 + d1 : Nat) : Int) := by omega
      dsimp only
      rw [e1]
      refine ⟨m, lg, lc, s + 3, 1 + d1, d2, d3, rfl, M5, by omega, by omega, by omega, by omega, by omega, fun H6 t r n es s' cn hn hl' kp6 nt nr ht hr6 hs' M6 => ?_⟩
      refine ⟨t, _, rfl, sq_of ht, rfl, _, _, rfl, _, _, rfl, rfl, ?_⟩
      refine ⟨_, rfl, _, rfl, r, n, es, rfl, hr6, cn, hn, hl', fun H7 x s7 nx net => ?_⟩
      refine ⟨_, rfl, _, rfl, _, rfl, x, r, n, es, rfl, net, hr6.same s7, cn, hn, hl', fun H8 s8 => ⟨_, rfl, iteF ?_⟩⟩
      refine ⟨_, rfl, _, rfl, x, n, es, rfl, net.same s8, cn, hn, hl', fun H9 s9 => ⟨_, rfl, iteF ?_⟩⟩
      exact ⟨_, _, _, _, _, s', rfl, ((M6.same s7).same s8).same s9, by omega⟩
    · rintro σ H2 ⟨v2, v3, v4, v5, v6, s, rfl, M, hs⟩
      refine ⟨11, rfl, by decide, by decide, fun D nD => lc_it (walk_rg0 (n := 11)) (fun i H' => Same H2 H' ∧ EdL H' D (nxE (List.range i))) ⟨same_upd nD, [], upd_same, rfl, fun k hk => nomatch hk⟩ (fun _ _ _ _ => trivial) ?_ ?_⟩
      · rintro i x _ H3 hi ⟨sm, hE⟩ ⟨rfl, rfl⟩
        refine ⟨rfl, _, rfl, _, rfl, _, _, rfl, rfl, by show 2 ≤ sizeLine; decide, fun t nt => ?_⟩
        obtain ⟨acc, hA, al, hE2⟩ := edl_nxt (i := i) hE nt
        refine ⟨acc, hA, ?_, fun b o eb => ?_, ?_⟩
        · rw [al]
          unfold nxE
          rw [List.length_map, List.length_range]
          exact small1000 (by omega)
        · rw [upd_ne (ne_of_none eb nD)]
          exact same_upd nt _ _ (sm _ _ eb)
        · rw [List.range_succ, nxE_snoc]
          exact hE2
      · rintro H3 ⟨s3, hE3⟩
        have M3 := M.same s3
        have nDg := (M.new nD).1
        refine ⟨_, rfl, 11, rfl, RgOk.of_le (by decide) (by decide) (by decide) (by decide), fun l0 n0 => ?_⟩
        rw [show rgV 0 11 = NV (List.range 11) from NV_range 11]
        have s4 := same_upd (o := .lst (NV (List.range 11))) n0
        have hl0 : upd H3 l0 (.lst (NV (List.range 11))) l0 = some (.lst (NV (List.range 11))) := upd_same
        generalize upd H3 l0 (.lst (NV (List.range 11))) = H4 at *
        have M4 := M3.same s4
        have hE4 := hE3.same s4
        refine ⟨m, lg, lc, l0, s, NV (List.range 11), rfl, M4, .inl (sl_of hl0), by rw [NV_len, List.length_range]; decide, by rw [NV_len, List.length_range]; omega, fun H5 r ys hp kp5 nr hr' M5 => ?_⟩
        obtain ⟨p, rfl, pp⟩ := perm_NV hp
        rw [NV_len, List.length_range] at M5
        have hE5 := hE4.kp kp5 M4 nDg
        refine ⟨5, rfl, r, NV p, rfl, sl_of hr', fun l2 n2 => ?_⟩
        have ec : cutV (NV p) none (some 5) = NV (p.take 5) := by
          rw [show cutV (NV p) none (some 5) = (NV p).take 5 from cut_to (NV p) 5, NV_take]
        rw [ec]
        have s6 := same_upd (o := .lst (NV (p.take 5))) n2
        have hl2 : upd H5 l2 (.lst (NV (p.take 5))) l2 = some (.lst (NV (p.take 5))) := upd_same
        generalize upd H5 l2 (.lst (NV (p.take 5))) = H6 at *
        have M6 := M5.same s6
        have hE6 := hE5.same s6
        have p5 : ∀ x ∈ p.take 5, x < 11 := fun x hx => List.mem_range.mp (pp.mem_iff.mp (List.mem_of_mem_take hx))
        have l5 : (p.take 5).length ≤ 5 := by rw [List.length_take]; exact Nat.min_le_left _ _
        generalize p.take 5 = p5' at *
        refine ⟨l2, rfl, ⟨_, sl_of hl2⟩, fun D2 nD2 => lc_it (walk_list (xs := NV p5')) (fun i H' => Same H6 H' ∧ EdL H' D2 (nxE (p5'.take i))) ⟨same_upd nD2, [], upd_same, rfl, fun k hk => nomatch hk⟩ (fun i H' _ ⟨z, _⟩ => sl_of (z _ _ hl2)) ?_ ?_⟩
        · rintro i x _ H7 hi ⟨sm, hE⟩ ⟨rfl, hx⟩
          obtain ⟨o, ho, rfl⟩ := NV_get' hx
          refine ⟨rfl, _, rfl, _, rfl, _, _, rfl, rfl, by show 2 ≤ sizeLine; decide, fun t nt => ?_⟩
          obtain ⟨acc, hA, al, hE2⟩ := edl_nxt (i := o) hE nt
          refine ⟨acc, hA, ?_, fun b o' eb => ?_, ?_⟩
          · rw [al]
            unfold nxE
            rw [List.length_map, List.length_take]
            exact small1000 (by omega)
          · rw [upd_ne (ne_of_none eb nD2)]
            exact same_upd nt _ _ (sm _ _ eb)
          · rw [List.take_add_one, ho]
            show EdL _ D2 (nxE (p5'.take i ++ [o]))
            rw [nxE_snoc]
            exact hE2
        · rintro H7 ⟨s7, hE7⟩
          rw [NV_len, List.take_length] at hE7
          have M7 := M6.same s7
          have len1 : (nxE (List.range 11)).length = 11 := by unfold nxE; rw [List.length_map, List.length_range]
          have len2 : (nxE p5').length ≤ 5 := by unfold nxE; rw [List.length_map]; exact l5
          refine edl_cat (hE6.same s7) hE7 (by omega) fun l3 H8 nl3 x3 hl3 => ?_
          have M8 := M7.same x3
          have ve2 : VE 12 (nxE p5') := fun e he => by
            obtain ⟨x, hx, rfl⟩ := List.mem_map.mp he
            have := p5 x hx
            exact ⟨Nat.le_succ _, by show x + 1 < 12; omega⟩
          have cn0 := cn_path.with ve2
          have tl : (nxE (List.range 11) ++ nxE p5').length ≤ 16 := by rw [List.length_append]; omega
          generalize nxE (List.range 11) ++ nxE p5' = es0 at *
          obtain ⟨ks, k1, k2, k3⟩ := hl3
          have kl := ed_len k2
          refine ⟨_, rfl, _, rfl, m, lg, lc, l3, s + 11, _, rfl, M8, .inl (sl_of k1), by rw [nv_len]; omega, by rw [nv_len]; omega, fun H9 r9 ys hp9 kp9 nr9 hr9 M9 => ?_⟩
          obtain ⟨js, jp, rfl⟩ := perm_map_inv (fun k : Addr × List Nat => V.ref k.1) hp9 ks rfl
          obtain ⟨fs, fp, fe⟩ := perm_map_inv pl (jp.map (·.2)) es0 k2
          refine ⟨r9, _, rfl, .inl ⟨sl_of hr9, fun t nt => ?_⟩⟩
          have st := same_upd (o := .tup (js.map fun k => V.ref k.1)) nt
          have ed : EdT (upd H9 t (.tup (js.map fun k => V.ref k.1))) t fs := ⟨js, upd_same, fe, fun k hk => st _ _ (kp9.tup M8 (k3 k (jp.mem_iff.mp hk)))⟩
          have cn := cn0.perm fp
          have fl : fs.length ≤ 16 := by rw [fp.length_eq]; exact tl
          generalize upd H9 t (.tup (js.map fun k => V.ref k.1)) = H10 at *
          refine ⟨_, rfl, t, 12, fs, rfl, ed, cn, by decide, fl, fun H11 x s11 nx net => ?_⟩
          refine ⟨_, rfl, x, t, 12, fs, rfl, net, ed.same s11, cn, by decide, fl, fun H12 s12 => ⟨_, rfl, iteT ?_⟩⟩
          refine ⟨Nat.zero_le _, fun t0 nt0 => ?_⟩
          refine ⟨t0, 1, [], rfl, ⟨[], upd_same, rfl, fun k hk => nomatch hk⟩, cn_one, by decide, by decide, fun H13 x2 s13 nx2 net2 => ?_⟩
          obtain ⟨dx, fs', _, _, h1, _, _, _, h5, _, _⟩ := id net2
          refine ⟨x2, dx, fs', rfl, h1, h5 _ (by decide +kernel), x2, _, _, 1, [], rfl, net2, cn_one, by decide, by decide, .inl ⟨0, 0, rfl, rfl, by decide, by decide, fun H14 w4 s14 hw4 => ?_⟩⟩
          refine ⟨Nat.zero_le _, fun t5 nt5 => ?_⟩
          have hw5 := same_upd (o := .tup []) nt5 _ _ hw4
          have ht5 : Tp (upd H14 t5 (.tup [])) t5 [] := upd_same
          refine ⟨_, _, dp_tp hw5, dp_tp ht5, shaped_ti _, shaped_ti _, ?_⟩
          rw [eqv_tp, decide_eq_true (way_nil (dst_self cn_one (by decide)))]
          exact q _
end
end Hw

/-! The law's end for a promise that is kept where no repr is under way. -/
namespace Hw
open PySem PySem.Spec PyProof.Rows L2
section
variable {P : Program} {w : World} {K : PySem.W.Frag} {mg mb : Str → Option Value} {k : Nat} {fa a : Addr} {fd : FuncData} {x : Str} {sp : Sp} {st : Shared} {vs : List Value} {ns : List Int}
/-- what the law's call must end with -/
def EndOk (P : Program) (w : World) (fa a : Addr) (st : Shared) : Prop :=
  codeAny (model P w) callerA (.call (.ref fa) ⟨[.ref a], []⟩) (fun r s2 => r = .ok (.ret (.bool true)) ∧ OldK st.heap s2.heap ∧ s2.os = st.os ∧ AllBare s2.gens) st
theorem callerA_g : NoG callerA := rfl
/-- with a heap in which at most the script is told -/
theorem end_core (KX : K.In st.heap) (nsM : st.heap.Ns mainGlobals mg) (nsB : st.heap.Ns builtinsNs mb) (blt : ∀ y : Str, y ≠ "__name__" → mb y = bootBuiltins y) (lim : st.heap.NoLimit) (gen0 : st.gens = #[])
    (at_ : st.heap.get? a = some { cls := .type "list", data := .seq vs.toArray }) (rm : Room k callerA) (F : ∀ base : Heap, K.In base → base.Ns mainGlobals mg → FnG P w K mg base k fa fd [x] sp)
    (bnd : ∀ (s : Shared) (u : Value), BindsTo s fd ⟨[u], []⟩ [(x, u)]) {H : Hp} (only : Only H) (prom : sp [.ref a] H (fun v _ => v = .bl true) fun _ _ _ => False) (hok : HOk P w H st.heap)
    (one : ∀ b, H b ≠ none → b = a) (own : H a ≠ none → K.lookup a = none) : EndOk P w fa a st := by
  have free : ∀ b, b ≠ a → H b = none := fun b n => Classical.byContradiction fun q => n (one b q)
  have dictFree : ∀ (b : Addr) (o : Obj) (es : Array DictEntry) (ep : Nat), st.heap.get? b = some o → o.data = .dict es ep → H b = none := by
    intro b o es ep e d
    refine free b fun q => ?_
    subst q
    rw [at_] at e
    obtain rfl := Option.some.inj e
    exact nomatch d
  have nsT : ∀ (b : Addr) (m : Str → Option Value), st.heap.Ns b m → (hidT st.heap H).Ns b m := by
    rintro b m ⟨o, es, ep, e, d, r⟩
    exact ⟨o, es, ep, hidT_get e (dictFree b o es ep e d), d, r⟩
  have KT : K.In (hidT st.heap H) := by
    intro b o e
    refine hidT_get (KX b o e) (Classical.byContradiction fun q => ?_)
    obtain rfl := one b q
    rw [own q] at e
    cases e
  obtain ⟨mc, l1, l2⟩ := lim
  have md : Mod K mg (hidT st.heap H) := ⟨KT, nsT _ _ nsM, ⟨mb, nsT _ _ nsB, blt⟩, ⟨mc, nsT _ _ l1, l2⟩⟩
  have noFr : ∀ b : Addr, b ∉ frs ([] : List Env) := fun b z => by
    have z' : b ∈ ([] : List Addr) := z
    cases z'
  have e0 : Env0 P w K mg (hidT st.heap H) callerA [] st H :=
    { frames := rfl, mod := md, bs := fun b o e => of_hidT e, bsz := Nat.le_of_eq (hidT_size _ _), funs := trivial, frf := fun b z => absurd z (noFr b), hok := hok, bare := .of_eq gen0 }
  have go := F _ KT (nsT _ _ nsM) callerA callerA_g rm [] st H ⟨[.ref a], []⟩ [.ref a] [.ref a] _ _ e0 (bnd st (.ref a)) (.cons rfl .nil) prom
  refine codeAny_mono go fun r s2 h => ?_
  match r, h with
  | .error _, h => exact (h : False).elim
  | .ok .next, h => exact (h : False).elim
  | .ok .brk, h => exact (h : False).elim
  | .ok .cont, h => exact (h : False).elim
  | .ok (.ret u), h =>
    obtain ⟨v, H2, os, bare, un, hok2, rv, q⟩ := h
    obtain rfl : v = .bl true := q
    obtain rfl : u = Value.bool true := rv
    refine ⟨rfl, OldK.of_keep fun b o e => ?_, os, bare⟩
    rcases only b with z | ⟨ob, xs, z⟩
    · exact un.keep b o e z (noFr b) (by simp)
    · have e2 := (hok b _ z).1
      rw [e] at e2
      cases e2
      exact (hok2 b _ (un.frzs b _ _ z)).1
theorem end_call (KX : K.In st.heap) (nsM : st.heap.Ns mainGlobals mg) (nsB : st.heap.Ns builtinsNs mb) (blt : ∀ y : Str, y ≠ "__name__" → mb y = bootBuiltins y) (lim : st.heap.NoLimit) (gen0 : st.gens = #[])
    (at_ : st.heap.get? a = some { cls := .type "list", data := .seq vs.toArray }) (iA : IntsAre vs ns) (len : ns.length ≤ sizeLine) (rm : Room k callerA) (F : ∀ base : Heap, K.In base → base.Ns mainGlobals mg → FnG P w K mg base k fa fd [x] sp)
    (bnd : ∀ (s : Shared) (u : Value), BindsTo s fd ⟨[u], []⟩ [(x, u)]) (prom : ∀ H : Hp, Only H → SqL K H a (ns.map V.int) → sp [.ref a] H (fun v _ => v = .bl true) fun _ _ _ => False) : EndOk P w fa a st := by
  have rv := vals_ints iA
  cases hk : K.lookup a with
  | some o =>
    have e := KX a o hk
    rw [at_] at e
    obtain rfl := Option.some.inj e
    have em : Only (fun _ => none) := fun _ => .inl rfl
    have sq : SqL K (fun _ => none) a (ns.map V.int) := .inr ⟨_, vs.toArray, _, hk, rfl, rfl, rfl, by rw [List.size_toArray, iA.length]; exact len, by simpa using rv⟩
    exact end_core KX nsM nsB blt lim gen0 at_ rm F bnd em (prom _ em sq) (fun b u z => nomatch (show (none : Option HO) = some u from z)) (fun b z => absurd rfl z) fun z => absurd rfl z
  | none =>
    let H : Hp := fun b => if b = a then some (.frz { cls := .type "list", data := .seq vs.toArray } (.lst (ns.map V.int))) else none
    have Ha : H a = some (.frz { cls := .type "list", data := .seq vs.toArray } (.lst (ns.map V.int))) := if_pos rfl
    have Hn : ∀ b, b ≠ a → H b = none := fun b n => if_neg n
    have em : Only H := fun b => by
      by_cases z : b = a
      · subst z
        exact .inr ⟨_, _, Ha⟩
      · exact .inl (Hn b z)
    refine end_core KX nsM nsB blt lim gen0 at_ rm F bnd em (prom H em (.inl (.inr ⟨_, Ha⟩))) (fun b u z => ?_) (fun b z => Classical.byContradiction fun q => z (Hn b q)) fun _ => hk
    by_cases hb : b = a
    · subst hb
      rw [Ha] at z
      obtain rfl := Option.some.inj z
      exact ⟨at_, by rw [List.length_map]; exact len, vs, _, rv, at_⟩
    · rw [Hn b hb] at z
      cases z
end
theorem walk_G {l : PySem.W.OpenLaw} {n k : Nat} {q : Program} {loose : List Str} {XP : (Str → Option Value) → Heap → Prop} {YP : World → Heap → Prop} {d : DefRec} {K : Params → PySem.W.Frag} {sp : World → Sp} {x : Str}
    (most : l.most = some n) (le : n ≤ sizeLine) (df0 : d.params.defaults = []) (rm : Room k callerA) (hY : ∀ (w : World) (h : Heap), YP w h → (K w.params).In h)
    (F : ∀ (w : World) (mg : Str → Option Value) (fa : Addr) (h : Heap), (K w.params).In h → h.Ns mainGlobals mg → mg d.name = some (.ref fa) →
      ∃ fd : FuncData, (∀ (s : Shared) (u : Value), BindsTo s fd ⟨[u], []⟩ [(x, u)]) ∧ ∀ base : Heap, (K w.params).In base → base.Ns mainGlobals mg → FnG l.prog w (K w.params) mg base k fa fd [x] (sp w))
    (prom : ∀ (w : World) (H : Hp) (a : Addr) (ns : List Int), ns.length ≤ n → Only H → SqL (K w.params) H a (ns.map V.int) → sp w [.ref a] H (fun v _ => v = .bl true) fun _ _ _ => False) :
    PySem.W.WalkO q loose XP YP l.row.toRowW d [] (fun f vs => PySem.call f vs) :=
  Att.attach_call most df0 fun w _ s₁ mg _ fa _ _ _ _ a _ ns G Y _ _ _ hmg obj iA len g0 =>
    let ⟨_, bnd, hF⟩ := F w mg fa _ (hY w _ Y) G.T.g hmg
    end_call (hY w _ Y) G.T.g G.T.b G.T.builtins G.T.nolimit g0 obj iA (Nat.le_trans len le) rm hF bnd fun H hO hS => prom w H a ns len hO hS
end Hw

namespace Hw
open PySem PySem.Spec PyProof.Rows L2 ClX
theorem df_mk {K : PySem.W.Frag} {h : Heap} {mg : Str → Option Value} (X : K.In h) (G : h.Ns mainGlobals mg) {x : Str} {st : Stmt} {ps : List Str} {f : Addr} {oc : Value} {od an : Option Addr} {osl : Array (Option Value)} {kV doc pm cdv ct : Value}
    (a : PySem.W.nsIn K mainGlobals x = some (some (.ref f))) (l : K.lookup f = some ⟨oc, od, .func (PySem.W.fnOf x x (defArgs st) (defBody st) (defScope st) .none kV doc pm an cdv ct), osl⟩) (c : PySem.W.codeIn K cdv x = true) (k : PySem.W.keepIn K (.ref f) = true)
    (hb : ∀ (kV doc pm : Value) (an : Option Addr) (cdv ct : Value) (us : List Value), us.length = ps.length → bindArgs (PySem.W.fnOf x x (defArgs st) (defBody st) (defScope st) .none kV doc pm an cdv ct) ⟨us, []⟩ = pure (ps.zip us)) : Df K mg x st ps := by
  have F := fun_mk (st := st) l c k
  exact ⟨f, _, F, F.binds hb, PySem.W.mg_of X G a⟩
/-- a method, from what stands in the text -/
theorem dm_mk {K : PySem.W.Frag} {C f : Addr} {m qual : Str} {st : Stmt} {ps : List Str} {oc : Value} {od an : Option Addr} {osl : Array (Option Value)} {kV doc pm cdv ct : Value}
    (a : PySem.W.findIn K (.ref C) m = some (some (.ref f))) (i : PySem.W.isFn K (.ref f) = true) (l : K.lookup f = some ⟨oc, od, .func (PySem.W.fnOf m qual (defArgs st) (defBody st) (defScope st) .none kV doc pm an cdv ct), osl⟩) (c : PySem.W.codeIn K cdv qual = true) (k : PySem.W.keepIn K (.ref f) = true)
    (hb : ∀ (kV doc pm : Value) (an : Option Addr) (cdv ct : Value) (us : List Value), us.length = ps.length → bindArgs (PySem.W.fnOf m qual (defArgs st) (defBody st) (defScope st) .none kV doc pm an cdv ct) ⟨us, []⟩ = pure (ps.zip us)) : Dm K C m qual st ps := by
  have F := fun_mk (st := st) l c k
  exact ⟨f, _, F, F.binds hb, ⟨a, i, k⟩⟩
/-- all the defs of the text -/
structure Ds (K : PySem.W.Frag) (mg : Str → Option Value) : Prop where
  whole : Df K mg "is_whole" sWhole ["value"]
  index : Df K mg "is_index" sIndex ["value", "count"]
  isPassage : Df K mg "_is_passage" sIsPassage ["value", "places"]
  firstWrong : Df K mg "_first_wrong" sFirstWrong ["values", "places"]
  least : Df K mg "_least_joined" sLeast ["places", "passages"]
  conn : Df K mg "_is_connected" sConn ["places", "passages"]
  fault : Df K mg "_fault" sFault ["places", "passages"]
  bridges : Df K mg "_find_bridges" sBridges ["places", "passages"]
  cells : Df K mg "_find_cells" sCells ["places", "passages", "bridges"]
  exits : Df K mg "_find_exits" sExits ["places", "passages"]
  mixed : Df K mg "_law_mixed" sMixed ["_law_cell", "_law_n"]
  folded : Df K mg "_law_folded" sFolded ["_law_script"]
  draw : Df K mg "_law_draw" sDraw ["_law_m", "_law_top_here"]
  begun : Df K mg "_law_begun" sBegun ["_law_script"]
  mixedUp : Df K mg "_law_mixed_up" sMixedUp ["_law_m", "_law_things"]
  tie : Df K mg "_law_tie" sTie ["_law_one", "_law_far"]
  tree : Df K mg "_law_tree" sTree ["_law_m", "_law_many", "_law_low"]
  ring : Df K mg "_law_ring" sRing ["_law_spots"]
  core : Df K mg "_law_core" sCore ["_law_m"]
  shifted : Df K mg "_law_shifted" sShifted ["_law_ties_here", "_law_low", "_law_hinge"]
  top : Df K mg "_law_top" sTop ["_law_ties_here"]
  renamed : Df K mg "_law_renamed" sRenamed ["_law_m", "_law_many", "_law_ties_here"]
  ties : Df K mg "_law_ties" sTies ["_law_m", "_law_cores", "_law_tails", "_law_more"]
  doors : Df K mg "_law_doors" sDoors ["_law_ties_here", "_law_here"]
  doubled : Df K mg "_law_doubled" sDoubled ["_law_way"]
  spans : Df K mg "_law_spans" sSpans ["_law_many", "_law_ties_here", "_law_spot"]
  leastWay : Df K mg "_law_least_way" sLeastWay ["_law_ties_here", "_law_spans_here", "_law_here"]
  right : Df K mg "_law_right" sRight ["_law_net", "_law_many", "_law_ties_here"]
  value : Df K mg "_law_value" sValue ["_law_net", "_law_one_end", "_law_far"]
  refused : Df K mg "_law_refused_right" sRefused ["_law_net", "_law_many"]
/-- the methods -/
structure Ms (K : PySem.W.Frag) (C : Addr) : Prop where
  far : Dm K C "far_end" "Network.far_end" sFarEnd ["self", "passage", "place"]
  way : Dm K C "way" "Network.way" sWay ["self", "place", "goal"]
  check : Dm K C "_check_place" "Network._check_place" sCheck ["self", "value"]
  across : Dm K C "_across" "Network._across" sAcross ["self", "passage", "place"]
  dists : Dm K C "_distances_to" "Network._distances_to" sDists ["self", "goal"]
  near : Dm K C "_nearing_step" "Network._nearing_step" sNearing ["self", "place", "distances"]
/-- the class's own -/
structure NetD (K : PySem.W.Frag) (mg : Str → Option Value) (C : Addr) : Prop where
  N : NetC K mg C (.type "type")
  init : ∃ (f : Addr) (fd : FuncData), Mk K C f ∧ Fun K "__init__" "Network.__init__" sInit f fd ∧ L2.Binds K fd ["self", "places", "passages"] []
/-! ### the exception's own -/
abbrev sInitP : Stmt := inClass sPlaceE 0
theorem xs_place : XiS ["self", "value"] ["self", "value"] (defScope sInitP) :=
  ⟨rfl, rfl, rfl, by decide +kernel, rfl, by decide +kernel, by decide +kernel, by decide +kernel, rfl, rfl, ⟨rfl, rfl, by decide⟩⟩
section
variable {P : Program} {w : World} {K : PySem.W.Frag} {mg : Str → Option Value} {base : Heap}
theorem ok_place {C f cda cc : Addr} {fd : FuncData} (F : XiF P K mg C f fd "InvalidPlace.__init__" (defScope sInitP) (defBody sInitP) cda cc) (hno : PySem.W.findIn K (.ref C) "value" = some none) : FnOk P w K mg base CX0 1 f fd ["self", "value"] (spXi C "value") := by
  refine fn_super (k := 0) (ta := tCons (tC (.str "this is not such a place")) tNil) (pl := _) F xs_place (fun vs H Q E h => ?_) (fun A outer st H vs Q E hr h => ?_) (fun L => rfl) (fun L => rfl) (fun L => rfl) (fun L => rfl)
  · obtain ⟨a, v, rfl, _⟩ := h
    rfl
  · obtain ⟨a, v, rfl, hexo, q⟩ := h
    exact ⟨a, _, rfl, hexo, pa_cons pe_str pa_nil, ⟨rfl, by show 1 ≤ 1000; decide⟩, pss_one (ps_ost (pv 0) (pv 1)), _, rfl, _, rfl, a, C, rfl, F.low, hno, .inl ⟨hexo, fun dx ndx ne => q dx ndx ne⟩⟩
theorem lw_of {C CP : Addr} (T : Txt mg) (D : Ds K mg) (M : Ms K C) (N : NetD K mg C) (XP : Xc1 P w K mg base "InvalidPlace" CP "value") : LwC P w K mg base C CP := by
  have c1 : Cal P w K mg base "is_whole" 1 spWhole := cal_whole T D.whole
  have c2 : Cal P w K mg base "is_index" 2 spIndex := cal_index T c1 D.index
  have c1' : Cal P w K mg base "is_whole" 1 (spWhole5 K) := cal_whole5 T D.whole
  have c2' : Cal P w K mg base "is_index" 2 (spIndex5 K) := cal_index5 T c1' D.index
  have c3 : Cal P w K mg base "_is_passage" 3 spIsPassage := cal_isPassage T c2 D.isPassage
  have c4 : Cal P w K mg base "_first_wrong" 4 spFirstWrong := cal_firstWrong T c3 D.firstWrong
  have c5 : Cal P w K mg base "_least_joined" 1 spLeast := cal_least T D.least
  have c6 : Cal P w K mg base "_is_connected" 2 spConn := cal_conn T c5 D.conn
  have c7 : Cal P w K mg base "_fault" 5 spFault := cal_fault T N.N c1 c4 c6 D.fault
  have c8 : Cal P w K mg base "_find_bridges" 3 spBridges := cal_bridges T c6 D.bridges
  have c9 : Cal P w K mg base "_find_cells" 2 spCells := cal_cells T c5 D.cells
  have c10 : Cal P w K mg base "_find_exits" 1 spExits5 := cal_exits5 T D.exits
  have NF : NetF P w K mg base := ⟨c7, c8, c9, c10⟩
  obtain ⟨f, fd, Mk1, F, b⟩ := N.init
  have ma : MC P w K mg base CX0 C "_across" 1 (spAcross C) := mc_across T N.N M.across
  have mf : MC P w K mg base CX0 C "far_end" 3 (spFar C) := mc_far T N.N c2 c1 ma M.far
  have mw : MF P w K mg base (L2.CX P w) C "way" "Network.way" sWay ["self", "place", "goal"] 4 (spWay K C CP) := mf_way T N.N ⟨mc_check T N.N XP c2' M.check, ma, mc_dists T N.N ma M.dists, mc_near T N.N ma M.near⟩ M.way
  have NO : NetOk5 P w K mg base C CP := ⟨N.N.cl, N.N.gC, ⟨f, fd, Mk1, ok_init5 T N.N NF F, b⟩, mw, mf, XP⟩
  have mx : Cal P w K mg base "_law_mixed" 1 spMixed := cal_mixed D.mixed
  have fo : Cal P w K mg base "_law_folded" 1 (spFolded K) := cal_folded T D.folded
  have dr : Cal P w K mg base "_law_draw" 2 spDraw := cal_draw T mx D.draw
  have bg : Cal P w K mg base "_law_begun" 2 (spBegun K) := cal_begun T fo D.begun
  have mu : Cal P w K mg base "_law_mixed_up" 3 (spMixedUp K) := cal_mixedUp T dr D.mixedUp
  have ti : Cal P w K mg base "_law_tie" 1 spTie := cal_tie T D.tie
  have tr : Cal P w K mg base "_law_tree" 3 spTree := cal_tree T ti dr D.tree
  have ri : Cal P w K mg base "_law_ring" 2 (spRing K) := cal_ring T ti D.ring
  have co : Cal P w K mg base "_law_core" 3 spCore := cal_core T dr ri D.core
  have sh : Cal P w K mg base "_law_shifted" 2 spShifted := cal_shifted T ti D.shifted
  have tp : Cal P w K mg base "_law_top" 1 spTop := cal_top T D.top
  have rn : Cal P w K mg base "_law_renamed" 4 spRenamed := cal_renamed T ti mu D.renamed
  have ts : Cal P w K mg base "_law_ties" 5 spTies := cal_ties T ⟨ti, dr, tp, co, sh, tr, rn⟩ D.ties
  have ds : Cal P w K mg base "_law_doors" 1 spDoors := cal_doors T D.doors
  have db : Cal P w K mg base "_law_doubled" 1 spDoubled := cal_doubled T D.doubled
  have sp : Cal P w K mg base "_law_spans" 1 spSpans := cal_spans T D.spans
  have lw : Cal P w K mg base "_law_least_way" 2 spLw := cal_lw T ds D.leastWay
  have va : Cal P w K mg base "_law_value" 5 (spValue K C) := cal_value T NO D.value
  exact ⟨NO, bg, dr, ts, mu, cal_right T ⟨NO, sp, lw⟩ D.right, cal_refused T ⟨va, db⟩ D.refused⟩
end
/-- what the text says of the exception -/
structure XpD (P : Program) (K : PySem.W.Frag) (mg : Str → Option Value) (C : Addr) : Prop where
  gC : mg "InvalidPlace" = some (.ref C)
  ex : ∃ (f cda cc : Addr) (fd : FuncData), PySem.W.findIn K (.ref C) "__init__" = some (some (.ref f)) ∧ PySem.W.typeIn K (.ref f) = some (.type "function") ∧ XiF P K mg C f fd "InvalidPlace.__init__" (defScope sInitP) (defBody sInitP) cda cc ∧ L2.Binds K fd ["self", "value"] []
  xf : XfC K C
  noF : PySem.W.findIn K (.ref C) "value" = some none
  te : PySem.W.exmOne K (.ref C) (.ref C) = some true
theorem XpD.xc {P : Program} {w : World} {K : PySem.W.Frag} {mg : Str → Option Value} {base : Heap} {C : Addr} (x : XpD P K mg C) : Xc1 P w K mg base "InvalidPlace" C "value" := by
  obtain ⟨f, cda, cc, fd, h1, h2, F, b⟩ := x.ex
  exact ⟨x.gC, F.low, ⟨f, fd, _, h1, h2, ok_place F x.noF, b⟩, x.xf, x.noF, x.te⟩
theorem law_mk {l : PySem.W.OpenLaw} {w : World} {K : PySem.W.Frag} {h : Heap} {mg : Str → Option Value} {fa f : Addr} {C CP : Addr} (X : K.In h) (G : h.Ns mainGlobals mg) (hfa : mg "law" = some (.ref fa)) {oc : Value} {od an : Option Addr} {osl : Array (Option Value)} {kV doc pm cdv ct : Value}
    (a : PySem.W.nsIn K mainGlobals "law" = some (some (.ref f))) (l1 : K.lookup f = some ⟨oc, od, .func (PySem.W.fnOf "law" "law" (defArgs sLaw) (defBody sLaw) (defScope sLaw) .none kV doc pm an cdv ct), osl⟩) (c : PySem.W.codeIn K cdv "law" = true) (k : PySem.W.keepIn K (.ref f) = true)
    (T : Txt mg) (N : NetD K mg C) (M : Ms K C) (XP : XpD l.prog K mg CP) (D : Ds K mg) :
    ∃ fd : FuncData, (∀ (s : Shared) (v : Value), BindsTo s fd ⟨[v], []⟩ [("_law_script", v)]) ∧ ∀ base : Heap, K.In base → base.Ns mainGlobals mg → FnG l.prog w K mg base 9 fa fd ["_law_script"] (spLaw K) := by
  have e := hfa.symm.trans (PySem.W.mg_of X G a)
  cases e
  exact ⟨_, fun s v => .of_eq rfl, fun base _ _ => ok_law T (lw_of T D M N XP.xc) (fun_mk (st := sLaw) l1 c k)⟩
/-- the class, from what stands in the text -/
theorem netd_mk {K : PySem.W.Frag} {h : Heap} {mg : Str → Option Value} (X : K.In h) (G : h.Ns mainGlobals mg) {C f : Addr} {t1 t2 : Tok}
    {oc : Value} {od an : Option Addr} {osl : Array (Option Value)} {kV doc pm cdv ct : Value}
    (a : PySem.W.nsIn K mainGlobals "Network" = some (some (.ref C)))
    (rd : PySem.W.readsIn K C (.type "type") = true) (ga : PySem.W.specialIn K (.ref C) "__getattribute__" = some (some (.builtin "type.__getattribute__")))
    (mp : PySem.W.findCls K (.ref C) (.type "type") "MAX_PLACES" = some (.val (.int 12 t1))) (ms : PySem.W.findCls K (.ref C) (.type "type") "MAX_PASSAGES" = some (.val (.int 16 t2)))
    (pg : PySem.W.plainGet K C Str.empty = true) (hd : PySem.W.hasDictIn K C = true) (po : PySem.W.plainOver K C = true) (sa : PySem.W.findIn K (.ref C) "__setattr__" = some (some (.builtin "object.__setattr__")))
    (n1 : PySem.W.findIn K (.ref C) "_places" = some none) (n2 : PySem.W.findIn K (.ref C) "_passages" = some none) (n3 : PySem.W.findIn K (.ref C) "_start" = some none)
    (n4 : PySem.W.findIn K (.ref C) "_bridges" = some none) (n5 : PySem.W.findIn K (.ref C) "_cells" = some none) (n6 : PySem.W.findIn K (.ref C) "_exits" = some none)
    (m1 : PySem.W.makesIn K C = true) (m2 : PySem.W.findIn K (.ref C) "__init__" = some (some (.ref f))) (m3 : PySem.W.isFn K (.ref f) = true) (m4 : PySem.W.keepIn K (.ref C) = true)
    (l1 : K.lookup f = some ⟨oc, od, .func (PySem.W.fnOf "__init__" "Network.__init__" (defArgs sInit) (defBody sInit) (defScope sInit) .none kV doc pm an cdv ct), osl⟩) (c1 : PySem.W.codeIn K cdv "Network.__init__" = true) (k1 : PySem.W.keepIn K (.ref f) = true) : NetD K mg C := by
  have F1 := fun_mk (st := sInit) l1 c1 k1
  refine ⟨⟨PySem.W.mg_of X G a, ⟨rd, ga⟩, ⟨_, mp, ⟨_, rfl⟩⟩, ⟨_, ms, ⟨_, rfl⟩⟩, ⟨pg, hd, po, sa⟩, n1, n2, n3, n4, n5, n6⟩, ⟨f, _, ⟨m1, m2, m3, m4⟩, F1, F1.binds fun _ _ _ _ _ _ us hl => ?_⟩⟩
  exact match us, hl with | [_, _, _], _ => rfl
theorem exm_own {K : PySem.W.Frag} {C : Addr} (h1 : PySem.W.subIn K (.ref C) (.type "BaseException") = some true) (h2 : PySem.W.isClsIn K C = true) (h3 : PySem.W.typeIn K (.ref C) = some (.type "type")) (h4 : PySem.W.subIn K (.ref C) (.ref C) = some true) : PySem.W.exmOne K (.ref C) (.ref C) = some true := by
  have x1 : (PySem.W.subIn K (.ref C) (.type "BaseException") == some true) = true := beq_iff_eq.mpr h1
  have c : (PySem.W.clsIn K C).isSome = true := h2
  have x2 : ((PySem.W.clsIn K C).isSome && PySem.W.typeIn K (.ref C) == some (.type "type")) = true := by
    rw [c, Bool.true_and]
    exact beq_iff_eq.mpr h3
  have x3 : PySem.W.kitCls K (.ref C) (.ref C) = some true := by
    unfold PySem.W.kitCls
    simp only [x2, if_true]
    exact h4
  unfold PySem.W.exmOne
  simp only [x1, if_true]
  exact x3
theorem xp_mk {P : Program} {K : PySem.W.Frag} {h : Heap} {mg : Str → Option Value} (X : K.In h) (G : h.Ns mainGlobals mg) {C f cda cc N0 : Addr} {nm q : Str} {bs bm : List Value} {sn : List Str} {sub : List Value} {ab : Bool} {col : Option Bool} {dd : Option Addr} {m0 m1 m2 m3 m5 : Option Value}
    {oc : Value} {od an : Option Addr} {osl : Array (Option Value)} {kV doc pm ct : Value} {ccl : Value} {cdd : Option Addr} {fv : Array Value} {ccs : Array (Option Value)} {file : Str} {tf : Tok} {ecl : Value} {eld : Option Addr} {esl : Array (Option Value)}
    (a : PySem.W.nsIn K mainGlobals "InvalidPlace" = some (some (.ref C)))
    (xL : K.lookup C = some (excClassObj nm q C N0 bs bm true sn sub ab col dd m0 m1 m2 m3 m5 "ValueError.__new__")) (vE : PySem.HandSPX.refsVE bm = true)
    (sa : PySem.W.findIn K (.ref C) "__setattr__" = some (some (.builtin "object.__setattr__"))) (ex : PySem.W.subIn K (.ref C) (.type "BaseException") = some true) (ty : PySem.W.typeIn K (.ref C) = some (.type "type")) (kC : PySem.W.keepIn K (.ref C) = true)
    (ini : PySem.W.findIn K (.ref C) "__init__" = some (some (.ref f))) (ti : PySem.W.typeIn K (.ref f) = some (.type "function"))
    (lk : K.lookup f = some ⟨oc, od, .func (PySem.W.ksFn "__init__" "InvalidPlace.__init__" (defArgs sInitP) (defBody sInitP) (defScope sInitP) .none kV doc pm an (.ref cda) ct cc), osl⟩) (cd : PySem.W.codeIn K (.ref cda) "InvalidPlace.__init__" = true)
    (fi : K.lookup cda = some ⟨ccl, cdd, .fields fv, ccs⟩) (fv2 : fv[2]? = some (.str file tf)) (ff : ((P.main.file : Str) == file) = true)
    (cl : K.lookup cc = some ⟨ecl, eld, .cell (some (.ref C)), esl⟩) (su : PySem.W.mroIn K C (.ref C) = some true) (op : PySem.W.nsIn K PySem.cStatics "thirdparty.any" = some none)
    (sp : PySem.W.ks_superIn K C C "__init__" = some (some (.builtin "ValueError.__init__"))) (isV : PySem.W.subIn K (.ref C) (.type "ValueError") = some true) (noS : mg "super" = none) (tp : (P.main.scope.names.lookup ("super" : Str)).isSome = false)
    (ga : PySem.W.findIn K (.ref C) "__getattribute__" = some (some (.builtin "BaseException.__getattribute__"))) (gg : PySem.W.findIn K (.ref C) "__getattr__" = some none) (hdC : PySem.W.hasDictIn K C = true) (no : PySem.W.findIn K (.ref C) "value" = some none)
    (se : PySem.W.subIn K (.ref C) (.ref C) = some true) (ic : PySem.W.isClsIn K C = true) : XpD P K mg C := by
  refine ⟨PySem.W.mg_of X G a, ⟨f, cda, cc, _, ini, ti, ⟨⟨⟨nm, q, N0, bs, bm, sn, sub, ab, col, dd, m0, m1, m2, m3, m5, xL, vE⟩, sa, ex, ty, kC⟩, ⟨defArgs sInitP, .none, kV, doc, pm, an, ct, _, rfl, rfl, rfl⟩, ⟨oc, od, osl, lk⟩, cd, ⟨ccl, cdd, fv, ccs, file, tf, fi, fv2, ff⟩, ⟨ecl, eld, esl, cl⟩, su, op, sp, isV, noS, tp⟩, ?_⟩, ⟨ga, gg, ex, hdC⟩, no, exm_own ex ic ty se⟩
  exact L2.Binds.all fun us hl => match us, hl with | [_, _], _ => rfl
end Hw

open PySem PySem.W PyProof.Rows
set_option maxHeartbeats 0 in
theorem PySem.Challenge.cw_handwalk_k05_ways_holds : PySem.Challenge.rw_handwalk_k05_ways.Holds := by
  w_on; o_law; k_head; (case hw => w_witness2)
  k_fill
  refine Hw.walk_G (l := PySem.Challenge.rw_handwalk_k05_ways) (n := 63) (k := 9) (x := "_law_script") (sp := fun w => Hw.spLaw _) rfl (by decide) rfl ⟨rfl, by decide, by decide⟩ (fun w h Y => PySem.W.kIn_of Y) ?F (fun _ _ a ns hl _ hS => ⟨a, ns, rfl, hS, hl, fun _ => rfl⟩)
  case F =>
    intro w mg fa h KX G hmg
    refine' Hw.law_mk KX G hmg ?a1 ?l1 ?c1 ?k1 ?T ?netd ?meths ?xp ?D
    (case a1 => k_is); (case l1 => k_is); (case c1 => k_is); (case k1 => k_is)
    case T =>
      refine' ⟨PySem.W.mg_none_of KX G ?z1, PySem.W.mg_none_of KX G ?z2, PySem.W.mg_none_of KX G ?z3, PySem.W.mg_none_of KX G ?z4, PySem.W.mg_none_of KX G ?z5, PySem.W.mg_none_of KX G ?z6, PySem.W.mg_none_of KX G ?z7, PySem.W.mg_none_of KX G ?z8, PySem.W.mg_none_of KX G ?z9, PySem.W.mg_none_of KX G ?z10, PySem.W.mg_none_of KX G ?z11, PySem.W.mg_none_of KX G ?z12, PySem.W.mg_none_of KX G ?z13, PySem.W.mg_none_of KX G ?z14, PySem.W.mg_none_of KX G ?z15⟩
      all_goals k_is
    case netd =>
      refine' Hw.netd_mk KX G ?na ?nrd ?nga ?nmp ?nms ?npg ?nhd ?npo ?nsa ?nn1 ?nn2 ?nn3 ?nn4 ?nn5 ?nn6 ?nm1 ?nm2 ?nm3 ?nm4 ?nl1 ?nc1 ?nk1
      (case na => k_is)
      (case nrd => k_is)
      (case nga => k_is)
      (case nmp => k_is)
      (case nms => k_is)
      (case npg => k_is)
      (case nhd => k_is)
      (case npo => k_is)
      (case nsa => k_is)
      (case nn1 => k_is)
      (case nn2 => k_is)
      (case nn3 => k_is)
      (case nn4 => k_is)
      (case nn5 => k_is)
      (case nn6 => k_is)
      (case nm1 => k_is)
      (case nm2 => k_is)
      (case nm3 => k_is)
      (case nm4 => k_is)
      (case nl1 => k_is)
      (case nc1 => k_is)
      (case nk1 => k_is)
    case meths =>
      refine' ⟨Hw.dm_mk ?ma1 ?mi1 ?ml1 ?mc1 ?mk1 ?mb1, Hw.dm_mk ?ma2 ?mi2 ?ml2 ?mc2 ?mk2 ?mb2, Hw.dm_mk ?ma3 ?mi3 ?ml3 ?mc3 ?mk3 ?mb3, Hw.dm_mk ?ma4 ?mi4 ?ml4 ?mc4 ?mk4 ?mb4, Hw.dm_mk ?ma5 ?mi5 ?ml5 ?mc5 ?mk5 ?mb5, Hw.dm_mk ?ma6 ?mi6 ?ml6 ?mc6 ?mk6 ?mb6⟩
      (case ma1 => k_is); (case mi1 => k_is); (case ml1 => k_is); (case mc1 => k_is); (case mk1 => k_is); (case mb1 => exact fun _ _ _ _ _ _ us hl => match us, hl with | [_, _, _], _ => rfl)
      (case ma2 => k_is); (case mi2 => k_is); (case ml2 => k_is); (case mc2 => k_is); (case mk2 => k_is); (case mb2 => exact fun _ _ _ _ _ _ us hl => match us, hl with | [_, _, _], _ => rfl)
      (case ma3 => k_is); (case mi3 => k_is); (case ml3 => k_is); (case mc3 => k_is); (case mk3 => k_is); (case mb3 => exact fun _ _ _ _ _ _ us hl => match us, hl with | [_, _], _ => rfl)
      (case ma4 => k_is); (case mi4 => k_is); (case ml4 => k_is); (case mc4 => k_is); (case mk4 => k_is); (case mb4 => exact fun _ _ _ _ _ _ us hl => match us, hl with | [_, _, _], _ => rfl)
      (case ma5 => k_is); (case mi5 => k_is); (case ml5 => k_is); (case mc5 => k_is); (case mk5 => k_is); (case mb5 => exact fun _ _ _ _ _ _ us hl => match us, hl with | [_, _], _ => rfl)
      (case ma6 => k_is); (case mi6 => k_is); (case ml6 => k_is); (case mc6 => k_is); (case mk6 => k_is); (case mb6 => exact fun _ _ _ _ _ _ us hl => match us, hl with | [_, _, _], _ => rfl)
    case xp =>
      refine' Hw.xp_mk KX G ?xa ?xL ?xvE ?xsa ?xex ?xty ?xkC ?xin ?xti ?xlk ?xcd ?xfi ?xfv ?xff ?xcl ?xsu ?xop ?xsp ?xis ?xns ?xtp ?xga ?xgg ?xhd ?xno ?xse ?xic
      (case xa => k_is)
      (case xL => k_is)
      (case xvE => decide +kernel)
      (case xsa => k_is)
      (case xex => k_is)
      (case xty => k_is)
      (case xkC => k_is)
      (case xin => k_is)
      (case xti => k_is)
      (case xlk => k_is)
      (case xcd => k_is)
      (case xfi => k_is)
      (case xfv => rfl)
      (case xff => first | rfl | decide +kernel)
      (case xcl => k_is)
      (case xsu => k_is)
      (case xop => k_is)
      (case xsp => ks_is)
      (case xis => k_is)
      (case xns => exact PySem.W.mg_none_of KX G (by k_is))
      (case xtp => first | rfl | decide +kernel)
      (case xga => k_is)
      (case xgg => k_is)
      (case xhd => k_is)
      (case xno => k_is)
      (case xse => k_is)
      (case xic => k_is)
    case D =>
      refine' ⟨Hw.df_mk KX G ?a2 ?l2 ?c2 ?k2 ?b2, Hw.df_mk KX G ?a3 ?l3 ?c3 ?k3 ?b3, Hw.df_mk KX G ?a4 ?l4 ?c4 ?k4 ?b4, Hw.df_mk KX G ?a5 ?l5 ?c5 ?k5 ?b5, Hw.df_mk KX G ?a6 ?l6 ?c6 ?k6 ?b6, Hw.df_mk KX G ?a7 ?l7 ?c7 ?k7 ?b7, Hw.df_mk KX G ?a8 ?l8 ?c8 ?k8 ?b8, Hw.df_mk KX G ?a9 ?l9 ?c9 ?k9 ?b9, Hw.df_mk KX G ?a10 ?l10 ?c10 ?k10 ?b10, Hw.df_mk KX G ?a11 ?l11 ?c11 ?k11 ?b11, Hw.df_mk KX G ?a12 ?l12 ?c12 ?k12 ?b12, Hw.df_mk KX G ?a13 ?l13 ?c13 ?k13 ?b13, Hw.df_mk KX G ?a14 ?l14 ?c14 ?k14 ?b14, Hw.df_mk KX G ?a15 ?l15 ?c15 ?k15 ?b15, Hw.df_mk KX G ?a16 ?l16 ?c16 ?k16 ?b16, Hw.df_mk KX G ?a17 ?l17 ?c17 ?k17 ?b17, Hw.df_mk KX G ?a18 ?l18 ?c18 ?k18 ?b18, Hw.df_mk KX G ?a19 ?l19 ?c19 ?k19 ?b19, Hw.df_mk KX G ?a20 ?l20 ?c20 ?k20 ?b20, Hw.df_mk KX G ?a21 ?l21 ?c21 ?k21 ?b21, Hw.df_mk KX G ?a22 ?l22 ?c22 ?k22 ?b22, Hw.df_mk KX G ?a23 ?l23 ?c23 ?k23 ?b23, Hw.df_mk KX G ?a24 ?l24 ?c24 ?k24 ?b24, Hw.df_mk KX G ?a25 ?l25 ?c25 ?k25 ?b25, Hw.df_mk KX G ?a26 ?l26 ?c26 ?k26 ?b26, Hw.df_mk KX G ?a27 ?l27 ?c27 ?k27 ?b27, Hw.df_mk KX G ?a28 ?l28 ?c28 ?k28 ?b28, Hw.df_mk KX G ?a29 ?l29 ?c29 ?k29 ?b29, Hw.df_mk KX G ?a30 ?l30 ?c30 ?k30 ?b30, Hw.df_mk KX G ?a31 ?l31 ?c31 ?k31 ?b31⟩
      (case a2 => k_is); (case l2 => k_is); (case c2 => k_is); (case k2 => k_is); (case b2 => exact fun _ _ _ _ _ _ us hl => match us, hl with | [_], _ => rfl)
      (case a3 => k_is); (case l3 => k_is); (case c3 => k_is); (case k3 => k_is); (case b3 => exact fun _ _ _ _ _ _ us hl => match us, hl with | [_, _], _ => rfl)
      (case a4 => k_is); (case l4 => k_is); (case c4 => k_is); (case k4 => k_is); (case b4 => exact fun _ _ _ _ _ _ us hl => match us, hl with | [_, _], _ => rfl)
      (case a5 => k_is); (case l5 => k_is); (case c5 => k_is); (case k5 => k_is); (case b5 => exact fun _ _ _ _ _ _ us hl => match us, hl with | [_, _], _ => rfl)
      (case a6 => k_is); (case l6 => k_is); (case c6 => k_is); (case k6 => k_is); (case b6 => exact fun _ _ _ _ _ _ us hl => match us, hl with | [_, _], _ => rfl)
      (case a7 => k_is); (case l7 => k_is); (case c7 => k_is); (case k7 => k_is); (case b7 => exact fun _ _ _ _ _ _ us hl => match us, hl with | [_, _], _ => rfl)
      (case a8 => k_is); (case l8 => k_is); (case c8 => k_is); (case k8 => k_is); (case b8 => exact fun _ _ _ _ _ _ us hl => match us, hl with | [_, _], _ => rfl)
      (case a9 => k_is); (case l9 => k_is); (case c9 => k_is); (case k9 => k_is); (case b9 => exact fun _ _ _ _ _ _ us hl => match us, hl with | [_, _], _ => rfl)
      (case a10 => k_is); (case l10 => k_is); (case c10 => k_is); (case k10 => k_is); (case b10 => exact fun _ _ _ _ _ _ us hl => match us, hl with | [_, _, _], _ => rfl)
      (case a11 => k_is); (case l11 => k_is); (case c11 => k_is); (case k11 => k_is); (case b11 => exact fun _ _ _ _ _ _ us hl => match us, hl with | [_, _], _ => rfl)
      (case a12 => k_is); (case l12 => k_is); (case c12 => k_is); (case k12 => k_is); (case b12 => exact fun _ _ _ _ _ _ us hl => match us, hl with | [_, _], _ => rfl)
      (case a13 => k_is); (case l13 => k_is); (case c13 => k_is); (case k13 => k_is); (case b13 => exact fun _ _ _ _ _ _ us hl => match us, hl with | [_], _ => rfl)
      (case a14 => k_is); (case l14 => k_is); (case c14 => k_is); (case k14 => k_is); (case b14 => exact fun _ _ _ _ _ _ us hl => match us, hl with | [_, _], _ => rfl)
      (case a15 => k_is); (case l15 => k_is); (case c15 => k_is); (case k15 => k_is); (case b15 => exact fun _ _ _ _ _ _ us hl => match us, hl with | [_], _ => rfl)
      (case a16 => k_is); (case l16 => k_is); (case c16 => k_is); (case k16 => k_is); (case b16 => exact fun _ _ _ _ _ _ us hl => match us, hl with | [_, _], _ => rfl)
      (case a17 => k_is); (case l17 => k_is); (case c17 => k_is); (case k17 => k_is); (case b17 => exact fun _ _ _ _ _ _ us hl => match us, hl with | [_, _], _ => rfl)
      (case a18 => k_is); (case l18 => k_is); (case c18 => k_is); (case k18 => k_is); (case b18 => exact fun _ _ _ _ _ _ us hl => match us, hl with | [_, _, _], _ => rfl)
      (case a19 => k_is); (case l19 => k_is); (case c19 => k_is); (case k19 => k_is); (case b19 => exact fun _ _ _ _ _ _ us hl => match us, hl with | [_], _ => rfl)
      (case a20 => k_is); (case l20 => k_is); (case c20 => k_is); (case k20 => k_is); (case b20 => exact fun _ _ _ _ _ _ us hl => match us, hl with | [_], _ => rfl)
      (case a21 => k_is); (case l21 => k_is); (case c21 => k_is); (case k21 => k_is); (case b21 => exact fun _ _ _ _ _ _ us hl => match us, hl with | [_, _, _], _ => rfl)
      (case a22 => k_is); (case l22 => k_is); (case c22 => k_is); (case k22 => k_is); (case b22 => exact fun _ _ _ _ _ _ us hl => match us, hl with | [_], _ => rfl)
      (case a23 => k_is); (case l23 => k_is); (case c23 => k_is); (case k23 => k_is); (case b23 => exact fun _ _ _ _ _ _ us hl => match us, hl with | [_, _, _], _ => rfl)
      (case a24 => k_is); (case l24 => k_is); (case c24 => k_is); (case k24 => k_is); (case b24 => exact fun _ _ _ _ _ _ us hl => match us, hl with | [_, _, _, _], _ => rfl)
      (case a25 => k_is); (case l25 => k_is); (case c25 => k_is); (case k25 => k_is); (case b25 => exact fun _ _ _ _ _ _ us hl => match us, hl with | [_, _], _ => rfl)
      (case a26 => k_is); (case l26 => k_is); (case c26 => k_is); (case k26 => k_is); (case b26 => exact fun _ _ _ _ _ _ us hl => match us, hl with | [_], _ => rfl)
      (case a27 => k_is); (case l27 => k_is); (case c27 => k_is); (case k27 => k_is); (case b27 => exact fun _ _ _ _ _ _ us hl => match us, hl with | [_, _, _], _ => rfl)
      (case a28 => k_is); (case l28 => k_is); (case c28 => k_is); (case k28 => k_is); (case b28 => exact fun _ _ _ _ _ _ us hl => match us, hl with | [_, _, _], _ => rfl)
      (case a29 => k_is); (case l29 => k_is); (case c29 => k_is); (case k29 => k_is); (case b29 => exact fun _ _ _ _ _ _ us hl => match us, hl with | [_, _, _], _ => rfl)
      (case a30 => k_is); (case l30 => k_is); (case c30 => k_is); (case k30 => k_is); (case b30 => exact fun _ _ _ _ _ _ us hl => match us, hl with | [_, _, _], _ => rfl)
      (case a31 => k_is); (case l31 => k_is); (case c31 => k_is); (case k31 => k_is); (case b31 => exact fun _ _ _ _ _ _ us hl => match us, hl with | [_, _], _ => rfl)
#print axioms PySem.Challenge.cw_handwalk_k05_ways_holds
