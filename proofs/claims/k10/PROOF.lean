import PyProof.Rows.All
import Wide.All
import OpenK.AllK
import Wide.FinOn
import HandS.ForMost
import HandS.IsInst
import HandS.Star
import HandS.Walk
import HandS.Zip
import HandS.TupSets
import HandS.Gcd
import HandS.Conv
import HandS.SetFor
import HandS.Strs
import KE.DataMinMax
import KE.GoesMore
import KE.SortData
import PyProof.InstSpecial
import PyProof.FactsLen
import HandS.GenList
import HandS.Style
import HandS.TupAny
import HandS.ClsMeth
import HandS.SetKeys
import HandS.More
import HandS.Property
import HandS.ExcInit
import KE.KExcSuper
import HandS.WordsExc
import HandS.ExcField
import HandS.ExcOwn
import HandS.MakeKwOnly
import HandS.TryOnly
import PyProof.ReprReads
import PyProof.StrHeap
import PyProof.ReprRoads
import PyProof.Rows.RegFStrParts
import PyProof.Rows.StrJoinMade
import HandS.MakeKw
import HandS.Ends
import PySem.Challenge.RW_handwalk_k10_whole_effects_do_not_depend
set_option Elab.async false
set_option linter.all false
set_option maxRecDepth 100000
set_option maxHeartbeats 8000000
namespace Hw
open PySem PySem.Spec PyProof.Rows L2

/-- a def of the text, where it stands, how it binds -/
structure Df (K : PySem.W.Frag) (mg : Str → Option Value) (x : Str) (st : Stmt) (ps : List Str) : Prop where
  ex : ∃ (f : Addr) (fd : FuncData), Fun K x x st f fd ∧ Binds K fd ps [] ∧ mg x = some (.ref f)

/-- a def that can be called by its name, with its promise -/
structure Cal (P : Program) (w : World) (K : PySem.W.Frag) (mg : Str → Option Value) (base : Heap) (x : Str) (k : Nat) (sp : Sp) : Prop where
  ex : ∃ f : Addr, mg x = some (.ref f) ∧ PySem.W.keepIn K (.ref f) = true ∧ L2.FnR P w K mg base CX0 k f sp

section
variable {P : Program} {w : World} {K : PySem.W.Frag} {mg : Str → Option Value} {base : Heap} {x : Str}
theorem Cal.mono {j k : Nat} {sp : Sp} (c : Cal P w K mg base x j sp) (h : j ≤ k) : Cal P w K mg base x k sp := by
  obtain ⟨f, a, b, F⟩ := c.ex
  exact ⟨f, a, b, F.mono h⟩
theorem cal_of {st : Stmt} {N ps : List Str} {k : Nat} {sp : Sp} (D : Df K mg x st ps) (S : FnScope N ps (defScope st)) (len : ∀ vs H Q E, sp vs H Q E → vs.length = ps.length)
    (hbody : ∀ (f : Addr) (cdv : Value) (A : Around) (outer : List Env) (s : Shared) (H : Hp) (vs : List V) (Q : VK) (E : XK), Room k (A.deeper (envOfC x (defScope st) s.heap.objs.size f cdv)) → sp vs H Q E →
      ∃ t, PSs (cxOf CX0 P w K mg base N x (defScope st) f cdv A outer s H E).nox (defBody st) t ∧ t { nx := fun _ H' => Q .non H', rt := Q } (start N vs) H) : Cal P w K mg base x (k + 1) sp := by
  obtain ⟨f, fd, F, b, g⟩ := D.ex
  have G : FnOk P w K mg base CX0 (k + 1) f fd ps sp := F.ok S len (fun cdv A outer s H vs Q E hr h => hbody f cdv A outer s H vs Q E hr h)
  refine ⟨f, g, F.kp, ?_⟩
  have R := G.raw b (dvs := []) .nil
  exact R.imp fun vs H Q E h => by
    show sp (vs ++ []) H Q E
    rw [List.append_nil]
    exact h
end
section
variable {X : Cx} {k : Nat} {sp : Sp} {x : Str} {p pos : Pos} {e : Expr} {es : List Expr} {t : TA}
theorem pe_cal (c : Cal X.prog X.w X.K X.mg X.base x k sp) (hr : Room k X.A) (hg : Gl X x) (ha : PA X (e :: es) t) (hdb : (x == ("__debug__" : Str)) = false := by decide)
    (he : starEach (e :: es) X.env = (false, eval e X.env) :: starEach es X.env := by rfl) (hpl : (backTo pos (starEach es X.env)).any (·.1) = false := by rfl) :
    PE X (.Call (.Name x p) (e :: es) [] pos) (fun σ H Q => t σ H fun vs H1 => sp vs H1 Q E0) := by
  obtain ⟨f, hm, hk, F⟩ := c.ex
  refine ⟨fun pins s σ H Q I h => ?_⟩
  refine wpAny_Call_Name_kw (ld_glob I hg hm ?_ hdb)
  refine PySem.W.callWith_K (h₀ := X.base) I.ok.mod.kin hk (thn (ha.run pos pins s σ H _ I h) fun us s1 ⟨vs, H1, I1, r, q⟩ => ⟨I1.kIn, ?_⟩) he hpl
  exact wpAny_call (L2.run_fnR F hr pass0 I1 r q)
theorem pe_cal0 (c : Cal X.prog X.w X.K X.mg X.base x k sp) (hr : Room k X.A) (hg : Gl X x) (hdb : (x == ("__debug__" : Str)) = false := by decide) :
    PE X (.Call (.Name x p) [] [] pos) (fun σ H Q => sp [] H Q E0) := by
  obtain ⟨f, hm, hk, F⟩ := c.ex
  refine ⟨fun pins s σ H Q I h => ?_⟩
  refine wpAny_Call_Name_kw (ld_glob I hg hm ?_ hdb)
  exact PySem.W.callWith_K0 I.kIn hk (wpAny_call (L2.run_fnR F hr pass0 I .nil h))
end
/-- len of a list or a tuple -/
def rLenS (K : PySem.W.Frag) : List V → Hp → VK → Prop := fun xs H Q => ∃ p ys, xs = [.ref p] ∧ (SqL K H p ys ∨ SqT K H p ys) ∧ Q (.int (ys.length : Int)) H
theorem cr_len {X : Cx} : CallR X (.builtin "len") (rLenS X.K) := call_len_seq
end Hw

namespace Hw
open PySem PySem.Spec PyProof.Rows L2
def top (i : Nat) : Stmt := PySem.Challenge.pw_handwalk_k10_whole_effects_do_not_depend.main.body.getD i (.Pass ⟨0, 0, 0, 0⟩)
abbrev sWhole : Stmt := top 2
abbrev sIndex : Stmt := top 3
abbrev sBaseE : Stmt := top 5
abbrev sNetworkE : Stmt := top 6
abbrev sPlaceE : Stmt := top 7
abbrev sPassageE : Stmt := top 8
abbrev sStateE : Stmt := top 9
abbrev sWalkE : Stmt := top 10
abbrev sPermE : Stmt := top 11
abbrev sSizeE : Stmt := top 12
abbrev sIsPerm : Stmt := top 14
abbrev sCheckPerm : Stmt := top 15
abbrev sCompose : Stmt := top 16
abbrev sInverse : Stmt := top 17
abbrev sCycles : Stmt := top 18
abbrev sEven : Stmt := top 19
abbrev sCheckState : Stmt := top 21
abbrev sIsStep : Stmt := top 22
abbrev sAfterStep : Stmt := top 23
abbrev sTraceP : Stmt := top 24
abbrev sAfterP : Stmt := top 25
abbrev sBackP : Stmt := top 26
abbrev sEffectP : Stmt := top 27
abbrev sIsPassage : Stmt := top 29
abbrev sFirstWrong : Stmt := top 30
abbrev sLeast : Stmt := top 31
abbrev sConn : Stmt := top 32
abbrev sFault : Stmt := top 33
abbrev sBridges : Stmt := top 34
abbrev sCells : Stmt := top 35
abbrev sExits : Stmt := top 36
abbrev sNetwork : Stmt := top 37
abbrev sMixed : Stmt := top 39
abbrev sFolded : Stmt := top 40
abbrev sDraw : Stmt := top 41
abbrev sBegun : Stmt := top 42
abbrev sMixedUp : Stmt := top 43
abbrev sTie : Stmt := top 44
abbrev sTree : Stmt := top 45
abbrev sRing : Stmt := top 46
abbrev sCore : Stmt := top 47
abbrev sShifted : Stmt := top 48
abbrev sTop : Stmt := top 49
abbrev sRenamed : Stmt := top 50
abbrev sTies : Stmt := top 51
abbrev sDoors : Stmt := top 52
abbrev sMoved : Stmt := top 53
abbrev sAfter : Stmt := top 54
abbrev sRoad : Stmt := top 55
abbrev sTold : Stmt := top 56
abbrev sDue : Stmt := top 57
abbrev sKept : Stmt := top 58
abbrev sShortRight : Stmt := top 59
abbrev sLongRight : Stmt := top 60
abbrev sArrangementRight : Stmt := top 61
abbrev sBareRight : Stmt := top 62
abbrev sLaw : Stmt := top 63
/-- what the module's names are -/
structure Txt (mg : Str → Option Value) : Prop where
  len : mg "len" = none
  isinstance : mg "isinstance" = none
  int : mg "int" = none
  bool : mg "bool" = none
  tuple : mg "tuple" = none
  list : mg "list" = none
  range : mg "range" = none
  set : mg "set" = none
  enumerate : mg "enumerate" = none
  sum : mg "sum" = none
  sorted : mg "sorted" = none
  min : mg "min" = none
  zip : mg "zip" = none
  max : mg "max" = none
  repr : mg "repr" = none
  str : mg "str" = none
end Hw

/-! Permutations as lists of numbers: what the program's functions compute. No Python here. -/
namespace Hw
/-- item x of p (0 beyond) -/
def ap (p : List Nat) (x : Nat) : Nat := p.getD x 0
def IsP (p : List Nat) : Prop := p.Nodup ∧ ∀ x ∈ p, x < p.length
/-- first p, then q -/
def mul (p q : List Nat) : List Nat := p.map (ap q)
def inv (p : List Nat) : List Nat := (List.range p.length).map fun y => p.idxOf y
/-- all of ps, one after the other, on n positions -/
def muls (n : Nat) (ps : List (List Nat)) : List Nat := ps.foldl mul (List.range n)
/-- k steps from x -/
def it (p : List Nat) : Nat → Nat → Nat
  | 0, x => x
  | k + 1, x => ap p (it p k x)
/-- x comes back first after so many steps: the least k from 1 on, sought up to n -/
def perF (p : List Nat) (x : Nat) : Nat → Nat → Nat
  | 0, k => k
  | m + 1, k => if it p k x = x then k else perF p x m (k + 1)
def per (p : List Nat) (x : Nat) : Nat := perF p x p.length 1
/-- the way of x until it is back -/
def orb (p : List Nat) (x : Nat) : List Nat := (List.range (per p x)).map fun k => it p k x
/-- j lies on the way of one below i -/
def sn (p : List Nat) (i j : Nat) : Bool := (List.range i).any fun f => decide (j ∈ orb p f)
/-- the cycles that begin below i -/
def cycF (p : List Nat) (i : Nat) : List (List Nat) := ((List.range i).filter fun f => !sn p f f && decide (1 < per p f)).map (orb p)
def cyc (p : List Nat) : List (List Nat) := cycF p p.length
def ord (p : List Nat) : Nat := (cyc p).foldl (fun r c => Nat.lcm r c.length) 1
def evenP (p : List Nat) : Bool := decide (((cyc p).map fun c => (c.length : Int) - 1).sum % 2 = 0)
/-- how many ahead of place i are greater than what stands there -/
def invAt (p : List Nat) (i : Nat) : Nat := ((p.take i).filter fun x => decide (ap p i < x)).length
def invs (p : List Nat) : Nat := ((List.range p.length).map (invAt p)).sum
theorem ap_get {p : List Nat} {x : Nat} (h : x < p.length) : p[x]? = some (ap p x) := by
  unfold ap
  rw [List.getD_eq_getElem?_getD, List.getElem?_eq_getElem h]
  rfl
theorem ap_mem {p : List Nat} {x : Nat} (h : x < p.length) : ap p x ∈ p := List.mem_of_getElem? (ap_get h)
theorem ap_lt {p : List Nat} {x : Nat} (hp : IsP p) (h : x < p.length) : ap p x < p.length := hp.2 _ (ap_mem h)
theorem mul_len (p q : List Nat) : (mul p q).length = p.length := by unfold mul; rw [List.length_map]
/-- a row of n numbers below n -/
def Row (n : Nat) (m : List Nat) : Prop := m.length = n ∧ ∀ x ∈ m, x < n
theorem row_range (n : Nat) : Row n (List.range n) := ⟨List.length_range, fun x hx => List.mem_range.mp hx⟩
theorem row_of {p : List Nat} {n : Nat} (h : IsP p) (e : p.length = n) : Row n p := ⟨e, fun x hx => by rw [← e]; exact h.2 x hx⟩
theorem row_mul {n : Nat} {m p : List Nat} (hm : Row n m) (hp : Row n p) : Row n (mul m p) := by
  refine ⟨by rw [mul_len]; exact hm.1, fun x hx => ?_⟩
  obtain ⟨y, hy, rfl⟩ := List.mem_map.mp hx
  exact hp.2 _ (ap_mem (by rw [hp.1]; exact hm.2 y hy))
theorem row_foldl {n : Nat} : ∀ (ps : List (List Nat)) (m : List Nat), Row n m → (∀ p ∈ ps, Row n p) → Row n (ps.foldl mul m)
  | [], _, h, _ => h
  | p :: ps, m, h, hp => row_foldl ps (mul m p) (row_mul h (hp p List.mem_cons_self)) fun q hq => hp q (List.mem_cons_of_mem _ hq)
theorem row_muls {n : Nat} {ps : List (List Nat)} (hp : ∀ p ∈ ps, Row n p) : Row n (muls n ps) := row_foldl ps _ (row_range n) hp
theorem muls_snoc (n : Nat) (ps : List (List Nat)) (p : List Nat) : muls n (ps ++ [p]) = mul (muls n ps) p := by
  unfold muls
  rw [List.foldl_append]
  rfl
end Hw

/-! Further rules: enumerate(t) of a tuple, lcm(a, b), len(set(t)) of equal numbers, min(t) of a tuple of numbers. -/
namespace PySem
section
set_option maxHeartbeats 1000000 in
theorem hw_enum_meets {v : Value} {ob : Obj} {HH : Heap → Prop} (B : Begins v ob HH) :
    Meets (Builtin.«enumerate.__new__» ⟨[.type "enumerate", v], []⟩) (fun _ Res sh => HH sh.heap ∧ Res (.ok (.ret (.ref (sh.heap.push ob).objs.size)))
      { sh with heap := (sh.heap.push ob).push { cls := .type "enumerate", data := .fields #[.none, .bool false, .ref sh.heap.objs.size, rawInt 0, .none, .none] } }) :=
  .of_wp fun pr wo Ar Res sh hyp => by
    obtain ⟨hp, gg, dd, tt, oo⟩ := sh
    obtain ⟨hy1, hy2⟩ := hyp
    have sub_e := sub_enumerate
    have itr : ∀ {A2 : Around} {E2 : Value → Shared → Prop} {Q2 : Value → Shared → Prop}, Q2 (.ref hp.objs.size) ⟨hp.push ob, gg, dd, tt, oo⟩ → wpAny (model pr wo) A2 (pyIter v) Q2 E2 ⟨hp, gg, dd, tt, oo⟩ :=
      fun z => B.iter pr wo _ _ ⟨hp, gg, dd, tt, oo⟩ _ hy1 z
    wp_walk using itr
    refine wpAny_stack_any fun stk => wpAny_pure ?_
    split
    · rename_i cc _ _ _ _ _
      cases (cc == Value.type "enumerate") <;> (wp_walk using itr; exact ⟨_, rfl, hy2⟩)
    · wp_walk using itr
      exact ⟨_, rfl, hy2⟩
variable {prog : Program} {w : World} {A : Around} {E : Value → Shared → Prop} {s : Shared}
theorem hw_enum_call {v : Value} {ob : Obj} {HH : Heap → Prop} {Q : Value → Shared → Prop} (B : Begins v ob HH) (hy : HH s.heap)
    (k : ∀ h', IsEnum h' (s.heap.objs.size + 1) s.heap.objs.size 0 .none → h'.get? s.heap.objs.size = some ob → (∀ b o, s.heap.get? b = some o → h'.get? b = some o) → Q (.ref (s.heap.objs.size + 1)) { s with heap := h' }) :
    wpAny (model prog w) A (call (.type "enumerate") [v]) Q E s := by
  refine callType_new F.called_enumerate (by decide) (F.typeCall_enumerate_1 _) (F.newCall_enumerate_1 _)
    (fun x => F.args_object_init_2 x _) F.entry_enumerate_new (hw_enum_meets B) ⟨hy, ?_⟩
  have size1 : (s.heap.push ob).objs.size = s.heap.objs.size + 1 := by rw [Heap.size_push]
  show _ ∧ _
  rw [size1]
  have at2 := Heap.get?_push_size (s.heap.push ob) (o := { cls := .type "enumerate", data := .fields #[.none, .bool false, .ref s.heap.objs.size, rawInt 0, .none, .none] }) rfl
  rw [size1] at at2
  exact ⟨⟨_, at2, rfl⟩, k _ at2 (Heap.get?_push_of_some _ (Heap.get?_push_size _ B.free)) fun b o z => Heap.get?_push_of_some _ (Heap.get?_push_of_some _ z)⟩
end
end PySem
namespace Hw
open PySem PySem.Spec PyProof.Rows L2
/-! ### enumerate(t) -/
def IteT (K : PySem.W.Frag) (a : Addr) : It where
  go i H := ∃ (xs : List V) (x : V), SqT K H a xs ∧ xs[i]? = some x
  yld i H v H' := ∃ T x, v = .ref T ∧ H T = none ∧ H' = upd H T (.tup [.int (i : Nat), x]) ∧ ∀ xs, SqT K H a xs → xs[i]? = some x
  stop i H := ∃ xs : List V, SqT K H a xs ∧ xs.length = i
def TnE (a e it : Addr) (i : Nat) (h : Heap) : Prop := (∃ old, IsEnum h e it ((i : Nat) : Int) old) ∧ h.IsTupleIter it a i ∧ e ≠ it ∧ a ≠ it ∧ a ≠ e
theorem turn_enumT {P : Program} {w : World} {K : PySem.W.Frag} {elts : List Expr} {kk : Nat} {tpos : Pos} (a e it : Addr) : Turn P w K (.Tuple elts kk tpos) (IteT K a) [e, it] e (TnE a e it) where
  mem := List.mem_cons_self
  obj := by
    rintro i h ⟨⟨old, he⟩, ⟨o, ho, hc, hd⟩, _⟩ b hb
    rcases List.mem_cons.mp hb with z | hb
    · exact ⟨_, by rw [z]; exact he, fun v q => by cases q⟩
    · rw [List.mem_singleton.mp hb]
      exact ⟨o, ho, fun v q => by rw [hd] at q; cases q⟩
  keep := by
    rintro i h h' ⟨⟨old, he⟩, hi, n⟩ kp
    exact ⟨⟨old, kp e List.mem_cons_self _ he⟩, hi.at fun o q => kp it (List.mem_cons_of_mem _ List.mem_cons_self) o q, n⟩
  item := by
    rintro X rfl rfl rfl calm i pins s σ H E I free ⟨⟨old, he⟩, hit, n1, n2, n3⟩ ⟨xs, x, hq, hx⟩
    obtain ⟨its, rv, tT, szl⟩ := I.tuple hq
    obtain ⟨u, hu, ru⟩ := rv.get hx
    have lt_e : e < s.heap.objs.size := Heap.lt_size he
    have lt_i : it < s.heap.objs.size := by
      obtain ⟨_, z, _⟩ := hit
      exact Heap.lt_size z
    have lt_n : i < its.toArray.size := by
      have z := (List.getElem?_eq_some_iff.mp hu).1
      simpa using z
    refine wpAny_pyNext_enum_itemD (Draws.tuple (A := X.A.in1) (I.ok.hd calm) it a n2 its.toArray) he ⟨hit, tT⟩ lt_n n1 (fun m => ?_) fun y h2 tk hy out st2 new2 sz2 keep2 => ?_
    · rcases List.mem_cons.mp m with z | m
      · exact n1 z
      · exact n3 (List.mem_singleton.mp m).symm
    have ey : y = u := by
      have z : its[i]? = some y := by simpa using hy
      rw [hu] at z
      exact (Option.some.inj z).symm
    subst ey
    refine ⟨_, rfl, wpAny_letOwnedTupleGo_enum (s := { s with heap := h2, toks := tk + 1 }) out fun h3 he3 sb => ?_⟩
    have at3 := (sb.2 _ (Nat.ne_of_gt lt_e)).trans new2
    have made : ObjOk X.prog X.w (upd H s.heap.objs.size (.tup [.int (i : Nat), x])) h3 s.heap.objs.size (.tup [.int (i : Nat), x]) := by
      refine ⟨by show 2 ≤ sizeLine; decide, [.int i tk, y], .cons ⟨_, rfl⟩ (.cons ru .nil), ⟨_, at3, rfl, _, rfl⟩⟩
    have J := I.turnedNew (h' := h3) (t' := tk + 1) (ch := [e, it]) (fun b ob nb q => (sb.2 b (fun z => nb (by simp [z]))).trans (keep2 b ob (fun z => nb (by simp [z])) (fun z => nb (by simp [z])) q)) free (Nat.le_refl _) made
    refine ⟨.ref s.heap.objs.size, _, J, rfl, ⟨_, x, rfl, I.hok.fresh (Nat.le_refl _), rfl, fun ys hy => by rw [I.tuple_inj hy hq]; exact hx⟩, ⟨⟨y, ?_⟩, st2.1.at fun o q => (sb.2 it (Ne.symm n1)).trans q, n1, n2, n3⟩, fun b hb => ?_⟩
    · have e1 : ((i + 1 : Nat) : Int) = (i : Int) + 1 := by omega
      rw [e1]
      exact he3
    · have lt_b : b < s.heap.objs.size := by
        rcases List.mem_cons.mp hb with z | hb
        · rw [z]; exact lt_e
        · rw [List.mem_singleton.mp hb]; exact lt_i
      rw [upd_ne (Nat.ne_of_lt lt_b)]
      exact (free b hb).1
  done := by
    rintro X rfl rfl rfl calm i pins s σ H E I free ⟨⟨old, he⟩, hit, n1, n2, n3⟩ ⟨xs, hq, hx⟩
    obtain ⟨its, rv, tT, szl⟩ := I.tuple hq
    have e1 : its.toArray.size = i := by
      rw [List.size_toArray, ← rv.length, hx]
    obtain ⟨f0, f1, f2, f3, f4, f5⟩ := free it (List.mem_cons_of_mem _ List.mem_cons_self)
    refine wpAny_pyNext_enum_endD (Draws.tuple (A := X.A.in1) (I.ok.hd calm) it a n2 its.toArray) he ⟨by rw [e1]; exact hit, tT⟩ fun h2 eb => ⟨rfl, ?_⟩
    exact I.turned (t' := s.toks) (fun b o hb q => eb b o hb q) f0 f1 f3 f4 f5
  self := by
    rintro A i s Q E ⟨⟨_, he⟩, _⟩ q
    exact wpAny_pyIter_enum he q
def iEnumT (K : PySem.W.Frag) (ta : TA) : TI := fun σ H R => ta σ H fun vs H1 => ∃ a xs, vs = [.ref a] ∧ SqT K H1 a xs ∧ R (IteT K a) H1
theorem pi_enumT {X : Cx} {e : Expr} {ta : TA} {p pos tpos : Pos} {elts : List Expr} {kk : Nat} (gl : Gl X "enumerate") (nm : X.mg "enumerate" = none) (arg : PA X [e] ta)
    (st : starEach [e] X.env = [(false, eval e X.env)] := by rfl) : PI X (.Tuple elts kk tpos) (.Call (.Name "enumerate" p) [e] [] pos) (iEnumT X.K ta) := by
  constructor
  intro pins s σ H R I hyp
  refine Call_ (ld_blt I gl nm boot_enumerate (PyProof.Rows.callWith_type1 (thn (arg.run pos pins s σ H _ I hyp) ?_) st rfl))
  rintro us s1 ⟨vs, H1, I1, r1, a, xs, rfl, hq, q⟩
  rw [Vals.ref1 r1]
  obtain ⟨its, rv, tT, szl⟩ := I1.tuple hq
  refine hw_enum_call (begins_tuple a its.toArray) tT fun h' he hit keep => wpAny_pyIter_enum he ?_
  have J : Inv X pins σ H1 { s1 with heap := h' } := I1.kept (t' := s1.toks) keep
  have lt_a : a < s1.heap.objs.size := by
    obtain ⟨_, z, _⟩ := tT
    exact Heap.lt_size z
  refine ⟨s1.heap.objs.size + 1, [s1.heap.objs.size + 1, s1.heap.objs.size], _, _, H1, rfl, J, turn_enumT a (s1.heap.objs.size + 1) s1.heap.objs.size,
    ⟨⟨.none, he⟩, ⟨_, hit, rfl, rfl⟩, Nat.succ_ne_self _, Nat.ne_of_lt lt_a, Nat.ne_of_lt (Nat.lt_succ_of_lt lt_a)⟩, fun b hb => ?_, q⟩
  have le_b : s1.heap.objs.size ≤ b := by
    rcases List.mem_cons.mp hb with z | hb
    · rw [z]; exact Nat.le_succ _
    · rw [List.mem_singleton.mp hb]; exact Nat.le_refl _
  exact I1.fpOk le_b (I1.hok.fresh le_b)
theorem walk_enumT {K : PySem.W.Frag} {a : Addr} {xs : List V} : Walk (IteT K a) xs.length (fun H => SqT K H a xs) (YPair (fun i => some (.int (i : Nat))) (fun i => xs[i]?)) where
  goes i H hi q := ⟨xs, xs[i], q, by simp [hi]⟩
  stops H q := ⟨xs, q, rfl⟩
  yields := by
    rintro i H x H' hi q ⟨T, y, rfl, n, rfl, hy⟩
    exact ⟨T, _, y, rfl, n, rfl, rfl, hy xs q⟩
/-! ### lcm -/
section
variable {X : Cx}
def rLcm : List V → Hp → VK → Prop := fun vs H Q => ∃ a b : Nat, vs = [.int (a : Int), .int (b : Int)] ∧ a < 2 ^ 60 ∧ b < 2 ^ 60 ∧ Nat.lcm a b < 2 ^ 60 ∧ Q (.int ((Nat.lcm a b : Nat) : Int)) H
theorem small_log {n : Nat} (h : n < 2 ^ 60) : n.log2 < bitsLine := by
  have : n.log2 ≤ 60 := by
    by_cases z : n = 0
    · subst z; decide
    · have := (Nat.log2_lt z).mpr h
      omega
  exact Nat.lt_of_le_of_lt this (by decide)
theorem cr_lcm : CallR X (.builtin "math.lcm") rLcm := by
  rintro pins s σ H vs us Q I r ⟨a, b, rfl, ha, hb, hc, q⟩
  obtain ⟨t, u, rfl⟩ := Vals.int2 r
  refine PySem.W.mg_lcm_v (c := ((Nat.lcm a b : Nat) : Int)) (by rw [Int.natAbs_natCast]; omega) (by rw [Int.natAbs_natCast]; omega) ?_ (by rw [Int.natAbs_natCast]; exact small_log hc) ⟨.int _, H, I.tok _, ⟨_, rfl⟩, q⟩
  rw [Int.natAbs_natCast, Int.natAbs_natCast]
  congr 2
  simp [Nat.lcm]
/-! ### min(t) -/
theorem reads_ints {h : Heap} : ∀ {ns : List Int} {us : List Value}, Vals (ns.map V.int) us → ReadsAll h us (ns.map PyData.int) []
  | [], _, .nil => .nil
  | n :: ns, _, .cons r t => by
    obtain ⟨k, rfl⟩ := r
    exact .cons (as := []) (bs := []) (.int n k) (reads_ints t)
theorem depth_ints : ∀ ns : List Int, PyData.depthAll (ns.map PyData.int) = 0
  | [] => rfl
  | n :: ns => by
    show max 0 (PyData.depthAll (ns.map PyData.int)) = 0
    rw [depth_ints ns]
    rfl
def rMinT (K : PySem.W.Frag) : List V → Hp → VK → Prop := fun vs H Q => ∃ (a : Addr) (n : Int) (ns : List Int), vs = [V.ref a] ∧ SqT K H a ((n :: ns).map V.int) ∧ Q (.int (ns.foldl min n)) H
theorem cr_minT (calm : X.calm = true) (hu : X.A.units + 1 < cLine) : CallR X (.builtin "min") (rMinT X.K) := by
  rintro pins s σ H vs us Q I r ⟨a, n, ns, rfl, hs, q⟩
  obtain ⟨its, rv, tT, _⟩ := I.tuple hs
  rw [Vals.ref1 r]
  have rd : ReadsAll s.heap its.toArray.toList (PyData.int n :: ns.map PyData.int) [] := reads_ints (ns := n :: ns) rv
  refine PySem.W.min_tuple_data (I.ok.hd calm) tT rd ⟨?_, ?_⟩ ?_ fun i v h' tk bs _ rv' keep => ?_
  · intro x hx y hy
    obtain ⟨x', _, rfl⟩ := List.mem_map.mp (show x ∈ (n :: ns).map PyData.int from hx)
    obtain ⟨y', _, rfl⟩ := List.mem_map.mp (show y ∈ (n :: ns).map PyData.int from hy)
    rfl
  · intro x hx
    obtain ⟨x', _, rfl⟩ := List.mem_map.mp (show x ∈ (n :: ns).map PyData.int from hx)
    exact fun z => nomatch z
  · have z := depth_ints (n :: ns)
    rw [List.map_cons] at z
    rw [z]
    exact hu
  · rw [PySem.W.minD_ints] at rv'
    cases rv' with
    | int _ t => exact ⟨.int _, H, I.kept keep, ⟨_, rfl⟩, q⟩
/-! ### len(set(t)) where there is at most one number -/
def tLenSetT (K : PySem.W.Frag) (ta : TE) : TE := fun σ H Q => ta σ H fun x H1 => ∃ (l : Addr) (ns : List Int) (n : Int), x = .ref l ∧ SqT K H1 l (ns.map V.int) ∧ (∀ m ∈ ns, m = n) ∧ ns.length ≤ 1000 ∧ ∀ c : Nat, c ≤ 1 → Q (.int (c : Int)) H1
theorem pe_lenSetT {a : Expr} {ta : TE} {p p2 q pos : Pos} (gl : Gl X "len") (nm : X.mg "len" = none) (gl2 : Gl X "set") (nm2 : X.mg "set" = none) (arg : PE X a ta) (calm : X.calm = true := by rfl)
    (na : starEach [a] X.env = (false, eval a X.env) :: starEach [] X.env := by rfl) : PE X (.Call (.Name "len" p) [.Call (.Name "set" p2) [a] [] q] [] pos) (tLenSetT X.K ta) := by
  constructor
  intro pins s σ H Q I hyp
  refine Call_ (ld_blt I gl nm boot_len (PyProof.Rows.callWith_builtin1 (PyProof.Rows.args_cons ?_ rfl) rfl rfl))
  refine Call_ (ld_blt I gl2 nm2 boot_set (PyProof.Rows.callWith_type1 (PyProof.Rows.args_cons (thn (arg.run pins s σ H _ I hyp) ?_) na) na rfl))
  rintro v s1 ⟨x, H1, I1, r1, l, ns, n, rfl, hq, al, le, q1⟩
  obtain rfl : v = Value.ref l := r1
  refine PyProof.Rows.args_nil ?_
  obtain ⟨its, rv, tT, szl⟩ := I1.tuple hq
  refine call_set_tupI ns (I1.ok.hd calm) tT (by simpa using ints_of_vals rv) (by unfold scanBound; omega) fun h' tk c R _ keep => PyProof.Rows.args_nil ?_
  have J : Inv X pins σ H1 { s1 with heap := h', toks := tk } := I1.kept keep
  obtain ⟨o, es, ep, t, ho, hex, hd, _, nd, mem, sb, hf, hn, _⟩ := R
  have c1 : es.size ≤ 1 := by
    have sub : ∀ k ∈ es.toList.map keyOf, k = n := fun k hk => by
      have z := (mem k).mpr hk
      exact al k (of_decide_eq_true z)
    have l1 : (es.toList.map keyOf).length = es.size := by rw [List.length_map, Array.length_toList]
    rw [← l1]
    cases e1 : es.toList.map keyOf with
    | nil => simp
    | cons x r =>
      cases r with
      | nil => simp
      | cons y r =>
        exfalso
        rw [e1] at nd sub
        have ex := sub x List.mem_cons_self
        have ey := sub y (List.mem_cons_of_mem _ List.mem_cons_self)
        rw [ex, ey] at nd
        simp at nd
  exact call_len_set ho hex hd hf (by omega) ⟨.int es.size, H1, J.tok _, ⟨_, rfl⟩, q1 _ c1⟩
end
end Hw

/-! sorted(t) of a tuple of tuples of numbers that rises already -/
namespace Hw
open PySem PySem.Spec PyProof.Rows L2
theorem vals_refs : ∀ {ks : List (Addr × List Int)} {us : List Value}, Vals (ks.map fun k => V.ref k.1) us → us = ks.map fun k => Value.ref k.1
  | [], _, .nil => rfl
  | k :: ks, _, .cons r t => by
    obtain rfl : _ = Value.ref k.1 := r
    rw [vals_refs t]
    rfl
theorem refs_vals : ∀ ks : List (Addr × List Int), Vals (ks.map fun k => V.ref k.1) (ks.map fun k => Value.ref k.1)
  | [] => .nil
  | k :: ks => .cons rfl (refs_vals ks)
def encT (k : Addr × List Int) : PyData := .tuple (k.2.map PyData.int)
theorem le_encT (k l : Addr × List Int) : PySem.W.dataLe false encT k l = !decide (l.2 < k.2) := by
  show (!PySem.W.dataLt (.tuple (l.2.map PyData.int)) (.tuple (k.2.map PyData.int))) = _
  rw [PySem.W.dataLt_tuple]
  show (!PySem.W.rowLt (l.2.map PyData.int) (k.2.map PyData.int)) = _
  rw [PySem.W.dataLt_ints]
theorem each_refs {R : Value → Addr × List Int → Prop} : ∀ ks : List (Addr × List Int), (∀ k ∈ ks, R (.ref k.1) k) → PySem.W.EachIs R (ks.map fun k => Value.ref k.1) ks
  | [], _ => .nil
  | k :: ks, h => .cons (h k List.mem_cons_self) (each_refs ks fun l hl => h l (List.mem_cons_of_mem _ hl))
theorem each_out : ∀ {ks : List (Addr × List Int)} {out : List Value}, PySem.W.EachIs (fun v k => v = Value.ref k.1) out ks → out = ks.map fun k => Value.ref k.1
  | [], _, .nil => rfl
  | k :: ks, _, .cons e t => by
    rw [e, each_out t]
    rfl
section
variable {X : Cx}
def rSortTT (K : PySem.W.Frag) : List V → Hp → VK → Prop := fun vs H Q => ∃ (a : Addr) (ks : List (Addr × List Int)), vs = [V.ref a] ∧ SqT K H a (ks.map fun k => V.ref k.1) ∧ (∀ k ∈ ks, SqT K H k.1 (k.2.map V.int) ∧ k.2 ≠ []) ∧
  ks.Pairwise (fun k l => ¬ l.2 < k.2) ∧ ∀ p, H p = none → Q (.ref p) (upd H p (.lst (ks.map fun k => V.ref k.1)))
theorem cr_sortTT (hu : X.A.units + 64 < cLine) : CallR X (.builtin "sorted") (rSortTT X.K) := by
  rintro pins s σ H vs us Q I r ⟨a, ks, rfl, hs, hk, pw, q⟩
  obtain ⟨its, rv, tT, szl⟩ := I.tuple hs
  have ei := vals_refs rv
  rw [Vals.ref1 r]
  obtain ⟨o, ho, hc, n, hd⟩ := tT
  have hl : its.length ≤ sizeLine := by rw [← rv.length]; exact szl
  have hl2 : ks.length ≤ sizeLine := by rw [List.length_map] at szl; exact szl
  refine PySem.Calls.call_function_entry kind_sorted plain_sorted entry_sorted (args_sorted1 _) ?_
  unfold Builtin.«sorted»
  refine wpAny_bind (m := checkCount "sorted" 1 1 _) (wpAny_pure (wpAny_bind (wpAny_collect_seq a (.inr rfl) ho hc hd (fun h' keep => ?_) (by rw [List.size_toArray]; exact hl))))
  rw [List.toList_toArray]
  refine wpAny_bind (wpAny_newList ?_ hl)
  have J : Inv X pins σ H { s with heap := h' } := I.kept (t' := s.toks) keep
  have at1 := Heap.get?_push_size h' (o := ({ cls := .type "list", data := .seq its.toArray } : Obj)) rfl
  have rd : ∀ k ∈ ks, ∃ as, Reads (h'.push { cls := .type "list", data := .seq its.toArray }) (.ref k.1) (encT k) as ∧ h'.objs.size ∉ as := fun k m => by
    obtain ⟨us2, rv2, ⟨o2, ho2, hc2, n2, hd2⟩, _⟩ := J.tuple (hk k m).1
    have r2 := reads_ints (h := h'.push { cls := .type "list", data := .seq its.toArray }) rv2
    refine ⟨[], ?_, by simp⟩
    exact Reads.tuple (Heap.get?_push_of_some _ ho2) hc2 hd2 (by simpa using r2)
  have e1 : PySem.W.EachIs (fun v (k : Addr × List Int) => v = Value.ref k.1) its ks := by
    rw [ei]
    exact each_refs ks fun _ _ => rfl
  have e2 : PySem.W.EachIs (fun v (k : Addr × List Int) => ∃ as, Reads (h'.push { cls := .type "list", data := .seq its.toArray }) v (encT k) as ∧ h'.objs.size ∉ as) its ks := by
    conv => arg 2; rw [ei]
    exact each_refs ks rd
  have al : PySem.W.AllAlike (ks.map encT) := by
    intro d hd d' hd'
    obtain ⟨k, _, rfl⟩ := List.mem_map.mp hd
    obtain ⟨l, _, rfl⟩ := List.mem_map.mp hd'
    exact PySem.W.alike_ints k.2 l.2
  have srt : PySem.W.Sortable (ks.map encT) := .inl fun d hd => by
    obtain ⟨k, m, rfl⟩ := List.mem_map.mp hd
    have ne := (hk k m).2
    unfold encT
    cases e : k.2 with
    | nil => exact absurd e ne
    | cons x r => exact ⟨_, _, rfl⟩
  refine wpAny_bind (wpAny_holding (wpAny_mono (PySem.W.list_sort_data (s := { s with heap := h'.push { cls := .type "list", data := .seq its.toArray } }) (vs := its) (bs := ks) (enc := encT) (R := fun v k => v = Value.ref k.1)
    (E := X.xe) (Q := fun _ s' => s' = { s with heap := sortedHeap (h'.push { cls := .type "list", data := .seq its.toArray }) h'.objs.size its its.toArray }) at1 e1 e2 al srt hl2 (fun k m => ?_) (fun out _ eo => ?_)) (fun u s' es => ?_) fun _ _ z => z))
  · have : (encT k).depth = 0 + 1 := by
      show PyData.depthAll (k.2.map PyData.int) + 1 = 0 + 1
      rw [Hw.depth_ints]
    rw [this]
    show X.A.units + 1 + 1 + (0 + 1) < cLine
    omega
  · have ms : ks.mergeSort (PySem.W.dataLe false encT) = ks := by
      refine List.mergeSort_of_pairwise (List.Pairwise.imp (fun {k l} n => ?_) pw)
      rw [le_encT]
      simp [n]
    rw [ms] at eo
    have := each_out eo
    rw [this, ei]
  · subst es
    obtain ⟨c, hc2⟩ := sortedHeap_at (out := its.toArray) at1
    have old : ∀ b ob, h'.get? b = some ob → (sortedHeap (h'.push { cls := .type "list", data := .seq its.toArray }) h'.objs.size its its.toArray).get? b = some ob := fun b ob e => by
      have lt2 := Heap.lt_size e
      rw [sortedHeap_old (Nat.ne_of_lt lt2) (by rw [Heap.size_push]; exact Nat.lt_succ_of_lt lt2)]
      exact Heap.get?_push_of_some _ e
    refine wpAny_pure ⟨_, rfl, .ref h'.objs.size, upd H h'.objs.size (.lst (ks.map fun k => V.ref k.1)), J.laid (t' := s.toks) old (Nat.le_refl _) ⟨szl, its, c, rv, hc2⟩, rfl, q _ (J.hok.fresh (Nat.le_refl _))⟩
end
end Hw

namespace Hw
/-! ### numbers below n -/
theorem len_le : ∀ (n : Nat) (l : List Nat), l.Nodup → (∀ x ∈ l, x < n) → l.length ≤ n
  | 0, l, _, h => by
    cases l with
    | nil => exact Nat.le_refl _
    | cons x r => exact absurd (h x List.mem_cons_self) (Nat.not_lt_zero _)
  | n + 1, l, nd, h => by
    have h1 := len_le n (l.erase n) (nd.erase n) fun x hx => by
      have e1 := (List.Nodup.mem_erase_iff nd).mp hx
      have := h x e1.2
      have := e1.1
      omega
    by_cases z : n ∈ l
    · rw [List.length_erase_of_mem z] at h1
      omega
    · rw [List.erase_of_not_mem z] at h1
      omega
theorem isP_mem {p : List Nat} (h : IsP p) {y : Nat} (hy : y < p.length) : y ∈ p := by
  by_cases z : y ∈ p
  · exact z
  · exfalso
    have := len_le p.length (y :: p) (List.nodup_cons.mpr ⟨z, h.1⟩) fun x hx => by
      rcases List.mem_cons.mp hx with e | m
      · rw [e]; exact hy
      · exact h.2 x m
    rw [List.length_cons] at this
    omega
theorem ap_inj {p : List Nat} (h : IsP p) {x y : Nat} (hx : x < p.length) (hy : y < p.length) (e : ap p x = ap p y) : x = y := by
  have h1 := ap_get hx
  have h2 := ap_get hy
  rw [e] at h1
  obtain ⟨_, e1⟩ := List.getElem?_eq_some_iff.mp h1
  obtain ⟨_, e2⟩ := List.getElem?_eq_some_iff.mp h2
  exact (List.getElem_inj (h₀ := hx) (h₁ := hy) h.1).mp (e1.trans e2.symm)
/-! ### steps -/
theorem it_lt {p : List Nat} (h : IsP p) {x : Nat} (hx : x < p.length) : ∀ k, it p k x < p.length
  | 0 => hx
  | k + 1 => ap_lt h (it_lt h hx k)
theorem it_add (p : List Nat) (x j : Nat) : ∀ k, it p (j + k) x = it p k (it p j x)
  | 0 => rfl
  | k + 1 => by
    show ap p (it p (j + k) x) = ap p (it p k (it p j x))
    rw [it_add p x j k]
theorem it_inj {p : List Nat} (h : IsP p) {x y : Nat} (hx : x < p.length) (hy : y < p.length) : ∀ k, it p k x = it p k y → x = y
  | 0, e => e
  | k + 1, e => it_inj h hx hy k (ap_inj h (it_lt h hx k) (it_lt h hy k) e)
theorem back_ex {p : List Nat} (h : IsP p) {x : Nat} (hx : x < p.length) : ∃ k, 1 ≤ k ∧ k ≤ p.length ∧ it p k x = x := by
  by_cases z : ∃ k, 1 ≤ k ∧ k ≤ p.length ∧ it p k x = x
  · exact z
  · exfalso
    have nd : ((List.range (p.length + 1)).map fun k => it p k x).Nodup := by
      rw [List.nodup_iff_pairwise_ne, List.pairwise_map]
      refine List.Pairwise.imp_of_mem (fun {i j} hi hj hij e => ?_) (List.pairwise_lt_range (n := p.length + 1))
      rw [List.mem_range] at hi hj
      apply z
      refine ⟨j - i, by omega, by omega, ?_⟩
      have e2 : j = i + (j - i) := by omega
      rw [e2, Nat.add_comm, it_add] at e
      exact (it_inj h hx (it_lt h hx _) i (by
        rw [e])).symm
    have := len_le p.length _ nd fun y hy => by
      obtain ⟨k, _, rfl⟩ := List.mem_map.mp hy
      exact it_lt h hx k
    rw [List.length_map, List.length_range] at this
    omega
theorem perF_spec (p : List Nat) (x : Nat) : ∀ m k, (∃ j, k ≤ j ∧ j < k + m ∧ it p j x = x) → k ≤ perF p x m k ∧ perF p x m k < k + m ∧ it p (perF p x m k) x = x ∧ ∀ j, k ≤ j → j < perF p x m k → it p j x ≠ x
  | 0, k, ⟨j, h1, h2, _⟩ => by omega
  | m + 1, k, ⟨j, h1, h2, h3⟩ => by
    unfold perF
    by_cases z : it p k x = x
    · rw [if_pos z]
      exact ⟨Nat.le_refl _, by omega, z, fun j a b => by omega⟩
    · rw [if_neg z]
      have hj : k + 1 ≤ j := by
        rcases Nat.lt_or_ge k j with q | q
        · exact q
        · have : j = k := by omega
          subst this
          exact absurd h3 z
      obtain ⟨a, b, c, d⟩ := perF_spec p x m (k + 1) ⟨j, hj, by omega, h3⟩
      refine ⟨by omega, by omega, c, fun i hi hi2 => ?_⟩
      rcases Nat.lt_or_ge k i with q | q
      · exact d i q hi2
      · have : i = k := by omega
        subst this
        exact z
section
variable {p : List Nat} (h : IsP p) {x y : Nat} (hx : x < p.length)
include h hx
theorem per_spec : 1 ≤ per p x ∧ per p x ≤ p.length ∧ it p (per p x) x = x ∧ ∀ j, 1 ≤ j → j < per p x → it p j x ≠ x := by
  obtain ⟨k, h1, h2, h3⟩ := back_ex h hx
  obtain ⟨a, b, c, d⟩ := perF_spec p x p.length 1 ⟨k, h1, by omega, h3⟩
  exact ⟨a, by unfold per; omega, c, d⟩
theorem it_mul (k : Nat) : it p (per p x * k) x = x := by
  induction k with
  | zero => rfl
  | succ k ih => rw [Nat.mul_succ, it_add, ih, (per_spec h hx).2.2.1]
theorem it_mod (k : Nat) : it p k x = it p (k % per p x) x := by
  have e := Nat.div_add_mod k (per p x)
  calc it p k x = it p (per p x * (k / per p x) + k % per p x) x := by rw [e]
    _ = it p (k % per p x) x := by rw [it_add, it_mul h hx]
theorem it_back_iff (k : Nat) : it p k x = x ↔ per p x ∣ k := by
  have hp := (per_spec h hx)
  constructor
  · intro e
    rw [it_mod h hx] at e
    have lt := Nat.mod_lt k (show 0 < per p x from hp.1)
    rcases Nat.eq_zero_or_pos (k % per p x) with z | z
    · exact Nat.dvd_of_mod_eq_zero z
    · exact absurd e (hp.2.2.2 _ z lt)
  · rintro ⟨c, rfl⟩
    exact it_mul h hx c
theorem it_eq_iff {i j : Nat} (hi : i < per p x) (hj : j < per p x) (e : it p i x = it p j x) : i = j := by
  have main : ∀ i j, i < j → j < per p x → it p i x = it p j x → False := fun i j hij hj e => by
    have e2 : j = (j - i) + i := by omega
    rw [e2, it_add] at e
    have e3 := it_inj h hx (it_lt h hx (j - i)) i e
    exact (per_spec h hx).2.2.2 (j - i) (by omega) (by omega) e3.symm
  rcases Nat.lt_trichotomy i j with z | z | z
  · exact (main i j z hj e).elim
  · exact z
  · exact (main j i z hi e.symm).elim
theorem orb_len : (orb p x).length = per p x := by unfold orb; rw [List.length_map, List.length_range]
theorem orb_get {k : Nat} (hk : k < per p x) : (orb p x)[k]? = some (it p k x) := by
  unfold orb
  rw [List.getElem?_map, List.getElem?_range hk]
  rfl
theorem orb_nodup : (orb p x).Nodup := by
  unfold orb
  rw [List.nodup_iff_pairwise_ne, List.pairwise_map]
  refine List.Pairwise.imp_of_mem (fun {i j} hi hj hij e => ?_) (List.pairwise_lt_range (n := per p x))
  rw [List.mem_range] at hi hj
  have := it_eq_iff h hx hi hj e
  omega
theorem mem_orb : y ∈ orb p x ↔ ∃ k, it p k x = y := by
  constructor
  · intro z
    obtain ⟨k, _, e⟩ := List.mem_map.mp z
    exact ⟨k, e⟩
  · rintro ⟨k, rfl⟩
    rw [it_mod h hx]
    exact List.mem_map.mpr ⟨_, List.mem_range.mpr (Nat.mod_lt _ (per_spec h hx).1), rfl⟩
theorem orb_lt (z : y ∈ orb p x) : y < p.length := by
  obtain ⟨k, rfl⟩ := (mem_orb h hx).mp z
  exact it_lt h hx k
theorem self_orb : x ∈ orb p x := (mem_orb h hx).mpr ⟨0, rfl⟩
theorem orb_symm (z : y ∈ orb p x) : x ∈ orb p y := by
  have hy := orb_lt h hx z
  obtain ⟨k, rfl⟩ := (mem_orb h hx).mp z
  refine (mem_orb h hy).mpr ⟨per p x * k - k, ?_⟩
  have hk : k ≤ per p x * k := Nat.le_mul_of_pos_left k (per_spec h hx).1
  rw [← it_add, Nat.add_sub_cancel' hk, it_mul h hx]
theorem orb_trans {z : Nat} (a : y ∈ orb p x) (b : z ∈ orb p y) : z ∈ orb p x := by
  have hy := orb_lt h hx a
  obtain ⟨k, rfl⟩ := (mem_orb h hx).mp a
  obtain ⟨j, rfl⟩ := (mem_orb h hy).mp b
  exact (mem_orb h hx).mpr ⟨k + j, it_add p x k j⟩
end
/-! ### what is seen -/
theorem sn_iff {p : List Nat} {i j : Nat} : sn p i j = true ↔ ∃ f, f < i ∧ j ∈ orb p f := by
  unfold sn
  simp only [List.any_eq_true, List.mem_range, decide_eq_true_eq]
theorem sn_succ (p : List Nat) (i j : Nat) : sn p (i + 1) j = (sn p i j || decide (j ∈ orb p i)) := by
  unfold sn
  rw [List.range_succ, List.any_append]
  simp
theorem sn_seen {p : List Nat} (h : IsP p) {i : Nat} (hi : i < p.length) (s : sn p i i = true) (j : Nat) : sn p (i + 1) j = sn p i j := by
  rw [sn_succ]
  by_cases z : j ∈ orb p i
  · obtain ⟨f, hf, hm⟩ := sn_iff.mp s
    have hfl : f < p.length := by omega
    have : sn p i j = true := sn_iff.mpr ⟨f, hf, orb_trans h hfl hm z⟩
    rw [this]
    rfl
  · simp [z]
theorem sn_fresh {p : List Nat} (h : IsP p) {i : Nat} (hi : i < p.length) (s : sn p i i = false) {j : Nat} (z : j ∈ orb p i) : sn p i j = false := by
  cases e : sn p i j with
  | false => rfl
  | true =>
    obtain ⟨f, hf, hm⟩ := sn_iff.mp e
    have hfl : f < p.length := by omega
    have : sn p i i = true := sn_iff.mpr ⟨f, hf, orb_trans h hfl hm (orb_symm h hi z)⟩
    rw [s] at this
    cases this
theorem cycF_succ (p : List Nat) (i : Nat) : cycF p (i + 1) = cycF p i ++ if (!sn p i i && decide (1 < per p i)) = true then [orb p i] else [] := by
  unfold cycF
  rw [List.range_succ, List.filter_append, List.map_append]
  congr 1
  simp only [List.filter_cons, List.filter_nil]
  split <;> rfl
end Hw

namespace Hw
/-! ### products -/
theorem isP_range (n : Nat) : IsP (List.range n) := ⟨List.nodup_range, fun x hx => by rw [List.length_range]; exact List.mem_range.mp hx⟩
theorem ext_ap {p q : List Nat} (hl : p.length = q.length) (h : ∀ x, x < p.length → ap p x = ap q x) : p = q := by
  apply List.ext_getElem?
  intro x
  by_cases hx : x < p.length
  · rw [ap_get hx, ap_get (by rw [← hl]; exact hx), h x hx]
  · rw [List.getElem?_eq_none (by omega), List.getElem?_eq_none (by omega)]
theorem ap_map {n x : Nat} (f : Nat → Nat) (h : x < n) : ap ((List.range n).map f) x = f x := by
  unfold ap
  rw [List.getD_eq_getElem?_getD, List.getElem?_map, List.getElem?_range h]
  rfl
theorem ap_range {n x : Nat} (h : x < n) : ap (List.range n) x = x := by
  unfold ap
  rw [List.getD_eq_getElem?_getD, List.getElem?_range h]
  rfl
theorem ap_mul {p q : List Nat} {x : Nat} (h : x < p.length) : ap (mul p q) x = ap q (ap p x) := by
  unfold mul
  conv => lhs; unfold ap
  rw [List.getD_eq_getElem?_getD, List.getElem?_map, ap_get h]
  rfl
theorem isP_of_inj {p : List Nat} (h1 : ∀ x, x < p.length → ap p x < p.length) (h2 : ∀ x y, x < p.length → y < p.length → ap p x = ap p y → x = y) : IsP p := by
  refine ⟨?_, fun x hx => ?_⟩
  · rw [List.nodup_iff_pairwise_ne, List.pairwise_iff_getElem]
    intro i j hi hj hij e
    have a1 := ap_get hi
    have a2 := ap_get hj
    rw [List.getElem?_eq_getElem hi] at a1
    rw [List.getElem?_eq_getElem hj] at a2
    have := h2 i j hi hj (by rw [← Option.some.inj a1, ← Option.some.inj a2, e])
    omega
  · obtain ⟨i, hi, e⟩ := List.getElem_of_mem hx
    have a1 := ap_get hi
    rw [List.getElem?_eq_getElem hi] at a1
    rw [← e, Option.some.inj a1]
    exact h1 i hi
theorem isP_mul {p q : List Nat} (hp : IsP p) (hq : IsP q) (hl : p.length = q.length) : IsP (mul p q) := by
  have lt : ∀ x, x < p.length → ap p x < q.length := fun x hx => by rw [← hl]; exact ap_lt hp hx
  refine isP_of_inj (fun x hx => ?_) (fun x y hx hy e => ?_)
  · rw [mul_len] at hx ⊢
    rw [ap_mul hx, hl]
    exact ap_lt hq (lt x hx)
  · rw [mul_len] at hx hy
    rw [ap_mul hx, ap_mul hy] at e
    exact ap_inj hp hx hy (ap_inj hq (lt x hx) (lt y hy) e)
theorem mul_range_left {p : List Nat} {n : Nat} (h : p.length = n) : mul (List.range n) p = p := by
  refine ext_ap (by rw [mul_len, List.length_range, h]) fun x hx => ?_
  rw [mul_len] at hx
  have hx' : x < n := by rw [List.length_range] at hx; exact hx
  rw [ap_mul hx, ap_range hx']
theorem mul_range_right {p : List Nat} {n : Nat} (hp : IsP p) (h : p.length = n) : mul p (List.range n) = p := by
  refine ext_ap (by rw [mul_len]) fun x hx => ?_
  rw [mul_len] at hx
  rw [ap_mul hx, ap_range (by rw [← h]; exact ap_lt hp hx)]
theorem mul_assoc' {p q r : List Nat} (hp : IsP p) (h : p.length = q.length) : mul (mul p q) r = mul p (mul q r) := by
  refine ext_ap (by rw [mul_len, mul_len, mul_len]) fun x hx => ?_
  rw [mul_len, mul_len] at hx
  rw [ap_mul (by rw [mul_len]; exact hx), ap_mul hx, ap_mul hx, ap_mul (by rw [← h]; exact ap_lt hp hx)]
theorem inv_len (p : List Nat) : (inv p).length = p.length := by unfold inv; rw [List.length_map, List.length_range]
theorem ap_inv {p : List Nat} (hp : IsP p) {x : Nat} (hx : x < p.length) : ap (inv p) (ap p x) = x := by
  have hy := ap_lt hp hx
  unfold inv
  rw [ap_map _ hy]
  have h1 : p.idxOf (ap p x) < p.length := List.idxOf_lt_length_iff.mpr (ap_mem hx)
  have h2 : p[p.idxOf (ap p x)] = ap p x := List.getElem_idxOf h1
  have h3 := ap_get hx
  rw [List.getElem?_eq_getElem hx] at h3
  exact (List.getElem_inj (h₀ := h1) (h₁ := hx) hp.1).mp (by rw [h2, Option.some.inj h3])
theorem ap_surj {p : List Nat} (hp : IsP p) {y : Nat} (hy : y < p.length) : ∃ x, x < p.length ∧ ap p x = y := by
  obtain ⟨i, hi, e⟩ := List.getElem_of_mem (isP_mem hp hy)
  have h3 := ap_get hi
  rw [List.getElem?_eq_getElem hi] at h3
  exact ⟨i, hi, by rw [← Option.some.inj h3, e]⟩
theorem ap_inv' {p : List Nat} (hp : IsP p) {y : Nat} (hy : y < p.length) : ap p (ap (inv p) y) = y := by
  obtain ⟨x, hx, rfl⟩ := ap_surj hp hy
  rw [ap_inv hp hx]
theorem isP_inv {p : List Nat} (hp : IsP p) : IsP (inv p) := by
  refine isP_of_inj (fun x hx => ?_) (fun x y hx hy e => ?_)
  · rw [inv_len] at hx ⊢
    obtain ⟨z, hz, rfl⟩ := ap_surj hp hx
    rw [ap_inv hp hz]
    exact hz
  · rw [inv_len] at hx hy
    rw [← ap_inv' hp hx, ← ap_inv' hp hy, e]
theorem mul_inv {p : List Nat} (hp : IsP p) : mul p (inv p) = List.range p.length := by
  refine ext_ap (by rw [mul_len, List.length_range]) fun x hx => ?_
  rw [mul_len] at hx
  rw [ap_mul hx, ap_inv hp hx, ap_range hx]
theorem inv_mul {p : List Nat} (hp : IsP p) : mul (inv p) p = List.range p.length := by
  refine ext_ap (by rw [mul_len, inv_len, List.length_range]) fun x hx => ?_
  rw [mul_len] at hx
  have hx' := hx
  rw [inv_len] at hx'
  rw [ap_mul hx, ap_inv' hp hx', ap_range hx']
theorem inv_inv' {p : List Nat} (hp : IsP p) : inv (inv p) = p := by
  refine ext_ap (by rw [inv_len, inv_len]) fun x hx => ?_
  rw [inv_len, inv_len] at hx
  have h1 := ap_inv (isP_inv hp) (x := ap p x) (by rw [inv_len]; exact ap_lt hp hx)
  rw [ap_inv hp hx] at h1
  exact h1
/-- an inverse is known by its product -/
theorem inv_of {p q : List Nat} (hp : IsP p) (hl : q.length = p.length) (h : ∀ x, x < p.length → ap q (ap p x) = x) : q = inv p := by
  refine ext_ap (by rw [inv_len, hl]) fun y hy => ?_
  rw [hl] at hy
  obtain ⟨x, hx, rfl⟩ := ap_surj hp hy
  rw [h x hx, ap_inv hp hx]
/-! ### powers, order -/
theorem it_succ' (p : List Nat) (k x : Nat) : it p (k + 1) x = it p k (ap p x) := by
  rw [Nat.add_comm, it_add]
  rfl
section
variable {p : List Nat} (h : IsP p)
include h
theorem per_orb {f x : Nat} (hf : f < p.length) (hx : x ∈ orb p f) : per p x = per p f := by
  have hxl := orb_lt h hf hx
  obtain ⟨j, rfl⟩ := (mem_orb h hf).mp hx
  have key : ∀ k, per p (it p j f) ∣ k ↔ per p f ∣ k := fun k => by
    rw [← it_back_iff h hxl, ← it_back_iff h hf, ← it_add, Nat.add_comm, it_add]
    exact ⟨fun e => it_inj h (it_lt h hf k) hf j e, fun e => by rw [e]⟩
  exact Nat.dvd_antisymm ((key _).mpr (Nat.dvd_refl _)) ((key _).mp (Nat.dvd_refl _))
/-- everyone lies on the way of a least one -/
theorem low_ex {x : Nat} (hx : x < p.length) : ∃ f, f ≤ x ∧ sn p f f = false ∧ x ∈ orb p f := by
  have main : ∀ m f, f ≤ m → f ≤ x → x ∈ orb p f → ∃ f, f ≤ x ∧ sn p f f = false ∧ x ∈ orb p f := by
    intro m
    induction m with
    | zero =>
      intro f hf hfx hm
      have : f = 0 := by omega
      subst this
      exact ⟨0, by omega, rfl, hm⟩
    | succ m ih =>
      intro f hf hfx hm
      cases e : sn p f f with
      | false => exact ⟨f, hfx, e, hm⟩
      | true =>
        obtain ⟨g, hg, hgm⟩ := sn_iff.mp e
        exact ih g (by omega) (by omega) (orb_trans h (by omega) hgm hm)
  exact main x x (Nat.le_refl _) (Nat.le_refl _) (self_orb h hx)
theorem mem_cyc {c : List Nat} : c ∈ cyc p ↔ ∃ f, f < p.length ∧ sn p f f = false ∧ 1 < per p f ∧ c = orb p f := by
  unfold cyc cycF
  simp only [List.mem_map, List.mem_filter, List.mem_range, Bool.and_eq_true, Bool.not_eq_true', decide_eq_true_eq]
  constructor
  · rintro ⟨f, ⟨hf, h1, h2⟩, rfl⟩
    exact ⟨f, hf, h1, h2, rfl⟩
  · rintro ⟨f, hf, h1, h2, rfl⟩
    exact ⟨f, ⟨hf, h1, h2⟩, rfl⟩
theorem lcm_fold (k : Nat) : ∀ (cs : List (List Nat)) (r : Nat), cs.foldl (fun r c => Nat.lcm r c.length) r ∣ k ↔ r ∣ k ∧ ∀ c ∈ cs, c.length ∣ k
  | [], r => by simp
  | c :: cs, r => by
    rw [List.foldl_cons, lcm_fold k cs, Nat.lcm_dvd_iff]
    simp only [List.mem_cons, forall_eq_or_imp]
    exact ⟨fun ⟨⟨a, b⟩, c⟩ => ⟨a, b, c⟩, fun ⟨a, b, c⟩ => ⟨⟨a, b⟩, c⟩⟩
theorem ord_dvd (k : Nat) : ord p ∣ k ↔ ∀ x, x < p.length → it p k x = x := by
  unfold ord
  rw [lcm_fold h]
  constructor
  · rintro ⟨_, hc⟩ x hx
    obtain ⟨f, hfx, hs, hm⟩ := low_ex h hx
    have hf : f < p.length := by omega
    rw [it_back_iff h hx, per_orb h hf hm]
    by_cases z : 1 < per p f
    · have := hc (orb p f) ((mem_cyc h).mpr ⟨f, hf, hs, z, rfl⟩)
      rw [orb_len h hf] at this
      exact this
    · have := (per_spec h hf).1
      have e : per p f = 1 := by omega
      rw [e]
      exact Nat.one_dvd _
  · intro hk
    refine ⟨Nat.one_dvd _, fun c hc => ?_⟩
    obtain ⟨f, hf, _, _, rfl⟩ := (mem_cyc h).mp hc
    rw [orb_len h hf, ← it_back_iff h hf]
    exact hk f hf
theorem fold_pos : ∀ (cs : List (List Nat)) (r : Nat), 0 < r → (∀ c ∈ cs, 0 < c.length) → 0 < cs.foldl (fun r c => Nat.lcm r c.length) r
  | [], _, hr, _ => hr
  | c :: cs, r, hr, hc => fold_pos cs _ (Nat.lcm_pos hr (hc c List.mem_cons_self)) fun d hd => hc d (List.mem_cons_of_mem _ hd)
theorem cyc_len {c : List Nat} (hc : c ∈ cyc p) : 2 ≤ c.length ∧ c.length ≤ p.length := by
  obtain ⟨f, hf, _, h1, rfl⟩ := (mem_cyc h).mp hc
  rw [orb_len h hf]
  exact ⟨h1, (per_spec h hf).2.1⟩
theorem ord_pos : 0 < ord p := by
  unfold ord
  refine fold_pos h _ 1 (by omega) fun c hc => ?_
  have := cyc_len h hc
  omega
theorem cyc_dvd (hl : p.length ≤ 12) {c : List Nat} (hc : c ∈ cyc p) : c.length ∣ 27720 := by
  have h1 := cyc_len h hc
  have h2 : ∀ k, k ≤ 12 → 2 ≤ k → k ∣ 27720 := by decide
  exact h2 _ (by omega) h1.1
/-- p done j + 1 times -/
def tn (p : List Nat) (j : Nat) : List Nat := (List.range p.length).map fun x => it p (j + 1) x
omit h in
theorem tn_len (j : Nat) : (tn p j).length = p.length := by unfold tn; rw [List.length_map, List.length_range]
omit h in
theorem tn_zero : tn p 0 = p := by
  refine ext_ap (tn_len 0) fun x hx => ?_
  rw [tn_len] at hx
  unfold tn
  rw [ap_map _ hx]
  rfl
theorem tn_succ (j : Nat) : mul (tn p j) p = tn p (j + 1) := by
  refine ext_ap (by rw [mul_len, tn_len, tn_len]) fun x hx => ?_
  rw [mul_len, tn_len] at hx
  rw [ap_mul (by rw [tn_len]; exact hx)]
  unfold tn
  rw [ap_map _ hx, ap_map _ hx]
  rfl
theorem isP_tn : ∀ j, IsP (tn p j)
  | 0 => by rw [tn_zero]; exact h
  | j + 1 => by
    rw [← tn_succ h]
    exact isP_mul (isP_tn j) h (tn_len j)
theorem tn_idle (j : Nat) : tn p j = List.range p.length ↔ ord p ∣ j + 1 := by
  rw [ord_dvd h]
  constructor
  · intro e x hx
    have := congrArg (fun l => ap l x) e
    have this : ap (tn p j) x = ap (List.range p.length) x := this
    unfold tn at this
    rw [ap_map _ hx, ap_range hx] at this
    exact this
  · intro hk
    refine ext_ap (by rw [tn_len, List.length_range]) fun x hx => ?_
    rw [tn_len] at hx
    unfold tn
    rw [ap_map _ hx, ap_range hx, hk x hx]
theorem it_inv {x : Nat} (hx : x < p.length) : ∀ k, it p k (it (inv p) k x) = x
  | 0 => rfl
  | k + 1 => by
    have hq := isP_inv h
    have hlt := it_lt hq (x := x) (by rw [inv_len]; exact hx) k
    rw [inv_len] at hlt
    rw [it_succ']
    show it p k (ap p (ap (inv p) (it (inv p) k x))) = x
    rw [ap_inv' h hlt]
    exact it_inv hx k
theorem ord_inv : ord (inv p) = ord p := by
  have hq := isP_inv h
  have one : ∀ p : List Nat, IsP p → ∀ k, ord p ∣ k → ord (inv p) ∣ k := fun p h k hk => by
    rw [ord_dvd h] at hk
    rw [ord_dvd (isP_inv h), inv_len]
    intro x hx
    have hlt := it_lt (isP_inv h) (x := x) (by rw [inv_len]; exact hx) k
    rw [inv_len] at hlt
    have e1 := hk _ hlt
    rw [it_inv h hx k] at e1
    exact e1.symm
  refine Nat.dvd_antisymm (one p h _ (Nat.dvd_refl _)) ?_
  have := one (inv p) hq (ord (inv p)) (Nat.dvd_refl _)
  rw [inv_inv' h] at this
  exact this
end
/-- the same powers, the same order -/
theorem ord_eq {p q : List Nat} (hp : IsP p) (hq : IsP q) (h : ∀ k, (∀ x, x < p.length → it p k x = x) ↔ ∀ x, x < q.length → it q k x = x) : ord p = ord q := by
  refine Nat.dvd_antisymm ?_ ?_
  · rw [ord_dvd hp, h, ← ord_dvd hq]
    exact Nat.dvd_refl _
  · rw [ord_dvd hq, ← h, ← ord_dvd hp]
    exact Nat.dvd_refl _
/-! ### one cycle alone -/
def mvF (p : List Nat) (s : List Nat) (x : Nat) : Nat := if x ∈ s then ap p x else x
/-- only those of s are moved -/
def mv (p : List Nat) (s : List Nat) : List Nat := (List.range p.length).map (mvF p s)
theorem mv_len (p s : List Nat) : (mv p s).length = p.length := by unfold mv; rw [List.length_map, List.length_range]
theorem ap_mv {p s : List Nat} {x : Nat} (hx : x < p.length) : ap (mv p s) x = mvF p s x := by unfold mv; rw [ap_map _ hx]
section
variable {p : List Nat} (h : IsP p) {s : List Nat} (hs : ∀ x, x < p.length → (x ∈ s ↔ ap p x ∈ s))
include h hs
theorem isP_mv : IsP (mv p s) := by
  refine isP_of_inj (fun x hx => ?_) (fun x y hx hy e => ?_)
  · rw [mv_len] at hx ⊢
    rw [ap_mv hx]
    unfold mvF
    split
    · exact ap_lt h hx
    · exact hx
  · rw [mv_len] at hx hy
    rw [ap_mv hx, ap_mv hy] at e
    unfold mvF at e
    by_cases a : x ∈ s
    · by_cases b : y ∈ s
      · rw [if_pos a, if_pos b] at e
        exact ap_inj h hx hy e
      · rw [if_pos a, if_neg b] at e
        have := (hs x hx).mp a
        rw [e] at this
        exact absurd this b
    · by_cases b : y ∈ s
      · rw [if_neg a, if_pos b] at e
        have := (hs y hy).mp b
        rw [← e] at this
        exact absurd this a
      · rw [if_neg a, if_neg b] at e
        exact e
theorem it_mv {x : Nat} (hx : x < p.length) : ∀ k, it (mv p s) k x = if x ∈ s then it p k x else x
  | 0 => by split <;> rfl
  | k + 1 => by
    have ih := it_mv hx k
    show ap (mv p s) (it (mv p s) k x) = _
    rw [ih]
    by_cases a : x ∈ s
    · rw [if_pos a, if_pos a]
      have hlt := it_lt h hx k
      have inS : ∀ k, it p k x ∈ s := fun k => by
        induction k with
        | zero => exact a
        | succ k ih2 => exact (hs _ (it_lt h hx k)).mp ih2
      rw [ap_mv hlt]
      unfold mvF
      rw [if_pos (inS k)]
      rfl
    · rw [if_neg a, if_neg a, ap_mv hx]
      unfold mvF
      rw [if_neg a]
end
theorem orb_step {p : List Nat} (h : IsP p) {f : Nat} (hf : f < p.length) {x : Nat} (hx : x < p.length) : x ∈ orb p f ↔ ap p x ∈ orb p f := by
  constructor
  · intro m
    obtain ⟨k, rfl⟩ := (mem_orb h hf).mp m
    exact (mem_orb h hf).mpr ⟨k + 1, rfl⟩
  · intro m
    have hy := ap_lt h hx
    have m1 : ap p x ∈ orb p x := (mem_orb h hx).mpr ⟨1, rfl⟩
    exact orb_trans h hf m (orb_symm h hx m1)
theorem ord_mv {p : List Nat} (h : IsP p) {f : Nat} (hf : f < p.length) : ord (mv p (orb p f)) = per p f := by
  have hs : ∀ x, x < p.length → (x ∈ orb p f ↔ ap p x ∈ orb p f) := fun x hx => orb_step h hf hx
  have key : ∀ k, ord (mv p (orb p f)) ∣ k ↔ per p f ∣ k := fun k => by
    rw [ord_dvd (isP_mv h hs), mv_len, ← it_back_iff h hf]
    constructor
    · intro hk
      have := hk f hf
      rw [it_mv h hs hf, if_pos (self_orb h hf)] at this
      exact this
    · intro e x hx
      rw [it_mv h hs hx]
      split
      · rename_i m
        rw [it_back_iff h hx, per_orb h hf m, ← it_back_iff h hf]
        exact e
      · rfl
  exact Nat.dvd_antisymm ((key _).mpr (Nat.dvd_refl _)) ((key _).mp (Nat.dvd_refl _))
end Hw

namespace Hw
/-! ### sums -/
def sm (n : Nat) (F : Nat → Int) : Int := ((List.range n).map F).sum
theorem sm_zero (F : Nat → Int) : sm 0 F = 0 := rfl
theorem sm_succ (n : Nat) (F : Nat → Int) : sm (n + 1) F = sm n F + F n := by
  unfold sm
  rw [List.range_succ, List.map_append, List.sum_append]
  simp
theorem sm_congr {n : Nat} {F G : Nat → Int} (h : ∀ i, i < n → F i = G i) : sm n F = sm n G := by
  unfold sm
  congr 1
  exact List.map_congr_left fun i hi => h i (List.mem_range.mp hi)
theorem sm_add (F G : Nat → Int) : ∀ n, sm n (fun i => F i + G i) = sm n F + sm n G
  | 0 => rfl
  | n + 1 => by
    rw [sm_succ, sm_succ, sm_succ, sm_add F G n]
    omega
theorem sm_comb (F G T : Nat → Int) : ∀ n, sm n (fun i => F i + G i - 2 * T i) = sm n F + sm n G - 2 * sm n T
  | 0 => rfl
  | n + 1 => by
    rw [sm_succ, sm_succ, sm_succ, sm_succ, sm_comb F G T n]
    omega
def dd (n : Nat) (y : Nat → Nat → Int) : Int := sm n fun i => sm n fun j => y i j
theorem dd_sym {y : Nat → Nat → Int} (hs : ∀ i j, y i j = y j i) (h0 : ∀ i, y i i = 0) : ∀ n, dd n y = 2 * sm n fun j => sm j fun i => y i j
  | 0 => rfl
  | n + 1 => by
    have ih := dd_sym hs h0 n
    unfold dd at ih ⊢
    rw [sm_succ, sm_succ, sm_succ, h0]
    have e1 : (sm n fun i => sm (n + 1) fun j => y i j) = (sm n fun i => sm n fun j => y i j) + sm n fun i => y i n := by
      rw [← sm_add]
      exact sm_congr fun i _ => sm_succ n _
    have e2 : (sm n fun j => y n j) = sm n fun i => y i n := sm_congr fun i _ => hs n i
    rw [e1, e2, ih]
    omega
theorem perm_sum {l m : List Int} (h : l.Perm m) : l.sum = m.sum := by
  induction h with
  | nil => rfl
  | cons x _ ih => rw [List.sum_cons, List.sum_cons, ih]
  | swap x y l => simp only [List.sum_cons]; omega
  | trans _ _ a b => rw [a, b]
theorem nodup_count {l : List Nat} (h : l.Nodup) (a : Nat) : l.count a = if a ∈ l then 1 else 0 := by
  induction l with
  | nil => rfl
  | cons x r ih =>
    obtain ⟨h1, h2⟩ := List.nodup_cons.mp h
    rw [List.count_cons, ih h2]
    by_cases e : x = a
    · subst e
      simp [h1]
    · have e' : ¬ a = x := fun z => e z.symm
      simp [e, e']
theorem perm_of_mem {l m : List Nat} (hl : l.Nodup) (hm : m.Nodup) (h : ∀ x, x ∈ l ↔ x ∈ m) : l.Perm m := by
  rw [List.perm_iff_count]
  intro a
  rw [nodup_count hl, nodup_count hm]
  simp only [h a]
theorem perm_range {p : List Nat} (hp : IsP p) : p.Perm (List.range p.length) :=
  perm_of_mem hp.1 List.nodup_range fun x => ⟨fun m => List.mem_range.mpr (hp.2 x m), fun m => isP_mem hp (List.mem_range.mp m)⟩
theorem map_ap (p : List Nat) : (List.range p.length).map (ap p) = p := by
  refine ext_ap (by rw [List.length_map, List.length_range]) fun x hx => ?_
  rw [List.length_map, List.length_range] at hx
  rw [ap_map _ hx]
theorem sm_perm {p : List Nat} (hp : IsP p) (F : Nat → Int) : (sm p.length fun i => F (ap p i)) = sm p.length F := by
  unfold sm
  have e : (List.range p.length).map (fun i => F (ap p i)) = p.map F := by
    conv => rhs; rw [← map_ap p]
    rw [List.map_map]
    rfl
  rw [e]
  exact perm_sum ((perm_range hp).map F)
/-! ### pairs that stand the other way -/
def xx (p : List Nat) (i j : Nat) : Int := if decide (i < j) = decide (ap p i < ap p j) then 0 else 1
theorem xx_self (p : List Nat) (i : Nat) : xx p i i = 0 := by unfold xx; simp
theorem xx_sym {p : List Nat} (hp : IsP p) {i j : Nat} (hi : i < p.length) (hj : j < p.length) : xx p i j = xx p j i := by
  unfold xx
  by_cases e : i = j
  · subst e; rfl
  · have ne : ap p i ≠ ap p j := fun z => e (ap_inj hp hi hj z)
    have a : decide (i < j) = !decide (j < i) := by
      by_cases q : i < j
      · have : ¬ j < i := by omega
        simp [q, this]
      · have : j < i := by omega
        simp [q, this]
    have b : decide (ap p i < ap p j) = !decide (ap p j < ap p i) := by
      by_cases q : ap p i < ap p j
      · have : ¬ ap p j < ap p i := by omega
        simp [q, this]
      · have : ap p j < ap p i := by omega
        simp [q, this]
    rw [a, b]
    cases decide (j < i) <;> cases decide (ap p j < ap p i) <;> rfl
/-- xx within n, else nothing: symmetric everywhere -/
def xn (n : Nat) (y : Nat → Nat → Int) (i j : Nat) : Int := if i < n ∧ j < n then y i j else 0
theorem dd_xn (n : Nat) (y : Nat → Nat → Int) : dd n (xn n y) = dd n y := by
  unfold dd
  refine sm_congr fun i hi => sm_congr fun j hj => ?_
  unfold xn
  rw [if_pos ⟨hi, hj⟩]
theorem dd_half {n : Nat} {y : Nat → Nat → Int} (hs : ∀ i j, i < n → j < n → y i j = y j i) (h0 : ∀ i, y i i = 0) : dd n y = 2 * sm n fun j => sm j fun i => y i j := by
  rw [← dd_xn, dd_sym (y := xn n y)]
  · congr 1
    refine sm_congr fun j hj => sm_congr fun i hi => ?_
    unfold xn
    rw [if_pos ⟨by omega, hj⟩]
  · intro i j
    unfold xn
    by_cases q : i < n ∧ j < n
    · rw [if_pos q, if_pos ⟨q.2, q.1⟩]
      exact hs i j q.1 q.2
    · rw [if_neg q, if_neg (fun z => q ⟨z.2, z.1⟩)]
  · intro i
    unfold xn
    split
    · exact h0 i
    · rfl
theorem len_filter (P : Nat → Bool) : ∀ l : List Nat, ((l.filter P).length : Int) = (l.map fun x => if P x = true then (1 : Int) else 0).sum
  | [] => rfl
  | x :: r => by
    rw [List.map_cons, List.sum_cons, ← len_filter P r, List.filter_cons]
    by_cases e : P x = true
    · rw [if_pos e, if_pos e, List.length_cons]
      omega
    · rw [if_neg e, if_neg e]
      omega
theorem take_ap {p : List Nat} {j : Nat} (hj : j ≤ p.length) : p.take j = (List.range j).map (ap p) := by
  conv => lhs; rw [← map_ap p]
  rw [← List.map_take, List.take_range, Nat.min_eq_left hj]
theorem invs_sm {p : List Nat} (hp : IsP p) : (invs p : Int) = sm p.length fun j => sm j fun i => xx p i j := by
  unfold invs
  have e : ∀ l : List Nat, (((l.map (invAt p)).sum : Nat) : Int) = (l.map fun j => (invAt p j : Int)).sum := by
    intro l
    induction l with
    | nil => rfl
    | cons x r ih =>
      rw [List.map_cons, List.map_cons, List.sum_cons, List.sum_cons, ← ih]
      omega
  rw [e]
  refine sm_congr fun j hj => ?_
  unfold invAt
  rw [len_filter, take_ap (by omega), List.map_map]
  refine sm_congr fun i hi => ?_
  show (if decide (ap p j < ap p i) = true then (1 : Int) else 0) = xx p i j
  unfold xx
  have ne : ap p i ≠ ap p j := fun z => by
    have := ap_inj hp (by omega) hj z
    omega
  by_cases q : ap p j < ap p i
  · have q2 : ¬ ap p i < ap p j := by omega
    simp [q, q2, hi]
  · have q2 : ap p i < ap p j := by omega
    simp [q, q2, hi]
theorem dd_invs {p : List Nat} (hp : IsP p) : dd p.length (xx p) = 2 * (invs p : Int) := by
  rw [invs_sm hp]
  exact dd_half (fun i j hi hj => xx_sym hp hi hj) (xx_self p)
theorem bool3 (a b c : Bool) : (if a = c then (0 : Int) else 1) = (if a = b then (0 : Int) else 1) + (if b = c then (0 : Int) else 1) - 2 * ((if a = b then (0 : Int) else 1) * (if b = c then (0 : Int) else 1)) := by
  cases a <;> cases b <;> cases c <;> decide
theorem invs_mul {p q : List Nat} (hp : IsP p) (hq : IsP q) (hl : p.length = q.length) : ∃ t : Int, (invs (mul p q) : Int) = invs p + invs q - 2 * t := by
  have hpq := isP_mul hp hq hl
  have lt : ∀ i, i < p.length → ap p i < q.length := fun i hi => by rw [← hl]; exact ap_lt hp hi
  have e1 := dd_invs hpq
  rw [mul_len] at e1
  have e2 : dd p.length (xx (mul p q)) = dd p.length (xx p) + dd p.length (fun i j => xx q (ap p i) (ap p j)) - 2 * dd p.length (fun i j => xx p i j * xx q (ap p i) (ap p j)) := by
    unfold dd
    rw [← sm_comb]
    refine sm_congr fun i hi => ?_
    rw [← sm_comb]
    refine sm_congr fun j hj => ?_
    unfold xx
    rw [ap_mul hi, ap_mul hj]
    exact bool3 _ _ _
  have e3 : dd p.length (fun i j => xx q (ap p i) (ap p j)) = dd q.length (xx q) := by
    unfold dd
    have a : (sm p.length fun i => sm p.length fun j => xx q (ap p i) (ap p j)) = sm p.length fun i => sm p.length fun j => xx q (ap p i) j :=
      sm_congr fun i _ => sm_perm hp fun j => xx q (ap p i) j
    rw [a, sm_perm hp (fun i => sm p.length fun j => xx q i j), hl]
  have e4 := dd_half (n := p.length) (y := fun i j => xx p i j * xx q (ap p i) (ap p j)) (fun i j hi hj => by
    rw [xx_sym hp hi hj, xx_sym hq (lt i hi) (lt j hj)]) (fun i => by rw [xx_self]; simp)
  rw [dd_invs hp, e3, dd_invs hq, e4, e1] at e2
  exact ⟨sm p.length fun j => sm j fun i => xx p i j * xx q (ap p i) (ap p j), by omega⟩
theorem sgn_mul {p q : List Nat} (hp : IsP p) (hq : IsP q) (hl : p.length = q.length) : (invs (mul p q) : Int) % 2 = ((invs p : Int) + invs q) % 2 := by
  obtain ⟨t, e⟩ := invs_mul hp hq hl
  omega
end Hw

namespace Hw
/-! ### exchanges of two -/
def swF (i j x : Nat) : Nat := if x = i then j else if x = j then i else x
def sw (n i j : Nat) : List Nat := (List.range n).map (swF i j)
theorem sw_len (n i j : Nat) : (sw n i j).length = n := by unfold sw; rw [List.length_map, List.length_range]
theorem ap_sw {n i j x : Nat} (h : x < n) : ap (sw n i j) x = swF i j x := by unfold sw; rw [ap_map _ h]
theorem isP_sw {n i j : Nat} (hi : i < n) (hj : j < n) : IsP (sw n i j) := by
  refine isP_of_inj (fun x hx => ?_) (fun x y hx hy e => ?_)
  · rw [sw_len] at hx ⊢
    rw [ap_sw hx]
    unfold swF
    split
    · exact hj
    · split
      · exact hi
      · exact hx
  · rw [sw_len] at hx hy
    rw [ap_sw hx, ap_sw hy] at e
    unfold swF at e
    repeat (first | omega | split at e)
theorem sw_all : ∀ n, n ≤ 17 → ∀ i, i < n → ∀ j, j < n → i ≠ j → invs (sw n i j) % 2 = 1 := by decide +kernel
theorem sgn_sw {n i j : Nat} (hn : n ≤ 17) (hi : i < n) (hj : j < n) (h : i ≠ j) : (invs (sw n i j) : Int) % 2 = 1 := by
  have := sw_all n hn i hi j hj h
  omega
theorem invs_range_all : ∀ n, n ≤ 17 → invs (List.range n) = 0 := by decide +kernel
/-! ### a cycle, exchange by exchange -/
def ptF (p : List Nat) (f k x : Nat) : Nat := if x ∈ (orb p f).take k then (if x = it p (k - 1) f then f else ap p x) else x
def pt (p : List Nat) (f k : Nat) : List Nat := (List.range p.length).map (ptF p f k)
theorem pt_len (p : List Nat) (f k : Nat) : (pt p f k).length = p.length := by unfold pt; rw [List.length_map, List.length_range]
theorem ap_pt {p : List Nat} {f k x : Nat} (hx : x < p.length) : ap (pt p f k) x = ptF p f k x := by unfold pt; rw [ap_map _ hx]
section
variable {p : List Nat} (h : IsP p) {f : Nat} (hf : f < p.length)
include h hf
theorem mem_orb_take {k x : Nat} (hk : k ≤ per p f) : x ∈ (orb p f).take k ↔ ∃ i, i < k ∧ it p i f = x := by
  rw [List.mem_take_iff_getElem]
  constructor
  · rintro ⟨j, hj, e⟩
    have h1 := orb_get h hf (k := j) (by omega)
    have h2 := List.getElem?_eq_getElem (l := orb p f) (i := j) (by omega)
    rw [h1] at h2
    exact ⟨j, by omega, by rw [Option.some.inj h2, e]⟩
  · rintro ⟨i, hi, rfl⟩
    have hl := orb_len h hf
    refine ⟨i, by omega, ?_⟩
    have h1 := orb_get h hf (k := i) (by omega)
    have h2 := List.getElem?_eq_getElem (l := orb p f) (i := i) (by omega)
    rw [h1] at h2
    exact (Option.some.inj h2).symm
theorem pt_one : pt p f 1 = List.range p.length := by
  have ps := per_spec h hf
  refine ext_ap (by rw [pt_len, List.length_range]) fun x hx => ?_
  rw [pt_len] at hx
  rw [ap_pt hx, ap_range hx]
  unfold ptF
  by_cases m : x ∈ (orb p f).take 1
  · rw [if_pos m]
    obtain ⟨i, hi, e⟩ := (mem_orb_take h hf ps.1).mp m
    have : i = 0 := by omega
    subst this
    have e' : f = x := e
    show (if x = f then f else ap p x) = x
    rw [if_pos e'.symm]
    exact e'
  · rw [if_neg m]
theorem pt_succ {k : Nat} (h1 : 1 ≤ k) (h2 : k < per p f) : pt p f (k + 1) = mul (pt p f k) (sw p.length f (it p k f)) := by
  have hk := it_lt h hf k
  have ptlt : ∀ x, x < p.length → ptF p f k x < p.length := fun x hx => by
    unfold ptF
    repeat (first | exact ap_lt h hx | exact hf | exact hx | split)
  refine ext_ap (by rw [pt_len, mul_len, pt_len]) fun x hx => ?_
  rw [pt_len] at hx
  rw [ap_pt hx, ap_mul (by rw [pt_len]; exact hx), ap_pt hx, ap_sw (ptlt x hx)]
  have inj : ∀ {i j}, i < per p f → j < per p f → it p i f = it p j f → i = j := fun hi hj e => it_eq_iff h hf hi hj e
  by_cases m : x ∈ (orb p f).take k
  · obtain ⟨i, hi, rfl⟩ := (mem_orb_take h hf (by omega)).mp m
    have m2 : it p i f ∈ (orb p f).take (k + 1) := (mem_orb_take h hf (by omega)).mpr ⟨i, by omega, rfl⟩
    have nk : it p i f ≠ it p k f := fun e => by
      have := inj (by omega) h2 e
      omega
    have a1 : ptF p f (k + 1) (it p i f) = it p (i + 1) f := by
      unfold ptF
      rw [if_pos m2, Nat.add_sub_cancel, if_neg nk]
      rfl
    rw [a1]
    by_cases e : i = k - 1
    · have a2 : ptF p f k (it p i f) = f := by
        unfold ptF
        rw [if_pos m, e, if_pos rfl]
      rw [a2]
      unfold swF
      rw [if_pos rfl]
      have : i + 1 = k := by omega
      rw [this]
    · have ne : it p i f ≠ it p (k - 1) f := fun z => e (inj (by omega) (by omega) z)
      have a2 : ptF p f k (it p i f) = it p (i + 1) f := by
        unfold ptF
        rw [if_pos m, if_neg ne]
        rfl
      rw [a2]
      unfold swF
      rw [if_neg (fun z => by
        have := inj (i := i + 1) (j := 0) (by omega) (by omega) z
        omega), if_neg (fun z => by
        have := inj (i := i + 1) (j := k) (by omega) (by omega) z
        omega)]
  · have a2 : ptF p f k x = x := by
      unfold ptF
      rw [if_neg m]
    rw [a2]
    have nf : x ≠ f := fun e => m ((mem_orb_take h hf (by omega)).mpr ⟨0, by omega, e.symm⟩)
    by_cases e : x = it p k f
    · have m2 : x ∈ (orb p f).take (k + 1) := (mem_orb_take h hf (by omega)).mpr ⟨k, by omega, e.symm⟩
      unfold ptF swF
      rw [if_pos m2, Nat.add_sub_cancel, if_pos e, if_neg nf, if_pos e]
    · have m2 : x ∉ (orb p f).take (k + 1) := fun z => by
        obtain ⟨i, hi, e2⟩ := (mem_orb_take h hf (by omega)).mp z
        by_cases q : i = k
        · exact e (by rw [← e2, q])
        · exact m ((mem_orb_take h hf (by omega)).mpr ⟨i, by omega, e2⟩)
      unfold ptF swF
      rw [if_neg m2, if_neg nf, if_neg e]
theorem pt_all : pt p f (per p f) = mv p (orb p f) := by
  have ps := per_spec h hf
  refine ext_ap (by rw [pt_len, mv_len]) fun x hx => ?_
  rw [pt_len] at hx
  rw [ap_pt hx, ap_mv hx]
  unfold ptF mvF
  have e1 : (orb p f).take (per p f) = orb p f := by rw [← orb_len h hf, List.take_length]
  rw [e1]
  by_cases m : x ∈ orb p f
  · rw [if_pos m, if_pos m]
    by_cases e : x = it p (per p f - 1) f
    · rw [if_pos e, e]
      have : per p f = (per p f - 1) + 1 := by omega
      have e2 := ps.2.2.1
      rw [this] at e2
      exact e2.symm
    · rw [if_neg e]
  · rw [if_neg m, if_neg m]
theorem pt_sgn (hn : p.length ≤ 17) : ∀ k, k + 1 ≤ per p f → IsP (pt p f (k + 1)) ∧ (invs (pt p f (k + 1)) : Int) % 2 = (k : Int) % 2
  | 0, _ => by
    rw [pt_one h hf]
    refine ⟨isP_range _, ?_⟩
    rw [invs_range_all _ hn]
  | k + 1, hk => by
    obtain ⟨i1, i2⟩ := pt_sgn hn k (by omega)
    have hs := isP_sw hf (it_lt h hf (k + 1))
    have hl : (pt p f (k + 1)).length = (sw p.length f (it p (k + 1) f)).length := by rw [pt_len, sw_len]
    rw [pt_succ h hf (by omega) (by omega)]
    refine ⟨isP_mul i1 hs hl, ?_⟩
    rw [sgn_mul i1 hs hl]
    have ne : f ≠ it p (k + 1) f := fun e => by
      have := it_eq_iff h hf (i := 0) (j := k + 1) (by omega) (by omega) e
      omega
    have := sgn_sw hn hf (it_lt h hf (k + 1)) ne
    omega
theorem sgn_mv (hn : p.length ≤ 17) : (invs (mv p (orb p f)) : Int) % 2 = ((per p f : Int) - 1) % 2 := by
  have ps := per_spec h hf
  have := (pt_sgn h hf hn (per p f - 1) (by omega)).2
  rw [show per p f - 1 + 1 = per p f by omega, pt_all h hf] at this
  omega
end
end Hw

namespace Hw
/-! ### all cycles -/
section
variable {p : List Nat} (h : IsP p)
include h
theorem orb_disj {f g : Nat} (hf : f < p.length) (hg : g < p.length) (hfg : f < g) (sg : sn p g g = false) {x : Nat} (a : x ∈ orb p f) : x ∉ orb p g := fun b => by
  have : sn p g g = true := sn_iff.mpr ⟨f, hfg, orb_trans h hf a (orb_symm h hg b)⟩
  rw [sg] at this
  cases this
theorem cyc_pw : (cyc p).Pairwise fun c d => ∃ f g, f < p.length ∧ g < p.length ∧ f < g ∧ sn p f f = false ∧ sn p g g = false ∧ c = orb p f ∧ d = orb p g := by
  unfold cyc cycF
  rw [List.pairwise_map]
  refine List.Pairwise.imp_of_mem (fun {f g} hf hg hfg => ?_) (List.Pairwise.filter _ (List.pairwise_lt_range (n := p.length)))
  obtain ⟨a1, a2⟩ := List.mem_filter.mp hf
  obtain ⟨b1, b2⟩ := List.mem_filter.mp hg
  rw [List.mem_range] at a1 b1
  simp only [Bool.and_eq_true, Bool.not_eq_true'] at a2 b2
  exact ⟨f, g, a1, b1, hfg, a2.1, b2.1, rfl, rfl⟩
theorem cyc_disj {i j : Nat} {c d : List Nat} (hij : i < j) (hc : (cyc p)[i]? = some c) (hd : (cyc p)[j]? = some d) {x : Nat} (a : x ∈ c) : x ∉ d := by
  obtain ⟨hi, e1⟩ := List.getElem?_eq_some_iff.mp hc
  obtain ⟨hj, e2⟩ := List.getElem?_eq_some_iff.mp hd
  obtain ⟨f, g, hf, hg, hfg, _, sg, ec, ed⟩ := List.pairwise_iff_getElem.mp (cyc_pw h) i j hi hj hij
  rw [e1] at ec
  rw [e2] at ed
  rw [ec] at a
  rw [ed]
  exact orb_disj h hf hg hfg sg a
theorem flat_nodup : (cyc p).flatten.Nodup := by
  rw [List.nodup_iff_pairwise_ne, List.pairwise_flatten]
  refine ⟨fun c hc => ?_, List.Pairwise.imp (fun {c d} => ?_) (cyc_pw h)⟩
  · obtain ⟨f, hf, _, _, rfl⟩ := (mem_cyc h).mp hc
    exact List.nodup_iff_pairwise_ne.mp (orb_nodup h hf)
  · rintro ⟨f, g, hf, hg, hfg, _, sg, rfl, rfl⟩ x hx y hy e
    subst e
    exact orb_disj h hf hg hfg sg hx hy
theorem mem_flat {x : Nat} (hx : x < p.length) : x ∈ (cyc p).flatten ↔ ap p x ≠ x := by
  rw [List.mem_flatten]
  constructor
  · rintro ⟨c, hc, m⟩
    obtain ⟨f, hf, _, h1, rfl⟩ := (mem_cyc h).mp hc
    intro e
    have : per p x ∣ 1 := (it_back_iff h hx 1).mp e
    rw [per_orb h hf m] at this
    have := Nat.le_of_dvd (by omega) this
    omega
  · intro ne
    obtain ⟨f, hfx, hs, m⟩ := low_ex h hx
    have hf : f < p.length := by omega
    refine ⟨orb p f, (mem_cyc h).mpr ⟨f, hf, hs, ?_, rfl⟩, m⟩
    have ps := per_spec h hf
    rcases Nat.lt_or_ge 1 (per p f) with z | z
    · exact z
    · exfalso
      have e : per p f = 1 := by omega
      apply ne
      exact (it_back_iff h hx 1).mpr (by rw [per_orb h hf m, e]; exact Nat.dvd_refl _)
theorem flat_lt {x : Nat} (m : x ∈ (cyc p).flatten) : x < p.length := by
  obtain ⟨c, hc, m⟩ := List.mem_flatten.mp m
  obtain ⟨f, hf, _, _, rfl⟩ := (mem_cyc h).mp hc
  exact orb_lt h hf m
theorem take_closed (i : Nat) {x : Nat} (hx : x < p.length) : x ∈ ((cyc p).take i).flatten ↔ ap p x ∈ ((cyc p).take i).flatten := by
  rw [List.mem_flatten, List.mem_flatten]
  constructor
  · rintro ⟨c, hc, m⟩
    obtain ⟨f, hf, _, _, rfl⟩ := (mem_cyc h).mp (List.mem_of_mem_take hc)
    exact ⟨_, hc, (orb_step h hf hx).mp m⟩
  · rintro ⟨c, hc, m⟩
    obtain ⟨f, hf, _, _, rfl⟩ := (mem_cyc h).mp (List.mem_of_mem_take hc)
    exact ⟨_, hc, (orb_step h hf hx).mpr m⟩
theorem isP_take (i : Nat) : IsP (mv p ((cyc p).take i).flatten) := isP_mv h fun x hx => take_closed h i hx
theorem isP_cyc {c : List Nat} (hc : c ∈ cyc p) : IsP (mv p c) := by
  obtain ⟨f, hf, _, _, rfl⟩ := (mem_cyc h).mp hc
  exact isP_mv h fun x hx => orb_step h hf hx
theorem mv_next {i : Nat} {c : List Nat} (hc : (cyc p)[i]? = some c) : mul (mv p ((cyc p).take i).flatten) (mv p c) = mv p ((cyc p).take (i + 1)).flatten := by
  have hm := List.mem_of_getElem? hc
  obtain ⟨f, hf, _, _, ec⟩ := (mem_cyc h).mp hm
  have stp : ∀ x, x < p.length → (x ∈ c ↔ ap p x ∈ c) := fun x hx => by rw [ec]; exact orb_step h hf hx
  have dis : ∀ x, x ∈ ((cyc p).take i).flatten → x ∉ c := fun x m => by
    obtain ⟨d, hd, md⟩ := List.mem_flatten.mp m
    obtain ⟨j, hj, e⟩ := List.mem_take_iff_getElem.mp hd
    exact cyc_disj h (by omega) (List.getElem?_eq_some_iff.mpr ⟨by omega, e⟩) hc md
  refine ext_ap (by rw [mul_len, mv_len, mv_len]) fun x hx => ?_
  rw [mul_len, mv_len] at hx
  rw [ap_mul (by rw [mv_len]; exact hx), ap_mv hx, ap_mv hx]
  have e1 : ((cyc p).take (i + 1)).flatten = ((cyc p).take i).flatten ++ c := by
    rw [List.take_add_one, hc, List.flatten_append]
    simp
  rw [e1]
  unfold mvF
  by_cases m : x ∈ ((cyc p).take i).flatten
  · have m2 := (take_closed h i hx).mp m
    rw [if_pos m, ap_mv (ap_lt h hx), if_pos (List.mem_append_left _ m)]
    unfold mvF
    rw [if_neg (dis _ m2)]
  · rw [if_neg m, ap_mv hx]
    unfold mvF
    by_cases m3 : x ∈ c
    · rw [if_pos m3, if_pos (List.mem_append_right _ m3)]
    · rw [if_neg m3, if_neg (fun z => (List.mem_append.mp z).elim m m3)]
theorem mv_nil : mv p [] = List.range p.length := by
  refine ext_ap (by rw [mv_len, List.length_range]) fun x hx => ?_
  rw [mv_len] at hx
  rw [ap_mv hx, ap_range hx]
  unfold mvF
  rw [if_neg (by simp)]
theorem mv_flat : mv p (cyc p).flatten = p := by
  refine ext_ap (mv_len _ _) fun x hx => ?_
  rw [mv_len] at hx
  rw [ap_mv hx]
  unfold mvF
  by_cases m : x ∈ (cyc p).flatten
  · rw [if_pos m]
  · rw [if_neg m]
    exact (Classical.not_not.mp fun z => m ((mem_flat h hx).mpr z)).symm
theorem sgn_take (hn : p.length ≤ 17) : ∀ i, i ≤ (cyc p).length → (invs (mv p ((cyc p).take i).flatten) : Int) % 2 = (((cyc p).take i).map fun c => (c.length : Int) - 1).sum % 2
  | 0, _ => by
    have e : ((cyc p).take 0).flatten = [] := by simp
    rw [e, mv_nil h, invs_range_all _ hn]
    rfl
  | i + 1, hi => by
    have ih := sgn_take hn i (by omega)
    obtain ⟨c, hc⟩ : ∃ c, (cyc p)[i]? = some c := ⟨_, List.getElem?_eq_getElem (by omega)⟩
    have hm := List.mem_of_getElem? hc
    rw [← mv_next h hc, sgn_mul (isP_take h i) (isP_cyc h hm) (by rw [mv_len, mv_len])]
    obtain ⟨f, hf, _, _, ec⟩ := (mem_cyc h).mp hm
    have h1 := sgn_mv h hf hn
    have e1 : (cyc p).take (i + 1) = (cyc p).take i ++ [c] := by
      rw [List.take_add_one, hc]
      rfl
    rw [e1, List.map_append, List.sum_append]
    have hl : (c.length : Int) = per p f := by rw [ec, orb_len h hf]
    rw [← ec] at h1
    simp only [List.map_cons, List.map_nil, List.sum_cons, List.sum_nil]
    omega
theorem even_sgn (hn : p.length ≤ 17) : evenP p = decide ((invs p : Int) % 2 = 0) := by
  have := sgn_take h hn (cyc p).length (Nat.le_refl _)
  rw [List.take_length, mv_flat h] at this
  unfold evenP
  rw [← this]
theorem even_mul {q : List Nat} (hq : IsP q) (hl : p.length = q.length) (hn : p.length ≤ 17) : evenP (mul p q) = (evenP p == evenP q) := by
  rw [even_sgn (isP_mul h hq hl) (by rw [mul_len]; exact hn), even_sgn h hn, even_sgn hq (by rw [← hl]; exact hn), sgn_mul h hq hl]
  have h1 : (invs p : Int) % 2 = 0 ∨ (invs p : Int) % 2 = 1 := by omega
  have h2 : (invs q : Int) % 2 = 0 ∨ (invs q : Int) % 2 = 1 := by omega
  rcases h1 with a | a <;> rcases h2 with b | b
  · have : ((invs p : Int) + invs q) % 2 = 0 := by omega
    simp [a, b, this]
  · have : ((invs p : Int) + invs q) % 2 = 1 := by omega
    simp [a, b, this]
  · have : ((invs p : Int) + invs q) % 2 = 1 := by omega
    simp [a, b, this]
  · have : ((invs p : Int) + invs q) % 2 = 0 := by omega
    simp [a, b, this]
theorem even_inv (hn : p.length ≤ 17) : evenP (inv p) = evenP p := by
  have e := even_mul h (isP_inv h) (inv_len p).symm hn
  rw [mul_inv h, even_sgn (isP_range _) (by rw [List.length_range]; exact hn), invs_range_all _ hn] at e
  have e' : true = (evenP p == evenP (inv p)) := e
  revert e'
  cases evenP p <;> cases evenP (inv p) <;> decide
end
theorem even_sw {n i j : Nat} (hn : n ≤ 17) (hi : i < n) (hj : j < n) : evenP (sw n i j) = decide (i = j) := by
  rw [even_sgn (isP_sw hi hj) (by rw [sw_len]; exact hn)]
  by_cases e : i = j
  · subst e
    have : sw n i i = List.range n := by
      refine ext_ap (by rw [sw_len, List.length_range]) fun x hx => ?_
      rw [sw_len] at hx
      rw [ap_sw hx, ap_range hx]
      unfold swF
      by_cases z : x = i
      · rw [if_pos z, z]
      · rw [if_neg z, if_neg z]
    rw [this, invs_range_all _ hn]
    simp
  · have := sgn_sw hn hi hj e
    simp [e, this]
end Hw

namespace Hw
open PySem PySem.Spec PyProof.Rows L2
/-- the same rule, its reading by a name -/
def tCal (sp : Sp) (t : TA) : TE := fun σ H Q => t σ H fun vs H1 => sp vs H1 Q E0
theorem pe_cl {X : Cx} {k : Nat} {sp : Sp} {x : Str} {p pos : Pos} {e : Expr} {es : List Expr} {t : TA} (c : Cal X.prog X.w X.K X.mg X.base x k sp) (hr : Room k X.A) (hg : Gl X x) (ha : PA X (e :: es) t) (hdb : (x == ("__debug__" : Str)) = false := by decide)
    (he : starEach (e :: es) X.env = (false, eval e X.env) :: starEach es X.env := by rfl) (hpl : (backTo pos (starEach es X.env)).any (·.1) = false := by rfl) :
    PE X (.Call (.Name x p) (e :: es) [] pos) (tCal sp t) := pe_cal c hr hg ha hdb he hpl
/-- numbers as values -/
def NV (p : List Nat) : List V := p.map fun n : Nat => V.int (n : Int)
theorem NV_len (p : List Nat) : (NV p).length = p.length := by unfold NV; rw [List.length_map]
theorem NV_get {p : List Nat} {i x : Nat} (h : p[i]? = some x) : (NV p)[i]? = some (.int (x : Int)) := by
  unfold NV
  rw [List.getElem?_map, h]
  rfl
theorem NV_get' {p : List Nat} {i : Nat} {v : V} (h : (NV p)[i]? = some v) : ∃ x : Nat, p[i]? = some x ∧ v = .int (x : Int) := by
  unfold NV at h
  rw [List.getElem?_map] at h
  cases e : p[i]? with
  | none => rw [e] at h; cases h
  | some x => rw [e] at h; exact ⟨x, rfl, (Option.some.inj h).symm⟩
theorem NV_range (n : Nat) : rgV 0 (n : Int) = NV (List.range n) := by
  unfold rgV NV
  rw [show ((n : Int) - 0).toNat = n by omega]
  apply List.map_congr_left
  intro i _
  congr 1
  omega
theorem NV_snoc (p : List Nat) (x : Nat) : NV (p ++ [x]) = NV p ++ [V.int (x : Int)] := by unfold NV; rw [List.map_append]; rfl
theorem walk_rg0 {n : Nat} : Walk (Itr 0 n) n (fun _ => True) (fun i H x H' => H' = H ∧ x = .int (i : Nat)) :=
  (walk_range (lo := 0) (n := n)).mono (fun _ z => z) fun i H x H' _ _ y => ⟨y.1, by rw [y.2]; show V.int (0 + (i : Int)) = _; rw [show (0 : Int) + (i : Int) = (i : Int) by omega]⟩
/-- a tuple of numbers at a -/
abbrev Tp (H : Hp) (a : Addr) (p : List Nat) : Prop := H a = some (.tup (NV p))
theorem same_upd {H : Hp} {p : Addr} {o : HO} (h : H p = none) : Same H (upd H p o) := fun b x e => by
  rw [upd_ne (ne_of_none e h)]
  exact e
theorem sq_of {K : PySem.W.Frag} {H : Hp} {a : Addr} {xs : List V} (h : H a = some (.tup xs)) : SqT K H a xs := .inl (.inl h)
theorem sl_of {K : PySem.W.Frag} {H : Hp} {a : Addr} {xs : List V} (h : H a = some (.lst xs)) : SqL K H a xs := .inl (.inl h)
theorem fresh_of {p : List Nat} {i x : Nat} (hd : p.Nodup) (h : p[i]? = some x) : x ∉ p.take i := by
  intro z
  obtain ⟨j, hj, e⟩ := List.mem_take_iff_getElem.mp z
  obtain ⟨hi, e2⟩ := List.getElem?_eq_some_iff.mp h
  have hj' : j < p.length := by omega
  have := (List.getElem_inj (h₀ := hj') (h₁ := hi) hd).mp (by rw [e, e2])
  omega
theorem NV_set (p : List Nat) (x v : Nat) : (NV p).set x (V.int (v : Int)) = NV (p.set x v) := by unfold NV; rw [List.map_set]
theorem NV_rep (n x : Nat) : NV (List.replicate n x) = List.replicate n (V.int (x : Int)) := by unfold NV; rw [List.map_replicate]
theorem rep_flat {v : V} (n : Nat) : (List.replicate (Int.toNat (n : Int)) [v]).flatten = List.replicate n v := by
  rw [Int.toNat_natCast, List.flatten_replicate_singleton]
theorem tp_upd {H : Hp} {b l : Addr} {c : List Nat} {xs : List V} {o : HO} (h : Tp H b c) (hl : H l = some (.lst xs)) : Tp (upd H l o) b c := by
  show upd H l o b = _
  rw [upd_ne (ne_of h hl (by intro q; cases q))]
  exact h
theorem tp_new {H : Hp} {b l : Addr} {c : List Nat} {o : HO} (h : Tp H b c) (hl : H l = none) : Tp (upd H l o) b c := same_upd hl _ _ h
theorem same_in {H H' : Hp} {l : Addr} {o : HO} (sm : Same H H') (h : H l = none) : Same H (upd H' l o) := fun b u e => by
  rw [upd_ne (ne_of_none e h)]
  exact sm _ _ e
theorem cut_to (xs : List V) (k : Nat) : cutV xs none (some (k : Int)) = xs.take k := by
  unfold cutV
  rw [show HT.sIx xs.length 0 none = 0 from HT.sIx_none _ _, show HT.sIx xs.length xs.length (some (k : Int)) = min k xs.length from HT.sIx_nat _ _ _, List.drop_zero, Nat.sub_zero]
  rcases Nat.le_total k xs.length with h | h
  · rw [Nat.min_eq_left h]
  · rw [Nat.min_eq_right h, List.take_length, List.take_of_length_le h]
theorem cut_from (xs : List V) (k : Nat) : cutV xs (some (k : Int)) none = xs.drop k := by
  unfold cutV
  rw [show HT.sIx xs.length 0 (some (k : Int)) = min k xs.length from HT.sIx_nat _ _ _, show HT.sIx xs.length xs.length none = xs.length from HT.sIx_none _ _]
  rcases Nat.le_total k xs.length with h | h
  · rw [Nat.min_eq_left h]
    exact List.take_of_length_le (by rw [List.length_drop]; exact Nat.le_refl _)
  · rw [Nat.min_eq_right h, Nat.sub_self, List.drop_of_length_le h]
    rfl
theorem NV_take (p : List Nat) (k : Nat) : (NV p).take k = NV (p.take k) := by unfold NV; rw [List.map_take]
theorem NV_drop (p : List Nat) (k : Nat) : (NV p).drop k = NV (p.drop k) := by unfold NV; rw [List.map_drop]
theorem nv_len {ps : List (Addr × List Nat)} : (ps.map fun p => V.ref p.1).length = ps.length := by rw [List.length_map]
theorem refs_get {ps : List (Addr × List Nat)} {i : Nat} {v : V} (h : (ps.map fun p => V.ref p.1)[i]? = some v) : ∃ p, ps[i]? = some p ∧ v = .ref p.1 := by
  rw [List.getElem?_map] at h
  cases e : ps[i]? with
  | none => rw [e] at h; cases h
  | some p => rw [e] at h; exact ⟨p, rfl, (Option.some.inj h).symm⟩
theorem at_int {cs : List Int} {i : Nat} {c x : Int} (h : cs[i]? = some c) (e : x = (i : Int)) : atI (cs.map V.int) x = some (.int c) := by
  rw [e]
  refine atI_nat ?_
  rw [List.getElem?_map, h]
  rfl
theorem ix_at {n i : Nat} {x : Int} (h : i < n) (e : x = (i : Int)) : ixN n x = some i := by
  rw [e]
  unfold ixN
  rw [if_pos (by omega), if_pos (by omega)]
  rfl
theorem set_int (cs : List Int) (i : Nat) (x : Int) : (cs.map V.int).set i (V.int x) = (cs.set i x).map V.int := by rw [List.map_set]
/-! ### what is compared -/
theorem lay_ints : ∀ ns : List Int, PyData.canLayAll0 (ns.map PyData.int) = true
  | [] => rfl
  | n :: ns => by
    show (PyData.canLay0 (.int n) && PyData.canLayAll0 (ns.map PyData.int)) = true
    rw [lay_ints ns]
    rfl
theorem shaped_li (ns : List Int) : SeqAt.shaped (.list (ns.map PyData.int)) = true := by
  unfold SeqAt.shaped
  have e : (PyData.list (ns.map PyData.int)).depth = 0 + 1 := by
    show PyData.depthAll (ns.map PyData.int) + 1 = 0 + 1
    rw [depth_ints]
  rw [e]
  show (PyData.canLayAll0 (ns.map PyData.int) && _) = true
  rw [lay_ints]
  rfl
theorem shaped_ti (ns : List Int) : SeqAt.shaped (.tuple (ns.map PyData.int)) = true := by
  unfold SeqAt.shaped
  have e : (PyData.tuple (ns.map PyData.int)).depth = 0 + 1 := by
    show PyData.depthAll (ns.map PyData.int) + 1 = 0 + 1
    rw [depth_ints]
  rw [e]
  show (PyData.canLayAll0 (ns.map PyData.int) && _) = true
  rw [lay_ints]
  rfl
theorem eqv_ints : ∀ ns ms : List Int, PyData.eqvAll (ns.map PyData.int) (ms.map PyData.int) = decide (ns = ms)
  | [], [] => by simp [PyData.eqvAll]
  | [], m :: ms => by simp [PyData.eqvAll]
  | n :: ns, [] => by simp [PyData.eqvAll]
  | n :: ns, m :: ms => by
    show (PyData.eqv (.int n) (.int m) && PyData.eqvAll (ns.map PyData.int) (ms.map PyData.int)) = _
    rw [eqv_ints ns ms]
    by_cases e : n = m
    · by_cases e2 : ns = ms <;> simp [PyData.eqv, e, e2]
    · simp [PyData.eqv, e]
theorem eqv_li (ns ms : List Int) : PyData.eqv (.list (ns.map PyData.int)) (.list (ms.map PyData.int)) = decide (ns = ms) := eqv_ints ns ms
theorem eqv_ti (ns ms : List Int) : PyData.eqv (.tuple (ns.map PyData.int)) (.tuple (ms.map PyData.int)) = decide (ns = ms) := eqv_ints ns ms
theorem dpa_ints {K : PySem.W.Frag} {H : Hp} : ∀ ns : List Int, DpAll K H (ns.map V.int) (ns.map PyData.int)
  | [] => .nil
  | n :: ns => .cons (.int n) (dpa_ints ns)
theorem dp_li {K : PySem.W.Frag} {H : Hp} {a : Addr} {ns : List Int} (h : SqL K H a (ns.map V.int)) : Dp K H (.ref a) (.list (ns.map PyData.int)) := .lst h (dpa_ints ns)
theorem dp_ti {K : PySem.W.Frag} {H : Hp} {a : Addr} {ns : List Int} (h : SqT K H a (ns.map V.int)) : Dp K H (.ref a) (.tuple (ns.map PyData.int)) := .tup h (dpa_ints ns)
theorem perm_out {α : Type} {xs : List α} {d : Nat} {y : α} (h : xs[d]? = some y) : (y :: xs.eraseIdx d).Perm xs := by
  obtain ⟨hd, e⟩ := List.getElem?_eq_some_iff.mp h
  rw [List.eraseIdx_eq_take_drop_succ]
  have e2 : xs = xs.take d ++ y :: xs.drop (d + 1) := by
    rw [← e, List.getElem_cons_drop, List.take_append_drop]
  have p := (List.perm_middle (a := y) (l₁ := xs.take d) (l₂ := xs.drop (d + 1))).symm
  rw [← e2] at p
  exact p
theorem seq_ix {d n : Nat} (h : d < n) : seqIndex? (d : Int) n = some d := by
  unfold seqIndex?
  have h1 : ¬ ((d : Int) < 0) := by omega
  have h2 : (0 : Int) ≤ (d : Int) := by omega
  have h3 : (d : Int) < (n : Int) := by omega
  simp [h1, h2, h3]
def numOf : V → Nat
  | .int i => i.toNat
  | _ => 0
theorem numOf_NV (p : List Nat) : (NV p).map numOf = p := by
  unfold NV
  rw [List.map_map]
  have : (numOf ∘ fun n : Nat => V.int (n : Int)) = id := by
    funext n
    show ((n : Int)).toNat = n
    omega
  rw [this, List.map_id]
theorem perm_NV {ys : List V} {l : List Nat} (h : ys.Perm (NV l)) : ∃ p, ys = NV p ∧ p.Perm l := by
  refine ⟨ys.map numOf, ?_, ?_⟩
  · unfold NV
    rw [List.map_map]
    conv => lhs; rw [← List.map_id ys]
    apply List.map_congr_left
    intro v hv
    obtain ⟨n, _, rfl⟩ := List.mem_map.mp (h.mem_iff.mp hv)
    show V.int (n : Int) = V.int ((((n : Int)).toNat : Nat) : Int)
    rw [Int.toNat_natCast]
  · have := h.map numOf
    rw [numOf_NV] at this
    exact this
def NI (p : List Nat) : List Int := p.map fun n : Nat => (n : Int)
theorem NV_NI (p : List Nat) : NV p = (NI p).map V.int := by
  unfold NV NI
  rw [List.map_map]
  rfl
theorem NI_inj : ∀ {p q : List Nat}, NI p = NI q → p = q
  | [], [], _ => rfl
  | [], _ :: _, h => by cases h
  | _ :: _, [], h => by cases h
  | x :: p, y :: q, h => by
    have h' : ((x : Int) :: NI p) = (y : Int) :: NI q := h
    injection h' with h1 h2
    rw [NI_inj h2, Int.ofNat.inj h1]
theorem dp_tp {K : PySem.W.Frag} {H : Hp} {a : Addr} {p : List Nat} (h : Tp H a p) : Dp K H (.ref a) (.tuple ((NI p).map PyData.int)) :=
  dp_ti (sq_of (by rw [← NV_NI]; exact h))
theorem eqv_tp (p q : List Nat) : PyData.eqv (.tuple ((NI p).map PyData.int)) (.tuple ((NI q).map PyData.int)) = decide (p = q) := by
  rw [eqv_ti]
  by_cases e : p = q
  · rw [decide_eq_true e, e]
    exact decide_eq_true rfl
  · rw [decide_eq_false e]
    exact decide_eq_false fun z => e (NI_inj z)
/-! ### tuples of tuples as data -/
def dC (cs : List (List Nat)) : PyData := .list (cs.map fun c => .tuple ((NI c).map PyData.int))
theorem lay_cs : ∀ cs : List (List Nat), PyData.canLayAll0 (cs.map fun c => PyData.tuple ((NI c).map PyData.int)) = true
  | [] => rfl
  | c :: cs => by
    show (PyData.canLayAll0 ((NI c).map PyData.int) && PyData.canLayAll0 (cs.map fun c => PyData.tuple ((NI c).map PyData.int))) = true
    rw [lay_ints, lay_cs cs]
    rfl
theorem depth_cs : ∀ cs : List (List Nat), PyData.depthAll (cs.map fun c => PyData.tuple ((NI c).map PyData.int)) ≤ 1
  | [] => Nat.zero_le _
  | c :: cs => by
    show max (PyData.depthAll ((NI c).map PyData.int) + 1) (PyData.depthAll (cs.map fun c => PyData.tuple ((NI c).map PyData.int))) ≤ 1
    rw [depth_ints]
    exact Nat.max_le.mpr ⟨Nat.le_refl _, depth_cs cs⟩
theorem shaped_cs (cs : List (List Nat)) : SeqAt.shaped (dC cs) = true := by
  unfold SeqAt.shaped
  have e : (dC cs).depth ≤ 64 := by
    show PyData.depthAll (cs.map fun c => PyData.tuple ((NI c).map PyData.int)) + 1 ≤ 64
    have := depth_cs cs
    omega
  show (PyData.canLayAll0 (cs.map fun c => PyData.tuple ((NI c).map PyData.int)) && _) = true
  rw [lay_cs, decide_eq_true e]
  rfl
theorem eqv_cs (cs : List (List Nat)) : PyData.eqv (dC cs) (dC cs) = true := SeqAt.eqv_refl _ (lay_cs cs)
theorem dpa_cs {K : PySem.W.Frag} {H : Hp} : ∀ ks : List (Addr × List Nat), (∀ k ∈ ks, Tp H k.1 k.2) → DpAll K H (ks.map fun k => V.ref k.1) ((ks.map (·.2)).map fun c => PyData.tuple ((NI c).map PyData.int))
  | [], _ => .nil
  | k :: ks, h => .cons (dp_tp (h k List.mem_cons_self)) (dpa_cs ks fun l hl => h l (List.mem_cons_of_mem _ hl))
theorem dp_cs {K : PySem.W.Frag} {H : Hp} {a : Addr} {ks : List (Addr × List Nat)} {cs : List (List Nat)} (h : SqL K H a (ks.map fun k => V.ref k.1)) (hk : ∀ k ∈ ks, Tp H k.1 k.2) (e : ks.map (·.2) = cs) : Dp K H (.ref a) (dC cs) := by
  have := Dp.lst h (dpa_cs (K := K) ks hk)
  rw [e] at this
  exact this
theorem foldl_min : ∀ (ns : List Int) (n : Int), (∀ y ∈ ns, n ≤ y) → ns.foldl min n = n
  | [], _, _ => rfl
  | m :: ns, n, h => by
    have h1 := h m List.mem_cons_self
    show ns.foldl min (min n m) = n
    rw [show min n m = n from Int.min_eq_left h1]
    exact foldl_min ns n fun y hy => h y (List.mem_cons_of_mem _ hy)
theorem NI_nodup {l : List Nat} (h : l.Nodup) : (NI l).Nodup := by
  unfold NI
  rw [List.nodup_iff_pairwise_ne, List.pairwise_map]
  exact List.Pairwise.imp (fun {x y} h e => h (Int.ofNat.inj e)) (List.nodup_iff_pairwise_ne.mp h)
theorem NI_len (l : List Nat) : (NI l).length = l.length := by unfold NI; rw [List.length_map]
theorem mem_NI {l : List Nat} {y : Int} (h : y ∈ NI l) : ∃ x, x ∈ l ∧ y = (x : Int) := by
  obtain ⟨x, hx, rfl⟩ := List.mem_map.mp h
  exact ⟨x, hx, rfl⟩
/-- the same numbers, both rising -/
theorem sorted_is {ns : List Int} {l m : List Nat} (h1 : ns.Perm (NI l)) (h2 : ns.Pairwise (· ≤ ·)) (h3 : m.Perm l) (h4 : m.Pairwise (· ≤ ·)) : ns = NI m := by
  refine List.Perm.eq_of_pairwise (fun a b _ _ x y => Int.le_antisymm x y) h2 ?_ (h1.trans (h3.symm.map _))
  unfold NI
  rw [List.pairwise_map]
  exact List.Pairwise.imp (fun h => by omega) h4
end Hw

namespace Hw
open PySem PySem.Spec PyProof.Rows L2
section
variable {P : Program} {w : World} {K : PySem.W.Frag} {mg : Str → Option Value} {base : Heap}
def spWhole : Sp := fun vs H Q _ => ∃ i : Int, vs = [.int i] ∧ Q (.bl true) H
theorem scWhole : FnScope ["value"] ["value"] (defScope sWhole) := ⟨rfl, rfl, rfl, by decide +kernel, rfl, by decide +kernel, by decide +kernel⟩
theorem cal_whole (T : Txt mg) (D : Df K mg "is_whole" sWhole ["value"]) : Cal P w K mg base "is_whole" 1 spWhole := by
  refine cal_of D scWhole (fun vs H Q E h => ?_) (fun f cdv A outer s H vs Q E hr h => ?_)
  · obtain ⟨i, rfl, _⟩ := h
    rfl
  · obtain ⟨i, rfl, q⟩ := h
    refine ⟨_, pss_one (ps_ret (pe_and (pe_callB call_isi (by rfl) T.isinstance (by decide +kernel) (pa_cons (pv 0) (pa_cons (pe_bltn (v := .ty "int") (by rfl) T.int (by decide +kernel) rfl) pa_nil)))
      (pe_one (pe_not (pe_callB call_isi (by rfl) T.isinstance (by decide +kernel) (pa_cons (pv 0) (pa_cons (pe_bltn (v := .ty "bool") (by rfl) T.bool (by decide +kernel) rfl) pa_nil))))))), ?_⟩
    refine ⟨_, rfl, _, _, _, _, true, rfl, .ty _, .base (.int i), kit_ty (by decide +kernel), true, rfl, iteT ?_⟩
    refine ⟨_, rfl, _, _, _, _, false, rfl, .ty _, .base (.int i), kit_ty (by decide +kernel), false, rfl, ?_⟩
    exact q
def spIndex : Sp := fun vs H Q _ => ∃ (i c : Int), vs = [.int i, .int c] ∧ Q (.bl (decide (0 ≤ i ∧ i < c))) H
theorem scIndex : FnScope ["value", "count"] ["value", "count"] (defScope sIndex) := ⟨rfl, rfl, rfl, by decide +kernel, rfl, by decide +kernel, by decide +kernel⟩
theorem cal_index (T : Txt mg) (GW : Cal P w K mg base "is_whole" 1 spWhole) (D : Df K mg "is_index" sIndex ["value", "count"]) : Cal P w K mg base "is_index" 2 spIndex := by
  refine cal_of D scIndex (fun vs H Q E h => ?_) (fun f cdv A outer s H vs Q E hr h => ?_)
  · obtain ⟨i, c, rfl, _⟩ := h
    rfl
  · obtain ⟨i, c, rfl, q⟩ := h
    refine ⟨_, pss_one (ps_ret (pe_and (pe_cal GW hr (by rfl) (pa_cons (pv 0) pa_nil)) (pe_one (pe_chain op_le op_lt pe_int (pv 0) (pv 1))))), ?_⟩
    refine ⟨_, rfl, i, rfl, true, rfl, iteT ?_⟩
    refine ⟨_, rfl, _, _, rfl, rfl, _, rfl, ite2 (fun h => ?_) (fun h => ?_)⟩
    · refine ⟨_, rfl, _, _, rfl, rfl, ?_⟩
      have h' : (0 : Int) ≤ i := of_decide_eq_true h
      have e : decide (i < c) = decide (0 ≤ i ∧ i < c) := by
        by_cases z : i < c <;> simp [z, h']
      show Q (V.bl (decide (i < c))) H
      rw [e]
      exact q
    · have h' : ¬ (0 : Int) ≤ i := fun z => h (decide_eq_true z)
      have e : false = decide (0 ≤ i ∧ i < c) := by simp [h']
      show Q (V.bl false) H
      rw [e]
      exact q
end
end Hw

namespace Hw
open PySem PySem.Spec PyProof.Rows L2
section
variable {P : Program} {w : World} {K : PySem.W.Frag} {mg : Str → Option Value} {base : Heap}
/-- is_permutation of a permutation -/
def spIsPerm : Sp := fun vs H Q _ => ∃ (a : Addr) (p : List Nat), vs = [.ref a] ∧ Tp H a p ∧ IsP p ∧ p.length ≤ 1000 ∧ ∀ H', Same H H' → Q (.bl true) H'
theorem scIsPerm : FnScope ["value", "seen", "item"] ["value"] (defScope sIsPerm) := ⟨rfl, rfl, rfl, by decide +kernel, rfl, by decide +kernel, by decide +kernel⟩
def seenL (p : List Nat) (i n : Nat) : List V := (List.range n).map fun j => V.bl (decide (j ∈ p.take i))
theorem seenL_len (p : List Nat) (i n : Nat) : (seenL p i n).length = n := by unfold seenL; simp
theorem seenL_get {p : List Nat} {i n j : Nat} (h : j < n) : (seenL p i n)[j]? = some (V.bl (decide (j ∈ p.take i))) := by
  unfold seenL
  rw [List.getElem?_map, List.getElem?_range h]
  rfl
theorem seenL_set {p : List Nat} {i n x : Nat} (h : p[i]? = some x) : (seenL p i n).set x (V.bl true) = seenL p (i + 1) n := by
  apply List.ext_getElem?
  intro j
  by_cases hj : j < n
  · rw [List.getElem?_set, seenL_get hj, seenL_get hj, seenL_len, List.take_add_one, h]
    by_cases e : x = j
    · subst e
      simp [hj]
    · rw [if_neg e]
      have e' : ¬ j = x := fun z => e z.symm
      simp [e']
  · rw [List.getElem?_eq_none (by rw [List.length_set, seenL_len]; omega), List.getElem?_eq_none (by rw [seenL_len]; omega)]
theorem cal_isPerm (T : Txt mg) (GI : Cal P w K mg base "is_index" 2 spIndex) (D : Df K mg "is_permutation" sIsPerm ["value"]) : Cal P w K mg base "is_permutation" 3 spIsPerm := by
  refine cal_of D scIsPerm (fun vs H Q E h => ?_) (fun f cdv A outer s H vs Q E hr h => ?_)
  · obtain ⟨a, p, rfl, _⟩ := h
    rfl
  · obtain ⟨a, p, rfl, ha, ⟨hd, hb⟩, hl, q⟩ := h
    refine ⟨_, pss_cons (ps_if (pt_not (pt_val (pe_callB call_isi (by rfl) T.isinstance (by decide +kernel) (pa_cons (pv 0) (pa_cons (pe_bltn (v := .ty "tuple") (by rfl) T.tuple (by decide +kernel) rfl) pa_nil))))) (pss_one (ps_ret pe_bl)) pss_nil)
      (pss_cons (ps_set (i := 1) scIsPerm.nd rfl (.inl rfl) (pe_op op_rep (pe_lst (pa_cons pe_bl pa_nil)) (pe_callB call_len_seq (by rfl) T.len PySem.boot_len (pa_cons (pv 0) pa_nil))))
      (pss_cons (ps_for PassesOwn.never rfl (pi_tup (pv 0)) (pg_name (i := 2) scIsPerm.nd rfl (.inl rfl))
        (pss_cons (ps_if (PW.pt (pw_or (pt_not (pt_val (pe_cal GI hr (by rfl) (pa_cons (pv 2) (pa_cons (pe_callB call_len_seq (by rfl) T.len PySem.boot_len (pa_cons (pv 0) pa_nil)) pa_nil))))) (pw_or1 (pt_val (pe_ix ix_list (pv 1) (pv 2) (fun _ _ => rfl)))))) (pss_one (ps_ret pe_bl)) pss_nil)
          (pss_one (ps_asg pe_bl (pg_sub (pv 1) (pv 2) set_list)))))
      (pss_one (ps_ret pe_bl)))), ?_⟩
    refine ⟨_, rfl, _, _, _, _, true, rfl, .ty _, .base (.tup ha), kit_ty (by decide +kernel), true, rfl, iteF ?_⟩
    refine ⟨by show 1 ≤ sizeLine; decide, fun l0 n0 => ?_⟩
    have s0 := same_upd (o := .lst [V.bl false]) n0
    refine ⟨_, rfl, a, NV p, rfl, .inr (sq_of (s0 _ _ ha)), l0, _, _, rfl, rfl, upd_same, by rw [NV_len]; omega, by rw [NV_len]; omega, ?_, fun l1 n1 => ?_⟩
    · rw [NV_len]
      show 1 * _ ≤ _
      exact Nat.le_of_lt (small1000 (by omega))
    have e0 : (List.replicate (Int.toNat ((NV p).length : Int)) [V.bl false]).flatten = seenL p 0 p.length := by
      rw [NV_len]
      unfold seenL
      rw [Int.toNat_natCast]
      apply List.ext_getElem?
      intro j
      rw [List.flatten_replicate_singleton]
      by_cases hj : j < p.length
      · rw [List.getElem?_replicate, if_pos hj, List.getElem?_map, List.getElem?_range hj]
        simp
      · rw [List.getElem?_eq_none (by simp; omega), List.getElem?_eq_none (by simp; omega)]
    rw [e0]
    have s1 := same_upd (o := .lst (seenL p 0 p.length)) n1
    have s2 := s0.trans s1
    have n1' : H l1 = none := s0.free n1
    refine ⟨_, rfl, a, rfl, ⟨_, sq_of (s2 _ _ ha)⟩, for_tup (xs := NV p) (fun i σ H' => ∃ v2, σ = [some (.ref a), some (.ref l1), v2] ∧ Same H H' ∧ H' l1 = some (.lst (seenL p i p.length)))
      ⟨none, rfl, s2, upd_same⟩ (fun i σ H' _ ⟨_, _, sm, _⟩ => sq_of (sm _ _ ha)) ?_ ?_⟩
    · rintro i v σ H' hi ⟨v2, rfl, sm, hL⟩
      obtain ⟨x, hx, rfl⟩ := NV_get' hi
      have hlt : i < p.length := (List.getElem?_eq_some_iff.mp hx).1
      have hxb : x < p.length := hb x (List.mem_of_getElem? hx)
      refine ⟨_, rfl, _, rfl, a, NV p, rfl, .inr (sq_of (sm _ _ ha)), _, _, rfl, _, rfl, ?_⟩
      have e1 : decide ((0 : Int) ≤ (x : Int) ∧ (x : Int) < ((NV p).length : Int)) = true := by
        rw [NV_len]
        exact decide_eq_true ⟨by omega, by omega⟩
      rw [e1]
      refine iteF ⟨_, rfl, _, rfl, l1, _, _, _, rfl, rfl, sl_of hL, atI_nat (seenL_get hxb), decide (x ∈ p.take i), rfl, ?_⟩
      rw [decide_eq_false (fresh_of hd hx)]
      refine iteF ⟨_, rfl, _, rfl, l1, _, _, x, rfl, rfl, hL, ?_, ?_⟩
      · rw [seenL_len]
        unfold ixN
        rw [if_pos (by omega), if_pos (by omega)]
        rfl
      · rw [seenL_set hx]
        refine ⟨_, rfl, fun b o e => ?_, upd_same⟩
        rw [upd_ne (ne_of_none e n1')]
        exact sm _ _ e
    · rintro σ H' ⟨v2, rfl, sm, hL⟩
      exact q _ sm
end
end Hw

/-! Places and passages: what is joined. No Python here. -/
namespace Hw
abbrev Ed := Nat × Nat
def adj (es : List Ed) (u v : Nat) : Prop := (u, v) ∈ es ∨ (v, u) ∈ es
inductive Rch (es : List Ed) : Nat → Nat → Prop where
  | refl (u : Nat) : Rch es u u
  | step {u v x : Nat} (h : Rch es u v) (a : adj es v x) : Rch es u x
theorem adj_symm {es : List Ed} {u v : Nat} (h : adj es u v) : adj es v u := h.elim .inr .inl
theorem Rch.trans {es : List Ed} {u v x : Nat} (a : Rch es u v) (b : Rch es v x) : Rch es u x := by
  induction b with
  | refl => exact a
  | step _ q ih => exact ih.step q
theorem Rch.one {es : List Ed} {u v : Nat} (a : adj es u v) : Rch es u v := (Rch.refl u).step a
theorem Rch.symm {es : List Ed} {u v : Nat} (a : Rch es u v) : Rch es v u := by
  induction a with
  | refl => exact .refl _
  | step _ q ih => exact (Rch.one (adj_symm q)).trans ih
theorem Rch.mono {es fs : List Ed} (h : ∀ e ∈ es, e ∈ fs) {u v : Nat} (a : Rch es u v) : Rch fs u v := by
  induction a with
  | refl => exact .refl _
  | step _ q ih => exact ih.step (q.elim (fun m => .inl (h _ m)) fun m => .inr (h _ m))
theorem Rch.map {es fs : List Ed} (f : Nat → Nat) (h : ∀ e ∈ es, adj fs (f e.1) (f e.2)) {u v : Nat} (a : Rch es u v) : Rch fs (f u) (f v) := by
  induction a with
  | refl => exact .refl _
  | step _ q ih =>
    rcases q with m | m
    · exact ih.step (h _ m)
    · exact ih.step (adj_symm (h _ m))
/-- every passage rises and lies within n places -/
def VE (n : Nat) (es : List Ed) : Prop := ∀ e ∈ es, e.1 ≤ e.2 ∧ e.2 < n
def conn (n : Nat) (es : List Ed) : Prop := ∀ v, v < n → Rch es 0 v
def CN (n : Nat) (es : List Ed) : Prop := 1 ≤ n ∧ VE n es ∧ conn n es
def tieF (a b : Nat) : Ed := (min a b, max a b)
theorem tie_cases (a b : Nat) : tieF a b = (a, b) ∨ tieF a b = (b, a) := by
  unfold tieF
  rcases Nat.le_total a b with h | h
  · left; rw [Nat.min_eq_left h, Nat.max_eq_right h]
  · right; rw [Nat.min_eq_right h, Nat.max_eq_left h]
theorem adj_tie {es : List Ed} {a b : Nat} (h : tieF a b ∈ es) : adj es a b := by
  rcases tie_cases a b with e | e
  · rw [e] at h; exact .inl h
  · rw [e] at h; exact .inr h
theorem tie_ok {a b n : Nat} (ha : a < n) (hb : b < n) : (tieF a b).1 ≤ (tieF a b).2 ∧ (tieF a b).2 < n := by
  rcases tie_cases a b with e | e <;> (unfold tieF at e ⊢; simp only; omega)
theorem VE.app {n : Nat} {es fs : List Ed} (a : VE n es) (b : VE n fs) : VE n (es ++ fs) := fun e m => (List.mem_append.mp m).elim (a e) (b e)
theorem VE.mono {n k : Nat} {es : List Ed} (a : VE n es) (h : n ≤ k) : VE k es := fun e m => ⟨(a e m).1, Nat.lt_of_lt_of_le (a e m).2 h⟩
/-- the greatest place that is named, plus 1 -/
def topOf (es : List Ed) : Nat := (es.map (·.2)).foldl max 0 + 1
theorem fold_max_le : ∀ (l : List Nat) (a k : Nat), a ≤ k → (∀ x ∈ l, x ≤ k) → l.foldl max a ≤ k
  | [], _, _, h, _ => h
  | x :: l, a, k, h, hl => fold_max_le l _ k (Nat.max_le.mpr ⟨h, hl x List.mem_cons_self⟩) fun y hy => hl y (List.mem_cons_of_mem _ hy)
theorem fold_max_ge : ∀ (l : List Nat) (a : Nat), a ≤ l.foldl max a
  | [], _ => Nat.le_refl _
  | x :: l, a => Nat.le_trans (Nat.le_max_left a x) (fold_max_ge l (max a x))
theorem fold_max_mem : ∀ (l : List Nat) (a x : Nat), x ∈ l → x ≤ l.foldl max a
  | y :: l, a, x, h => by
    rcases List.mem_cons.mp h with e | m
    · rw [e]; exact Nat.le_trans (Nat.le_max_right a y) (fold_max_ge l (max a y))
    · exact fold_max_mem l (max a y) x m
theorem Rch.last {es : List Ed} {u v : Nat} (a : Rch es u v) (h : u ≠ v) : ∃ x, adj es x v := by
  cases a with
  | refl => exact absurd rfl h
  | step _ q => exact ⟨_, q⟩
theorem top_eq {n : Nat} {es : List Ed} (h : CN n es) : topOf es = n := by
  obtain ⟨h1, h2, h3⟩ := h
  unfold topOf
  have le : (es.map (·.2)).foldl max 0 ≤ n - 1 := fold_max_le _ _ _ (Nat.zero_le _) fun x hx => by
    obtain ⟨e, he, rfl⟩ := List.mem_map.mp hx
    have := (h2 e he).2
    omega
  have ge : n - 1 ≤ (es.map (·.2)).foldl max 0 := by
    by_cases z : n = 1
    · omega
    · obtain ⟨x, q⟩ := (h3 (n - 1) (by omega)).last (by omega)
      rcases q with m | m
      · exact fold_max_mem _ _ _ (List.mem_map.mpr ⟨_, m, rfl⟩)
      · have b := h2 _ m
        have c := fold_max_mem (es.map (·.2)) 0 x (List.mem_map.mpr ⟨_, m, rfl⟩)
        simp only at b
        omega
  omega
/-- a further place at a passage -/
theorem CN.leaf {n d : Nat} {es : List Ed} (h : CN n es) (hd : d < n) : CN (n + 1) (es ++ [(d, n)]) := by
  obtain ⟨h1, h2, h3⟩ := h
  refine ⟨by omega, (h2.mono (Nat.le_succ _)).app ?_, fun v hv => ?_⟩
  · intro e m
    rw [List.mem_singleton.mp m]
    exact ⟨Nat.le_of_lt hd, Nat.lt_succ_self _⟩
  · have up : ∀ {u x}, Rch es u x → Rch (es ++ [(d, n)]) u x := fun a => a.mono fun e m => List.mem_append_left _ m
    by_cases z : v = n
    · subst z
      exact (up (h3 d hd)).step (.inl (List.mem_append_right _ List.mem_cons_self))
    · exact up (h3 v (by omega))
theorem CN.more {n a b : Nat} {es : List Ed} (h : CN n es) (ha : a < n) (hb : b < n) : CN n (es ++ [tieF a b]) := by
  obtain ⟨h1, h2, h3⟩ := h
  refine ⟨h1, h2.app fun e m => ?_, fun v hv => (h3 v hv).mono fun e m => List.mem_append_left _ m⟩
  rw [List.mem_singleton.mp m]
  exact tie_ok ha hb
/-- tails: place low + i hangs at one below it -/
theorem CN.tree {low : Nat} {es : List Ed} (h : CN low es) (f : Nat → Nat) : ∀ k, (∀ i, i < k → f i < low + i) → CN (low + k) (es ++ (List.range k).map fun i => (f i, low + i))
  | 0, _ => by simpa using h
  | k + 1, hf => by
    have ih := CN.tree h f k fun i hi => hf i (by omega)
    rw [List.range_succ, List.map_append, ← List.append_assoc]
    exact ih.leaf (hf k (by omega))
def nmF (low hinge x : Nat) : Nat := if x = 0 then hinge else low + x - 1
def shiftE (low hinge : Nat) (es : List Ed) : List Ed := es.map fun e => tieF (nmF low hinge e.1) (nmF low hinge e.2)
/-- a core hung at a place -/
theorem CN.core {n k hinge : Nat} {es c : List Ed} (h : CN n es) (hc : CN k c) (hh : hinge < n) : CN (n + k - 1) (es ++ shiftE n hinge c) := by
  obtain ⟨h1, h2, h3⟩ := h
  obtain ⟨c1, c2, c3⟩ := hc
  have nb : ∀ x, x < k → nmF n hinge x < n + k - 1 := fun x hx => by
    unfold nmF
    split <;> omega
  refine ⟨by omega, (h2.mono (by omega)).app fun e m => ?_, fun v hv => ?_⟩
  · obtain ⟨d, hd, rfl⟩ := List.mem_map.mp m
    have := c2 d hd
    exact tie_ok (nb _ (by omega)) (nb _ (by omega))
  · have up : ∀ {u x}, Rch es u x → Rch (es ++ shiftE n hinge c) u x := fun a => a.mono fun e m => List.mem_append_left _ m
    by_cases z : v < n
    · exact up (h3 v z)
    · have q := (c3 (v - n + 1) (by omega)).map (fs := es ++ shiftE n hinge c) (nmF n hinge) fun e m =>
        adj_tie (List.mem_append_right _ (List.mem_map.mpr ⟨e, m, rfl⟩))
      have e1 : nmF n hinge 0 = hinge := rfl
      have e2 : nmF n hinge (v - n + 1) = v := by
        unfold nmF
        rw [if_neg (by omega)]
        omega
      rw [e1, e2] at q
      exact (up (h3 hinge hh)).trans q
/-- the order of the passages -/
theorem CN.perm {n : Nat} {es fs : List Ed} (h : CN n es) (p : fs.Perm es) : CN n fs :=
  ⟨h.1, fun e m => h.2.1 e (p.mem_iff.mp m), fun v hv => (h.2.2 v hv).mono fun e m => p.mem_iff.mpr m⟩
/-- other names of the places -/
def renE (p : List Nat) (es : List Ed) : List Ed := es.map fun e => tieF (ap p e.1) (ap p e.2)
theorem Rch.ren {es : List Ed} (p : List Nat) {u v : Nat} (a : Rch es u v) : Rch (renE p es) (ap p u) (ap p v) :=
  a.map (ap p) fun e m => adj_tie (List.mem_map.mpr ⟨e, m, rfl⟩)
theorem CN.ren {n : Nat} {es : List Ed} {p : List Nat} (h : CN n es) (hp : IsP p) (hl : p.length = n) : CN n (renE p es) := by
  obtain ⟨h1, h2, h3⟩ := h
  have lt : ∀ x, x < n → ap p x < n := fun x hx => by rw [← hl]; exact ap_lt hp (by omega)
  refine ⟨h1, fun e m => ?_, fun v hv => ?_⟩
  · obtain ⟨d, hd, rfl⟩ := List.mem_map.mp m
    have := h2 d hd
    exact tie_ok (lt _ (by omega)) (lt _ (by omega))
  · obtain ⟨x, hx, ex⟩ := ap_surj hp (y := v) (by omega)
    obtain ⟨z, hz, ez⟩ := ap_surj hp (y := 0) (by omega)
    have q := ((h3 z (by omega)).symm.trans (h3 x (by omega))).ren p
    rw [ex, ez] at q
    exact q
/-! ### rings and the other cores -/
def ringE (sp : List Nat) : List Ed := (List.range sp.length).map fun n => tieF (sp.getD ((n + sp.length - 1) % sp.length) 0) (sp.getD n 0)
def coreMenu : List (List Ed) :=
  (List.range 5).map (fun d => ringE (List.range (1 + d))) ++
  (List.range 3).flatMap (fun d => (List.range 3).map fun e => ringE (List.range (1 + d)) ++ ringE (0 :: (List.range e).map (fun i => 1 + d + i))) ++
  [[(0, 1), (0, 2), (0, 3), (1, 2), (1, 3)], [(0, 2), (1, 2), (0, 3), (1, 3), (0, 4), (1, 4)]] ++
  (List.range 3).map (fun d => List.replicate (2 + d) ((0, 1) : Ed)) ++
  (List.range 2).map (fun d => ringE (List.range (3 + d)) ++ [(0, 2)])
/-! ### least labels -/
def ljStep (least : List Nat) (e : Ed) : List Nat :=
  let lo := min (least.getD e.1 0) (least.getD e.2 0)
  let hi := max (least.getD e.1 0) (least.getD e.2 0)
  least.map fun x => if x = hi then lo else x
def lj (n : Nat) (es : List Ed) : List Nat := es.foldl ljStep (List.range n)
end Hw

namespace Hw
structure Lb (n : Nat) (es : List Ed) (L : List Nat) : Prop where
  len : L.length = n
  le : ∀ u, u < n → ap L u ≤ u
  to : ∀ u, u < n → Rch es u (ap L u)
  eq : ∀ u v, Rch es u v → u < n → v < n ∧ ap L u = ap L v
theorem ap_map' {l : List Nat} (f : Nat → Nat) {x : Nat} (h : x < l.length) : ap (l.map f) x = f (ap l x) := by
  have := ap_get h
  unfold ap at *
  rw [List.getD_eq_getElem?_getD, List.getElem?_map, this]
  rfl
theorem Rch.nil {u v : Nat} (h : Rch [] u v) : u = v := by
  induction h with
  | refl => rfl
  | step _ a _ => rcases a with m | m <;> cases m
theorem lb_zero (n : Nat) : Lb n [] (List.range n) :=
  ⟨List.length_range, fun u hu => by rw [ap_range hu]; exact Nat.le_refl _, fun u hu => by rw [ap_range hu]; exact .refl _, fun u v h hu => by
    have := h.nil
    subst this
    exact ⟨hu, rfl⟩⟩
theorem lb_step {n : Nat} {es : List Ed} {L : List Nat} (h : Lb n es L) {e : Ed} (ha : e.1 < n) (hb : e.2 < n) : Lb n (es ++ [e]) (ljStep L e) := by
  have up : ∀ {u x}, Rch es u x → Rch (es ++ [e]) u x := fun a => a.mono fun e m => List.mem_append_left _ m
  have eab : adj (es ++ [e]) e.1 e.2 := .inl (List.mem_append_right _ (by simp))
  have e1 : ∀ u, u < n → ap (ljStep L e) u = if ap L u = max (ap L e.1) (ap L e.2) then min (ap L e.1) (ap L e.2) else ap L u := fun u hu => by
    unfold ljStep
    rw [ap_map' _ (by rw [h.len]; exact hu)]
    rfl
  have ab : Rch (es ++ [e]) (max (ap L e.1) (ap L e.2)) (min (ap L e.1) (ap L e.2)) := by
    have q : Rch (es ++ [e]) (ap L e.1) (ap L e.2) := ((up (h.to _ ha)).symm.step eab).trans (up (h.to _ hb))
    rcases Nat.le_total (ap L e.1) (ap L e.2) with z | z
    · rw [Nat.max_eq_right z, Nat.min_eq_left z]; exact q.symm
    · rw [Nat.max_eq_left z, Nat.min_eq_right z]; exact q
  refine ⟨by unfold ljStep; rw [List.length_map]; exact h.len, fun u hu => ?_, fun u hu => ?_, fun u v r hu => ?_⟩
  · rw [e1 u hu]
    have := h.le u hu
    split
    · rename_i z
      have : min (ap L e.1) (ap L e.2) ≤ max (ap L e.1) (ap L e.2) := by omega
      omega
    · exact this
  · rw [e1 u hu]
    split
    · rename_i z
      have q := up (h.to u hu)
      rw [z] at q
      exact q.trans ab
    · exact up (h.to u hu)
  · induction r with
    | refl => exact ⟨hu, rfl⟩
    | @step v x _ a ih =>
      obtain ⟨hv, ev⟩ := ih
      have main : x < n ∧ ap (ljStep L e) v = ap (ljStep L e) x := by
        have old : adj es v x → x < n ∧ ap (ljStep L e) v = ap (ljStep L e) x := fun q => by
          obtain ⟨hx, ex⟩ := h.eq v x (Rch.one q) hv
          exact ⟨hx, by rw [e1 v hv, e1 x hx, ex]⟩
        have both : ap (ljStep L e) e.1 = ap (ljStep L e) e.2 := by
          rw [e1 _ ha, e1 _ hb]
          rcases Nat.le_total (ap L e.1) (ap L e.2) with z | z
          · rw [Nat.max_eq_right z, Nat.min_eq_left z, if_pos rfl]
            split <;> rfl
          · rw [Nat.max_eq_left z, Nat.min_eq_right z, if_pos rfl]
            split <;> rfl
        rcases a with m | m
        · rcases List.mem_append.mp m with m | m
          · exact old (.inl m)
          · have : (v, x) = e := List.mem_singleton.mp m
            subst this
            exact ⟨hb, both⟩
        · rcases List.mem_append.mp m with m | m
          · exact old (.inr m)
          · have : (x, v) = e := List.mem_singleton.mp m
            subst this
            exact ⟨ha, both.symm⟩
      exact ⟨main.1, ev.trans main.2⟩
theorem lb_fold {n : Nat} : ∀ (fs es : List Ed) (L : List Nat), Lb n es L → (∀ e ∈ fs, e.1 < n ∧ e.2 < n) → Lb n (es ++ fs) (fs.foldl ljStep L)
  | [], es, L, h, _ => by rw [List.append_nil]; exact h
  | e :: fs, es, L, h, hf => by
    have b := hf e List.mem_cons_self
    have := lb_fold fs (es ++ [e]) (ljStep L e) (lb_step h b.1 b.2) fun d m => hf d (List.mem_cons_of_mem _ m)
    rw [List.append_assoc] at this
    exact this
theorem lb_lj {n : Nat} {es : List Ed} (h : VE n es) : Lb n es (lj n es) := by
  have := lb_fold es [] (List.range n) (lb_zero n) fun e m => ⟨Nat.lt_of_le_of_lt (h e m).1 (h e m).2, (h e m).2⟩
  exact this
theorem lj_same {n : Nat} {es : List Ed} (h : VE n es) {u v : Nat} (hu : u < n) (hv : v < n) : ap (lj n es) u = ap (lj n es) v ↔ Rch es u v := by
  have b := lb_lj h
  constructor
  · intro e
    have q := b.to u hu
    rw [e] at q
    exact q.trans (b.to v hv).symm
  · intro r
    exact (b.eq u v r hu).2
theorem conn_iff {n : Nat} {es : List Ed} (h : VE n es) (hn : 1 ≤ n) : conn n es ↔ lj n es = List.replicate n 0 := by
  have b := lb_lj h
  have z : ap (lj n es) 0 = 0 := by
    have := b.le 0 hn
    omega
  constructor
  · intro c
    refine ext_ap (by rw [b.len, List.length_replicate]) fun x hx => ?_
    rw [b.len] at hx
    have e := (b.eq 0 x (c x hx) hn).2
    rw [z] at e
    rw [← e]
    unfold ap
    rw [List.getD_eq_getElem?_getD, List.getElem?_replicate, if_pos hx]
    rfl
  · intro e v hv
    refine (lj_same h hn hv).mp ?_
    rw [e]
    unfold ap
    rw [List.getD_eq_getElem?_getD, List.getD_eq_getElem?_getD, List.getElem?_replicate, List.getElem?_replicate, if_pos hv, if_pos (by omega)]
def cnB (n : Nat) (es : List Ed) : Bool := decide (1 ≤ n) && es.all (fun e => decide (e.1 ≤ e.2) && decide (e.2 < n)) && decide (lj n es = List.replicate n 0)
theorem cn_of {n : Nat} {es : List Ed} (h : cnB n es = true) : CN n es := by
  unfold cnB at h
  simp only [Bool.and_eq_true, decide_eq_true_eq, List.all_eq_true] at h
  have ve : VE n es := fun e m => h.1.2 e m
  exact ⟨h.1.1, ve, (conn_iff ve h.1.1).mpr h.2⟩
theorem menu_all : coreMenu.all (fun c => cnB (topOf c) c && decide (topOf c ≤ 5) && decide (c.length ≤ 8)) = true := by decide +kernel
theorem menu_ok {c : List Ed} (h : c ∈ coreMenu) : CN (topOf c) c ∧ topOf c ≤ 5 ∧ c.length ≤ 8 := by
  have := List.all_eq_true.mp menu_all c h
  simp only [Bool.and_eq_true, decide_eq_true_eq] at this
  exact ⟨cn_of this.1.1, this.1.2, this.2⟩
end Hw

/-! Sets of places that grow along passages; bridges and cells. No Python here. -/
namespace Hw
/-- the passages that count: those numbers that ok takes -/
def okE (ok : Nat → Bool) (es : List Ed) : List Ed := ((List.range es.length).filter ok).map fun j => es.getD j (0, 0)
theorem mem_okE {ok : Nat → Bool} {es : List Ed} {e : Ed} : e ∈ okE ok es ↔ ∃ j, ok j = true ∧ es[j]? = some e := by
  unfold okE
  constructor
  · intro h
    obtain ⟨j, hj, rfl⟩ := List.mem_map.mp h
    obtain ⟨h1, h2⟩ := List.mem_filter.mp hj
    have hl := List.mem_range.mp h1
    refine ⟨j, h2, ?_⟩
    rw [List.getD_eq_getElem?_getD, List.getElem?_eq_getElem hl]
    rfl
  · rintro ⟨j, h1, h2⟩
    have hl := (List.getElem?_eq_some_iff.mp h2).1
    refine List.mem_map.mpr ⟨j, List.mem_filter.mpr ⟨List.mem_range.mpr hl, h1⟩, ?_⟩
    rw [List.getD_eq_getElem?_getD, h2]
    rfl
theorem okE_ve {n : Nat} {ok : Nat → Bool} {es : List Ed} (h : VE n es) : VE n (okE ok es) := fun e m => by
  obtain ⟨j, _, hj⟩ := mem_okE.mp m
  exact h e (List.mem_of_getElem? hj)
theorem Rch.iff {es fs : List Ed} (h : ∀ e, e ∈ es ↔ e ∈ fs) {u v : Nat} : Rch es u v ↔ Rch fs u v :=
  ⟨fun r => r.mono fun e m => (h e).mp m, fun r => r.mono fun e m => (h e).mpr m⟩
theorem mem_erase {es : List Ed} {i : Nat} {e : Ed} : e ∈ es.eraseIdx i ↔ e ∈ okE (fun j => decide (j ≠ i)) es := by
  rw [mem_okE, List.mem_eraseIdx_iff_getElem?]
  constructor
  · rintro ⟨j, h1, h2⟩
    exact ⟨j, decide_eq_true h1, h2⟩
  · rintro ⟨j, h1, h2⟩
    exact ⟨j, of_decide_eq_true h1, h2⟩
/-- a step: the other end comes in -/
def gStep (S : List Nat) (e : Ed) : List Nat := if (decide (e.1 ∈ S)) = (decide (e.2 ∈ S)) then S else S ++ [if e.2 ∈ S then e.1 else e.2]
def gTo (ok : Nat → Bool) (es : List Ed) (S : List Nat) : Nat → List Nat
  | 0 => S
  | k + 1 => if ok k then gStep (gTo ok es S k) (es.getD k (0, 0)) else gTo ok es S k
def gN (ok : Nat → Bool) (es : List Ed) (s : Nat) : Nat → List Nat
  | 0 => [s]
  | k + 1 => gTo ok es (gN ok es s k) es.length
theorem gStep_sub (S : List Nat) (e : Ed) : ∀ x ∈ S, x ∈ gStep S e := fun x h => by
  unfold gStep
  split
  · exact h
  · exact List.mem_append_left _ h
theorem gStep_len (S : List Nat) (e : Ed) : S.length ≤ (gStep S e).length ∧ ((gStep S e).length = S.length → gStep S e = S ∧ (e.1 ∈ S ↔ e.2 ∈ S)) := by
  unfold gStep
  split
  · rename_i h
    refine ⟨Nat.le_refl _, fun _ => ⟨rfl, ?_⟩⟩
    by_cases a : e.1 ∈ S <;> by_cases b : e.2 ∈ S <;> simp [a, b] at h ⊢
  · rw [List.length_append]
    refine ⟨Nat.le_add_right _ _, fun z => ?_⟩
    simp at z
structure GOk (n : Nat) (fs : List Ed) (s : Nat) (S : List Nat) : Prop where
  nd : S.Nodup
  lt : ∀ x ∈ S, x < n
  to : ∀ x ∈ S, Rch fs s x
  st : s ∈ S
theorem gStep_ok {n : Nat} {fs : List Ed} {s : Nat} {S : List Nat} (h : GOk n fs s S) {e : Ed} (he : e ∈ fs) (h1 : e.1 < n) (h2 : e.2 < n) : GOk n fs s (gStep S e) := by
  unfold gStep
  split
  · exact h
  · rename_i ne
    have ad : adj fs e.1 e.2 := .inl he
    by_cases b : e.2 ∈ S
    · have a : e.1 ∉ S := fun a => ne (by simp [a, b])
      rw [if_pos b]
      refine ⟨?_, fun x hx => ?_, fun x hx => ?_, List.mem_append_left _ h.st⟩
      · rw [List.nodup_append]
        exact ⟨h.nd, by simp, fun x hx y hy => by rw [List.mem_singleton.mp hy]; exact fun z => a (z ▸ hx)⟩
      · rcases List.mem_append.mp hx with m | m
        · exact h.lt x m
        · rw [List.mem_singleton.mp m]; exact h1
      · rcases List.mem_append.mp hx with m | m
        · exact h.to x m
        · rw [List.mem_singleton.mp m]; exact (h.to _ b).step (adj_symm ad)
    · have a : e.1 ∈ S := Decidable.byContradiction fun a => ne (by simp [a, b])
      rw [if_neg b]
      refine ⟨?_, fun x hx => ?_, fun x hx => ?_, List.mem_append_left _ h.st⟩
      · rw [List.nodup_append]
        exact ⟨h.nd, by simp, fun x hx y hy => by rw [List.mem_singleton.mp hy]; exact fun z => b (z ▸ hx)⟩
      · rcases List.mem_append.mp hx with m | m
        · exact h.lt x m
        · rw [List.mem_singleton.mp m]; exact h2
      · rcases List.mem_append.mp hx with m | m
        · exact h.to x m
        · rw [List.mem_singleton.mp m]; exact (h.to _ a).step ad
section
variable {n : Nat} {es : List Ed} (ve : VE n es) {ok : Nat → Bool} {s : Nat}
include ve
theorem gTo_ok {S : List Nat} (h : GOk n (okE ok es) s S) : ∀ k, k ≤ es.length → GOk n (okE ok es) s (gTo ok es S k)
  | 0, _ => h
  | k + 1, hk => by
    have ih := gTo_ok h k (by omega)
    unfold gTo
    split
    · rename_i c
      have he : es[k]? = some (es.getD k (0, 0)) := by
        rw [List.getD_eq_getElem?_getD, List.getElem?_eq_getElem (by omega)]
        rfl
      have b := ve _ (List.mem_of_getElem? he)
      exact gStep_ok ih (mem_okE.mpr ⟨k, c, he⟩) (by omega) b.2
    · exact ih
omit ve in
theorem gTo_len (S : List Nat) : ∀ k, S.length ≤ (gTo ok es S k).length ∧ ((gTo ok es S k).length = S.length → gTo ok es S k = S ∧ ∀ j, j < k → ok j = true → ((es.getD j (0, 0)).1 ∈ S ↔ (es.getD j (0, 0)).2 ∈ S))
  | 0 => ⟨Nat.le_refl _, fun _ => ⟨rfl, fun j hj => absurd hj (Nat.not_lt_zero _)⟩⟩
  | k + 1 => by
    obtain ⟨i1, i2⟩ := gTo_len S k
    unfold gTo
    split
    · rename_i c
      obtain ⟨a1, a2⟩ := gStep_len (gTo ok es S k) (es.getD k (0, 0))
      refine ⟨Nat.le_trans i1 a1, fun z => ?_⟩
      obtain ⟨j1, j2⟩ := i2 (by omega)
      obtain ⟨b1, b2⟩ := a2 (by omega)
      refine ⟨b1.trans j1, fun j hj o => ?_⟩
      by_cases e : j = k
      · subst e
        rw [j1] at b2
        exact b2
      · exact j2 j (by omega) o
    · rename_i c
      refine ⟨i1, fun z => ?_⟩
      obtain ⟨j1, j2⟩ := i2 z
      refine ⟨j1, fun j hj o => ?_⟩
      by_cases e : j = k
      · subst e
        exact absurd o c
      · exact j2 j (by omega) o
def Cl (ok : Nat → Bool) (es : List Ed) (S : List Nat) : Prop := ∀ j e, ok j = true → es[j]? = some e → (e.1 ∈ S ↔ e.2 ∈ S)
omit ve in
theorem cl_gTo {S : List Nat} (h : Cl ok es S) : ∀ k, k ≤ es.length → gTo ok es S k = S
  | 0, _ => rfl
  | k + 1, hk => by
    unfold gTo
    rw [cl_gTo h k (by omega)]
    split
    · rename_i c
      have he : es[k]? = some (es.getD k (0, 0)) := by
        rw [List.getD_eq_getElem?_getD, List.getElem?_eq_getElem (by omega)]
        rfl
      have := h k _ c he
      unfold gStep
      rw [if_pos]
      by_cases a : (es.getD k (0, 0)).1 ∈ S
      · rw [decide_eq_true a, decide_eq_true (this.mp a)]
      · rw [decide_eq_false a, decide_eq_false fun b => a (this.mpr b)]
    · rfl
theorem gN_ok (hs : s < n) : ∀ r, GOk n (okE ok es) s (gN ok es s r)
  | 0 => ⟨by unfold gN; simp, fun x hx => by unfold gN at hx; rw [List.mem_singleton.mp hx]; exact hs, fun x hx => by unfold gN at hx; rw [List.mem_singleton.mp hx]; exact .refl _, by unfold gN; simp⟩
  | r + 1 => gTo_ok ve (gN_ok hs r) _ (Nat.le_refl _)
omit ve in
theorem gN_grows : ∀ r, Cl ok es (gN ok es s r) ∨ r + 1 ≤ (gN ok es s r).length
  | 0 => .inr (by unfold gN; simp)
  | r + 1 => by
    have ih := gN_grows r
    unfold gN
    by_cases c : Cl ok es (gN ok es s r)
    · left
      rw [cl_gTo c _ (Nat.le_refl _)]
      exact c
    · right
      have ih := ih.resolve_left c
      obtain ⟨a1, a2⟩ := gTo_len (ok := ok) (es := es) (gN ok es s r) es.length
      by_cases z : (gTo ok es (gN ok es s r) es.length).length = (gN ok es s r).length
      · exfalso
        obtain ⟨_, b⟩ := a2 z
        refine c fun j e o he => ?_
        have hl := (List.getElem?_eq_some_iff.mp he).1
        have := b j hl o
        rw [List.getD_eq_getElem?_getD, he] at this
        exact this
      · omega
omit ve in
theorem cl_rch {S : List Nat} (h : Cl ok es S) {u v : Nat} (r : Rch (okE ok es) u v) (hu : u ∈ S) : v ∈ S := by
  induction r with
  | refl => exact hu
  | step _ a ih =>
    rcases a with m | m
    · obtain ⟨j, o, e⟩ := mem_okE.mp m
      exact (h j _ o e).mp ih
    · obtain ⟨j, o, e⟩ := mem_okE.mp m
      exact (h j _ o e).mpr ih
/-- after as many rounds as there are places nothing more comes in -/
theorem gN_mem (hs : s < n) (v : Nat) : v ∈ gN ok es s n ↔ Rch (okE ok es) s v := by
  have g := gN_ok (ok := ok) ve hs n
  refine ⟨g.to v, fun r => ?_⟩
  have c : Cl ok es (gN ok es s n) := (gN_grows (ok := ok) (es := es) (s := s) n).resolve_right fun z => by
    have := len_le n _ g.nd g.lt
    omega
  exact cl_rch c r g.st
theorem gN_full (hs : s < n) : (gN ok es s n).length = n ↔ ∀ v, v < n → Rch (okE ok es) s v := by
  have g := gN_ok (ok := ok) ve hs n
  constructor
  · intro z v hv
    have ip : IsP (gN ok es s n) := ⟨g.nd, fun x hx => by rw [z]; exact g.lt x hx⟩
    exact (gN_mem ve hs v).mp (isP_mem ip (by rw [z]; exact hv))
  · intro h
    have p : (gN ok es s n).Perm (List.range n) := perm_of_mem g.nd List.nodup_range fun x => ⟨fun m => List.mem_range.mpr (g.lt x m), fun m => (gN_mem ve hs x).mpr (h x (List.mem_range.mp m))⟩
    rw [p.length_eq, List.length_range]
end
end Hw

/-! How far places are from each other, and the least way. No Python here. -/
namespace Hw
/-- x is within k passages of g -/
def bl (es : List Ed) (g : Nat) : Nat → Nat → Bool
  | 0, x => decide (x = g)
  | k + 1, x => bl es g k x || es.any fun e => (decide (e.1 = x) && bl es g k e.2) || (decide (e.2 = x) && bl es g k e.1)
theorem bl_succ {es : List Ed} {g k x : Nat} : bl es g (k + 1) x = true ↔ bl es g k x = true ∨ ∃ y, adj es x y ∧ bl es g k y = true := by
  show (bl es g k x || es.any fun e => (decide (e.1 = x) && bl es g k e.2) || (decide (e.2 = x) && bl es g k e.1)) = true ↔ _
  rw [Bool.or_eq_true, List.any_eq_true]
  constructor
  · rintro (h | ⟨e, he, h⟩)
    · exact .inl h
    · right
      rw [Bool.or_eq_true, Bool.and_eq_true, Bool.and_eq_true, decide_eq_true_eq, decide_eq_true_eq] at h
      rcases h with ⟨a, b⟩ | ⟨a, b⟩
      · exact ⟨e.2, .inl (by rw [← a]; exact he), b⟩
      · exact ⟨e.1, .inr (by rw [← a]; exact he), b⟩
  · rintro (h | ⟨y, h, b⟩)
    · exact .inl h
    · right
      rcases h with m | m
      · exact ⟨_, m, by simp [b]⟩
      · exact ⟨_, m, by simp [b]⟩
theorem bl_mono {es : List Ed} {g x k j : Nat} (h : bl es g k x = true) (l : k ≤ j) : bl es g j x = true := by
  induction l with
  | refl => exact h
  | step _ ih => exact bl_succ.mpr (.inl ih)
theorem bl_cons {es : List Ed} {x y : Nat} (a : adj es x y) {z : Nat} : ∀ {k : Nat}, bl es y k z = true → bl es x (k + 1) z = true := by
  intro k
  induction k generalizing z with
  | zero =>
    intro h
    have e : z = y := of_decide_eq_true h
    subst e
    exact bl_succ.mpr (.inr ⟨x, adj_symm a, decide_eq_true rfl⟩)
  | succ k ih =>
    intro h
    rcases bl_succ.mp h with h | ⟨v, q, h⟩
    · exact bl_mono (ih h) (Nat.le_succ _)
    · exact bl_succ.mpr (.inr ⟨v, q, ih h⟩)
theorem bl_symm {es : List Ed} {g : Nat} : ∀ {k x : Nat}, bl es g k x = true → bl es x k g = true := by
  intro k
  induction k with
  | zero =>
    intro x h
    exact decide_eq_true (of_decide_eq_true h).symm
  | succ k ih =>
    intro x h
    rcases bl_succ.mp h with h | ⟨v, q, h⟩
    · exact bl_mono (ih h) (Nat.le_succ _)
    · exact bl_cons q (ih h)
/-- what holds from some number on, counted -/
theorem count_mono (p : Nat → Bool) (mono : ∀ k, p k = true → p (k + 1) = true) : ∀ n, ((List.range n).filter fun k => !p k).length ≤ n ∧ ∀ k, k < n → (p k = true ↔ ((List.range n).filter fun k => !p k).length ≤ k)
  | 0 => ⟨Nat.le_refl _, fun k h => absurd h (Nat.not_lt_zero _)⟩
  | n + 1 => by
    obtain ⟨i1, i2⟩ := count_mono p mono n
    have e : ((List.range (n + 1)).filter fun k => !p k).length = ((List.range n).filter fun k => !p k).length + (if p n = true then 0 else 1) := by
      rw [List.range_succ, List.filter_append, List.length_append, List.filter_cons, List.filter_nil]
      cases p n <;> rfl
    have up : ∀ d k, p k = true → p (k + d) = true := fun d => by
      induction d with
      | zero => exact fun _ z => z
      | succ d ih => exact fun k z => mono _ (ih k z)
    have down : ∀ k, k ≤ n → p k = true → p n = true := fun k h z => by
      have := up (n - k) k z
      rw [show k + (n - k) = n by omega] at this
      exact this
    rw [e]
    by_cases c : p n = true
    · rw [if_pos c, Nat.add_zero]
      refine ⟨by omega, fun k hk => ?_⟩
      by_cases z : k = n
      · subst z; simp [c, i1]
      · exact i2 k (by omega)
    · rw [if_neg c]
      have full : ((List.range n).filter fun k => !p k).length = n := by
        by_cases z : n = 0
        · subst z; rfl
        · have := i2 (n - 1) (by omega)
          have nn : ¬ p (n - 1) = true := fun q => c (down (n - 1) (by omega) q)
          have : ¬ ((List.range n).filter fun k => !p k).length ≤ n - 1 := fun q => nn (this.mpr q)
          omega
      rw [full]
      refine ⟨Nat.le_refl _, fun k hk => ⟨fun q => absurd (down k (by omega) q) c, fun q => by omega⟩⟩
theorem len_filter_le {α : Type} {p q : α → Bool} : ∀ {l : List α}, (∀ x ∈ l, p x = true → q x = true) → (l.filter p).length ≤ (l.filter q).length
  | [], _ => Nat.le_refl _
  | a :: l, h => by
    have ih := len_filter_le (l := l) fun x hx => h x (List.mem_cons_of_mem _ hx)
    have ha := h a List.mem_cons_self
    rw [List.filter_cons, List.filter_cons]
    cases e1 : p a <;> cases e2 : q a <;> simp [e1, e2] at ha ⊢ <;> omega
theorem len_filter_lt {α : Type} {p q : α → Bool} {x : α} : ∀ {l : List α}, (∀ x ∈ l, p x = true → q x = true) → x ∈ l → p x = false → q x = true → (l.filter p).length < (l.filter q).length
  | a :: l, h, m, hp, hq => by
    have ih := len_filter_le (l := l) fun x hx => h x (List.mem_cons_of_mem _ hx)
    have ha := h a List.mem_cons_self
    rcases List.mem_cons.mp m with e | m
    · subst e
      rw [List.filter_cons, List.filter_cons, hp, hq]
      simp
      omega
    · have ih2 := len_filter_lt (fun x hx => h x (List.mem_cons_of_mem _ hx)) m hp hq
      rw [List.filter_cons, List.filter_cons]
      cases e1 : p a <;> cases e2 : q a <;> simp [e1, e2] at ha ⊢ <;> omega
theorem bl_grows {n : Nat} {es : List Ed} (cn : CN n es) {g : Nat} (hg : g < n) : ∀ k, (∀ x, x < n → bl es g k x = true) ∨ k + 1 ≤ ((List.range n).filter (bl es g k)).length
  | 0 => .inr (List.length_pos_iff_exists_mem.mpr ⟨g, List.mem_filter.mpr ⟨List.mem_range.mpr hg, decide_eq_true rfl⟩⟩)
  | k + 1 => by
    rcases bl_grows cn hg k with h | h
    · exact .inl fun x hx => bl_mono (h x hx) (Nat.le_succ _)
    · by_cases c : ∃ x, x < n ∧ bl es g k x = false ∧ bl es g (k + 1) x = true
      · right
        obtain ⟨x, hx, a, b⟩ := c
        have := len_filter_lt (p := bl es g k) (q := bl es g (k + 1)) (l := List.range n) (fun x _ z => bl_mono z (Nat.le_succ _)) (List.mem_range.mpr hx) a b
        omega
      · left
        have lt : ∀ {u v}, adj es u v → u < n ∧ v < n := fun {u v} a => by
          rcases a with m | m <;> (have := cn.2.1 _ m; simp only at this; omega)
        have cl : ∀ {u v}, Rch es u v → bl es g k u = true → u < n → bl es g k v = true ∧ v < n := fun r hu hn => by
          induction r with
          | refl => exact ⟨hu, hn⟩
          | step _ a ih =>
            have l := lt a
            refine ⟨?_, l.2⟩
            cases e : bl es g k _ with
            | true => rfl
            | false => exact absurd ⟨_, l.2, e, bl_succ.mpr (.inr ⟨_, adj_symm a, ih.1⟩)⟩ c
        have g0 : bl es g k g = true := bl_mono (k := 0) (decide_eq_true rfl) (Nat.zero_le _)
        exact fun x hx => bl_mono (cl ((cn.2.2 g hg).symm.trans (cn.2.2 x hx)) g0 hg).1 (Nat.le_succ _)
theorem bl_all {n : Nat} {es : List Ed} (cn : CN n es) {g x : Nat} (hg : g < n) (hx : x < n) : bl es g (n - 1) x = true := by
  rcases bl_grows cn hg (n - 1) with h | h
  · exact h x hx
  · have e : ((List.range n).filter (bl es g (n - 1))).length = (List.range n).length := Nat.le_antisymm (List.length_filter_le _ _) (by rw [List.length_range]; omega)
    exact List.length_filter_eq_length_iff.mp e x (List.mem_range.mpr hx)
/-- how far x is from g -/
def dst (n : Nat) (es : List Ed) (g x : Nat) : Nat := ((List.range n).filter fun k => !bl es g k x).length
theorem bl_dst {n : Nat} {es : List Ed} {g x k : Nat} (h : k < n) : bl es g k x = true ↔ dst n es g x ≤ k :=
  (count_mono (fun k => bl es g k x) (fun k z => bl_mono z (Nat.le_succ _)) n).2 k h
/-- distances from g -/
structure IsD (n : Nat) (es : List Ed) (g : Nat) (d : Nat → Nat) : Prop where
  z : d g = 0
  lt : ∀ x, x < n → d x < n
  up : ∀ x y, adj es x y → d y ≤ d x + 1
  dn : ∀ x, x < n → d x ≠ 0 → ∃ y, adj es x y ∧ d y + 1 = d x
  zo : ∀ x, x < n → d x = 0 → x = g
theorem adj_lt {n : Nat} {es : List Ed} (ve : VE n es) {u v : Nat} (a : adj es u v) : u < n ∧ v < n := by
  rcases a with m | m <;> (have := ve _ m; simp only at this; omega)
theorem dst_is {n : Nat} {es : List Ed} (cn : CN n es) {g : Nat} (hg : g < n) : IsD n es g (dst n es g) := by
  have n1 := cn.1
  have lt : ∀ x, x < n → dst n es g x < n := fun x hx => by
    have := (bl_dst (n := n) (es := es) (g := g) (x := x) (k := n - 1) (by omega)).mp (bl_all cn hg hx)
    omega
  refine ⟨?_, lt, fun x y a => ?_, fun x hx h => ?_, fun x hx h => ?_⟩
  · have := (bl_dst (n := n) (es := es) (g := g) (x := g) (k := 0) (by omega)).mp (decide_eq_true rfl)
    omega
  · have l := adj_lt cn.2.1 a
    have h1 := (bl_dst (n := n) (es := es) (g := g) (lt x l.1)).mpr (Nat.le_refl _)
    have h2 : bl es g (dst n es g x + 1) y = true := bl_succ.mpr (.inr ⟨x, adj_symm a, h1⟩)
    by_cases c : dst n es g x + 1 < n
    · exact (bl_dst c).mp h2
    · have := lt y l.2
      have := lt x l.1
      omega
  · have l := lt x hx
    have h1 := (bl_dst (n := n) (es := es) (g := g) l).mpr (Nat.le_refl _)
    obtain ⟨k, ek⟩ : ∃ k, dst n es g x = k + 1 := ⟨dst n es g x - 1, by omega⟩
    rw [ek] at h1 l
    rcases bl_succ.mp h1 with h | ⟨y, a, h⟩
    · have := (bl_dst (n := n) (es := es) (g := g) (x := x) (k := k) (by omega)).mp h
      omega
    · refine ⟨y, a, ?_⟩
      have u := (bl_dst (n := n) (es := es) (g := g) (x := y) (k := k) (by omega)).mp h
      by_cases c : dst n es g y = k
      · omega
      · exfalso
        have h3 := (bl_dst (n := n) (es := es) (g := g) (lt y (adj_lt cn.2.1 a).2)).mpr (Nat.le_refl _)
        have h4 : bl es g (dst n es g y + 1) x = true := bl_succ.mpr (.inr ⟨y, a, h3⟩)
        have := (bl_dst (n := n) (es := es) (g := g) (x := x) (k := dst n es g y + 1) (by omega)).mp h4
        omega
  · have h1 := (bl_dst (n := n) (es := es) (g := g) (x := x) (k := 0) (by omega)).mpr (by omega)
    exact of_decide_eq_true h1
theorem dst_symm {n : Nat} {es : List Ed} (cn : CN n es) {g x : Nat} (hg : g < n) (hx : x < n) : dst n es g x = dst n es x g := by
  have a := (dst_is cn hg).lt x hx
  have b := (dst_is cn hx).lt g hg
  have h1 := (bl_dst (n := n) (es := es) (g := x) (x := g) a).mp (bl_symm ((bl_dst a).mpr (Nat.le_refl _)))
  have h2 := (bl_dst (n := n) (es := es) (g := g) (x := x) b).mp (bl_symm ((bl_dst b).mpr (Nat.le_refl _)))
  omega
theorem dst_self {n : Nat} {es : List Ed} (cn : CN n es) {g : Nat} (hg : g < n) : dst n es g g = 0 := (dst_is cn hg).z
/-! ### the least way -/
def drsTo (es : List Ed) (u j : Nat) : List Nat := (List.range j).filter fun i => decide (u ∈ [(es.getD i (0, 0)).1, (es.getD i (0, 0)).2])
def drs (es : List Ed) (u : Nat) : List Nat := drsTo es u es.length
theorem drsTo_succ (es : List Ed) (u j : Nat) : drsTo es u (j + 1) = drsTo es u j ++ (if decide (u ∈ [(es.getD j (0, 0)).1, (es.getD j (0, 0)).2]) = true then [j] else []) := by
  unfold drsTo
  rw [List.range_succ, List.filter_append]
  congr 1
  rw [List.filter_cons, List.filter_nil]
theorem drsTo_len (es : List Ed) (u j : Nat) : (drsTo es u j).length ≤ j := by
  unfold drsTo
  exact Nat.le_trans (List.length_filter_le _ _) (by rw [List.length_range]; exact Nat.le_refl _)
theorem getD_of {es : List Ed} {i : Nat} {e : Ed} (h : es[i]? = some e) : es.getD i (0, 0) = e := by
  rw [List.getD_eq_getElem?_getD, h]
  rfl
theorem get_at {es : List Ed} {i : Nat} (h : i < es.length) : es[i]? = some (es.getD i (0, 0)) := by
  rw [List.getD_eq_getElem?_getD, List.getElem?_eq_getElem h]
  rfl
theorem mem_drs {es : List Ed} {u j : Nat} : j ∈ drs es u ↔ j < es.length ∧ u ∈ [(es.getD j (0, 0)).1, (es.getD j (0, 0)).2] := by
  unfold drs drsTo
  rw [List.mem_filter, List.mem_range, decide_eq_true_eq]
/-- the other end -/
def oth (e : Ed) (x : Nat) : Nat := if x = e.1 then e.2 else e.1
theorem oth_sum {e : Ed} {x : Nat} (h : x ∈ [e.1, e.2]) : oth e x = e.1 + e.2 - x ∧ x ≤ e.1 + e.2 := by
  have h' : x = e.1 ∨ x = e.2 := by simpa using h
  unfold oth
  rcases h' with z | z
  · rw [if_pos z]; omega
  · split <;> omega
theorem oth_adj {es : List Ed} {i x : Nat} (h : i ∈ drs es x) : adj es x (oth (es.getD i (0, 0)) x) := by
  obtain ⟨l, m⟩ := mem_drs.mp h
  have me := List.mem_of_getElem? (get_at l)
  generalize es.getD i (0, 0) = e at *
  have h' : x = e.1 ∨ x = e.2 := by simpa using m
  unfold oth
  by_cases z : x = e.1
  · rw [if_pos z]
    exact .inl (by rw [z]; exact me)
  · rw [if_neg z]
    have := h'.resolve_left z
    exact .inr (by rw [this]; exact me)
theorem adj_oth {es : List Ed} {x y : Nat} (a : adj es x y) : ∃ i, i ∈ drs es x ∧ oth (es.getD i (0, 0)) x = y := by
  have main : ∀ e : Ed, e ∈ es → (e = (x, y) ∨ e = (y, x)) → ∃ i, i ∈ drs es x ∧ oth (es.getD i (0, 0)) x = y := fun e m h => by
    obtain ⟨i, hi, ei⟩ := List.mem_iff_getElem.mp m
    have g := getD_of (es := es) (i := i) (e := e) (by rw [List.getElem?_eq_getElem hi, ei])
    refine ⟨i, mem_drs.mpr ⟨hi, ?_⟩, ?_⟩
    · rw [g]
      rcases h with z | z <;> subst z <;> simp
    · rw [g]
      rcases h with z | z <;> subst z
      · exact if_pos rfl
      · unfold oth
        simp only
        split
        · rename_i q; exact q
        · rfl
  rcases a with m | m
  · exact main _ m (.inl rfl)
  · exact main _ m (.inr rfl)
/-- the passages at x that lead nearer -/
def stp (es : List Ed) (d : Nat → Nat) (x : Nat) : List Nat := (drs es x).filter fun i => decide (d (oth (es.getD i (0, 0)) x) < d x)
def wy (es : List Ed) (d : Nat → Nat) : Nat → Nat → List Nat
  | 0, _ => []
  | k + 1, x => (stp es d x).headD 0 :: wy es d k (oth (es.getD ((stp es d x).headD 0) (0, 0)) x)
def wayF (n : Nat) (es : List Ed) (x g : Nat) : List Nat := wy es (dst n es g) (dst n es g x) x
theorem wy_len (es : List Ed) (d : Nat → Nat) : ∀ k x, (wy es d k x).length = k
  | 0, _ => rfl
  | k + 1, x => congrArg (· + 1) (wy_len es d k _)
theorem stp_ex {n : Nat} {es : List Ed} (ve : VE n es) {g : Nat} {d : Nat → Nat} (D : IsD n es g d) {x : Nat} (hx : x < n) (h : d x ≠ 0) :
    ∃ i r, stp es d x = i :: r ∧ i ∈ drs es x ∧ i < es.length ∧ oth (es.getD i (0, 0)) x < n ∧ d (oth (es.getD i (0, 0)) x) + 1 = d x := by
  cases e : stp es d x with
  | nil =>
    exfalso
    obtain ⟨y, a, q⟩ := D.dn x hx h
    obtain ⟨i, hi, eo⟩ := adj_oth a
    have : i ∈ stp es d x := List.mem_filter.mpr ⟨hi, decide_eq_true (by rw [eo]; omega)⟩
    rw [e] at this
    cases this
  | cons i r =>
    have m : i ∈ stp es d x := by rw [e]; exact List.mem_cons_self
    obtain ⟨m1, m2⟩ := List.mem_filter.mp m
    have lt := of_decide_eq_true m2
    have a := oth_adj m1
    have u := D.up _ _ (adj_symm a)
    exact ⟨i, r, rfl, m1, (mem_drs.mp m1).1, (adj_lt ve a).2, by omega⟩
/-- nearer is nearer by one -/
theorem stp_eq {n : Nat} {es : List Ed} {g : Nat} {d : Nat → Nat} (D : IsD n es g d) {x i : Nat} (hi : i ∈ drs es x) : d (oth (es.getD i (0, 0)) x) < d x ↔ d (oth (es.getD i (0, 0)) x) + 1 = d x := by
  have u := D.up _ _ (adj_symm (oth_adj hi))
  omega
theorem wy_lt {n : Nat} {es : List Ed} (ve : VE n es) {g : Nat} {d : Nat → Nat} (D : IsD n es g d) : ∀ k x, x < n → d x = k → ∀ i ∈ wy es d k x, i < es.length
  | 0, _, _, _, i, h => nomatch h
  | k + 1, x, hx, e, i, h => by
    obtain ⟨j, r, ej, _, jl, ol, eo⟩ := stp_ex ve D hx (by omega)
    unfold wy at h
    rw [ej] at h
    rcases List.mem_cons.mp h with z | m
    · rw [z]; exact jl
    · exact wy_lt ve D k _ ol (by show d (oth (es.getD j (0, 0)) x) = k; omega) i m
end Hw

/-! Steps: what they do to the things. No Python here. -/
namespace Hw
/-- what a step through passage e makes of the things -/
def swp (xs : List Nat) (e : Nat) : List Nat := (xs.set e (ap xs (xs.length - 1))).set (xs.length - 1) (ap xs e)
theorem swp_len (xs : List Nat) (e : Nat) : (swp xs e).length = xs.length := by unfold swp; rw [List.length_set, List.length_set]
/-- where what stands at i behind the step came from -/
def swi (l e i : Nat) : Nat := if i = l then e else if i = e then l else i
theorem swi_swi {l e i : Nat} : swi l e (swi l e i) = i := by
  unfold swi
  split <;> split <;> (try split) <;> omega
theorem swi_lt {l e i n : Nat} (hl : l < n) (he : e < n) (hi : i < n) : swi l e i < n := by
  unfold swi
  split
  · exact he
  · split
    · exact hl
    · exact hi
theorem swp_ap {xs : List Nat} {e i : Nat} (he : e < xs.length) (hi : i < xs.length) : ap (swp xs e) i = ap xs (swi (xs.length - 1) e i) := by
  unfold swi
  by_cases h1 : i = xs.length - 1
  · rw [if_pos h1]
    unfold ap swp
    rw [List.getD_eq_getElem?_getD, List.getElem?_set]
    simp [h1, List.length_set]
    rw [if_pos (by omega)]
    unfold ap
    rw [List.getD_eq_getElem?_getD]
    rfl
  · rw [if_neg h1]
    have h1' : ¬ xs.length - 1 = i := fun z => h1 z.symm
    by_cases h2 : i = e
    · subst h2
      rw [if_pos rfl]
      unfold ap swp
      rw [List.getD_eq_getElem?_getD, List.getElem?_set, if_neg h1', List.getElem?_set, if_pos rfl, if_pos he]
      rfl
    · rw [if_neg h2]
      have h2' : ¬ e = i := fun z => h2 z.symm
      unfold ap swp
      rw [List.getD_eq_getElem?_getD, List.getElem?_set, if_neg h1', List.getElem?_set, if_neg h2', List.getD_eq_getElem?_getD]
theorem swp_swp {xs : List Nat} {e : Nat} (he : e < xs.length) : swp (swp xs e) e = xs := by
  refine ext_ap (by rw [swp_len, swp_len]) fun i hi => ?_
  rw [swp_len, swp_len] at hi
  rw [swp_ap (by rw [swp_len]; exact he) (by rw [swp_len]; exact hi), swp_len, swp_ap he (swi_lt (by omega) he hi), swi_swi]
theorem isP_swp {xs : List Nat} {e : Nat} (h : IsP xs) (he : e < xs.length) : IsP (swp xs e) := by
  have get : ∀ {i} (hi : i < (swp xs e).length), (swp xs e)[i] = ap (swp xs e) i := fun {i} hi => by
    have := ap_get hi
    rw [List.getElem?_eq_getElem hi] at this
    exact Option.some.inj this
  have get0 : ∀ {i} (hi : i < xs.length), xs[i] = ap xs i := fun {i} hi => by
    have := ap_get hi
    rw [List.getElem?_eq_getElem hi] at this
    exact Option.some.inj this
  have inj : ∀ {i j}, i < xs.length → j < xs.length → ap xs i = ap xs j → i = j := fun {i j} hi hj q => by
    rw [← get0 hi, ← get0 hj] at q
    exact (List.getElem_inj h.1).mp q
  refine ⟨?_, fun x hx => ?_⟩
  · rw [List.nodup_iff_pairwise_ne, List.pairwise_iff_getElem]
    intro i j hi hj hij q
    rw [get hi, get hj] at q
    rw [swp_len] at hi hj
    rw [swp_ap he hi, swp_ap he hj] at q
    have z := inj (swi_lt (by omega) he hi) (swi_lt (by omega) he hj) q
    have z2 := congrArg (swi (xs.length - 1) e) z
    rw [swi_swi, swi_swi] at z2
    omega
  · obtain ⟨i, hi, rfl⟩ := List.mem_iff_getElem.mp hx
    rw [get hi]
    rw [swp_len] at hi ⊢
    rw [swp_ap he hi]
    exact ap_lt h (swi_lt (by omega) he hi)
/-- a state: the walker's place, the things -/
abbrev Sta := Nat × List Nat
def stpS (es : List Ed) (s : Sta) (e : Nat) : Sta := (oth (es.getD e (0, 0)) s.1, swp s.2 e)
def runS (es : List Ed) (s : Sta) (ks : List Nat) : Sta := ks.foldl (stpS es) s
/-- the steps can be taken one after the other -/
def Wlk (es : List Ed) : Nat → List Nat → Prop
  | _, [] => True
  | p, e :: ks => e ∈ drs es p ∧ Wlk es (oth (es.getD e (0, 0)) p) ks
def IsS (n m : Nat) (s : Sta) : Prop := s.1 < n ∧ IsP s.2 ∧ s.2.length = m + 1
theorem oth_lt {n : Nat} {es : List Ed} {p e : Nat} (h : VE n es) (he : e ∈ drs es p) : oth (es.getD e (0, 0)) p < n := by
  obtain ⟨hi, hm⟩ := mem_drs.mp he
  have := h _ (List.getElem_mem hi)
  rw [List.getD_eq_getElem?_getD, List.getElem?_eq_getElem hi] at hm ⊢
  simp only [Option.getD_some] at hm ⊢
  unfold oth
  split
  · exact this.2
  · omega
theorem stpS_is {n : Nat} {es : List Ed} {s : Sta} {e : Nat} (h : VE n es) (i : IsS n es.length s) (he : e ∈ drs es s.1) : IsS n es.length (stpS es s e) := by
  have hl := (mem_drs.mp he).1
  exact ⟨oth_lt h he, isP_swp i.2.1 (by rw [i.2.2]; omega), by show (swp s.2 e).length = _; rw [swp_len]; exact i.2.2⟩
theorem runS_snoc (es : List Ed) (s : Sta) (ks : List Nat) (e : Nat) : runS es s (ks ++ [e]) = stpS es (runS es s ks) e := by unfold runS; rw [List.foldl_append]; rfl
theorem runS_app (es : List Ed) (s : Sta) (ks ls : List Nat) : runS es s (ks ++ ls) = runS es (runS es s ks) ls := by unfold runS; rw [List.foldl_append]
/-- the place alone -/
def plcS (es : List Ed) (p : Nat) (ks : List Nat) : Nat := ks.foldl (fun q e => oth (es.getD e (0, 0)) q) p
theorem runS_fst (es : List Ed) : ∀ (ks : List Nat) (s : Sta), (runS es s ks).1 = plcS es s.1 ks
  | [], _ => rfl
  | e :: ks, s => runS_fst es ks (stpS es s e)
theorem wlk_app {es : List Ed} : ∀ {ks : List Nat} {p : Nat} {ls : List Nat}, Wlk es p (ks ++ ls) ↔ Wlk es p ks ∧ Wlk es (plcS es p ks) ls
  | [], p, ls => by simp [Wlk, plcS]
  | e :: ks, p, ls => by
    show (e ∈ drs es p ∧ Wlk es _ (ks ++ ls)) ↔ (e ∈ drs es p ∧ Wlk es _ ks) ∧ Wlk es (plcS es _ ks) ls
    rw [wlk_app, and_assoc]
theorem wlk_get {es : List Ed} {ks : List Nat} {p i e : Nat} (h : Wlk es p ks) (hi : ks[i]? = some e) : e ∈ drs es (plcS es p (ks.take i)) := by
  have hlt := (List.getElem?_eq_some_iff.mp hi).1
  have e1 : ks = ks.take i ++ e :: ks.drop (i + 1) := by
    conv => lhs; rw [← List.take_append_drop i ks]
    rw [List.drop_eq_getElem_cons hlt, (List.getElem?_eq_some_iff.mp hi).2]
  rw [e1, wlk_app] at h
  exact h.2.1
theorem runS_is {n : Nat} {es : List Ed} (h : VE n es) : ∀ {ks : List Nat} {s : Sta}, IsS n es.length s → Wlk es s.1 ks → IsS n es.length (runS es s ks)
  | [], _, i, _ => i
  | _ :: ks, _, i, w => runS_is h (ks := ks) (stpS_is h i w.1) w.2
end Hw

/-! len(o) by an own __len__. -/
namespace Hw
open PySem PySem.Spec PyProof.Rows L2
section
variable {prog : Program} {w : World} {K : PySem.W.Frag} {A : Around} {E : Value → Shared → Prop} {st : Shared} {x C f : Addr} {ox : Obj} {od : Option Obj}
/-- an own method that the machine calls by its special name -/
theorem special_own {name : Str} {args : List Value} {Q : Option Value → Shared → Prop} (KX : K.In st.heap) (at_ : PySem.W.InstAt st.heap x ox C od) (fi : PySem.W.findIn K (.ref C) name = some (some (.ref f))) (fn : PySem.W.isFn K (.ref f) = true)
    (go : wpAny (model prog w) A (call (.ref f) (.ref x :: args)) (fun v s' => Q (some v) s') E st) : wpAny (model prog w) A (callSpecial? (.ref x) name args) Q E st := by
  have ty : PySem.W.typeIn K (.ref f) = some (.type "function") := beq_iff_eq.mp fn
  unfold callSpecial? specialOf
  refine wpAny_bind (wpAny_bind (at_.type.here ((PySem.W.looks_findIn KX fi).here (wpAny_holding (wpAny_bind ?_)))))
  unfold bindSpecial
  refine wpAny_bind ((PySem.W.looks_typeIn KX ty).here ?_)
  rw [if_pos (by decide)]
  first
    | exact wpAny_pure (wpAny_bind (wpAny_mono go (fun v s' h => wpAny_pure h) fun _ _ z => z))
    | exact wpAny_pure (wpAny_pure (wpAny_bind (wpAny_mono go (fun v s' h => wpAny_pure h) fun _ _ z => z)))
theorem len_inst {Q : Value → Shared → Prop} (KX : K.In st.heap) (at_ : PySem.W.InstAt st.heap x ox C od) (fi : PySem.W.findIn K (.ref C) "__len__" = some (some (.ref f))) (fn : PySem.W.isFn K (.ref f) = true)
    (go : wpAny (model prog w) A.in1 (call (.ref f) [.ref x]) (fun v s' => ∃ n u, v = .int n u ∧ 0 ≤ n ∧ n < 2 ^ 63 ∧ Q (.int n s'.toks) { s' with toks := s'.toks + 1 }) E st) : wpAny (model prog w) A (call (.builtin "len") [.ref x]) Q E st := by
  refine Calls.call_function_entry kind_len plain_len entry_len (args_len1 _) ?_
  unfold Builtin.«len»
  refine wpAny_bind (m := oneArg "len" _) (wpAny_pure (wpAny_bind (special_own (name := Str.ofString "__len__") KX at_ fi fn (wpAny_mono go (fun v s' hv => ?_) fun _ _ z => z))))
  obtain ⟨n, u, rfl, h0, h1, q⟩ := hv
  refine wpAny_bind (wpAny_holding (wpAny_pure (wpAny_bind (wpAny_letGo ?_))))
  show wpAny _ _ (if n < 0 then _ else _) _ _ _
  rw [if_neg (by omega)]
  show wpAny _ _ (if n ≥ 2 ^ 63 then _ else _) _ _ _
  rw [if_neg (by omega)]
  exact wpAny_bind (wpAny_mkInt (wpAny_pure ⟨_, rfl, q⟩))
end
/-- len(o), o an instance of C whose __len__ keeps sp -/
def rLenO (C : Addr) (sp : Sp) : List V → Hp → VK → Prop := fun vs H Q => ∃ (x dx : Addr) (fs : List (Str × V)), vs = [.ref x] ∧ H x = some (.ins C dx fs) ∧ sp [.ref x] H (fun v H' => ∃ n : Nat, v = .int (n : Int) ∧ n < 2 ^ 62 ∧ Q v H') E0
theorem cr_lenO {X : Cx} {k : Nat} {C f : Addr} {sp : Sp} (fi : PySem.W.findIn X.K (.ref C) "__len__" = some (some (.ref f))) (fn : PySem.W.isFn X.K (.ref f) = true) (F : L2.FnR X.prog X.w X.K X.mg X.base CX0 k f sp) (hr : Room (k + 1) X.A) : CallR X (.builtin "len") (rLenO C sp) := by
  rintro pins st σ H vs us Q I r ⟨x, dx, fs, rfl, ea, q⟩
  rw [Vals.ref1 r]
  obtain ⟨mA, O, _⟩ := ins_get I.hok ea
  obtain ⟨od, J, _⟩ := O.look
  have e0 := I.env0
  refine len_inst I.kIn J fi fn (wpAny_call (codeAny_mono (F X.A.in1 X.stack st H [.ref x] [.ref x] _ E0 hr.in1 ⟨e0.frames, e0.mod, e0.bs, e0.bsz, e0.funs, e0.frf, e0.hok, e0.bare⟩ (.cons rfl .nil) q) fun rs s2 hq => ?_))
  cases rs with
  | error er => exact (hq : False).elim
  | ok fl =>
    cases fl with
    | ret u =>
      obtain ⟨v, H', os, bare, un, hok, rv, n, rfl, hn, q2⟩ := hq
      obtain ⟨t, rfl⟩ := rv
      have J2 : L2.Inv X pins σ H' s2 := I.call' (ch := []) os un hok bare fun b z => by simp at z
      exact ⟨(n : Int), t, rfl, by omega, by omega, .int (n : Int), H', J2.tok _, ⟨_, rfl⟩, q2⟩
    | next => exact (hq : False).elim
    | brk => exact (hq : False).elim
    | cont => exact (hq : False).elim
end Hw

/-! A generator whose consumer is a loop of a def: between two turns the consumer's own frame may change. -/
namespace Hw
open PySem PySem.Spec PyProof.Rows L2 GenW
/-- the context with another state at its entry; no exception leaves it -/
abbrev reb (C : Cx) (s0 : Shared) : Cx := { C with s_0 := s0, xe := fun _ _ => False }
/-- the same state, but for the frame at F -/
structure Alike (F : Addr) (s0 s1 : Shared) : Prop where
  sz : s1.heap.objs.size = s0.heap.objs.size
  os : s1.os = s0.os
  off : ∀ b, b ≠ F → s1.heap.get? b = s0.heap.get? b
  at_ : ∃ o o', s0.heap.get? F = some o ∧ s1.heap.get? F = some o' ∧ (∀ vs, o'.data ≠ .fields vs) ∧ ∀ v, o'.data ≠ .cell v
theorem funFrames_alike {F : Addr} {s0 s1 : Shared} {base : Heap} (a : Alike F s0 s1) : ∀ {l : List Env}, s0.heap.FunFrames base l → s1.heap.FunFrames base l
  | [], _ => trivial
  | env :: rest, ⟨k, ⟨L, o, f, n, e, d⟩, r⟩ => by
    refine ⟨k, ?_, funFrames_alike a r⟩
    by_cases z : L = F
    · subst z
      obtain ⟨_, o', _, e', d', _⟩ := a.at_
      exact ⟨L, o', f, n, e', d'⟩
    · exact ⟨L, o, f, n, (a.off L z).trans e, d⟩
section
variable {C : Cx} {F : Addr} {s0 s1 : Shared}
theorem ok_alike (k : (reb C s0).Ok) (a : Alike F s0 s1) (hF : F ∈ C.fs) : (reb C s1).Ok := by
  have nb : ∀ b o, C.base.get? b = some o → b ≠ F := fun b o e z => by
    subst z
    obtain ⟨n, _⟩ := k.funs.mem (show b ∈ C.outer.filterMap (·.frame) from hF)
    rw [n] at e
    cases e
  exact ⟨k.mod, k.kind, k.glob, k.blt, by have := k.above; show s1.heap.objs.size ≤ _; rw [a.sz]; exact this, k.inj, k.has, fun x c h1 h2 => by have := k.cab x c h1 h2; show s1.heap.objs.size ≤ _; rw [a.sz]; exact this, k.hd, k.frames, k.stk, k.exf,
    fun b o e => ⟨(a.off b (nb b o e)).trans (k.bs b o e).1, (k.bs b o e).2⟩, by have := k.bsz; show _ ≤ s1.heap.objs.size; rw [a.sz]; exact this, k.noex, k.exfs, funFrames_alike a k.funs, k.frf⟩
/-- what the consumer's turn leaves of the state -/
structure Woke (F : Addr) (s s' : Shared) : Prop where
  os : s'.os = s.os
  bare : AllBare s'.gens
  keep : ∀ b o, b ≠ F → s.heap.get? b = some o → s'.heap.get? b = some o
/-- what is true of the generator's frame stays true -/
theorem inv_woke {pins : List (Addr × Obj)} {σ : L2.St} {H : Hp} {s s' : Shared} (hfn : ∀ x, C.fn x = true) (I : L2.Inv (reb C s0) pins σ H s) (hF : F ∈ C.fs) (w : Woke F s s') (a : Alike F s0 s1) (same : s'.heap.get? F = s1.heap.get? F) :
    L2.Inv (reb C s1) pins σ H s' := by
  have k := I.ok
  obtain ⟨oB, oA, eA0, eA, dA, cA⟩ := a.at_
  have ltF : F < s0.heap.objs.size := Heap.lt_size eA0
  have young : ∀ b, s0.heap.objs.size ≤ b → b ≠ F := fun b h z => by
    rw [z] at h
    exact absurd (Nat.lt_of_lt_of_le ltF h) (Nat.lt_irrefl _)
  have neL : C.env.locals ≠ F := young _ k.above
  have nF0 : C.H_0 F = none := k.frf F hF
  have nxF : F ∉ C.ex := fun q => k.exfs F q hF
  have nF : H F = none := I.base.free F oB eA0 nF0 nxF
  have neC : ∀ x c, C.env.cells.lookup x = some c → c ≠ F := fun x c e => young _ (k.cab x c (hfn x) e)
  refine ⟨ok_alike k a hF, w.os.trans (I.os.trans a.os.symm), w.bare, ⟨fun b o e n hb hx => ?_, fun b o e n hb hx => ?_, fun b o e n hx => ?_, fun b o e hx => ?_, I.base.tups, I.base.frzs, I.base.tbls⟩, ?_, fun x c e => ?_, I.free, I.freeC, fun p hp => ?_, fun b u e => ?_, I.len⟩
  · have z : b ≠ F := fun z => hb (by rw [z]; exact hF)
    exact w.keep b o z (I.base.keep b o ((a.off b z).symm.trans e) n hb hx)
  · by_cases z : b = F
    · subst z
      exact ⟨o.slots, by rw [same]; exact e⟩
    · obtain ⟨sl, q⟩ := I.base.slot b o ((a.off b z).symm.trans e) n hb hx
      exact ⟨sl, w.keep b _ z q⟩
  · by_cases z : b = F
    · rw [z]
      exact nF
    · exact I.base.free b o ((a.off b z).symm.trans e) n hx
  · by_cases z : b = F
    · rw [z, same]
      exact ⟨_, eA⟩
    · obtain ⟨o', q⟩ := I.base.there b o ((a.off b z).symm.trans e) hx
      exact ⟨o', w.keep b _ z q⟩
  · obtain ⟨m, ⟨o, es, ep, e1, r⟩, hl⟩ := I.loc
    refine ⟨m, ⟨o, es, ep, w.keep _ _ neL e1, r⟩, fun i x v e1 e2 e3 => ?_⟩
    obtain ⟨u, ru, l⟩ := hl i x v e1 e2 e3
    refine ⟨u, ru, ?_⟩
    rcases l with l | ⟨q, c, e, o, ho, hd⟩
    · exact .inl l
    · exact .inr ⟨q, c, e, o, w.keep c o (neC x c e) ho, hd⟩
  · obtain ⟨v, o, ho, hd⟩ := I.cell x c e
    exact ⟨v, o, w.keep c o (neC x c e) ho, hd⟩
  · obtain ⟨h1, h2, h3, h4, h5⟩ := I.pin p hp
    exact ⟨w.keep _ _ (fun z => h4 (by rw [z]; exact hF)) h1, h2, h3, h4, h5⟩
  · refine (I.hok b u e).stay (fun c v hc q => w.keep c v ?_ q) (fun _ q => q) fun _ _ q => q
    rintro rfl
    rcases hc with z | z
    · rw [← z, nF] at e
      cases e
    · rw [nF] at z
      cases z
/-- the same state with this at F -/
def setF (s : Shared) (F : Addr) (o : Obj) : Shared := { s with heap := s.heap.update F fun _ => o }
theorem not_freed {h : Heap} {a : Addr} {o : Obj} (e : h.get? a = some o) : o.isFreed = false := (Heap.get?_some_iff.mp e).2
theorem setF_at {s : Shared} {F : Addr} {o o' : Obj} (e : s.heap.get? F = some o) (f : o'.isFreed = false) : (setF s F o').heap.get? F = some o' := Heap.get?_update_self _ e f
theorem setF_off {s : Shared} {F b : Addr} {o : Obj} (n : b ≠ F) : (setF s F o).heap.get? b = s.heap.get? b := Heap.get?_update_other _ _ (Ne.symm n)
theorem setF_size {s : Shared} {F : Addr} {o : Obj} : (setF s F o).heap.objs.size = s.heap.objs.size := Heap.size_update _ _ _
theorem setF_alike {s : Shared} {F : Addr} {o0 o1 o2 : Obj} (e : s.heap.get? F = some o0) (f1 : o1.isFreed = false) (f2 : o2.isFreed = false) (d : ∀ vs, o2.data ≠ .fields vs) (c : ∀ v, o2.data ≠ .cell v) : Alike F (setF s F o1) (setF s F o2) where
  sz := by rw [setF_size, setF_size]
  os := rfl
  off := fun b n => (setF_off n).trans (setF_off n).symm
  at_ := ⟨o1, o2, setF_at e f1, setF_at e f2, d, c⟩
end
end Hw

namespace Hw
open PySem PySem.Spec PyProof.Rows L2 GenW
/-- under the name nm the frame's object holds v -/
def LastIn (nm : Str) (o : Obj) (v : Value) : Prop := ∃ es ep, o.data = .dict es ep ∧ nsFind es nm = some v
/-- no field list, no cell: what a frame's object is -/
def FrO (o : Obj) : Prop := (∀ vs, o.data ≠ .fields vs) ∧ ∀ v, o.data ≠ .cell v
/-- the last one that was handed out stands under nm -/
def Tie (nm : Str) (ys : List V) (o : Obj) : Prop := ∀ x, ys.getLast? = some x → ∃ v, RelV x v ∧ LastIn nm o v
/-- the generator runs; sa: the state in which it was woken -/
def GI1 (C : Cx) (F : Addr) (nm : Str) (sa : Shared) (ip : List (Addr × Obj)) (ys : List V) (σ : L2.St) (H : Hp) (s : Shared) : Prop :=
  ∃ o, sa.heap.get? F = some o ∧ FrO o ∧ Tie nm ys o ∧ L2.Inv (reb C (setF C.s_0 F o)) ip σ H s
/-- an item is handed out; the consumer puts it under nm in its frame -/
def YG (C : Cx) (F : Addr) (nm : Str) : Protocol := fun n sa v s kap =>
  ∃ ys x ip σ H, n + 1 + ys.length = sizeLine ∧ RelV x v ∧ GI1 C F nm sa ip ys σ H s ∧ ∀ s', Woke F s s' → (∃ o', s'.heap.get? F = some o' ∧ FrO o' ∧ LastIn nm o' v) → kap (.send .none) s'
def GSP1 (C : Cx) (F : Addr) (nm : Str) (sa : Shared) (ip : List (Addr × Obj)) (D : GEnds) (ys : List V) (f : Flow) (s : Shared) : Prop :=
  match f with
  | .next => ∃ σ H, GI1 C F nm sa ip ys σ H s ∧ D.nx ys σ H
  | .brk => ∃ σ H, GI1 C F nm sa ip ys σ H s ∧ D.bk ys σ H
  | .cont => ∃ σ H, GI1 C F nm sa ip ys σ H s ∧ D.ct ys σ H
  | .ret u => ∃ v σ H, GI1 C F nm sa ip ys σ H s ∧ RelV v u ∧ D.rt ys v H
/-- the generator's own: its frame among the consumer's, the code's frames -/
structure GCx (C : Cx) (F : Addr) (A : Around) (c : Code) (fs : List Frame) (gd : Bool → Bool) : Prop where
  fn : ∀ x, C.fn x = true
  mem : F ∈ C.fs
  at0 : ∃ o, C.s_0.heap.get? F = some o
  over : A.over c fs = C.A
  split : splitAtGen fs = none
  guard : fs.any Frame.guarded = false
  gd : gd false = false
def GKx (C : Cx) (F : Addr) (nm : Str) (ip : List (Addr × Obj)) (A : Around) (R : GenEnd) (c : Code) (fs : List Frame) (K : Flow → Sem PySem.Fin) (D : GEnds) : Prop :=
  ∀ (n : Nat) (ys : List V) (sa s : Shared) (f : Flow), n + ys.length = sizeLine → GSP1 C F nm sa ip D ys f s → Seg (model C.prog C.w) A R (YG C F nm) n sa c (K f) fs s
structure GF (C : Cx) (st : Stmt) (t : TGn) : Prop where
  run : ∀ (F : Addr) (nm : Str) (A : Around) (ip : List (Addr × Obj)) (R : GenEnd) (n : Nat) (ys : List V) (sa : Shared) (c : Code) (fs : List Frame) (K : Flow → Sem PySem.Fin) (J : Value → Sem PySem.Fin) (gd : Bool → Bool) (lv : List Value → List Value) (s : Shared) (σ : L2.St) (H : Hp) (D : GEnds),
    GCx C F A c fs gd → n + ys.length = sizeLine → GKx C F nm ip A R c fs K D → GI1 C F nm sa ip ys σ H s → t D ys σ H → Seg (model C.prog C.w) A R (YG C F nm) n sa c ((exec st C.env).wrap K J gd lv) fs s
structure GFs (C : Cx) (st : List Stmt) (t : TGn) : Prop where
  run : ∀ (F : Addr) (nm : Str) (A : Around) (ip : List (Addr × Obj)) (R : GenEnd) (n : Nat) (ys : List V) (sa : Shared) (c : Code) (fs : List Frame) (K : Flow → Sem PySem.Fin) (J : Value → Sem PySem.Fin) (gd : Bool → Bool) (lv : List Value → List Value) (s : Shared) (σ : L2.St) (H : Hp) (D : GEnds),
    GCx C F A c fs gd → n + ys.length = sizeLine → GKx C F nm ip A R c fs K D → GI1 C F nm sa ip ys σ H s → t D ys σ H → Seg (model C.prog C.w) A R (YG C F nm) n sa c ((execs st C.env).wrap K J gd lv) fs s
section
variable {C : Cx} {st : Stmt} {rest : List Stmt}
theorem gsp1_of {F : Addr} {nm : Str} {sa : Shared} {o : Obj} {ip : List (Addr × Obj)} {D : GEnds} {ys : List V} {f : Flow} {s : Shared} (e : sa.heap.get? F = some o) (fo : FrO o) (ti : Tie nm ys o) (h : SP (reb C (setF C.s_0 F o)) ip (D.at ys) f s) : GSP1 C F nm sa ip D ys f s := by
  cases f with
  | next => exact let ⟨σ, H, I, q⟩ := h; ⟨σ, H, ⟨o, e, fo, ti, I⟩, q⟩
  | brk => exact let ⟨σ, H, I, q⟩ := h; ⟨σ, H, ⟨o, e, fo, ti, I⟩, q⟩
  | cont => exact let ⟨σ, H, I, q⟩ := h; ⟨σ, H, ⟨o, e, fo, ti, I⟩, q⟩
  | ret u => exact let ⟨v, σ, H, I, r, q⟩ := h; ⟨v, σ, H, ⟨o, e, fo, ti, I⟩, r, q⟩
/-- a statement that hands out nothing -/
theorem gf_ps {t : TS} (h : ∀ s0, PS (reb C s0) st t) : GF C st (tPlain t) := by
  refine ⟨fun F nm A ip R n ys sa c fs K J gd lv s σ H D g hn k hI ht => seg_wrap ?_⟩
  obtain ⟨o, e, fo, ti, I⟩ := hI
  rw [g.over]
  exact wpAny_mono ((h _).run ip s σ H (D.at ys) I ht) (fun f s' hs => k n ys sa s' f hn (gsp1_of e fo ti hs)) fun _ _ z => z.elim
theorem gfs_pss {t : TS} (h : ∀ s0, PSs (reb C s0) rest t) : GFs C rest (tPlain t) := by
  refine ⟨fun F nm A ip R n ys sa c fs K J gd lv s σ H D g hn k hI ht => seg_wrap ?_⟩
  obtain ⟨o, e, fo, ti, I⟩ := hI
  rw [g.over]
  exact wpAny_mono ((h _).run ip s σ H (D.at ys) I ht) (fun f s' hs => k n ys sa s' f hn (gsp1_of e fo ti hs)) fun _ _ z => z.elim
theorem gfs_nil : GFs C [] tG0 := ⟨fun F nm A ip R n ys sa c fs K J gd lv s σ H D g hn k hI ht => seg_execs_nil (k n ys sa s .next hn ⟨σ, H, hI, ht⟩)⟩
theorem gfs_cons {t u : TGn} (a : GF C st t) (b : GFs C rest u) : GFs C (st :: rest) (tGThen t u) := by
  refine ⟨fun F nm A ip R n ys sa c fs K J gd lv s σ H D g hn k hI ht => seg_execs_cons ?_⟩
  refine a.run F nm A ip R n ys sa c fs _ J gd lv s σ H { D with nx := fun ys' σ' H' => u D ys' σ' H' } g hn (fun n' ys' sa' s' f hn' hs => ?_) hI ht
  match f, hs with
  | .next, ⟨σ', H', I', q⟩ => exact b.run F nm A ip R n' ys' sa' c fs K J gd lv s' σ' H' D g hn' k I' q
  | .brk, hs => exact k n' ys' sa' s' .brk hn' hs
  | .cont, hs => exact k n' ys' sa' s' .cont hn' hs
  | .ret u, hs => exact k n' ys' sa' s' (.ret u) hn' hs
theorem gfs_one {t : TGn} (a : GF C st t) : GFs C [st] (tGThen t tG0) := gfs_cons a gfs_nil
/-- woken again -/
theorem gi1_woken {F : Addr} {nm : Str} {sa s s' : Shared} {ip : List (Addr × Obj)} {ys : List V} {x : V} {v : Value} {σ : L2.St} {H : Hp} (hfn : ∀ x, C.fn x = true) (hF : F ∈ C.fs) (h0 : ∃ o, C.s_0.heap.get? F = some o) (h : GI1 C F nm sa ip ys σ H s) (rv : RelV x v) (w : Woke F s s')
    (fr : ∃ o', s'.heap.get? F = some o' ∧ FrO o' ∧ LastIn nm o' v) : GI1 C F nm s' ip (ys ++ [x]) σ H s' := by
  obtain ⟨o, e, fo, ti, I⟩ := h
  obtain ⟨o', e', fo', la⟩ := fr
  obtain ⟨o0, e0⟩ := h0
  have f1 := not_freed e
  have f2 := not_freed e'
  refine ⟨o', e', fo', fun y hy => ?_, inv_woke hfn I hF w (setF_alike e0 f1 f2 fo'.1 fo'.2) (by rw [e', setF_at e0 f2])⟩
  rw [List.getLast?_append] at hy
  simp at hy
  subst hy
  exact ⟨v, rv, la⟩
theorem gf_yield {e : Expr} {te : TE} {yp pos : Pos} (he : ∀ s0, PE (reb C s0) e te) (hco : C.env.scope.isCoroutine = false := by rfl) (hi : interactive C.env = false := by rfl) : GF C (.Expr (.Yield (some e) yp) pos) (tGYield te) := by
  refine ⟨fun F nm A ip R n ys sa c fs K J gd lv s σ H D g hn k hI ht => ?_⟩
  obtain ⟨hlt, ht⟩ := ht
  obtain ⟨m, rfl⟩ : ∃ m, n = m + 1 := ⟨n - 1, by omega⟩
  obtain ⟨o, eo, fo, ti, I⟩ := hI
  refine seg_Expr_Yield g.split g.gd g.guard ?_ hco hi
  rw [g.over]
  refine wpAny_mono ((he _).run ip s σ H _ I ht) (fun v s1 hv => ?_) (fun _ _ z => z.elim)
  obtain ⟨x, H1, I1, rv, q⟩ := hv
  have G1 : GI1 C F nm sa ip ys σ H1 s1 := ⟨o, eo, fo, ti, I1⟩
  intro kap hk
  refine ⟨ys, x, ip, σ, H1, hn, rv, G1, fun s2 w fr => hk .none s2 (k m (ys ++ [x]) s2 s2 .next ?_ ⟨σ, H1, gi1_woken g.fn g.mem g.at0 G1 rv w fr, q⟩)⟩
  rw [List.length_append, List.length_singleton]
  omega
end
end Hw

namespace Hw
open PySem PySem.Spec PyProof.Rows L2 GenW
section
variable {C : Cx} {F : Addr}
theorem gcx_loop {A : Around} {c c' : Code} {fs : List Frame} {gd : Bool → Bool} {k : Result → Sem PySem.Fin} {l kp : List Value} {p : Pos} (g : GCx C F A c fs gd) (hw : c'.weight = 0) (hu : c'.cUnits = 0) : GCx C F A c' (.ret k none (gd false) l c p kp :: fs) id where
  fn := g.fn
  mem := g.mem
  at0 := g.at0
  over := (over_loop hw hu).trans g.over
  split := by
    have e := g.split
    show (splitAtGen fs).map _ = none
    rw [e] <;> rfl
  guard := by
    show (gd false || fs.any Frame.guarded) = false
    rw [g.gd, g.guard] <;> rfl
  gd := rfl
/-- nothing stands behind a loop -/
theorem seg_block_nil {prog : Program} {w : World} {A : Around} {R : GenEnd} {Y : Protocol} {n : Nat} {sa s : Shared} {fs : List Frame} {env : Env} (h : Seg (model prog w) A R Y n sa (.block [] env) (leafOf (.ok .next)) fs s) :
    Seg (model prog w) A R Y n sa (.block [] env) ((model prog w).den (.block [] env)) fs s := h
/-- a for over items, in a generator -/
def tGFor (wi : TI) (g : TG) (tb : TGn) : TGn := fun D ys σ H => wi σ H fun J H1 => ∃ W : Nat → Nat → List V → L2.St → Hp → Prop, (∃ m, W 0 m ys σ H1) ∧ ∀ i m ys σ H, W i m ys σ H →
  (J.stop i H ∧ D.nx ys σ H) ∨ (J.go i H ∧ ∃ N : List V → L2.St → Hp → Prop, (∀ ys' σ' H', N ys' σ' H' → ∃ m', m' < m ∧ W (i + 1) m' ys' σ' H') ∧ ∀ x H', J.yld i H x H' → g x σ H' fun σ2 H2 => tb { D with nx := N, ct := N, bk := D.nx } ys σ2 H2)
theorem fpOk_reb {s0 s1 : Shared} {pins : List (Addr × Obj)} {H : Hp} {b : Addr} (e : s1.heap.objs.size = s0.heap.objs.size) (h : FpOk (reb C s0) pins H b) : FpOk (reb C s1) pins H b := by
  obtain ⟨h1, h2, h3, h4, h5, h6⟩ := h
  exact ⟨h1, h2, h3, h4.imp (fun z => z) (fun z => by show s1.heap.objs.size ≤ b; rw [e]; exact z), h5, h6⟩
theorem gf_for {tg iter : Expr} {body : List Stmt} {wi : TI} {g : TG} {tb : TGn} {pos : Pos} (hc : C.calm = true) (hi : ∀ s0, PI (reb C s0) tg iter wi) (hg : ∀ s0, PG (reb C s0) tg g) (hb : GFs C body tb) (hs : ∀ x, foldedSetIterable iter C.env x = pure x := by intro _; rfl) :
    GF C (.For tg iter body [] pos) (tGFor wi g tb) := by
  refine ⟨fun F nm A ip R n ys sa c fs K J gd lv s σ H D gc hn k hI ht => ?_⟩
  obtain ⟨o, eo, fo, ti, I⟩ := hI
  rw [exec_For]
  refine seg_bind_wrap (wpAny_standAt (seg_bind_wrap ?_))
  rw [gc.over]
  refine wpAny_mono ((hi _).run ip s σ H _ I ht) (fun v s1 h1 => ?_) (fun _ _ z => z.elim)
  refine seg_bind_wrap (wpAny_of_eq (hs v) (seg_bind_wrap (wpAny_standAt (seg_bind_wrap (wpAny_holding ?_)))))
  rw [gc.over]
  refine wpAny_mono h1 (fun itv s2 h2 => ?_) (fun _ _ z => z.elim)
  obtain ⟨it, fp, tn, Jt, H2, e, I2, T, st2, f2, W, ⟨m0, w0⟩, turn⟩ := h2
  subst e
  refine seg_call fun p => ?_
  have gl := fun (kk : Result → Sem PySem.Fin) => gcx_loop (k := kk) (c' := .forLoop tg (.ref it) body [] C.env) (l := lv []) (kp := []) (p := p) gc rfl rfl
  have gl2 := fun (kk : Result → Sem PySem.Fin) => gcx_loop (k := kk) (c' := .block [] C.env) (l := lv []) (kp := []) (p := p) gc rfl rfl
  have stat : ∀ {o' : Obj} {H' : Hp}, (∀ b ∈ fp, H' b = none) → ∀ b ∈ fp, FpOk (reb C (setF C.s_0 F o')) ip H' b := fun {o' H'} hn b hb => fpOk_reb (s0 := setF C.s_0 F o) (by rw [setF_size, setF_size]) ⟨hn b hb, (f2 b hb).2⟩
  have loop : ∀ (m i n : Nat) (ys : List V) (sa s : Shared) (σ : L2.St) (H : Hp), n + ys.length = sizeLine → W i m ys σ H → GI1 C F nm sa ip ys σ H s → tn i s.heap → (∀ b ∈ fp, H b = none) →
      Seg (model C.prog C.w) A R (YG C F nm) n sa (.forLoop tg (.ref it) body [] C.env) ((model C.prog C.w).den (.forLoop tg (.ref it) body [] C.env))
        (.ret (fun r => ((match r with | .ok f => (.pure f : Sem Flow) | .error e => .raise e).onRaise (cameBack C.env)).wrap K J gd lv) none (gd false) (lv []) c p [] :: fs) s := by
    intro m
    induction m using Nat.strongRecOn with
    | ind m ih =>
      intro i n ys sa s σ H hn w hI st fr
      obtain ⟨o, eo, fo, ti, I⟩ := hI
      show Seg _ _ _ _ _ _ _ ((forTurn tg (.ref it) body [] C.env).onRaise (fun x => do noteFrame x C.env; theTreesLotGoes x)) _ _
      rw [Sem.onRaise_eq_wrap]
      unfold forTurn
      refine seg_bind_wrap (wpAny_standAt (seg_bind_wrap (wpAny_onRaise ?_)))
      rw [(gl _).over]
      rcases turn i m ys σ H w with ⟨stop, qn⟩ | ⟨go, N, hN, step⟩
      · refine wpAny_mono (T.done (reb C (setF C.s_0 F o)) rfl rfl rfl hc i ip s σ H (fun _ _ => False) I (stat fr) st stop) (fun r s4 h4 => ?_) (fun _ _ z => z.elim)
        obtain ⟨hr, I4⟩ := h4
        subst hr
        refine seg_again rfl (seg_block_nil (seg_leaf (.ok .next) ?_))
        exact k n ys sa s4 .next hn ⟨σ, H, ⟨o, eo, fo, ti, I4⟩, qn⟩
      · refine wpAny_mono (T.item (reb C (setF C.s_0 F o)) rfl rfl rfl hc i ip s σ H (fun _ _ => False) I (stat fr) st go) (fun r s4 h4 => ?_) (fun _ _ z => z.elim)
        obtain ⟨u, hr, h4⟩ := h4
        subst hr
        refine seg_bind_wrap ?_
        rw [(gl _).over]
        refine wpAny_mono h4 (fun _ s5 h5 => ?_) (fun _ _ z => z.elim)
        obtain ⟨x, H5, I5, r5, y5, st5, fr5⟩ := h5
        have I5' := I5.pinned (stat fr5) (T.obj _ _ st5)
        refine seg_bind_wrap ?_
        rw [(gl _).over]
        refine wpAny_mono ((hg _).run _ s5 σ H5 x u _ I5' r5 (step x H5 y5)) (fun _ s6 h6 => ?_) (fun _ _ z => z.elim)
        obtain ⟨σ6, H6, I6, q6⟩ := h6
        rw [Sem.bind_eq_wrap', Sem.wrap_wrap]
        have pinOf : ∀ {b : Addr} {ob : Obj}, b ∈ fp → s5.heap.get? b = some ob → (b, ob) ∈ ip ++ pinsAt fp s5.heap := fun hb e => List.mem_append_right _ (mem_pinsAt hb e)
        have again : ∀ {n' : Nat} {ys7 : List V} {sa7 s7 : Shared} {σ7 : L2.St} {H7 : Hp}, n' + ys7.length = sizeLine → GI1 C F nm sa7 (ip ++ pinsAt fp s5.heap) ys7 σ7 H7 s7 → N ys7 σ7 H7 →
            Seg (model C.prog C.w) A R (YG C F nm) n' sa7 (.forLoop tg (.ref it) body [] C.env) (.pure (.again (.forLoop tg (.ref it) body [] C.env)))
              (.ret (fun r => ((match r with | .ok f => (.pure f : Sem Flow) | .error e => .raise e).onRaise (cameBack C.env)).wrap K J gd lv) none (gd false) (lv []) c p [] :: fs) s7 := fun {n' ys7 sa7 s7 σ7 H7} hn7 G7 n7 => by
          obtain ⟨o7, eo7, fo7, ti7, I7⟩ := G7
          obtain ⟨m', hm, w7⟩ := hN ys7 σ7 H7 n7
          refine seg_again rfl (ih m' hm (i + 1) n' ys7 sa7 s7 σ7 H7 hn7 w7 ⟨o7, eo7, fo7, ti7, I7.unpinned⟩ (T.keep _ _ _ st5 fun b hb ob e => ?_) fun b hb => ?_)
          · exact (I7.pin (b, ob) (List.mem_append_right _ (pinOf hb e))).1
          · obtain ⟨ob, e, _⟩ := T.obj _ _ st5 b hb
            exact (I7.pin (b, ob) (List.mem_append_right _ (pinOf hb e))).2.1
        refine hb.run F nm A (ip ++ pinsAt fp s5.heap) R n ys sa _ _ _ _ _ _ s6 σ6 H6 { D with nx := N, ct := N, bk := D.nx } (gl _) hn (fun n' ys' sa' s3 f hn' hs => ?_) ⟨o, eo, fo, ti, I6⟩ q6
        have un : ∀ {ys7 : List V} {sa7 s7 : Shared} {σ7 : L2.St} {H7 : Hp}, GI1 C F nm sa7 (ip ++ pinsAt fp s5.heap) ys7 σ7 H7 s7 → GI1 C F nm sa7 ip ys7 σ7 H7 s7 := fun ⟨o7, a, b, c, I7⟩ => ⟨o7, a, b, c, I7.unpinned⟩
        match f, hs with
        | .next, ⟨σ3, H3, I3, n3⟩ => exact again hn' I3 n3
        | .cont, ⟨σ3, H3, I3, n3⟩ => exact again hn' I3 n3
        | .brk, ⟨σ3, H3, I3, q3⟩ => exact seg_leaf (.ok .next) (k n' ys' sa' s3 .next hn' ⟨σ3, H3, un I3, q3⟩)
        | .ret u', ⟨v3, σ3, H3, I3, r3, q3⟩ => exact seg_leaf (.ok (.ret u')) (k n' ys' sa' s3 (.ret u') hn' ⟨v3, σ3, H3, un I3, r3, q3⟩)
  exact loop m0 0 n ys sa s2 σ H2 hn w0 ⟨o, eo, fo, ti, I2⟩ st2 fun b hb => (f2 b hb).1
end
end Hw

namespace Hw
open PySem PySem.Spec PyProof.Rows L2 GenW
/-- the end of the generator's run -/
def RG (C : Cx) (F : Addr) (nm : Str) (Q : List V → Hp → Prop) : GenEnd := fun n sa r s =>
  ((r = .ok (.ret .none) ∨ r = .ok .next) ∧ ∃ ys ip σ H, GI1 C F nm sa ip ys σ H s ∧ Q ys H) ∨ ∃ e, r = .error e ∧ False
/-- a generator that has not begun; sB, HB: the state and the heap in which its frame was made -/
structure GMx (P : Program) (w : World) (k : Nat) (outer : List Env) (H : Hp) (s : Shared) (Q : List V → Hp → Prop) (a : Addr) (g : Nat) (c : Code) (sB : Shared) (HB : Hp) (s' : Shared) : Prop where
  lt : a < s'.heap.objs.size
  ge : sB.heap.objs.size ≤ a
  gen : s'.heap.IsGen a g
  at_ : s'.gens[g]? = some (.fresh c)
  os : s'.os = s.os
  bare : AllBare s'.gens
  lim : s'.heap.NoLimit
  bareB : AllBare sB.gens
  osB : sB.os = s.os
  un : Un (frs outer) [] H HB s.heap sB.heap
  hokB : HOk P w HB sB.heap
  keep : ∀ b o, sB.heap.get? b = some o → s'.heap.get? b = some o
  wake : ∀ (Aw : Around) (F : Addr) (nm : Str) (s2 : Shared) (o : Obj), Room k Aw → Aw.frames = some outer → F ∈ frs outer → s2.heap = s'.heap → s2.os = s'.os → AllBare s2.gens → s2.heap.get? F = some o → FrO o →
    ∃ C : Cx, C.prog = P ∧ C.w = w ∧ C.s_0 = sB ∧ C.H_0 = HB ∧ C.outer = outer ∧ C.ex = [] ∧ (∀ x, C.fn x = true) ∧ (∀ h : Heap, (∀ p ∈ C.pn, h.get? p.1 = some p.2) → h.IsGen a g) ∧
      Seg (model P w) Aw (RG C F nm Q) (YG C F nm) sizeLine s2 c ((model P w).den c) [] s2
abbrev SpGx := List V → Hp → (List V → Hp → Prop) → Prop
def GFX (P : Program) (w : World) (K : PySem.W.Frag) (mg : Str → Option Value) (base : Heap) (k : Nat) (f : Addr) (sp : SpGx) : Prop :=
  ∀ (A : Around) (outer : List Env) (s : Shared) (H : Hp) (us : List Value) (vs : List V) (Q : List V → Hp → Prop), Room k A → Env0 P w K mg base A outer s H → Vals vs us → sp vs H Q →
    codeAny (model P w) A (.call (.ref f) ⟨us, []⟩) (fun r s' => ∃ a g c sB HB, r = .ok (.ret (.ref a)) ∧ GMx P w k outer H s Q a g c sB HB s') s
theorem frs_kept {outer : List Env} {base h : Heap} (hl : h.FunFrames base outer) {F : Addr} (hF : F ∈ frs outer) : ∃ o, h.get? F = some o ∧ ∀ vs, o.data ≠ .fields vs := (hl.mem (show F ∈ outer.filterMap (·.frame) from hF)).2
/-- the same of a context that tells of more pins -/
theorem inv_pn {C : Cx} {σ : L2.St} {H : Hp} {s : Shared} {pn : List (Addr × Obj)} (hpn : C.pn = []) (I : L2.Inv C [] σ H s) (h : ∀ p ∈ pn, s.heap.get? p.1 = some p.2 ∧ H p.1 = none ∧ p.1 ≠ C.env.locals ∧ p.1 ∉ C.fs ∧ ∀ v, p.2.data ≠ .cell v) : L2.Inv { C with pn := pn } [] σ H s :=
  ⟨⟨I.ok.mod, I.ok.kind, I.ok.glob, I.ok.blt, I.ok.above, I.ok.inj, I.ok.has, I.ok.cab, I.ok.hd, I.ok.frames, I.ok.stk, I.ok.exf, I.ok.bs, I.ok.bsz, I.ok.noex, I.ok.exfs, I.ok.funs, I.ok.frf⟩, I.os, I.bare, I.base, I.loc, I.cell, I.free, I.freeC, fun p hp => h p (by simpa using hp), I.hok, I.len⟩
/-- .. that says otherwise what leaves it -/
theorem inv_xe {C : Cx} {σ : L2.St} {H : Hp} {s : Shared} {pins : List (Addr × Obj)} {xe : Value → Shared → Prop} (I : L2.Inv C pins σ H s) : L2.Inv { C with xe := xe } pins σ H s :=
  ⟨⟨I.ok.mod, I.ok.kind, I.ok.glob, I.ok.blt, I.ok.above, I.ok.inj, I.ok.has, I.ok.cab, I.ok.hd, I.ok.frames, I.ok.stk, I.ok.exf, I.ok.bs, I.ok.bsz, I.ok.noex, I.ok.exfs, I.ok.funs, I.ok.frf⟩, I.os, I.bare, I.base, I.loc, I.cell, I.free, I.freeC, I.pin, I.hok, I.len⟩
section
variable {P : Program} {w : World} {K : PySem.W.Frag} {mg : Str → Option Value} {base : Heap} {k : Nat} {f : Addr} {name qual : Str} {params : Arguments} {body : List Stmt} {scope : Scope} {dV kV doc pm cdv ct oc : Value} {an od : Option Addr}
  {osl : Array (Option Value)} {N ps : List Str} {sp : SpGx}
/-- the body's context -/
abbrev cxG (P : Program) (w : World) (K : PySem.W.Frag) (mg : Str → Option Value) (base : Heap) (N : List Str) (qual : Str) (scope : Scope) (f : Addr) (cdv : Value) (A : Around) (outer : List Env) (s : Shared) (H : Hp) (pn : List (Addr × Obj)) : Cx :=
  { cxOf CX0 P w K mg base N qual scope f cdv A outer s H E0 with pn := pn }
/-- a generator def with a star parameter, by its body -/
theorem gfx_star {pv : Str} (lk : K.lookup f = some ⟨oc, od, .func (PySem.W.fnOf name qual params body scope dV kV doc pm an cdv ct), osl⟩) (hcd : PySem.W.codeIn K cdv qual = true) (S : GScope N (ps ++ [pv]) scope)
    (hb : ∀ us rest : List Value, us.length = ps.length → bindArgs (PySem.W.fnOf name qual params body scope dV kV doc pm an cdv ct) ⟨us ++ rest, []⟩ = (newTuple rest >>= fun t => pure (ps.zip us ++ [(pv, t)])))
    (hbody : ∀ (A : Around) (outer : List Env) (s : Shared) (H : Hp) (vs : List V) (Q : List V → Hp → Prop) (pn : List (Addr × Obj)), Room k (A.deeper (envOfC qual scope s.heap.objs.size f cdv)) → sp vs H Q →
      ∃ t, GFs (cxG P w K mg base N qual scope f cdv A outer s H pn) body t ∧ t { nx := fun ys _ H' => Q ys H', rt := fun ys v H' => v = .non ∧ Q ys H' } [] (start N vs) H) :
    GFX P w K mg base (k + 1) f (fun vs H Q => ∃ ws rest, vs = ws ++ rest ∧ ws.length = ps.length ∧ rest.length ≤ sizeLine ∧ ∀ p, H p = none → sp (ws ++ [.ref p]) (upd H p (.tup rest)) Q) := by
  intro A outer s H us vs Q hr e0 r hsp
  obtain ⟨ws, rest, rfl, hl, hz, hq⟩ := hsp
  obtain ⟨u1, u2, rfl, r1, r2⟩ := StX.vals_split r
  have hl1 : u1.length = ps.length := by rw [← r1.length]; exact hl
  have hl2 : u2.length ≤ sizeLine := by rw [← r2.length]; exact hz
  have hn : H s.heap.objs.size = none := e0.hok.fresh (Nat.le_refl _)
  have KX : K.In s.heap := e0.mod.kin.keeps fun b o e => (e0.bs b o e).1
  refine codeAny_call_generator hr.depth (KX _ _ lk) rfl S.co S.gen rfl (PySem.W.codeRec_of KX hcd) ?_
  rw [hb u1 u2 hl1]
  refine wpAny_bind (wpAny_newTuple (wpAny_pure ?_) hl2)
  let oT : Obj := { cls := .type "tuple", data := .seq u2.toArray }
  have new : ObjOk P w (upd H s.heap.objs.size (.tup rest)) (s.heap.push oT) s.heap.objs.size (.tup rest) := ⟨hz, u2, r2, ⟨_, Heap.get?_push_size _ rfl, rfl, _, rfl⟩⟩
  have e1 : Env0 P w K mg base A outer { s with heap := s.heap.push oT } (upd H s.heap.objs.size (.tup rest)) := StX.env0_laid e0 new
  have un1 : Un (frs outer) [] H (upd H s.heap.objs.size (.tup rest)) s.heap (s.heap.push oT) := StX.un_laid hn
  have hqq := hq s.heap.objs.size hn
  have rel : Vals (ws ++ [V.ref s.heap.objs.size]) (u1 ++ [Value.ref s.heap.objs.size]) := r1.append (.cons rfl .nil)
  have lv : (ws ++ [V.ref s.heap.objs.size]).length = (ps ++ [pv]).length := by rw [List.length_append, List.length_append, hl] <;> rfl
  have zp : ps.zip u1 ++ [(pv, Value.ref s.heap.objs.size)] = (ps ++ [pv]).zip (u1 ++ [Value.ref s.heap.objs.size]) := by rw [List.zip_append hl1.symm] <;> rfl
  show wpAny _ _ (newFunctionEnv _ _ _ (ps.zip u1 ++ [(pv, Value.ref s.heap.objs.size)]) _ _ _ _ _) _ _ _
  rw [zp]
  generalize hHB : upd H s.heap.objs.size (.tup rest) = HB at *
  generalize hvs : ws ++ [V.ref s.heap.objs.size] = vs2 at *
  generalize hus : u1 ++ [Value.ref s.heap.objs.size] = us2 at *
  generalize hsB : ({ s with heap := s.heap.push oT } : Shared) = sB at *
  have sBh : sB.heap = s.heap.push oT := by rw [← hsB]
  have sBo : sB.os = s.os := by rw [← hsB]
  have lim : sB.heap.NoLimit := e0.mod.nolimit.keeps fun b o e => (e1.bs b o e).1
  have hkind : ∀ y ∈ (ps ++ [pv]).zip us2, scope.names.lookup y.1 = some .local ∨ (scope.names.lookup y.1 = some .cell ∧ ((cellsFrom (sB.heap.objs.size + 1) scope.names []).lookup y.1).isSome = true) := fun ⟨n, v⟩ hy => by
    rcases S.par n (List.of_mem_zip hy).1 with q | q
    · exact .inl q
    · exact .inr ⟨q, PySem.W.cellsFrom_some _ _ _ (.inl q)⟩
  refine wpAny_newFunctionEnv_cells S.kind hkind fun env he s1 x => ?_
  subst he
  have lim1 : s1.heap.NoLimit := lim.keeps x.toInCall.keep
  refine ⟨lim1, ?_⟩
  obtain ⟨h1, tk, es1, hk1⟩ := x.done
  have os1 : s1.os = sB.os := by rw [es1]
  have gen1 : s1.gens = sB.gens := by rw [es1]
  have kp1 : ∀ b o, sB.heap.get? b = some o → s1.heap.get? b = some o := x.toInCall.keep
  have sz1 : sB.heap.objs.size ≤ s1.heap.objs.size := Nat.le_of_lt x.toInCall.ns.lt
  have lt1 : sB.heap.objs.size < s1.heap.objs.size := x.toInCall.ns.lt
  have main : ∀ (go : Obj) (n1 n2 : Value) (tk2 : Nat), go.cls = .type "generator" → go.data = .fields #[.int s1.gens.size 0, n1, n2] → go.slots = #[] → (∀ h : Heap, (h.push go).get? h.objs.size = some go) →
      GMx P w (k + 1) outer H s Q s1.heap.objs.size s1.gens.size (.func body (envOfC qual scope sB.heap.objs.size f cdv)) sB HB { s1 with gens := s1.gens.push (.fresh (.func body (envOfC qual scope sB.heap.objs.size f cdv))), toks := tk2, heap := s1.heap.push go } := by
    intro go n1 n2 tk2 hgc hgd hgs hgp
    have hgen : ∀ h : Heap, h.get? s1.heap.objs.size = some go → h.IsGen s1.heap.objs.size s1.gens.size := fun h e => ⟨go, n1, n2, e, hgc, hgd, hgs⟩
    have hpushed : (s1.heap.push go).get? s1.heap.objs.size = some go := hgp _
    refine ⟨?_, sz1, hgen _ hpushed, Array.getElem?_push_size .., os1.trans sBo, ?_, lim1.keeps fun b o e => Heap.get?_push_of_some _ e, e1.bare, sBo, by rw [sBh]; exact un1, e1.hok, fun b o e => Heap.get?_push_of_some _ (kp1 b o e), ?_⟩
    · show _ < (s1.heap.push _).objs.size
      rw [Heap.size_push]
      exact Nat.lt_succ_self _
    · exact AllBare.push (by rw [gen1]; exact e1.bare) rfl
    intro Aw F nm s2 o hrw hfr hF hh2 ho2 hb2 hoF hfo
    have hfr0 : ∃ o, sB.heap.get? F = some o ∧ ∀ vs, o.data ≠ .fields vs := frs_kept e1.funs hF
    obtain ⟨oF, eF, dF⟩ := hfr0
    have e0w : Env0 P w K mg base Aw outer sB HB := ⟨hfr, e1.mod, e1.bs, e1.bsz, e1.funs, e1.frf, e1.hok, e1.bare⟩
    refine ⟨cxG P w K mg base N qual scope f cdv Aw outer sB HB [(s1.heap.objs.size, go)], rfl, rfl, rfl, rfl, rfl, rfl, fun _ => rfl, fun h hp => hgen h (hp (s1.heap.objs.size, go) (List.mem_singleton.mpr rfl)), ?_⟩
    obtain ⟨t, ht, hq2⟩ := hbody Aw outer sB HB vs2 Q [(s1.heap.objs.size, go)] (hrw.deeper _) hqq
    have I1 : L2.Inv (gcxOf P w K mg base N qual scope f cdv Aw outer sB HB E0 []) [] (start N vs2) HB s1 := inv_startG S hrw.hd e0w lv rel x
    have I2 : L2.Inv (gcxOf P w K mg base N qual scope f cdv Aw outer sB HB E0 []) [] (start N vs2) HB s2 :=
      I1.call' (ch := []) (by rw [ho2]) (by rw [hh2]; exact Un.kept fun b o e => Heap.get?_push_of_some _ e) (by rw [hh2]; exact I1.hok.kept fun b o e => Heap.get?_push_of_some _ e) hb2 fun b z => by simp at z
    have I3 : L2.Inv { gcxOf P w K mg base N qual scope f cdv Aw outer sB HB E0 [] with pn := [(s1.heap.objs.size, go)] } [] (start N vs2) HB s2 := inv_pn rfl I2 fun p hp => by
      rw [List.mem_singleton.mp hp]
      exact ⟨by rw [hh2]; exact hpushed, I1.hok.fresh (Nat.le_refl _), Nat.ne_of_gt lt1, I1.nofs (Nat.le_refl _), fun v z => by rw [hgd] at z; cases z⟩
    have I4 : L2.Inv (reb (cxG P w K mg base N qual scope f cdv Aw outer sB HB [(s1.heap.objs.size, go)]) sB) [] (start N vs2) HB s2 := by
      have z := inv_xe (xe := fun _ _ => False) I3
      exact z
    have atF : (setF sB F o).heap.get? F = some o := setF_at eF (not_freed hoF)
    have I5 : L2.Inv (reb (cxG P w K mg base N qual scope f cdv Aw outer sB HB [(s1.heap.objs.size, go)]) (setF sB F o)) [] (start N vs2) HB s2 :=
      inv_woke (fun _ => rfl) I4 hF ⟨rfl, hb2, fun b o _ e => e⟩ ⟨setF_size, rfl, fun b n => setF_off n, ⟨oF, o, eF, atF, hfo.1, hfo.2⟩⟩ (by rw [hoF, atF])
    refine seg_func ?_
    refine ht.run F nm Aw [] _ sizeLine [] s2 _ [] _ _ id id s2 (start N vs2) HB _ ⟨fun _ => rfl, hF, ⟨oF, eF⟩, over_func, rfl, rfl, rfl⟩ (Nat.add_zero _) (fun n ys sa s' fl hn hs => ?_) ⟨o, hoF, hfo, fun y hy => by simp at hy, I5⟩ hq2
    match fl, hs with
    | .next, ⟨σ', H', hI, hQ⟩ => exact seg_end (.ok (.ret .none)) (.inl ⟨.inl rfl, ys, [], σ', H', hI, hQ⟩)
    | .brk, ⟨_, _, _, q⟩ => exact q.elim
    | .cont, ⟨_, _, _, q⟩ => exact q.elim
    | .ret u, ⟨v, σ', H', hI, rv, ev, hQ⟩ =>
      subst ev
      obtain rfl : u = Value.none := rv
      exact seg_end (.ok (.ret .none)) (.inl ⟨.inl rfl, ys, [], σ', H', hI, hQ⟩)
  exact ⟨_, _, _, _, _, rfl, main _ _ _ _ rfl rfl rfl fun h => Heap.get?_push_size _ rfl⟩
end
end Hw

namespace Hw
open PySem PySem.Spec PyProof.Rows L2 GenW
/-- an expression whose value is a generator that has not begun -/
structure PGX (X : Cx) (k : Nat) (e : Expr) (tg : TGen) : Prop where
  run : ∀ (pins : List (Addr × Obj)) (s : Shared) (σ : L2.St) (H : Hp) (cont : List V → Hp → Prop), L2.Inv X pins σ H s → tg σ H cont → wpAny (model X.prog X.w) X.A (eval e X.env)
    (fun u s' => ∃ H1 sc a g c sB HB, u = .ref a ∧ L2.Inv X pins σ H1 sc ∧ GMx X.prog X.w k X.stack H1 sc cont a g c sB HB s') X.xe s
section
variable {X : Cx} {pins : List (Addr × Obj)} {σ : L2.St} {H : Hp} {s : Shared}
/-- the frame's own object replaced -/
theorem inv_setF {σ' : L2.St} {o : Obj} {es : Array DictEntry} {ep : Nat} {m : Str → Option Value} (I : L2.Inv X pins σ H s) (fo : o.isFreed = false) (hd : o.data = .dict es ep) (sk : StrKeys es) (hm : ∀ name, nsFind es name = m name)
    (loc : ∀ (i : Nat) (x : Str) (v : V), X.N[i]? = some x → σ'[i]? = some (some v) → Vis X.env.scope x → (∃ u, RelV v u ∧ X.env.kindOf x = some .local ∧ m x = some u) ∨ (σ[i]? = some (some v) ∧ X.env.kindOf x ≠ some .local)) (len : σ'.length = X.N.length) :
    L2.Inv X pins σ' H (setF s X.env.locals o) := by
  obtain ⟨m0, ⟨o0, _, _, e0, _⟩, hl⟩ := I.loc
  have nF := I.free
  have at_ : (setF s X.env.locals o).heap.get? X.env.locals = some o := setF_at e0 fo
  have off : ∀ b, b ≠ X.env.locals → (setF s X.env.locals o).heap.get? b = s.heap.get? b := fun b n => setF_off n
  have old : ∀ b o, X.s_0.heap.get? b = some o → b ≠ X.env.locals := fun b o e => Nat.ne_of_lt (Nat.lt_of_lt_of_le (Heap.lt_size e) I.ok.above)
  refine ⟨I.ok, I.os, I.bare, ⟨fun b o' e n hb hx => ?_, fun b o' e n hb hx => ?_, I.base.free, fun b o' e hx => ?_, I.base.tups, I.base.frzs, I.base.tbls⟩, ⟨m, ⟨o, es, ep, at_, hd, sk, hm⟩, fun i x v e1 e2 e3 => ?_⟩, fun x c e => ?_, I.free, I.freeC, fun p hp => ?_, fun b u e => ?_, len⟩
  · rw [off b (old b o' e)]
    exact I.base.keep b o' e n hb hx
  · rw [off b (old b o' e)]
    exact I.base.slot b o' e n hb hx
  · rw [off b (old b o' e)]
    exact I.base.there b o' e hx
  · rcases loc i x v e1 e2 e3 with ⟨u, ru, k, z⟩ | ⟨z, nk⟩
    · exact ⟨u, ru, .inl ⟨k, z⟩⟩
    · obtain ⟨u, ru, l⟩ := hl i x v e1 z e3
      refine ⟨u, ru, ?_⟩
      rcases l with ⟨k, _⟩ | ⟨k, c, e, oc, ho, hc⟩
      · exact absurd k nk
      · exact .inr ⟨k, c, e, oc, (off c (I.cne x c e)).trans ho, hc⟩
  · obtain ⟨v, oc, ho, hc⟩ := I.cell x c e
    exact ⟨v, oc, (off c (I.cne x c e)).trans ho, hc⟩
  · obtain ⟨h1, h2, h3, h4, h5⟩ := I.pin p hp
    exact ⟨(off p.1 h3).trans h1, h2, h3, h4, h5⟩
  · refine (I.hok b u e).stay (fun c v hc q => ?_) (fun _ q => q) fun _ _ q => q
    refine (off c ?_).trans q
    rintro rfl
    rcases hc with z | z
    · rw [← z, nF] at e
      cases e
    · rw [nF] at z
      cases z
end
/-- the last one that is handed out -/
def tLast (ir il : Nat) (tg : TGen) : TS := fun D σ H => tg σ H fun ys H1 => ys ≠ [] ∧ ∀ x v, ys.getLast? = some x → D.nx ((σ.set ir v).set il (some x)) H1
section
variable {X : Cx}
theorem dict_fro {o : Obj} {es : Array DictEntry} {ep : Nat} (hd : o.data = .dict es ep) : FrO o := ⟨fun vs z => (by rw [hd] at z; cases z), fun v z => (by rw [hd] at z; cases z)⟩
/-- for r in generator: l = r -/
theorem ps_last {k ir il : Nat} {r l : Str} {iter : Expr} {tg : TGen} {p1 p2 p3 p4 pos : Pos} (hc : X.calm = true) (hN : X.N.Nodup) (hs : X.stack = X.env :: X.outer) (hf : X.env.frame = some X.env.locals) (hir : X.N[ir]? = some r) (hil : X.N[il]? = some l)
    (kr : X.env.kindOf r = some .local) (kl : X.env.kindOf l = some .local) (hne : ir ≠ il) (hg : PGX X k iter tg) (hroom : Room (k + 1) X.A) (hdr : (r == ("__debug__" : Str)) = false := by decide) (hfs : ∀ x, foldedSetIterable iter X.env x = pure x := by intro _; rfl)
    (hsw : swapsWith (.Name r p3) (some (.Name l p2)) p4.line X.env = pure false := by rfl) :
    PS X (.For (.Name r p1) iter [.Assign [.Name l p2] (.Name r p3) p4] [] pos) (tLast ir il tg) := by
  refine ⟨fun pins s σ H D I h => ?_⟩
  refine wpAny_For (thn (hg.run pins s σ H _ I h) fun u s1 h1 => ?_) hfs
  obtain ⟨H1, sc, a, g, c, sB, HB, rfl, Ic, gm⟩ := h1
  refine wpAny_pyIter_gen gm.gen ?_
  have kind := Ic.ok.kind
  have hcls : (X.env.scope.kind == .class || (X.env.scope.kind == .module && X.env.locals != X.env.globals)) = false := by rw [kind] <;> rfl
  have IB : L2.Inv X pins σ HB sB := Ic.call' (ch := []) gm.osB gm.un gm.hokB gm.bareB fun b z => by simp at z
  obtain ⟨mB, ⟨oB, esB, epB, eB, dB, skB, fB⟩, lB⟩ := id IB.loc
  have hF : X.env.locals ∈ frs X.stack := by
    rw [hs]
    unfold frs
    rw [List.filterMap_cons_some hf]
    exact List.mem_cons_self
  have lenσ : σ.length = X.N.length := IB.len
  have irlt : ir < σ.length := by rw [lenσ]; exact (List.getElem?_eq_some_iff.mp hir).1
  have illt : il < σ.length := by rw [lenσ]; exact (List.getElem?_eq_some_iff.mp hil).1
  have nrl : r ≠ l := fun z => hne (nodup_ix hN hir (z ▸ hil))
  have hfr := IB.ok.frames
  have hh : X.A.handled = none := IB.ok.hd hc
  have at1 : s1.heap.get? X.env.locals = some oB := gm.keep _ _ eB
  have gl1 : g < s1.gens.size := (Array.getElem?_eq_some_iff.mp gm.at_).1
  obtain ⟨C, c1, c2, c3, c4, c5, c6, c7, c8, seg⟩ := gm.wake X.A.in1 X.env.locals l (s1.setGen g .running) oB hroom.in1 hfr hF rfl rfl (allBare_setGen gm.bare rfl) at1 (dict_fro dB)
  -- from the generator's own to ours
  have cross : ∀ {o : Obj} {σ1 σi : L2.St} {ip : List (Addr × Obj)} {Hn : Hp} {sn : Shared}, L2.Inv X pins σ1 HB (setF sB X.env.locals o) → L2.Inv (reb C (setF C.s_0 X.env.locals o)) ip σi Hn sn → L2.Inv X pins σ1 Hn sn := fun {o σ1 σi ip Hn sn} Io Ii => by
    have b := Ii.base
    have hk := Ii.hok
    have os := Ii.os
    have e : Un (frs C.outer) C.ex C.H_0 Hn (setF C.s_0 X.env.locals o).heap sn.heap := b
    rw [c3, c4, c5, c6] at e
    have hk' : HOk C.prog C.w Hn sn.heap := hk
    rw [c1, c2] at hk'
    have os' : sn.os = (setF C.s_0 X.env.locals o).os := os
    rw [c3] at os'
    exact Io.call' (ch := []) os' e hk' Ii.bare fun b z => by simp at z
  have swap : ∀ {o : Obj} {es : Array DictEntry} {ep : Nat} {m : Str → Option Value} {v w : Option V}, o.isFreed = false → o.data = .dict es ep → StrKeys es → (∀ name, nsFind es name = m name) →
      (∀ y, y ≠ r → y ≠ l → m y = mB y) → (∀ x, v = some x → ∃ u, RelV x u ∧ m r = some u) → (∀ x, w = some x → ∃ u, RelV x u ∧ m l = some u) → L2.Inv X pins ((σ.set ir v).set il w) HB (setF sB X.env.locals o) := fun {o es ep m v w} fo hd sk hm hoth hv hw => by
    refine inv_setF IB fo hd sk hm (fun i x y e1 e2 e3 => ?_) (by rw [List.length_set, List.length_set]; exact lenσ)
    by_cases zi : i = il
    · subst zi
      rw [List.getElem?_set_self (by rw [List.length_set]; exact illt)] at e2
      rw [hil] at e1
      cases e1
      obtain ⟨u, ru, e⟩ := hw y (Option.some.inj e2)
      exact .inl ⟨u, ru, kl, e⟩
    · rw [List.getElem?_set_ne (Ne.symm zi)] at e2
      by_cases zr : i = ir
      · subst zr
        rw [List.getElem?_set_self irlt] at e2
        rw [hir] at e1
        cases e1
        obtain ⟨u, ru, e⟩ := hv y (Option.some.inj e2)
        exact .inl ⟨u, ru, kr, e⟩
      · rw [List.getElem?_set_ne (Ne.symm zr)] at e2
        obtain ⟨u, ru, lk⟩ := lB i x y e1 e2 e3
        rcases lk with ⟨kk, e⟩ | ⟨kk, _⟩
        · refine .inl ⟨u, ru, kk, ?_⟩
          rw [hoth x (fun z => zr (nodup_ix hN e1 (z ▸ hir))) (fun z => zi (nodup_ix hN e1 (z ▸ hil)))]
          exact e
        · refine .inr ⟨e2, fun z => ?_⟩
          rw [z] at kk
          rcases kk with kk | kk <;> cases kk
  have keepRL : ∀ {v : V} {x : Str} {i : Nat}, X.N[i]? = some x → σ[i]? = some (some v) → X.env.kindOf x = some .local → ∃ u, RelV v u ∧ mB x = some u := fun {v x i} e1 e2 kx => by
    obtain ⟨u, ru, lk⟩ := lB i x v e1 e2 (.inl kx)
    rcases lk with ⟨_, e⟩ | ⟨kk, _⟩
    · exact ⟨u, ru, e⟩
    · rw [kx] at kk
      rcases kk with kk | kk <;> cases kk
  refine codeAny_forLoop_any (fun n s2 => ∃ (gs : GenState) (o : Obj) (es : Array DictEntry) (ep : Nat) (m : Str → Option Value) (v w : Option V), s2.gens[g]? = some gs ∧ gs.Goes (model X.prog X.w) X.A.in1 (RG C X.env.locals l (fun ys H1 => ys ≠ [] ∧ ∀ x v, ys.getLast? = some x → D.nx ((σ.set ir v).set il (some x)) H1)) (YG C X.env.locals l) n (.send .none) (s2.setGen g .running) ∧
      s2.heap.get? X.env.locals = some o ∧ o.data = .dict es ep ∧ StrKeys es ∧ (∀ name, nsFind es name = m name) ∧ (∀ y, y ≠ r → y ≠ l → m y = mB y) ∧ L2.Inv X pins ((σ.set ir v).set il w) HB (setF sB X.env.locals o) ∧ s2.heap.NoLimit ∧ s2.heap.IsGen a g) ?_ sizeLine ?_
  · rintro n s2 ⟨gs, o, es, ep, m, v0, w0, hgs, hgo, eo, hd, sk, hm, hoth, Io, lim, isg⟩
    have hgl : g < s2.gens.size := (Array.getElem?_eq_some_iff.mp hgs).1
    refine wpAny_mono (wpAny_gsz (E := fun _ _ => False) (n := g + 1) hgl (next_genG (A := X.A) (Er := fun _ _ => False) (F := fun _ sa s1 => ∃ ys ip σi Hn, GI1 C X.env.locals l sa ip ys σi Hn s1 ∧ (ys ≠ [] ∧ ∀ x v, ys.getLast? = some x → D.nx ((σ.set ir v).set il (some x)) Hn))
      hh lim hroom.depth isg hgs hgo (fun v s3 gs' hbare hv hsz => ?_) (fun s3 hp h' hk hsz => ?_) fun e s3 z => False.elim (show False from z))) (fun _ _ z => z) (fun _ _ z => False.elim z)
    · -- an item
      obtain ⟨ys, x, ip, σi, Hn, hn, rv, ⟨o', eo', fo', ti', Ii⟩, hkap⟩ := hv
      have eoo : o' = o := by
        have z : s2.heap.get? X.env.locals = some o' := eo'
        rw [eo] at z
        exact (Option.some.inj z).symm
      subst eoo
      have J := cross Io Ii
      have isg3 : s3.heap.IsGen a g := c8 s3.heap fun p hp => (Ii.pin p (List.mem_append_left _ hp)).1
      have hsz3 : g < s3.gens.size := by
        have q : (s3.setGen g gs').gens.size = s3.gens.size := setGen_size _ _ _
        rw [q] at hsz
        exact hsz
      have J0 : L2.Inv X pins ((σ.set ir v0).set il w0) Hn (s3.setGen g gs') := J.call' (ch := []) rfl (Un.kept fun b o e => e) J.hok (allBare_setGen J.bare hbare) fun b z => by simp at z
      obtain ⟨m1, ns1, _⟩ := J0.loc
      unfold letOwnedTupleGo
      refine wpAny_pure (wpAny_assign_Name (wpAny_storeName_local kr ns1 (fun h4 ns4 sb4 => ?_) hcls))
      refine wpAny_execs_cons (wpAny_Assign_Name (wpAny_Name (wpAny_loadName_local kind kr ns4 (show (if r = r then some v else m1 r) = some v from if_pos rfl) (wpAny_storeName_local kl ns4 (fun h5 ns5 sb5 => wpAny_execs_nil ?_) hcls)) hdr) hsw)
      -- the state behind the turn
      have off5 : ∀ b, b ≠ X.env.locals → h5.get? b = s3.heap.get? b := fun b nb => (sb5.2 b nb).trans (sb4.2 b nb)
      obtain ⟨o5, es5, ep5, e5, d5, sk5, f5⟩ := ns5
      have m5r : nsFind es5 r = some v := by
        rw [f5]
        show (if r = l then some v else if r = r then some v else m1 r) = some v
        rw [if_neg nrl, if_pos rfl]
      have m5l : nsFind es5 l = some v := by
        rw [f5]
        show (if l = l then some v else _) = some v
        exact if_pos rfl
      have m1o : ∀ y, y ≠ r → y ≠ l → m1 y = mB y := fun y n1 n2 => by
        -- the frame's object of the generator's turn is ours up to its slots
        obtain ⟨o1, es1, ep1, e1, d1, _, f1⟩ := id ns1
        have Iio := Ii.base
        have e : Un (frs C.outer) C.ex C.H_0 Hn (setF C.s_0 X.env.locals o').heap s3.heap := Iio
        rw [c3, c4, c5, c6] at e
        obtain ⟨sl, q⟩ := e.slot X.env.locals o' (setF_at eB (not_freed eo)) IB.free hF (by simp)
        have q' : s3.heap.get? X.env.locals = some o1 := e1
        rw [q'] at q
        have q2 : o1 = { o' with slots := sl } := Option.some.inj q
        have dd : o1.data = o'.data := by rw [q2]
        rw [d1, hd] at dd
        cases dd
        rw [← f1 y, hm y, hoth y n1 n2]
      refine ⟨n - 1, ?_, gs', o5, es5, ep5, fun y => nsFind es5 y, some x, some x, setGen_at hsz3, ?_, e5, d5, sk5, fun _ => rfl, fun y n1 n2 => ?_, ?_, ?_, ?_⟩
      · -- there is a turn left
        cases n with
        | zero =>
          exfalso
          have hF' : False := by
            have w5 := hkap ⟨h5, s3.gens, s3.drawn, s3.toks, s3.os⟩ ⟨rfl, J.bare, fun b o nb e => (off5 b nb).trans e⟩ ⟨o5, e5, dict_fro d5, es5, ep5, d5, m5l⟩
            exact w5
          exact hF'
        | succ n => omega
      · cases n with
        | zero =>
          exfalso
          have w5 := hkap ⟨h5, s3.gens, s3.drawn, s3.toks, s3.os⟩ ⟨rfl, J.bare, fun b o nb e => (off5 b nb).trans e⟩ ⟨o5, e5, dict_fro d5, es5, ep5, d5, m5l⟩
          exact w5
        | succ n =>
          exact hkap _ ⟨rfl, allBare_setGen (s := { s3.setGen g gs' with heap := h5 }) J0.bare rfl, fun b o nb e => (off5 b nb).trans e⟩ ⟨o5, e5, dict_fro d5, es5, ep5, d5, m5l⟩
      · show nsFind es5 y = mB y
        rw [f5]
        show (if y = l then some v else if y = r then some v else m1 y) = mB y
        rw [if_neg n2, if_neg n1, m1o y n1 n2]
      · refine swap (not_freed e5) d5 sk5 (fun _ => rfl) (fun y n1 n2 => ?_) (fun x' ex => ⟨v, by cases ex; exact rv, m5r⟩) (fun x' ex => ⟨v, by cases ex; exact rv, m5l⟩)
        show nsFind es5 y = mB y
        rw [f5]
        show (if y = l then some v else if y = r then some v else m1 y) = mB y
        rw [if_neg n2, if_neg n1, m1o y n1 n2]
      · obtain ⟨mc, hns, hnn⟩ := J.nolimit
        have ncs : cStatics ≠ X.env.locals := fun z => by
          have l1 : cStatics < X.base.objs.size := by
            obtain ⟨mc', hns', _⟩ := J.ok.mod.nolimit
            exact hns'.lt
          have l2 := Nat.lt_of_lt_of_le l1 (Nat.le_trans J.ok.bsz J.ok.above)
          rw [z] at l2
          exact Nat.lt_irrefl _ l2
        obtain ⟨oc, e1, e2, e3, r4⟩ := hns
        exact ⟨mc, ⟨oc, e1, e2, (off5 _ ncs).trans e3, r4⟩, hnn⟩
      · obtain ⟨og, n1, n2, hog, rest⟩ := isg3
        have nag : a ≠ X.env.locals := fun z => by
          have h1 := Heap.lt_size eB
          have h2 := gm.ge
          rw [z] at h2
          exact absurd (Nat.lt_of_lt_of_le h1 h2) (Nat.lt_irrefl _)
        exact ⟨og, n1, n2, (off5 a nag).trans hog, rest⟩
    · -- the end
      obtain ⟨ys, ip, σi, Hn, ⟨o', eo', fo', ti', Ii⟩, hne0, hfin⟩ := hp
      have eoo : o' = o := by
        have z : s2.heap.get? X.env.locals = some o' := eo'
        rw [eo] at z
        exact (Option.some.inj z).symm
      subst eoo
      obtain ⟨x, hx⟩ : ∃ x, ys.getLast? = some x := by
        cases q : ys.getLast? with
        | some x => exact ⟨x, rfl⟩
        | none => exact absurd (List.getLast?_eq_none_iff.mp q) hne0
      obtain ⟨v, rv, es', ep', d', fl⟩ := ti' x hx
      rw [hd] at d'
      cases d'
      have Io2 : L2.Inv X pins ((σ.set ir none).set il (some x)) HB (setF sB X.env.locals o') := swap (not_freed eo) hd sk hm hoth (fun _ z => by cases z) (fun x' ex => ⟨v, by cases ex; exact rv, by rw [← hm l]; exact fl⟩)
      have J := cross Io2 Ii
      refine wpAny_execs_nil ⟨_, Hn, J.call' (s' := { s3.setGen g .finished with heap := h' }) (ch := []) rfl (Un.kept hk) (J.hok.kept hk) (allBare_setGen J.bare rfl) (fun b z => by simp at z), hfin x none hx⟩
  · refine ⟨.fresh c, oB, esB, epB, mB, σ.getD ir none, σ.getD il none, gm.at_, ⟨rfl, by rw [c1, c2] at *; exact seg⟩, at1, dB, skB, fB, fun _ _ _ => rfl, ?_, gm.lim, gm.gen⟩
    have zz : ((σ.set ir (σ.getD ir none)).set il (σ.getD il none)) = σ := by
      apply List.ext_getElem?
      intro i
      by_cases zi : i = il
      · subst zi
        rw [List.getElem?_set_self (by rw [List.length_set]; exact illt), List.getD_eq_getElem?_getD, List.getElem?_eq_getElem illt]
        rfl
      · rw [List.getElem?_set_ne (Ne.symm zi)]
        by_cases zr : i = ir
        · subst zr
          rw [List.getElem?_set_self irlt, List.getD_eq_getElem?_getD, List.getElem?_eq_getElem irlt]
          rfl
        · rw [List.getElem?_set_ne (Ne.symm zr)]
    rw [zz]
    refine inv_setF IB (not_freed eB) dB skB fB (fun i x y e1 e2 e3 => ?_) lenσ
    obtain ⟨u, ru, lk⟩ := lB i x y e1 e2 e3
    rcases lk with ⟨kk, e⟩ | ⟨kk, _⟩
    · exact .inl ⟨u, ru, kk, e⟩
    · refine .inr ⟨e2, fun z => ?_⟩
      rw [z] at kk
      rcases kk with kk | kk <;> cases kk
end
end Hw

namespace Hw
open PySem PySem.Spec PyProof.Rows L2
section
variable {P : Program} {w : World} {K : PySem.W.Frag} {mg : Str → Option Value} {base : Heap}
theorem mixed_ok (x : Int) : 0 ≤ x % 2147483629 / 7 ∧ x % 2147483629 / 7 < 2 ^ 31 := by omega
def spMixed : Sp := fun vs H Q _ => ∃ (c n : Int), vs = [.int c, .int n] ∧ 0 ≤ c ∧ c < 2 ^ 40 ∧ 0 ≤ n ∧ n < 2 ^ 20 ∧ ∀ v : Int, 0 ≤ v → v < 2 ^ 31 → Q (.int v) H
theorem scMixed : FnScope ["_law_cell", "_law_n", "_law_turned"] ["_law_cell", "_law_n"] (defScope sMixed) := ⟨rfl, rfl, rfl, by decide +kernel, rfl, by decide +kernel, by decide +kernel⟩
theorem cal_mixed (D : Df K mg "_law_mixed" sMixed ["_law_cell", "_law_n"]) : Cal P w K mg base "_law_mixed" 1 spMixed := by
  have nd := scMixed.nd
  refine cal_of D scMixed (fun vs H Q E h => ?_) (fun f cdv A outer s H vs Q E hr h => ?_)
  · obtain ⟨c, n, rfl, _⟩ := h
    rfl
  · obtain ⟨c, n, rfl, c0, c1, n0, n1, q⟩ := h
    refine ⟨_, pss_cons (ps_set (i := 2) nd rfl (.inl rfl) (pe_op op_add (pe_op op_add (pe_op op_mod (pe_op op_mul (pe_op op_mul (pv 0) (pe_op op_add pe_int (pe_op op_mul pe_int (pv 1)))) pe_int) pe_int) (pe_op op_mul (pe_op op_mul pe_int (pv 1)) (pv 1))) (pe_op op_mul pe_int (pv 1))))
      <| pss_one (ps_ret (pe_op op_fdiv (pe_op op_mod (pe_op op_mul (pv 2) pe_int) pe_int) pe_int)), ?_⟩
    refine ⟨_, rfl, _, rfl, _, _, rfl, rfl, .inl ⟨by decide, by decide⟩, _, _, rfl, rfl, _, _, rfl, rfl, .inl ⟨by omega, by omega⟩, _, _, rfl, rfl, .inr ⟨by decide, by decide⟩, _, _, rfl, rfl, (by show (0 : Int) < _; decide), ?_⟩
    refine ⟨_, rfl, _, _, rfl, rfl, .inl ⟨by decide, by decide⟩, _, rfl, _, _, rfl, rfl, .inr ⟨by omega, by omega⟩, _, _, rfl, rfl, _, rfl, _, _, rfl, rfl, .inl ⟨by decide, by decide⟩, _, _, rfl, rfl, ?_⟩
    refine ⟨_, rfl, _, _, rfl, rfl, .inr ⟨by decide, by decide⟩, _, _, rfl, rfl, (by show (0 : Int) < _; decide), _, _, rfl, rfl, ⟨by decide, by decide⟩, ?_⟩
    exact q _ (mixed_ok _).1 (mixed_ok _).2
/-! ### the cells -/
def Cells (cs : List Int) : Prop := cs.length = 64 ∧ ∀ c ∈ cs, 0 ≤ c ∧ c < 2 ^ 31
theorem cells_set {cs : List Int} (h : Cells cs) (i : Nat) (x : Int) : Cells (cs.set i (x % 2147483647)) := by
  refine ⟨by rw [List.length_set]; exact h.1, fun c hc => ?_⟩
  rcases List.mem_or_eq_of_mem_set hc with z | z
  · exact h.2 c z
  · rw [z]; omega
theorem cells_get {cs : List Int} (h : Cells cs) {i : Nat} (hi : i < 64) : ∃ c, cs[i]? = some c ∧ 0 ≤ c ∧ c < 2 ^ 31 := by
  have hl : i < cs.length := by rw [h.1]; exact hi
  exact ⟨cs[i], List.getElem?_eq_getElem hl, h.2 _ (List.getElem_mem hl)⟩
def spFolded (K : PySem.W.Frag) : Sp := fun vs H Q _ => ∃ (a : Addr) (ns : List Int), vs = [.ref a] ∧ SqL K H a (ns.map V.int) ∧ ns.length ≤ 63 ∧ ∀ H' r cs, Same H H' → H r = none → H' r = some (.lst (cs.map V.int)) → Cells cs → Q (.ref r) H'
theorem scFolded : FnScope ["_law_script", "_law_n", "_law_found", "_law_cell"] ["_law_script"] (defScope sFolded) := ⟨rfl, rfl, rfl, by decide +kernel, rfl, by decide +kernel, by decide +kernel⟩
theorem cal_folded (T : Txt mg) (D : Df K mg "_law_folded" sFolded ["_law_script"]) : Cal P w K mg base "_law_folded" 1 (spFolded K) := by
  have nd := scFolded.nd
  refine cal_of D scFolded (fun vs H Q E h => ?_) (fun f cdv A outer s H vs Q E hr h => ?_)
  · obtain ⟨a, ns, rfl, _⟩ := h
    rfl
  · obtain ⟨a, ns, rfl, ha, hl, q⟩ := h
    refine ⟨_, pss_cons (ps_setLc (i := 2) (own := [("_law_n", 1)]) (g := gName 1) (by rfl) nd rfl rfl (sw_true rfl rfl rfl (by decide +kernel)) (pi_range1 (by rfl) T.range (pa_cons pe_int pa_nil))
        (blkOk_by (own := [("_law_n", 1)]) (N := ["_law_script", "_law_n", "_law_found", "_law_cell"]) (sc := defScope sFolded) (by decide +kernel)) (fun _ _ _ _ _ => pg_name (i := 1) nd rfl (.inl rfl)) (fun _ _ _ _ _ => pts_nil)
        (fun _ _ _ _ _ => pe_op op_add pe_int (pv 1)))
      <| pss_cons (ps_for PassesOwn.never rfl (pi_enum (by rfl) T.enumerate (pa_cons (pv 0) pa_nil)) (pg_tup rfl (pgs_cons (pg_name (i := 1) nd rfl (.inl rfl)) (pgs_cons (pg_name (i := 3) nd rfl (.inl rfl)) pgs_nil)))
          (pss_one (ps_asg (pe_op op_mod (pe_op op_add (pe_op op_mul (pe_ix ix_list (pv 2) (pe_op op_mod (pv 1) pe_int) (fun _ _ => rfl)) pe_int) (pv 3)) pe_int) (pg_sub (pv 2) (pe_op op_mod (pv 1) pe_int) set_list))))
      <| pss_cons (ps_for PassesOwn.never rfl (pi_range2 (by rfl) T.range (pa_cons pe_int (pa_cons pe_int pa_nil))) (pg_name (i := 1) nd rfl (.inl rfl))
          (pss_one (ps_asg (pe_op op_mod (pe_op op_add (pe_ix ix_list (pv 2) (pv 1) (fun _ _ => rfl)) (pe_op op_mul (pe_ix ix_list (pv 2) (pe_op op_sub (pv 1) pe_int) (fun _ _ => rfl)) pe_int)) pe_int) (pg_sub (pv 2) (pv 1) set_list))))
      <| pss_one (ps_ret (pv 2)), ?_⟩
    refine ⟨_, rfl, by decide, by decide, fun D nD => lc_it (walk_rg0 (n := 64)) (fun i H' => Same H H' ∧ H' D = some (.lst (((List.range i).map fun j : Nat => (17 + (j : Int))).map V.int))) ⟨same_upd nD, upd_same⟩ (fun _ _ _ _ => trivial) ?_ ?_⟩
    · rintro i x _ H2 hi ⟨sm, hD⟩ ⟨rfl, rfl⟩
      refine ⟨rfl, _, rfl, _, _, rfl, rfl, _, hD, ?_, ?_, ?_⟩
      · rw [List.length_map, List.length_map, List.length_range]
        exact small1000 (by omega)
      · exact fun b o e => by rw [upd_ne (ne_of_none e nD)]; exact sm _ _ e
      · rw [upd_same, List.range_succ, List.map_append, List.map_append]
        rfl
    · rintro H2 ⟨sm2, hD⟩
      have c0 : Cells ((List.range 64).map fun j : Nat => (17 + (j : Int))) := by
        refine ⟨by rw [List.length_map, List.length_range], fun c hc => ?_⟩
        obtain ⟨j, hj, rfl⟩ := List.mem_map.mp hc
        rw [List.mem_range] at hj
        omega
      refine ⟨_, rfl, a, _, rfl, sm2.seq ha, for_it (walk_enum (xs := ns.map V.int)) (fun i σ H' => ∃ v1 v3 cs, σ = [some (.ref a), v1, some (.ref D), v3] ∧ Same H H' ∧ H' D = some (.lst (cs.map V.int)) ∧ Cells cs) ⟨_, _, _, rfl, sm2, hD, c0⟩ (fun i σ H' _ ⟨_, _, _, _, sm, _⟩ => sm.seq ha) ?_ ?_⟩
      · rintro i x σ H3 H4 hi ⟨v1, v3, cs, rfl, sm, hL, hc⟩ ⟨T1, i', y, rfl, nT, rfl, ei, ey⟩
        obtain rfl : V.int (i : Int) = i' := Option.some.inj ei
        have ey : (ns.map V.int)[i]? = some y := ey
        rw [List.getElem?_map] at ey
        obtain ⟨c, hc1, rfl⟩ : ∃ c, ns[i]? = some c ∧ y = V.int c := by
          cases e : ns[i]? with
          | none => rw [e] at ey; cases ey
          | some c => rw [e] at ey; exact ⟨c, rfl, (Option.some.inj ey).symm⟩
        rw [List.length_map] at hi
        have i64 : i < 64 := by omega
        obtain ⟨z, hz, z0, z1⟩ := cells_get hc i64
        have hL' : upd H3 T1 (.tup [V.int (i : Int), V.int c]) D = some (.lst (cs.map V.int)) := by
          rw [upd_ne (ne_of_none hL nT)]
          exact hL
        have smT := sm.trans (same_upd (o := .tup [V.int (i : Int), V.int c]) nT)
        refine ⟨T1, _, rfl, .inl (.inl upd_same), rfl, _, _, rfl, _, _, rfl, rfl, ?_⟩
        refine ⟨_, rfl, _, rfl, _, _, rfl, rfl, (by show (0 : Int) < 64; decide), D, _, _, _, rfl, rfl, sl_of hL', at_int hz (by omega), ?_⟩
        refine ⟨_, _, rfl, rfl, .inl ⟨by omega, by omega⟩, _, rfl, _, _, rfl, rfl, _, _, rfl, rfl, (by show (0 : Int) < 2147483647; decide), ?_⟩
        refine ⟨_, rfl, _, rfl, _, _, rfl, rfl, (by show (0 : Int) < 64; decide), D, _, _, i, rfl, rfl, hL', ix_at (by rw [List.length_map, hc.1]; exact i64) (by omega), ?_⟩
        refine ⟨_, _, cs.set i ((z * 48271 + c) % 2147483647), rfl, same_in smT nD, ?_, cells_set hc i _⟩
        rw [upd_same, set_int]
      · rintro σ H3 ⟨v1, v3, cs, rfl, sm, hL, hc⟩
        refine ⟨_, _, rfl, by decide, ?_⟩
        refine for_it (walk_range (lo := 1) (n := 63)) (fun i σ H' => ∃ v1 cs, σ = [some (.ref a), v1, some (.ref D), v3] ∧ Same H H' ∧ H' D = some (.lst (cs.map V.int)) ∧ Cells cs) ⟨_, _, rfl, sm, hL, hc⟩ (fun _ _ _ _ _ => trivial) ?_ ?_
        · rintro i x σ _ H4 hi ⟨v1, cs, rfl, sm, hL, hc⟩ ⟨rfl, rfl⟩
          obtain ⟨z, hz, z0, z1⟩ := cells_get hc (i := i + 1) (by omega)
          obtain ⟨y, hy, y0, y1⟩ := cells_get hc (i := i) (by omega)
          refine ⟨_, rfl, _, rfl, D, _, _, _, rfl, rfl, sl_of hL, at_int hz (by omega), ?_⟩
          refine ⟨_, rfl, _, rfl, _, _, rfl, rfl, D, _, _, _, rfl, rfl, sl_of hL, at_int hy (by omega), ?_⟩
          refine ⟨_, _, rfl, rfl, .inl ⟨by omega, by omega⟩, _, _, rfl, rfl, _, _, rfl, rfl, (by show (0 : Int) < 2147483647; decide), ?_⟩
          refine ⟨_, rfl, _, rfl, D, _, _, i + 1, rfl, rfl, hL, ix_at (by rw [List.length_map, hc.1]; omega) (by omega), ?_⟩
          refine ⟨_, cs.set (i + 1) ((z + y * 16807) % 2147483647), rfl, same_in sm nD, ?_, cells_set hc (i + 1) _⟩
          rw [upd_same, set_int]
        · rintro σ H4 ⟨v1, cs, rfl, sm, hL, hc⟩
          exact ⟨_, rfl, q H4 D cs sm nD hL hc⟩
end
end Hw

namespace Hw
open PySem PySem.Spec PyProof.Rows L2
/-! ### the law's source of numbers -/
def dV (lc lg : Addr) (s : Int) : List (Key × V) := [(.inr "cells", .ref lc), (.inr "great", .ref lg), (.inr "spot", .int s)]
theorem dV_cells (lc lg : Addr) (s : Int) : valV (dV lc lg s) (.inr "cells") = some (.ref lc) := by rfl
theorem dV_great (lc lg : Addr) (s : Int) : valV (dV lc lg s) (.inr "great") = some (.ref lg) := by rfl
theorem dV_spot (lc lg : Addr) (s : Int) : valV (dV lc lg s) (.inr "spot") = some (.int s) := by rfl
theorem dV_put (lc lg : Addr) (s t : Int) : putK (dV lc lg s) (.inr "spot") (.int t) = dV lc lg t := by rfl
/-- at m the source stands, its great numbers at lg; s draws were made -/
def MOk (H : Hp) (m lg lc : Addr) (s : Nat) : Prop := ∃ (cs gs : List Int), H m = some (.dK (dV lc lg (s : Int))) ∧ H lc = some (.lst (cs.map V.int)) ∧ H lg = some (.lst (gs.map V.int)) ∧ Cells cs ∧ gs.length ≤ 63 ∧ lc ≠ lg
/-- all but the source is as it was -/
def Kp (m lg : Addr) (H H' : Hp) : Prop := ∀ b o, b ≠ m → b ≠ lg → H b = some o → H' b = some o
theorem Kp.refl (m lg : Addr) (H : Hp) : Kp m lg H H := fun _ _ _ _ h => h
theorem Kp.trans {m lg : Addr} {H H1 H2 : Hp} (a : Kp m lg H H1) (b : Kp m lg H1 H2) : Kp m lg H H2 := fun c o h1 h2 h => b c o h1 h2 (a c o h1 h2 h)
theorem Kp.same {m lg : Addr} {H H' : Hp} (a : Same H H') : Kp m lg H H' := fun b o _ _ h => a b o h
/-- a tuple stays -/
theorem Kp.tup {m lg lc : Addr} {H H' : Hp} {s : Nat} (k : Kp m lg H H') (M : MOk H m lg lc s) {b : Addr} {xs : List V} (h : H b = some (.tup xs)) : H' b = some (.tup xs) := by
  obtain ⟨cs, gs, h1, h2, h3, _⟩ := M
  exact k b _ (ne_of h h1 (by intro q; cases q)) (ne_of h h3 (by intro q; cases q)) h
/-- a list other than the source's stays -/
theorem Kp.lst {m lg lc : Addr} {H H' : Hp} {s : Nat} (k : Kp m lg H H') (M : MOk H m lg lc s) {b : Addr} {xs : List V} (n : b ≠ lg) (h : H b = some (.lst xs)) : H' b = some (.lst xs) := by
  obtain ⟨cs, gs, h1, h2, h3, _⟩ := M
  exact k b _ (ne_of h h1 (by intro q; cases q)) n h
theorem MOk.same {m lg lc : Addr} {H H' : Hp} {s : Nat} (M : MOk H m lg lc s) (sm : Same H H') : MOk H' m lg lc s := by
  obtain ⟨cs, gs, h1, h2, h3, r⟩ := M
  exact ⟨cs, gs, sm _ _ h1, sm _ _ h2, sm _ _ h3, r⟩
theorem MOk.new {m lg lc l : Addr} {H : Hp} {s : Nat} (M : MOk H m lg lc s) (h : H l = none) : l ≠ lg ∧ l ≠ m ∧ l ≠ lc := by
  obtain ⟨cs, gs, h1, h2, h3, r⟩ := M
  exact ⟨fun e => (ne_of_none h3 h) e.symm, fun e => (ne_of_none h1 h) e.symm, fun e => (ne_of_none h2 h) e.symm⟩
theorem MOk.upd {m lg lc l : Addr} {H : Hp} {o : HO} {s : Nat} (M : MOk H m lg lc s) (n : l ≠ lg ∧ l ≠ m ∧ l ≠ lc) : MOk (upd H l o) m lg lc s := by
  obtain ⟨cs, gs, h1, h2, h3, r⟩ := M
  exact ⟨cs, gs, by rw [upd_ne n.2.1.symm]; exact h1, by rw [upd_ne n.2.2.symm]; exact h2, by rw [upd_ne n.1.symm]; exact h3, r⟩
theorem Kp.free {m lg lc r : Addr} {H H' : Hp} {s : Nat} (k : Kp m lg H H') (M : MOk H' m lg lc s) (nr : H' r = none) : H r = none := by
  cases e : H r with
  | none => rfl
  | some o =>
    obtain ⟨n1, n2, _⟩ := M.new nr
    rw [k r o n2 n1 e] at nr
    cases nr
section
variable {P : Program} {w : World} {K : PySem.W.Frag} {mg : Str → Option Value} {base : Heap}
def spDraw : Sp := fun vs H Q _ => ∃ (m lg lc : Addr) (s t : Nat), vs = [.ref m, .int (t : Int)] ∧ MOk H m lg lc s ∧ s ≤ 100000 ∧ 1 ≤ t ∧ t ≤ 100000 ∧ ∀ (H' : Hp) (d : Nat), d < t → Kp m lg H H' → MOk H' m lg lc (s + 1) → Q (.int (d : Int)) H'
theorem scDraw : FnScope ["_law_m", "_law_top_here", "_law_n", "_law_at", "_law_cell"] ["_law_m", "_law_top_here"] (defScope sDraw) := ⟨rfl, rfl, rfl, by decide +kernel, rfl, by decide +kernel, by decide +kernel⟩
theorem cal_draw (T : Txt mg) (GM : Cal P w K mg base "_law_mixed" 1 spMixed) (D : Df K mg "_law_draw" sDraw ["_law_m", "_law_top_here"]) : Cal P w K mg base "_law_draw" 2 spDraw := by
  have nd := scDraw.nd
  refine cal_of D scDraw (fun vs H Q E h => ?_) (fun f cdv A outer s0 H vs Q E hr h => ?_)
  · obtain ⟨m, lg, lc, s, t, rfl, _⟩ := h
    rfl
  · obtain ⟨m, lg, lc, s, t, rfl, ⟨cs, gs, h1, h2, h3, hc, hg, hne⟩, hs, t1, t2, q⟩ := h
    have hu := hu_of hr
    refine ⟨_, pss_cons (ps_set (i := 2) nd rfl (.inl rfl) (pe_dget hu (pv 0) pe_str (fun _ _ => rfl)))
      <| pss_cons (ps_dput hu (pv 0) pe_str (pe_op op_add (pv 2) pe_int) rfl)
      <| pss_cons (ps_if (pt_cmpR (op_neD hr.units) (pe_dget hu (pv 0) pe_str (fun _ _ => rfl)) (pe_lst pa_nil) (nomark _))
          (pss_cons (ps_set (i := 3) nd rfl (.inl rfl) (pe_op op_mod (pv 2) (pe_callB cr_len (by rfl) T.len PySem.boot_len (pa_cons (pe_dget hu (pv 0) pe_str (fun _ _ => rfl)) pa_nil))))
          <| pss_cons (ps_set (i := 4) nd rfl (.inl rfl) (pe_ix ix_list (pe_dget hu (pv 0) pe_str (fun _ _ => rfl)) (pv 3) (fun _ _ => rfl)))
          <| pss_one (ps_if (pt_cmpR op_gt (pv 4) pe_int (nomark _))
              (pss_cons (ps_asg (pe_op op_fdiv (pv 4) (pv 1)) (pg_sub (pe_dget hu (pv 0) pe_str (fun _ _ => rfl)) (pv 3) set_list))
              <| pss_one (ps_ret (pe_op op_mod (pv 4) (pv 1)))) pss_nil)) pss_nil)
      <| pss_one (ps_ret (pe_op op_mod (pe_cal GM hr (by rfl) (pa_cons (pe_cal GM hr (by rfl) (pa_cons (pe_op op_add (pe_ix ix_list (pe_dget hu (pv 0) pe_str (fun _ _ => rfl)) (pe_op op_mod (pv 2) pe_int) (fun _ _ => rfl)) (pe_op op_mul pe_int (pe_op op_fdiv (pv 2) pe_int))) (pa_cons (pv 2) pa_nil)))
          (pa_cons (pe_op op_add (pv 2) pe_int) pa_nil))) (pv 1))), ?_⟩
    refine ⟨_, rfl, m, _, rfl, by rw [← dV_spot lc lg (s : Int)]; exact DGet.k (k := Sum.inr "spot") h1, ?_⟩
    refine ⟨_, rfl, _, _, rfl, rfl, _, rfl, m, _, rfl, DPut.k (k := Sum.inr "spot") h1 (by show 3 < sizeLine; decide), ?_⟩
    rw [dV_put]
    have nlm : lc ≠ m := ne_of h2 h1 (by intro q; cases q)
    have ngm : lg ≠ m := ne_of h3 h1 (by intro q; cases q)
    generalize eH : upd H m (.dK (dV lc lg ((s : Int) + 1))) = H1
    have g1 : H1 m = some (.dK (dV lc lg ((s : Int) + 1))) := by rw [← eH, upd_same]
    have g2 : H1 lc = some (.lst (cs.map V.int)) := by rw [← eH, upd_ne nlm]; exact h2
    have g3 : H1 lg = some (.lst (gs.map V.int)) := by rw [← eH, upd_ne ngm]; exact h3
    have k1 : Kp m lg H H1 := fun b o n1 n2 e => by rw [← eH, upd_ne n1]; exact e
    refine ⟨_, rfl, m, _, rfl, by rw [← dV_great lc lg ((s : Int) + 1)]; exact DGet.k (k := Sum.inr "great") g1, Nat.zero_le _, fun l0 n0 => ?_⟩
    have sm := same_upd (o := .lst []) n0
    generalize eH2 : upd H1 l0 (.lst []) = H2 at *
    have f1 := sm _ _ g1
    have f2 := sm _ _ g2
    have f3 := sm _ _ g3
    have k2 : Kp m lg H H2 := k1.trans (Kp.same sm)
    have MH : ∀ (H3 : Hp) (gs' : List Int), H3 m = some (.dK (dV lc lg ((s : Int) + 1))) → H3 lc = some (.lst (cs.map V.int)) → H3 lg = some (.lst (gs'.map V.int)) → gs'.length ≤ 63 → MOk H3 m lg lc (s + 1) := fun H3 gs' a1 a2 a3 a4 =>
      ⟨cs, gs', by rw [a1]; rfl, a2, a3, hc, a4, hne⟩
    have G1 := DGet.k (k := Sum.inr "great") f1
    have G2 := DGet.k (k := Sum.inr "cells") f1
    rw [dV_great] at G1
    rw [dV_cells] at G2
    have fin : ∀ (H3 : Hp) (gs' : List Int) (x : Int), Kp m lg H H3 → H3 m = some (.dK (dV lc lg ((s : Int) + 1))) → H3 lc = some (.lst (cs.map V.int)) → H3 lg = some (.lst (gs'.map V.int)) → gs'.length ≤ 63 → Q (.int (x % (t : Int))) H3 := fun H3 gs' x a0 a1 a2 a3 a4 => by
      have t0 : (0 : Int) < (t : Int) := by omega
      have b1 := Int.emod_nonneg x (show (t : Int) ≠ 0 by omega)
      have b2 := Int.emod_lt_of_pos x t0
      obtain ⟨d, hd⟩ : ∃ d : Nat, (d : Int) = x % (t : Int) := ⟨(x % (t : Int)).toNat, by omega⟩
      rw [← hd]
      exact q H3 d (by omega) a0 (MH H3 gs' a1 a2 a3 a4)
    refine ⟨_, _, dp_li (sl_of f3), dp_li (ns := []) (sl_of (by rw [← eH2]; exact upd_same)), shaped_li _, shaped_li _, _, rfl, ?_⟩
    rw [eqv_li]
    have fin0 := fun x => fin H2 gs x k2 f1 f2 f3 hg
    by_cases z : gs = []
    case' pos =>
      rw [decide_eq_true z]
      refine iteF ?_
    case' neg =>
      rw [decide_eq_false z]
      have gl : 0 < gs.length := List.length_pos_iff.mpr z
      refine iteT ?_
      refine ⟨_, rfl, _, rfl, _, _, rfl, G1, lg, _, rfl, .inl (sl_of f3), _, _, rfl, rfl, (by rw [List.length_map]; omega), ?_⟩
      rw [List.length_map]
      obtain ⟨j, hj⟩ : ∃ j : Nat, (j : Int) = (s : Int) % (gs.length : Int) := ⟨s % gs.length, by omega⟩
      have jl : j < gs.length := by
        have := Int.emod_lt_of_pos (s : Int) (show (0 : Int) < (gs.length : Int) by omega)
        omega
      obtain ⟨c, hc1⟩ : ∃ c, gs[j]? = some c := ⟨gs[j], List.getElem?_eq_getElem jl⟩
      refine ⟨_, rfl, _, _, rfl, G1, _, rfl, lg, _, _, _, rfl, rfl, sl_of f3, at_int hc1 hj.symm, ?_⟩
      refine ⟨_, rfl, _, _, rfl, rfl, _, rfl, ite2 (fun z2 => ?hit) (fun z2 => ?_)⟩
      case hit =>
        refine ⟨_, rfl, _, rfl, _, _, rfl, rfl, ⟨by omega, by omega⟩, _, rfl, _, _, rfl, G1, _, rfl, lg, _, _, j, rfl, rfl, f3, ix_at (by rw [List.length_map]; exact jl) hj.symm, ?_⟩
        rw [set_int]
        refine ⟨_, rfl, _, rfl, _, _, rfl, rfl, by omega, ?_⟩
        refine fin _ (gs.set j (c / (t : Int))) c (fun b o n1 n2 e => by rw [upd_ne n2]; exact k2 b o n1 n2 e) ?_ ?_ upd_same (by rw [List.length_set]; exact hg)
        · rw [upd_ne ngm.symm]
          exact f1
        · rw [upd_ne hne]
          exact f2
    all_goals
      obtain ⟨y, hy, y0, y1⟩ := cells_get hc (i := s % 64) (by omega)
      refine ⟨_, rfl, _, _, rfl, G2, _, rfl, _, _, rfl, rfl, (by show (0 : Int) < 64; decide), lc, _, _, _, rfl, rfl, sl_of f2, at_int hy (by omega), ?_⟩
      refine ⟨_, rfl, _, _, rfl, rfl, ⟨by decide, by decide⟩, _, _, rfl, rfl, .inl ⟨by decide, by decide⟩, _, _, rfl, rfl, _, rfl, _, _, rfl, by omega, by omega, by omega, by omega, fun v v0 v1 => ?_⟩
      refine ⟨_, rfl, _, _, rfl, rfl, _, _, rfl, by omega, by omega, by omega, by omega, fun v' v0' v1' => ?_⟩
      exact ⟨_, rfl, _, _, rfl, rfl, by omega, fin0 v'⟩
end
end Hw

namespace Hw
open PySem PySem.Spec PyProof.Rows L2
section
variable {P : Program} {w : World} {K : PySem.W.Frag} {mg : Str → Option Value} {base : Heap}
def spBegun (K : PySem.W.Frag) : Sp := fun vs H Q _ => ∃ (a : Addr) (ns : List Int), vs = [.ref a] ∧ SqL K H a (ns.map V.int) ∧ ns.length ≤ 63 ∧ ∀ H' m lg lc, Same H H' → MOk H' m lg lc 0 → Q (.ref m) H'
theorem scBegun : FnScope ["_law_script", "_law_m", "_law_cell"] ["_law_script"] (defScope sBegun) := ⟨rfl, rfl, rfl, by decide +kernel, rfl, by decide +kernel, by decide +kernel⟩
theorem cal_begun (T : Txt mg) (GF : Cal P w K mg base "_law_folded" 1 (spFolded K)) (D : Df K mg "_law_begun" sBegun ["_law_script"]) : Cal P w K mg base "_law_begun" 2 (spBegun K) := by
  have nd := scBegun.nd
  refine cal_of D scBegun (fun vs H Q E h => ?_) (fun f cdv A outer s0 H vs Q E hr h => ?_)
  · obtain ⟨a, ns, rfl, _⟩ := h
    rfl
  · obtain ⟨a, ns, rfl, ha, hl, q⟩ := h
    have hu := hu_of hr
    refine ⟨_, pss_cons (ps_set (i := 1) nd rfl (.inl rfl) (pe_disp (pps_cons pe_str (pe_cal GF hr (by rfl) (pa_cons (pv 0) pa_nil)) (pps_cons pe_str (pe_lst pa_nil) (pps_cons pe_str pe_int pps_nil))) (by rfl) (by rfl) (fun z => by cases z) (by decide)))
      <| pss_cons (ps_dput hu (pv 1) pe_str (pe_lc (own := [("_law_cell", 2)]) (g := gName 2) (by rfl) nd (pi_list (pv 0))
          (blkOk_by (own := [("_law_cell", 2)]) (N := ["_law_script", "_law_m", "_law_cell"]) (sc := defScope sBegun) (by decide +kernel)) (fun _ _ _ _ _ => pg_name (i := 2) nd rfl (.inl rfl)) (fun _ _ _ _ _ => pts_nil)
          (fun _ _ _ _ _ => pe_ifExp (pt_cmpR op_ge (pv 2) (pe_op op_pow pe_int pe_int) (nomark _)) (pv 2) pe_int)) rfl)
      <| pss_one (ps_ret (pv 1)), ?_⟩
    intro m nm
    have sm0 := same_upd (o := .dK []) nm
    refine ⟨_, rfl, a, ns, rfl, sm0.seq ha, hl, fun H1 lc cs sm1 nlc hlc hcs => ?_⟩
    have h1m : H1 m = some (.dK []) := sm1 _ _ upd_same
    refine ⟨Nat.zero_le _, fun l0 n0 => ?_⟩
    have sm2 := sm1.trans (same_upd (o := .lst []) n0)
    have h2m : upd H1 l0 (.lst []) m = some (.dK []) := sm2 _ _ upd_same
    have h2c : upd H1 l0 (.lst []) lc = some (.lst (cs.map V.int)) := same_upd n0 _ _ hlc
    refine ⟨h2m, [(.inr "cells", .ref lc), (.inr "great", .ref l0), (.inr "spot", .int 0)], rfl, by show 3 ≤ 15; decide, ?_⟩
    have em : mergeK [] [(Sum.inr "cells", V.ref lc), (Sum.inr "great", V.ref l0), (Sum.inr "spot", V.int 0)] = dV lc l0 0 := rfl
    rw [em]
    have smA : Same H (upd (upd H1 l0 (.lst [])) m (.dK (dV lc l0 0))) := fun b o e => by
      rw [upd_ne (ne_of_none e nm)]
      exact sm2 _ _ (sm0 _ _ e)
    generalize eH2 : upd (upd H1 l0 (.lst [])) m (.dK (dV lc l0 0)) = H2 at *
    have g1 : H2 m = some (.dK (dV lc l0 0)) := by rw [← eH2, upd_same]
    have g2 : H2 lc = some (.lst (cs.map V.int)) := by
      rw [← eH2, upd_ne (ne_of h2c h2m (by intro q; cases q))]
      exact h2c
    refine ⟨_, rfl, a, rfl, ⟨_, smA.seq ha⟩, fun D nD => lc_it (walk_list (xs := ns.map V.int)) (fun i H' => Same H2 H' ∧ ∃ gs : List Int, gs.length = i ∧ H' D = some (.lst (gs.map V.int))) ⟨same_upd nD, [], rfl, upd_same⟩ (fun i H' _ ⟨sm, _⟩ => (smA.trans sm).seq ha) ?_ ?_⟩
    · rintro i x _ H3 hi ⟨sm, gs, hgl, hD⟩ ⟨rfl, hx⟩
      rw [List.length_map] at hi
      rw [List.getElem?_map] at hx
      obtain ⟨c, hc1, rfl⟩ : ∃ c, ns[i]? = some c ∧ x = V.int c := by
        cases e : ns[i]? with
        | none => rw [e] at hx; cases hx
        | some c => rw [e] at hx; exact ⟨c, rfl, (Option.some.inj hx).symm⟩
      have fin : ∀ y : Int, ∃ acc, H3 D = some (.lst acc) ∧ acc.length < sizeLine ∧ (Same H2 (upd H3 D (.lst (acc ++ [V.int y]))) ∧ ∃ gs : List Int, gs.length = i + 1 ∧ upd H3 D (.lst (acc ++ [V.int y])) D = some (.lst (gs.map V.int))) := fun y => by
        refine ⟨_, hD, by rw [List.length_map]; exact small1000 (by omega), fun b o e => ?_, gs ++ [y], by rw [List.length_append, hgl]; rfl, by rw [upd_same, List.map_append]; rfl⟩
        rw [upd_ne (ne_of_none e nD)]
        exact sm _ _ e
      refine ⟨rfl, _, rfl, _, _, rfl, rfl, ⟨by decide, by decide, by decide⟩, _, _, rfl, rfl, _, rfl, ite2 (fun _ => ?_) (fun _ => ?_)⟩
      · exact ⟨_, rfl, fin c⟩
      · exact fin 0
    · rintro H3 ⟨sm, gs, hgl, hD⟩
      rw [List.length_map] at hgl
      have f1 := sm _ _ g1
      refine ⟨_, rfl, m, _, rfl, DPut.k (k := Sum.inr "great") f1 (by show 3 < sizeLine; decide), ?_⟩
      have ep : putK (dV lc l0 0) (.inr "great") (V.ref D) = dV lc D 0 := rfl
      rw [ep]
      refine ⟨_, rfl, q _ m D lc (fun b o e => ?_) ⟨cs, gs, upd_same, ?_, ?_, hcs, by omega, ?_⟩⟩
      · rw [upd_ne (ne_of_none e nm)]
        exact sm _ _ (smA _ _ e)
      · rw [upd_ne (ne_of (sm _ _ g2) f1 (by intro q; cases q))]
        exact sm _ _ g2
      · rw [upd_ne (ne_of hD f1 (by intro q; cases q))]
        exact hD
      · exact ne_of_none g2 nD
end
end Hw

namespace Hw
open PySem PySem.Spec PyProof.Rows L2
section
variable {P : Program} {w : World} {K : PySem.W.Frag} {mg : Str → Option Value} {base : Heap}
def spMixedUp (K : PySem.W.Frag) : Sp := fun vs H Q _ => ∃ (m lg lc a : Addr) (s : Nat) (xs : List V), vs = [.ref m, .ref a] ∧ MOk H m lg lc s ∧ (SqL K H a xs ∨ SqT K H a xs) ∧ xs.length ≤ 1000 ∧ s + xs.length ≤ 100000 ∧
  ∀ H' r ys, ys.Perm xs → Kp m lg H H' → H r = none → H' r = some (.lst ys) → MOk H' m lg lc (s + xs.length) → Q (.ref r) H'
theorem scMixedUp : FnScope ["_law_m", "_law_things", "_law_stock", "_law_found", "_law_n"] ["_law_m", "_law_things"] (defScope sMixedUp) := ⟨rfl, rfl, rfl, by decide +kernel, rfl, by decide +kernel, by decide +kernel⟩
theorem cal_mixedUp (T : Txt mg) (GD : Cal P w K mg base "_law_draw" 2 spDraw) (D : Df K mg "_law_mixed_up" sMixedUp ["_law_m", "_law_things"]) : Cal P w K mg base "_law_mixed_up" 3 (spMixedUp K) := by
  have nd := scMixedUp.nd
  refine cal_of D scMixedUp (fun vs H Q E h => ?_) (fun f cdv A outer s0 H vs Q E hr h => ?_)
  · obtain ⟨m, lg, lc, a, s, xs, rfl, _⟩ := h
    rfl
  · obtain ⟨m, lg, lc, a, s, xs, rfl, M0, ha, hl, hs, q⟩ := h
    refine ⟨_, pss_cons (ps_par (i := 2) (j := 3) (by rfl) nd rfl rfl (by decide) rfl rfl (pa_cons (pe_callTy call_list_of (by rfl) T.list (by decide +kernel) (pa_cons (pv 1) pa_nil)) (pa_cons (pe_lst pa_nil) pa_nil)) (by rfl))
      <| pss_cons (ps_for PassesOwn.never rfl (pi_range1 (by rfl) T.range (pa_cons (pe_callB cr_len (by rfl) T.len PySem.boot_len (pa_cons (pv 2) pa_nil)) pa_nil)) (pg_name (i := 4) nd rfl (.inl rfl))
          (pss_one (ps_expr (pe_bm PySem.F.plainAttrs_list PySem.F.slot_list_append PySem.F.type_list_append mt_append (pv 3)
            (pa_cons (pe_bm PySem.F.plainAttrs_list PySem.F.slot_list_pop PySem.F.type_list_pop mt_popAt (pv 2) (pa_cons (pe_cal GD hr (by rfl) (pa_cons (pv 0) (pa_cons (pe_callB cr_len (by rfl) T.len PySem.boot_len (pa_cons (pv 2) pa_nil)) pa_nil))) pa_nil)) pa_nil)))))
      <| pss_one (ps_ret (pv 3)), ?_⟩
    refine ⟨_, rfl, a, xs, rfl, ha, fun l1 n1 => ?_⟩
    have sm1 := same_upd (o := .lst xs) n1
    refine ⟨Nat.zero_le _, fun l2 n2 => ?_⟩
    have sm2 := sm1.trans (same_upd (o := .lst []) n2)
    have n12 : l1 ≠ l2 := ne_of_none upd_same n2
    have n2' : H l2 = none := sm1.free n2
    refine ⟨_, _, rfl, ?_⟩
    have h1 : upd (upd H l1 (.lst xs)) l2 (.lst []) l1 = some (.lst xs) := by rw [upd_ne n12, upd_same]
    have a1 := M0.new n1
    have a2 := M0.new n2'
    refine ⟨_, rfl, l1, xs, rfl, .inl (sl_of h1), _, rfl, by omega, by omega, ?_⟩
    rw [Int.toNat_natCast]
    refine for_it walk_rg0 (fun i σ H' => ∃ v4 rest got, σ = [some (.ref m), some (.ref a), some (.ref l1), some (.ref l2), v4] ∧ Kp m lg H H' ∧ MOk H' m lg lc (s + i) ∧ H' l1 = some (.lst rest) ∧ H' l2 = some (.lst got) ∧ rest.length + i = xs.length ∧ got.length = i ∧ (got ++ rest).Perm xs)
      ⟨none, xs, [], rfl, Kp.same sm2, M0.same sm2, h1, upd_same, by omega, rfl, .refl _⟩ (fun _ _ _ _ _ => trivial) ?_ ?_
    · rintro i x σ _ H2 hi ⟨v4, rest, got, rfl, kp, M, g1, g2, hlen, hgot, hp⟩ ⟨rfl, rfl⟩
      refine ⟨_, rfl, .inl ⟨rfl, _, sl_of g2⟩, _, rfl, .inl ⟨rfl, _, sl_of g1⟩, _, rfl, _, rfl, l1, rest, rfl, .inl (sl_of g1), ?_⟩
      refine ⟨m, lg, lc, s + i, rest.length, rfl, M, by omega, by omega, by omega, fun H3 d hd kp3 M3 => ?_⟩
      have f1 := kp3.lst M a1.1 g1
      have f2 := kp3.lst M a2.1 g2
      have hy : rest[d]? = some rest[d] := List.getElem?_eq_getElem hd
      refine ⟨l1, rest, _, d, rest[d], rfl, rfl, f1, by omega, by omega, seq_ix hd, hy, ?_⟩
      have n21 := n12.symm
      refine ⟨l2, got, _, rfl, rfl, (by rw [upd_ne n21]; exact f2), by rw [hgot]; exact small1000 (by omega), ?_⟩
      refine ⟨_, rest.eraseIdx d, got ++ [rest[d]], rfl, fun b o e1 e2 e => ?_, ?_, ?_, upd_same, ?_, ?_, ?_⟩
      · rw [upd_ne (ne_of_none e n2'), upd_ne (ne_of_none e n1)]
        exact kp3 b o e1 e2 (kp b o e1 e2 e)
      · exact (M3.upd a1).upd a2
      · rw [upd_ne n12, upd_same]
      · rw [List.length_eraseIdx_of_lt hd]
        omega
      · rw [List.length_append, hgot]
        rfl
      · refine List.Perm.trans ?_ hp
        rw [List.append_assoc]
        exact List.Perm.append_left got (perm_out hy)
    · rintro σ H2 ⟨v4, rest, got, rfl, kp, M, g1, g2, hlen, hgot, hp⟩
      have : rest = [] := List.length_eq_zero_iff.mp (by omega)
      subst this
      rw [List.append_nil] at hp
      exact ⟨_, rfl, q H2 l2 got hp kp n2' g2 M⟩
end
end Hw

namespace Hw
open PySem PySem.Spec PyProof.Rows L2
def pl (e : Ed) : List Nat := [e.1, e.2]
/-- a list, a tuple of pairs -/
def EdL (H : Hp) (l : Addr) (es : List Ed) : Prop := ∃ ks : List (Addr × List Nat), H l = some (.lst (ks.map fun k => .ref k.1)) ∧ ks.map (·.2) = es.map pl ∧ ∀ k ∈ ks, Tp H k.1 k.2
def EdT (H : Hp) (l : Addr) (es : List Ed) : Prop := ∃ ks : List (Addr × List Nat), H l = some (.tup (ks.map fun k => .ref k.1)) ∧ ks.map (·.2) = es.map pl ∧ ∀ k ∈ ks, Tp H k.1 k.2
theorem EdL.same {H H' : Hp} {l : Addr} {es : List Ed} (h : EdL H l es) (s : Same H H') : EdL H' l es := by
  obtain ⟨ks, a, b, c⟩ := h
  exact ⟨ks, s _ _ a, b, fun k hk => s _ _ (c k hk)⟩
theorem EdT.same {H H' : Hp} {l : Addr} {es : List Ed} (h : EdT H l es) (s : Same H H') : EdT H' l es := by
  obtain ⟨ks, a, b, c⟩ := h
  exact ⟨ks, s _ _ a, b, fun k hk => s _ _ (c k hk)⟩
theorem EdL.kp {H H' : Hp} {l m lg lc : Addr} {s : Nat} {es : List Ed} (h : EdL H l es) (k : Kp m lg H H') (M : MOk H m lg lc s) (n : l ≠ lg) : EdL H' l es := by
  obtain ⟨ks, a, b, c⟩ := h
  exact ⟨ks, k.lst M n a, b, fun x hx => k.tup M (c x hx)⟩
theorem EdL.ne {H : Hp} {l m lg lc : Addr} {s : Nat} {es : List Ed} (h : EdL H l es) (M : MOk H m lg lc s) : l ≠ m := by
  obtain ⟨ks, a, _⟩ := h
  obtain ⟨cs, gs, h1, _⟩ := M
  exact ne_of a h1 (by intro q; cases q)
theorem ed_len {ks : List (Addr × List Nat)} {es : List Ed} (h : ks.map (·.2) = es.map pl) : ks.length = es.length := by
  have := congrArg List.length h
  rw [List.length_map, List.length_map] at this
  exact this
theorem ed_get {ks : List (Addr × List Nat)} {es : List Ed} (h : ks.map (·.2) = es.map pl) {i : Nat} {k : Addr × List Nat} (hk : ks[i]? = some k) : ∃ e, es[i]? = some e ∧ k.2 = pl e := by
  have := congrArg (fun l => l[i]?) h
  simp only [List.getElem?_map, hk, Option.map_some] at this
  cases e : es[i]? with
  | none => rw [e] at this; cases this
  | some d => rw [e] at this; exact ⟨d, rfl, Option.some.inj this⟩
theorem ed_at {ks : List (Addr × List Nat)} {es : List Ed} (h : ks.map (·.2) = es.map pl) {i : Nat} {e : Ed} (he : es[i]? = some e) : ∃ k, ks[i]? = some k ∧ k.2 = pl e := by
  have hi := (List.getElem?_eq_some_iff.mp he).1
  have hk0 : i < ks.length := by rw [ed_len h]; exact hi
  have hk : ks[i]? = some ks[i] := List.getElem?_eq_getElem hk0
  obtain ⟨d, hd, ed⟩ := ed_get h hk
  rw [he] at hd
  exact ⟨_, hk, by rw [ed, Option.some.inj hd]⟩
section
variable {P : Program} {w : World} {K : PySem.W.Frag} {mg : Str → Option Value} {base : Heap}
def spTie : Sp := fun vs H Q _ => ∃ a b : Nat, vs = [.int (a : Int), .int (b : Int)] ∧ ∀ H' r, Same H H' → H r = none → Tp H' r (pl (tieF a b)) → Q (.ref r) H'
theorem scTie : FnScope ["_law_one", "_law_far"] ["_law_one", "_law_far"] (defScope sTie) := ⟨rfl, rfl, rfl, by decide +kernel, rfl, by decide +kernel, by decide +kernel⟩
theorem cal_tie (T : Txt mg) (D : Df K mg "_law_tie" sTie ["_law_one", "_law_far"]) : Cal P w K mg base "_law_tie" 1 spTie := by
  have nd := scTie.nd
  refine cal_of D scTie (fun vs H Q E h => ?_) (fun f cdv A outer s0 H vs Q E hr h => ?_)
  · obtain ⟨a, b, rfl, _⟩ := h
    rfl
  · obtain ⟨a, b, rfl, q⟩ := h
    refine ⟨_, pss_one (ps_ret (pe_tup (pa_cons (pe_callB (call_min2 rfl) (by rfl) T.min (by decide +kernel) (pa_cons (pv 0) (pa_cons (pv 1) pa_nil))) (pa_cons (pe_callB (call_max2 rfl) (by rfl) T.max (by decide +kernel) (pa_cons (pv 0) (pa_cons (pv 1) pa_nil))) pa_nil)))), ?_⟩
    refine ⟨_, rfl, _, rfl, _, _, rfl, _, rfl, _, rfl, _, _, rfl, (by show 2 ≤ sizeLine; decide), fun r nr => ?_⟩
    refine q _ r (same_upd nr) nr ?_
    show upd H r _ r = _
    rw [upd_same]
    have e1 : (if (b : Int) < (a : Int) then (b : Int) else (a : Int)) = ((min a b : Nat) : Int) := by
      split <;> omega
    have e2 : (if (b : Int) > (a : Int) then (b : Int) else (a : Int)) = ((max a b : Nat) : Int) := by
      split <;> omega
    have e3 : (if (a : Int) < (b : Int) then (b : Int) else (a : Int)) = ((max a b : Nat) : Int) := by
      split <;> omega
    simp only [e1, e2, e3]
    rfl
/-- one more pair in a list that grows -/
theorem edl_snoc {H : Hp} {D r : Addr} {es : List Ed} {e : Ed} {ks : List (Addr × List Nat)} (h2 : ks.map (·.2) = es.map pl) (h3 : ∀ k ∈ ks, Tp H k.1 k.2) (hr : Tp H r (pl e)) (hD : H D = some (.lst (ks.map fun k => .ref k.1))) :
    EdL (upd H D (.lst ((ks.map fun k => V.ref k.1) ++ [V.ref r]))) D (es ++ [e]) := by
  refine ⟨ks ++ [(r, pl e)], ?_, ?_, fun k hk => ?_⟩
  · rw [upd_same, List.map_append]
    rfl
  · rw [List.map_append, List.map_append, h2]
    rfl
  · rcases List.mem_append.mp hk with hk | hk
    · exact tp_upd (h3 k hk) hD
    · rw [List.mem_singleton.mp hk]
      exact tp_upd hr hD
/-! ### ring -/
def spRing (K : PySem.W.Frag) : Sp := fun vs H Q _ => ∃ (a : Addr) (sp : List Nat), vs = [.ref a] ∧ H a = some (.lst (NV sp)) ∧ sp.length ≤ 100 ∧ ∀ H' r, Same H H' → H r = none → EdL H' r (ringE sp) → Q (.ref r) H'
theorem scRing : FnScope ["_law_spots", "_law_n"] ["_law_spots"] (defScope sRing) := ⟨rfl, rfl, rfl, by decide +kernel, rfl, by decide +kernel, by decide +kernel⟩
theorem ringE_take (sp : List Nat) (i : Nat) (hi : i < sp.length) : (ringE sp).take (i + 1) = (ringE sp).take i ++ [tieF (sp.getD ((i + sp.length - 1) % sp.length) 0) (sp.getD i 0)] := by
  rw [List.take_add_one]
  unfold ringE
  rw [List.getElem?_map, List.getElem?_range hi]
  rfl
theorem cal_ring (T : Txt mg) (GT : Cal P w K mg base "_law_tie" 1 spTie) (D : Df K mg "_law_ring" sRing ["_law_spots"]) : Cal P w K mg base "_law_ring" 2 (spRing K) := by
  have nd := scRing.nd
  refine cal_of D scRing (fun vs H Q E h => ?_) (fun f cdv A outer s0 H vs Q E hr h => ?_)
  · obtain ⟨a, sp, rfl, _⟩ := h
    rfl
  · obtain ⟨a, sp, rfl, ha, hl, q⟩ := h
    refine ⟨_, pss_one (ps_ret (pe_lc (own := [("_law_n", 1)]) (g := gName 1) (by rfl) nd (pi_range1 (by rfl) T.range (pa_cons (pe_callB cr_len (by rfl) T.len PySem.boot_len (pa_cons (pv 0) pa_nil)) pa_nil))
        (blkOk_by (own := [("_law_n", 1)]) (N := ["_law_spots", "_law_n"]) (sc := defScope sRing) (by decide +kernel)) (fun _ _ _ _ _ => pg_name (i := 1) nd rfl (.inl rfl)) (fun _ _ _ _ _ => pts_nil)
        (fun _ _ _ _ _ => pe_cl GT (by exact hr) (by rfl) (pa_cons (pe_ix (r := rIxL K) ix_list (pv 0) (pe_op op_sub (pv 1) pe_int) (fun _ _ => rfl)) (pa_cons (pe_ix (r := rIxL K) ix_list (pv 0) (pv 1) (fun _ _ => rfl)) pa_nil))))), ?_⟩
    refine ⟨_, rfl, a, NV sp, rfl, .inl (sl_of ha), _, rfl, by rw [NV_len]; omega, by rw [NV_len]; omega, ?_⟩
    rw [NV_len, Int.toNat_natCast]
    refine fun D nD => lc_it walk_rg0 (fun i H' => Same H H' ∧ EdL H' D ((ringE sp).take i)) ⟨same_upd nD, [], upd_same, rfl, fun k hk => nomatch hk⟩ (fun _ _ _ _ => trivial) ?_ ?_
    · rintro i x _ H2 hi ⟨sm, ks, hD, h2, h3⟩ ⟨rfl, rfl⟩
      have ha2 := sm _ _ ha
      have hlast : (i + sp.length - 1) % sp.length < sp.length := Nat.mod_lt _ (by omega)
      have g : ∀ j, j < sp.length → (NV sp)[j]? = some (.int ((sp.getD j 0 : Nat) : Int)) := fun j hj => NV_get (by
        rw [List.getD_eq_getElem?_getD, List.getElem?_eq_getElem hj]
        rfl)
      have at1 : atI (NV sp) ((i : Int) - 1) = some (.int ((sp.getD ((i + sp.length - 1) % sp.length) 0 : Nat) : Int)) := by
        unfold atI ixN
        rw [NV_len]
        by_cases z : i = 0
        · subst z
          have e : (0 + sp.length - 1) % sp.length = sp.length - 1 := by
            rw [Nat.zero_add]
            exact Nat.mod_eq_of_lt (by omega)
          rw [e, if_neg (by omega), if_pos (by omega)]
          show (NV sp)[(((0 : Nat) : Int) - 1 + (sp.length : Int)).toNat]? = _
          rw [show ((((0 : Nat) : Int) - 1 + (sp.length : Int)).toNat) = sp.length - 1 by omega]
          exact g _ (by omega)
        · have e : (i + sp.length - 1) % sp.length = i - 1 := by
            rw [show i + sp.length - 1 = (i - 1) + sp.length by omega, Nat.add_mod_right]
            exact Nat.mod_eq_of_lt (by omega)
          rw [e, if_pos (by omega), if_pos (by omega)]
          show (NV sp)[((i : Int) - 1).toNat]? = _
          rw [show ((i : Int) - 1).toNat = i - 1 by omega]
          exact g _ (by omega)
      refine ⟨rfl, ?_⟩
      refine ⟨_, rfl, _, rfl, _, _, rfl, rfl, a, _, _, _, rfl, rfl, sl_of ha2, at1, _, rfl, _, rfl, a, _, _, _, rfl, rfl, sl_of ha2, atI_nat (g i hi), ?_⟩
      refine ⟨_, _, rfl, fun H3 r s3 nr hr3 => ?_⟩
      refine ⟨_, s3 _ _ hD, ?_, fun b o e => ?_, ?_⟩
      · rw [nv_len, ed_len h2, List.length_take]
        unfold ringE
        rw [List.length_map, List.length_range]
        exact Nat.lt_of_le_of_lt (Nat.min_le_left _ _) (small1000 (by omega))
      · rw [upd_ne (ne_of_none e nD)]
        exact s3 _ _ (sm _ _ e)
      · rw [ringE_take sp i hi]
        exact edl_snoc h2 (fun k hk => s3 _ _ (h3 k hk)) hr3 (s3 _ _ hD)
    · rintro H2 ⟨sm, hD⟩
      have e : (ringE sp).take sp.length = ringE sp := List.take_of_length_le (by unfold ringE; simp)
      rw [e] at hD
      exact q _ D sm nD hD
end
end Hw

namespace Hw
open PySem PySem.Spec PyProof.Rows L2
theorem walk_rgN {lo n : Nat} : Walk (Itr (lo : Int) n) n (fun _ => True) (fun i H x H' => H' = H ∧ x = .int ((lo + i : Nat) : Int)) :=
  (walk_range (lo := (lo : Int)) (n := n)).mono (fun _ z => z) fun i H x H' _ _ y => ⟨y.1, by rw [y.2]; congr 1⟩
theorem tie_lt {a b : Nat} (h : a < b) : tieF a b = (a, b) := by
  unfold tieF
  rw [Nat.min_eq_left (by omega), Nat.max_eq_right (by omega)]
section
variable {P : Program} {w : World} {K : PySem.W.Frag} {mg : Str → Option Value} {base : Heap}
def tailE (f : Nat → Nat) (low k : Nat) : List Ed := (List.range k).map fun i => (f i, low + i)
theorem tailE_succ (f : Nat → Nat) (low k : Nat) : tailE f low (k + 1) = tailE f low k ++ [(f k, low + k)] := by
  unfold tailE
  rw [List.range_succ, List.map_append]
  rfl
def spTree : Sp := fun vs H Q _ => ∃ (m lg lc : Addr) (s many low : Nat), vs = [.ref m, .int (many : Int), .int (low : Int)] ∧ MOk H m lg lc s ∧ 1 ≤ low ∧ low ≤ 100 ∧ many ≤ 100 ∧ s ≤ 90000 ∧
  ∀ H' r f s', Kp m lg H H' → H r = none → (∀ i, i < many - low → f i < low + i) → EdL H' r (tailE f low (many - low)) → s' ≤ s + many → MOk H' m lg lc s' → Q (.ref r) H'
theorem scTree : FnScope ["_law_m", "_law_many", "_law_low", "_law_spot"] ["_law_m", "_law_many", "_law_low"] (defScope sTree) := ⟨rfl, rfl, rfl, by decide +kernel, rfl, by decide +kernel, by decide +kernel⟩
theorem cal_tree (T : Txt mg) (GT : Cal P w K mg base "_law_tie" 1 spTie) (GD : Cal P w K mg base "_law_draw" 2 spDraw) (D : Df K mg "_law_tree" sTree ["_law_m", "_law_many", "_law_low"]) : Cal P w K mg base "_law_tree" 3 spTree := by
  have nd := scTree.nd
  refine cal_of D scTree (fun vs H Q E h => ?_) (fun f cdv A outer s0 H vs Q E hr h => ?_)
  · obtain ⟨m, lg, lc, s, many, low, rfl, _⟩ := h
    rfl
  · obtain ⟨m, lg, lc, s, many, low, rfl, M0, hl1, hl2, hm, hs, q⟩ := h
    have hr1 := hr.mono (show 1 ≤ 2 by decide)
    refine ⟨_, pss_one (ps_ret (pe_lc (own := [("_law_spot", 3)]) (g := gName 3) (by rfl) nd (pi_range2 (by rfl) T.range (pa_cons (pe_callB (call_max2 rfl) (by rfl) T.max (by decide +kernel) (pa_cons pe_int (pa_cons (pv 2) pa_nil))) (pa_cons (pv 1) pa_nil)))
        (blkOk_by (own := [("_law_spot", 3)]) (N := ["_law_m", "_law_many", "_law_low", "_law_spot"]) (sc := defScope sTree) (by decide +kernel)) (fun _ _ _ _ _ => pg_name (i := 3) nd rfl (.inl rfl)) (fun _ _ _ _ _ => pts_nil)
        (fun _ _ _ _ _ => pe_cl GT (by exact hr1) (by rfl) (pa_cons (pe_ifExp (pt_cmpR op_gt (pv 3) pe_int (nomark _)) (pe_cl GD (by exact hr) (by rfl) (pa_cons (pv 0) (pa_cons (pv 3) pa_nil))) pe_int) (pa_cons (pv 3) pa_nil))))), ?_⟩
    have e0 : (if (low : Int) > 1 then (low : Int) else 1) = (low : Int) := by split <;> omega
    refine ⟨_, rfl, _, _, rfl, ?_⟩
    dsimp only
    rw [e0]
    refine ⟨_, rfl, _, _, rfl, by omega, ?_⟩
    rw [show ((many : Int) - (low : Int)).toNat = many - low by omega]
    refine fun D nD => lc_it walk_rgN (fun i H' => ∃ f s', Kp m lg H H' ∧ MOk H' m lg lc s' ∧ s' ≤ s + i ∧ (∀ j, j < i → f j < low + j) ∧ EdL H' D (tailE f low i)) ⟨fun _ => 0, s, Kp.same (same_upd nD), M0.same (same_upd nD), by omega, fun j hj => absurd hj (Nat.not_lt_zero _), [], upd_same, rfl, fun k hk => nomatch hk⟩ (fun _ _ _ _ => trivial) ?_ ?_
    · rintro i x _ H2 hi ⟨f1, s1, kp, M, hs1, hf, ks, hD, h2, h3⟩ ⟨rfl, rfl⟩
      have aD := M0.new nD
      refine ⟨rfl, ?_⟩
      refine ⟨_, rfl, _, _, rfl, rfl, _, rfl, ?_⟩
      rw [show decide ((0 : Int) < ((low + i : Nat) : Int)) = true from decide_eq_true (by omega)]
      refine iteT ⟨_, rfl, _, rfl, m, lg, lc, s1, low + i, rfl, M, by omega, by omega, by omega, fun H3 d hd kp3 M3 => ?_⟩
      have hD3 := kp3.lst M aD.1 hD
      refine ⟨_, rfl, d, low + i, rfl, fun H4 r s4 nr hr4 => ?_⟩
      rw [tie_lt hd] at hr4
      have kp4 := (kp.trans kp3).trans (Kp.same s4)
      have h3' : ∀ k ∈ ks, Tp H4 k.1 k.2 := fun k hk => s4 _ _ (kp3.tup M (h3 k hk))
      have et : tailE (fun j => if j = i then d else f1 j) low i = tailE f1 low i := by
        unfold tailE
        refine List.map_congr_left fun j hj => ?_
        have := List.mem_range.mp hj
        show ((if j = i then d else f1 j), low + j) = _
        rw [if_neg (by omega)]
      refine ⟨_, s4 _ _ hD3, ?_, fun j => if j = i then d else f1 j, s1 + 1, fun b o n1 n2 e => ?_, (M3.same s4).upd aD, by omega, fun j hj => ?_, ?_⟩
      · rw [nv_len, ed_len h2]
        unfold tailE
        rw [List.length_map, List.length_range]
        exact small1000 (by omega)
      · rw [upd_ne (ne_of_none e nD)]
        exact kp4 b o n1 n2 e
      · show (if j = i then d else f1 j) < low + j
        by_cases z : j = i
        · rw [if_pos z, z]; exact hd
        · rw [if_neg z]; exact hf j (by omega)
      · rw [tailE_succ, et]
        show EdL _ D (tailE f1 low i ++ [((if i = i then d else f1 i), low + i)])
        rw [if_pos rfl]
        exact edl_snoc h2 h3' hr4 (s4 _ _ hD3)
    · rintro H2 ⟨f1, s1, kp, M, hs1, hf, hD⟩
      exact q H2 D f1 s1 kp nD hf hD (by omega) M
/-! ### top -/
def spTop : Sp := fun vs H Q _ => ∃ (a : Addr) (es : List Ed), vs = [.ref a] ∧ EdL H a es ∧ es.length ≤ 1000 ∧ ∀ H', Same H H' → Q (.int ((topOf es : Nat) : Int)) H'
theorem scTop : FnScope ["_law_ties_here", "_law_one", "_law_far"] ["_law_ties_here"] (defScope sTop) := ⟨rfl, rfl, rfl, by decide +kernel, rfl, by decide +kernel, by decide +kernel⟩
theorem cal_top (T : Txt mg) (D : Df K mg "_law_top" sTop ["_law_ties_here"]) : Cal P w K mg base "_law_top" 1 spTop := by
  have nd := scTop.nd
  refine cal_of D scTop (fun vs H Q E h => ?_) (fun f cdv A outer s0 H vs Q E hr h => ?_)
  · obtain ⟨a, es, rfl, _⟩ := h
    rfl
  · obtain ⟨a, es, rfl, ⟨ks, hk1, hk2, hk3⟩, hl, q⟩ := h
    have kl := ed_len hk2
    refine ⟨_, pss_one (ps_ret (pe_op op_add (pe_callB (cr_max rfl) (by rfl) T.max (by decide +kernel) (pa_cons (pe_op op_cat (pe_lst (pa_cons pe_int pa_nil))
        (pe_lc (own := [("_law_one", 1), ("_law_far", 2)]) (g := gTup K 2 (gCons (gName 1) (gCons (gName 2) gNil))) (by rfl) nd (pi_list (pv 0))
        (blkOk_by (own := [("_law_one", 1), ("_law_far", 2)]) (N := ["_law_ties_here", "_law_one", "_law_far"]) (sc := defScope sTop) (by decide +kernel)) (fun _ _ _ _ _ => pg_tup rfl (pgs_cons (pg_name (i := 1) nd rfl (.inl rfl)) (pgs_cons (pg_name (i := 2) nd rfl (.inl rfl)) pgs_nil))) (fun _ _ _ _ _ => pts_nil)
        (fun _ _ _ _ _ => pv 2))) pa_nil)) pe_int)), ?_⟩
    refine ⟨by show 1 ≤ sizeLine; decide, fun l0 n0 => ?_⟩
    have s1 := same_upd (o := .lst [V.int 0]) n0
    have hl0 : upd H l0 (.lst [V.int 0]) l0 = some (.lst [V.int 0]) := upd_same
    generalize upd H l0 (.lst [V.int 0]) = H1 at *
    refine ⟨_, rfl, a, rfl, ⟨_, sl_of (s1 _ _ hk1)⟩, fun D nD => lc_it (walk_list (xs := ks.map fun k => V.ref k.1)) (fun i H' => Same H1 H' ∧ H' D = some (.lst (NV ((es.take i).map (·.2))))) ⟨same_upd nD, upd_same⟩ (fun i H' _ ⟨sm, _⟩ => sl_of (sm _ _ (s1 _ _ hk1))) ?_ ?_⟩
    · rintro i x _ H2 hi ⟨sm, hD⟩ ⟨rfl, hx⟩
      obtain ⟨k, hk, rfl⟩ := refs_get hx
      obtain ⟨e, he, ek⟩ := ed_get hk2 hk
      have tk : Tp H2 k.1 (pl e) := by
        rw [← ek]
        exact sm _ _ (s1 _ _ (hk3 k (List.mem_of_getElem? hk)))
      refine ⟨k.1, _, rfl, sq_of tk, rfl, _, _, rfl, _, _, rfl, rfl, rfl, _, rfl, _, hD, ?_, fun b o e => ?_, ?_⟩
      · rw [NV_len, List.length_map, List.length_take]
        exact Nat.lt_of_le_of_lt (Nat.min_le_right _ _) (small1000 hl)
      · rw [upd_ne (ne_of_none e nD)]
        exact sm _ _ e
      · rw [upd_same, ← NV_snoc, List.take_add_one, he, List.map_append]
        rfl
    · rintro H2 ⟨sm, hD⟩
      rw [nv_len, kl, List.take_length] at hD
      refine ⟨l0, D, _, _, rfl, rfl, sm _ _ hl0, hD, ?_, fun l2 n2 => ?_⟩
      · rw [NV_len, List.length_map]
        exact Nat.le_of_lt (Nat.lt_of_le_of_lt (show [V.int 0].length + es.length ≤ 1001 by show 1 + es.length ≤ 1001; omega) (by decide))
      have s2 := same_upd (o := .lst ([V.int 0] ++ NV (es.map (·.2)))) n2
      have e1 : [V.int 0] ++ NV (es.map (·.2)) = (NI (0 :: es.map (·.2))).map V.int := by
        rw [← NV_NI]
        rfl
      refine ⟨l2, NI (0 :: es.map (·.2)), rfl, sl_of (by rw [← e1]; exact upd_same), by rw [NI_len]; exact Nat.succ_pos _, fun mx hm1 hm2 => ?_⟩
      obtain ⟨z, hz, rfl⟩ := mem_NI hm1
      have ez : z + 1 = topOf es := by
        unfold topOf
        have ge : (es.map (·.2)).foldl max 0 ≤ z := fold_max_le _ _ _ (Nat.zero_le _) fun y hy => by
          have := hm2 ((y : Nat) : Int) (List.mem_map.mpr ⟨y, List.mem_cons_of_mem _ hy, rfl⟩)
          omega
        have le : z ≤ (es.map (·.2)).foldl max 0 := by
          rcases List.mem_cons.mp hz with e | m
          · omega
          · exact fold_max_mem _ _ _ m
        omega
      refine ⟨_, _, rfl, rfl, ?_⟩
      have e2 : (z : Int) + 1 = ((topOf es : Nat) : Int) := by omega
      show Q (V.int ((z : Int) + 1)) _
      rw [e2]
      exact q _ ((s1.trans sm).trans s2)
end
end Hw

namespace Hw
open PySem PySem.Spec PyProof.Rows L2
theorem rgV_at (low : Nat) (k : Nat) : rgV (low : Int) ((low : Int) + (k : Int)) = NV ((List.range k).map fun i => low + i) := by
  unfold rgV NV
  rw [show ((low : Int) + (k : Int) - (low : Int)).toNat = k by omega, List.map_map]
  refine List.map_congr_left fun i _ => ?_
  show V.int ((low : Int) + (i : Int)) = V.int ((low + i : Nat) : Int)
  congr 1
theorem nm_get {low hinge x k : Nat} (h : x < k + 1) : (hinge :: (List.range k).map fun i => low + i)[x]? = some (nmF low hinge x) := by
  unfold nmF
  cases x with
  | zero => rfl
  | succ y =>
    rw [List.getElem?_cons_succ, List.getElem?_map, List.getElem?_range (by omega), if_neg (by omega)]
    show some (low + y) = some (low + (y + 1) - 1)
    congr 1
section
variable {P : Program} {w : World} {K : PySem.W.Frag} {mg : Str → Option Value} {base : Heap}
def spShifted : Sp := fun vs H Q _ => ∃ (a : Addr) (c : List Ed) (low hinge : Nat), vs = [.ref a, .int (low : Int), .int (hinge : Int)] ∧ EdL H a c ∧ VE 21 c ∧ c.length ≤ 100 ∧ low ≤ 1000 ∧ ∀ H' r, Same H H' → H r = none → EdL H' r (shiftE low hinge c) → Q (.ref r) H'
abbrev nSh : List Str := ["_law_ties_here", "_law_low", "_law_hinge", "_law_names", "_law_one", "_law_far"]
theorem scShifted : FnScope nSh ["_law_ties_here", "_law_low", "_law_hinge"] (defScope sShifted) := ⟨rfl, rfl, rfl, by decide +kernel, rfl, by decide +kernel, by decide +kernel⟩
theorem cal_shifted (T : Txt mg) (GT : Cal P w K mg base "_law_tie" 1 spTie) (D : Df K mg "_law_shifted" sShifted ["_law_ties_here", "_law_low", "_law_hinge"]) : Cal P w K mg base "_law_shifted" 2 spShifted := by
  have nd := scShifted.nd
  refine cal_of D scShifted (fun vs H Q E h => ?_) (fun f cdv A outer s0 H vs Q E hr h => ?_)
  · obtain ⟨a, c, low, hinge, rfl, _⟩ := h
    rfl
  · obtain ⟨a, c, low, hinge, rfl, hc, ve, hl, hlow, q⟩ := h
    refine ⟨_, pss_cons (ps_set (i := 3) nd rfl (.inr rfl) (pe_op op_cat (pe_lst (pa_cons (pv 2) pa_nil)) (pe_listRg (by rfl) (by rfl) T.list (prg_2 (by rfl) T.range (pv 1) (pe_op op_add (pv 1) pe_int)))))
      <| pss_one (ps_ret (pe_lc (own := [("_law_one", 4), ("_law_far", 5)]) (g := gTup K 2 (gCons (gName 4) (gCons (gName 5) gNil))) (by rfl) nd (pi_list (pv 0))
        (blkOk_by (own := [("_law_one", 4), ("_law_far", 5)]) (N := nSh) (sc := defScope sShifted) (by decide +kernel)) (fun _ _ _ _ _ => pg_tup rfl (pgs_cons (pg_name (i := 4) nd rfl (.inl rfl)) (pgs_cons (pg_name (i := 5) nd rfl (.inl rfl)) pgs_nil))) (fun _ _ _ _ _ => pts_nil)
        (fun _ _ _ _ _ => pe_cl GT (by exact hr) (by rfl) (pa_cons (pe_ix (r := rIxL K) ix_list (pv 3) (pv 4) (fun _ _ => rfl)) (pa_cons (pe_ix (r := rIxL K) ix_list (pv 3) (pv 5) (fun _ _ => rfl)) pa_nil))))), ?_⟩
    refine ⟨_, rfl, by show 1 ≤ sizeLine; decide, fun l0 n0 => ?_⟩
    have s1 := same_upd (o := .lst [V.int (hinge : Int)]) n0
    have hl0 : upd H l0 (.lst [V.int (hinge : Int)]) l0 = some (.lst [V.int (hinge : Int)]) := upd_same
    generalize upd H l0 (.lst [V.int (hinge : Int)]) = H1 at *
    refine ⟨_, rfl, _, rfl, _, _, rfl, rfl, _, _, rfl, rfl, ?_, fun l1 n1 => ?_⟩
    · exact RgOk.of_le (by omega) (by omega) (by omega) (by omega)
    have er : rgV (low : Int) ((low : Int) + 20) = NV ((List.range 20).map fun i => low + i) := rgV_at low 20
    have s2 := s1.trans (same_upd (o := .lst (rgV (low : Int) ((low : Int) + 20))) n1)
    have hl0' := same_upd (o := .lst (rgV (low : Int) ((low : Int) + 20))) n1 _ _ hl0
    have hl1 : upd H1 l1 (.lst (rgV (low : Int) ((low : Int) + 20))) l1 = some (.lst (rgV (low : Int) ((low : Int) + 20))) := upd_same
    generalize upd H1 l1 (.lst (rgV (low : Int) ((low : Int) + 20))) = H2 at *
    rw [er] at hl1
    refine ⟨l0, l1, _, _, rfl, rfl, hl0', hl1, ?_, fun l2 n2 => ?_⟩
    · rw [NV_len, List.length_map, List.length_range]
      show 1 + 20 ≤ sizeLine
      decide
    have en : [V.int (hinge : Int)] ++ NV ((List.range 20).map fun i => low + i) = NV (hinge :: (List.range 20).map fun i => low + i) := rfl
    rw [en]
    have s3 := s2.trans (same_upd (o := .lst (NV (hinge :: (List.range 20).map fun i => low + i))) n2)
    have hl2 : upd H2 l2 (.lst (NV (hinge :: (List.range 20).map fun i => low + i))) l2 = some (.lst (NV (hinge :: (List.range 20).map fun i => low + i))) := upd_same
    generalize upd H2 l2 (.lst (NV (hinge :: (List.range 20).map fun i => low + i))) = H3 at *
    obtain ⟨ks, k1, k2, k3⟩ := hc.same s3
    have kl := ed_len k2
    refine ⟨_, rfl, a, rfl, ⟨_, sl_of k1⟩, fun D nD => lc_it (walk_list (xs := ks.map fun k => V.ref k.1)) (fun i H' => Same H3 H' ∧ EdL H' D ((shiftE low hinge c).take i)) ⟨same_upd nD, [], upd_same, rfl, fun k hk => nomatch hk⟩ (fun i H' _ ⟨sm, _⟩ => sl_of (sm _ _ k1)) ?_ ?_⟩
    · rintro i x _ H4 hi ⟨sm, kd, hD, h2, h3⟩ ⟨rfl, hx⟩
      obtain ⟨k, hk, rfl⟩ := refs_get hx
      obtain ⟨e, he, ek⟩ := ed_get k2 hk
      have tk : Tp H4 k.1 (pl e) := by
        rw [← ek]
        exact sm _ _ (k3 k (List.mem_of_getElem? hk))
      have eb := ve e (List.mem_of_getElem? he)
      have hn2 := sm _ _ hl2
      refine ⟨k.1, _, rfl, sq_of tk, rfl, _, _, rfl, _, _, rfl, rfl, rfl, ?_⟩
      refine ⟨_, rfl, _, rfl, l2, _, _, _, rfl, rfl, sl_of hn2, atI_nat (NV_get (nm_get (k := 20) (by omega))), _, rfl, _, rfl, l2, _, _, _, rfl, rfl, sl_of hn2, atI_nat (NV_get (nm_get (k := 20) (by omega))), ?_⟩
      refine ⟨_, _, rfl, fun H5 r s5 nr hr5 => ?_⟩
      have e2 : (shiftE low hinge c).take (i + 1) = (shiftE low hinge c).take i ++ [tieF (nmF low hinge e.1) (nmF low hinge e.2)] := by
        unfold shiftE
        rw [List.take_add_one, List.getElem?_map, he]
        rfl
      refine ⟨_, s5 _ _ hD, ?_, fun b o eb2 => ?_, ?_⟩
      · rw [nv_len, ed_len h2, List.length_take]
        unfold shiftE
        rw [List.length_map]
        exact Nat.lt_of_le_of_lt (Nat.min_le_right _ _) (small1000 (by omega))
      · rw [upd_ne (ne_of_none eb2 nD)]
        exact s5 _ _ (sm _ _ eb2)
      · rw [e2]
        exact edl_snoc h2 (fun k hk => s5 _ _ (h3 k hk)) hr5 (s5 _ _ hD)
    · rintro H4 ⟨sm, hD⟩
      rw [nv_len, kl] at hD
      have e : (shiftE low hinge c).take c.length = shiftE low hinge c := List.take_of_length_le (by unfold shiftE; rw [List.length_map]; exact Nat.le_refl _)
      rw [e] at hD
      exact q _ D (s3.trans sm) (s3.free nD) hD
/-! ### core -/
def spCore : Sp := fun vs H Q _ => ∃ (m lg lc : Addr) (s : Nat), vs = [.ref m] ∧ MOk H m lg lc s ∧ s ≤ 90000 ∧ ∀ H' r c s', c ∈ coreMenu → Kp m lg H H' → H r = none → EdL H' r c → s' ≤ s + 3 → MOk H' m lg lc s' → Q (.ref r) H'
theorem scCore : FnScope ["_law_m", "_law_way", "_law_many"] ["_law_m"] (defScope sCore) := ⟨rfl, rfl, rfl, by decide +kernel, rfl, by decide +kernel, by decide +kernel⟩
theorem menu_0 {d : Nat} (h : d < 5) : ringE (List.range (1 + d)) ∈ coreMenu := by
  have : ∀ d, d < 5 → ringE (List.range (1 + d)) ∈ coreMenu := by decide +kernel
  exact this d h
theorem menu_1 {d e : Nat} (h : d < 3) (h2 : e < 3) : ringE (List.range (1 + d)) ++ ringE (0 :: (List.range e).map (fun i => 1 + d + i)) ∈ coreMenu := by
  have : ∀ d, d < 3 → ∀ e, e < 3 → ringE (List.range (1 + d)) ++ ringE (0 :: (List.range e).map (fun i => 1 + d + i)) ∈ coreMenu := by decide +kernel
  exact this d h e h2
theorem menu_2 : ([(0, 1), (0, 2), (0, 3), (1, 2), (1, 3)] : List Ed) ∈ coreMenu := by decide +kernel
theorem menu_3 : ([(0, 2), (1, 2), (0, 3), (1, 3), (0, 4), (1, 4)] : List Ed) ∈ coreMenu := by decide +kernel
theorem menu_4 {d : Nat} (h : d < 3) : List.replicate (2 + d) ((0, 1) : Ed) ∈ coreMenu := by
  have : ∀ d, d < 3 → List.replicate (2 + d) ((0, 1) : Ed) ∈ coreMenu := by decide +kernel
  exact this d h
theorem menu_5 {d : Nat} (h : d < 2) : ringE (List.range (3 + d)) ++ [(0, 2)] ∈ coreMenu := by
  have : ∀ d, d < 2 → ringE (List.range (3 + d)) ++ [(0, 2)] ∈ coreMenu := by decide +kernel
  exact this d h
theorem edl_app {H : Hp} {l : Addr} {es fs : List Ed} {ks js : List (Addr × List Nat)} (a2 : ks.map (·.2) = es.map pl) (a3 : ∀ k ∈ ks, Tp H k.1 k.2) (b2 : js.map (·.2) = fs.map pl) (b3 : ∀ k ∈ js, Tp H k.1 k.2) (nl : H l = none) :
    EdL (upd H l (.lst ((ks.map fun k => V.ref k.1) ++ (js.map fun k => V.ref k.1)))) l (es ++ fs) := by
  refine ⟨ks ++ js, ?_, ?_, fun k hk => ?_⟩
  · rw [upd_same, List.map_append]
  · rw [List.map_append, List.map_append, a2, b2]
  · rcases List.mem_append.mp hk with hk | hk
    · exact tp_new (a3 k hk) nl
    · exact tp_new (b3 k hk) nl
theorem cal_core (T : Txt mg) (GD : Cal P w K mg base "_law_draw" 2 spDraw) (GR : Cal P w K mg base "_law_ring" 2 (spRing K)) (D : Df K mg "_law_core" sCore ["_law_m"]) : Cal P w K mg base "_law_core" 3 spCore := by
  have nd := scCore.nd
  refine cal_of D scCore (fun vs H Q E h => ?_) (fun f cdv A outer s0 H vs Q E hr h => ?_)
  · obtain ⟨m, lg, lc, s, rfl, _⟩ := h
    rfl
  · obtain ⟨m, lg, lc, s, rfl, M0, hs, q⟩ := h
    refine ⟨_, pss_cons (ps_set (i := 1) nd rfl (.inl rfl) (pe_cl GD hr (by rfl) (pa_cons (pv 0) (pa_cons pe_int pa_nil))))
      <| pss_cons (ps_if (pt_cmpR op_eq (pv 1) pe_int (nomark _)) (pss_one (ps_ret (pe_cl GR hr (by rfl) (pa_cons (pe_listRg (by rfl) (by rfl) T.list (prg_1 (by rfl) T.range (pe_op op_add pe_int (pe_cl GD hr (by rfl) (pa_cons (pv 0) (pa_cons pe_int pa_nil)))))) pa_nil)))) pss_nil)
      <| pss_cons (ps_if (pt_cmpR op_eq (pv 1) pe_int (nomark _)) (pss_cons (ps_set (i := 2) nd rfl (.inl rfl) (pe_op op_add pe_int (pe_cl GD hr (by rfl) (pa_cons (pv 0) (pa_cons pe_int pa_nil)))))
          <| pss_one (ps_ret (pe_op op_cat (pe_cl GR hr (by rfl) (pa_cons (pe_listRg (by rfl) (by rfl) T.list (prg_1 (by rfl) T.range (pv 2))) pa_nil))
              (pe_cl GR hr (by rfl) (pa_cons (pe_op op_cat (pe_lst (pa_cons pe_int pa_nil)) (pe_listRg (by rfl) (by rfl) T.list (prg_2 (by rfl) T.range (pv 2) (pe_op op_add (pv 2) (pe_cl GD hr (by rfl) (pa_cons (pv 0) (pa_cons pe_int pa_nil))))))) pa_nil))))) pss_nil)
      <| pss_cons (ps_if (pt_cmpR op_eq (pv 1) pe_int (nomark _)) (pss_one (ps_ret (pe_lst (pa_cons (pe_tup (pa_cons pe_int (pa_cons pe_int pa_nil))) (pa_cons (pe_tup (pa_cons pe_int (pa_cons pe_int pa_nil))) (pa_cons (pe_tup (pa_cons pe_int (pa_cons pe_int pa_nil)))
          (pa_cons (pe_tup (pa_cons pe_int (pa_cons pe_int pa_nil))) (pa_cons (pe_tup (pa_cons pe_int (pa_cons pe_int pa_nil))) pa_nil)))))))) pss_nil)
      <| pss_cons (ps_if (pt_cmpR op_eq (pv 1) pe_int (nomark _)) (pss_one (ps_ret (pe_lst (pa_cons (pe_tup (pa_cons pe_int (pa_cons pe_int pa_nil))) (pa_cons (pe_tup (pa_cons pe_int (pa_cons pe_int pa_nil))) (pa_cons (pe_tup (pa_cons pe_int (pa_cons pe_int pa_nil)))
          (pa_cons (pe_tup (pa_cons pe_int (pa_cons pe_int pa_nil))) (pa_cons (pe_tup (pa_cons pe_int (pa_cons pe_int pa_nil))) (pa_cons (pe_tup (pa_cons pe_int (pa_cons pe_int pa_nil))) pa_nil))))))))) pss_nil)
      <| pss_cons (ps_if (pt_cmpR op_eq (pv 1) pe_int (nomark _)) (pss_one (ps_ret (pe_op op_rep (pe_lst (pa_cons (pe_tup (pa_cons pe_int (pa_cons pe_int pa_nil))) pa_nil)) (pe_op op_add pe_int (pe_cl GD hr (by rfl) (pa_cons (pv 0) (pa_cons pe_int pa_nil))))))) pss_nil)
      <| pss_one (ps_ret (pe_op op_cat (pe_cl GR hr (by rfl) (pa_cons (pe_listRg (by rfl) (by rfl) T.list (prg_1 (by rfl) T.range (pe_op op_add pe_int (pe_cl GD hr (by rfl) (pa_cons (pv 0) (pa_cons pe_int pa_nil)))))) pa_nil)) (pe_lst (pa_cons (pe_tup (pa_cons pe_int (pa_cons pe_int pa_nil))) pa_nil)))), ?_⟩
    refine ⟨_, rfl, m, lg, lc, s, 6, rfl, M0, by omega, by omega, by omega, fun H1 w0 hw kp1 M1 => ?_⟩
    have two : 2 ≤ sizeLine := by decide
    refine ⟨_, rfl, rfl, _, rfl, ite2 (fun _ => ?_) (fun _ => ?_)⟩
    · -- a ring
      refine ⟨_, rfl, m, lg, lc, s + 1, 5, rfl, M1, by omega, by omega, by omega, fun H2 d hd kp2 M2 => ?_⟩
      refine ⟨_, _, rfl, rfl, _, rfl, RgOk.of_le (by omega) (by omega) (by omega) (by omega), fun l nl => ?_⟩
      have er : rgV 0 (1 + (d : Int)) = NV (List.range (1 + d)) := by
        rw [← NV_range]
        congr 1
      rw [er]
      have s3 := same_upd (o := .lst (NV (List.range (1 + d)))) nl
      refine ⟨l, List.range (1 + d), rfl, upd_same, by rw [List.length_range]; omega, fun H4 r s4 nr hr4 => ?_⟩
      have sm := s3.trans s4
      exact q H4 r _ (s + 2) (menu_0 hd) ((kp1.trans kp2).trans (Kp.same sm)) ((kp1.trans kp2).free M2 (s3.free nr)) hr4 (by omega) (M2.same sm)
    refine ⟨_, rfl, rfl, _, rfl, ite2 (fun _ => ?_) (fun _ => ?_)⟩
    · -- two rings
      refine ⟨_, rfl, m, lg, lc, s + 1, 3, rfl, M1, by omega, by omega, by omega, fun H2 d hd kp2 M2 => ?_⟩
      refine ⟨_, _, rfl, rfl, ?_⟩
      have e1 : (1 : Int) + (d : Int) = ((1 + d : Nat) : Int) := by omega
      dsimp only
      rw [e1]
      refine ⟨_, rfl, _, rfl, RgOk.of_le (by omega) (by omega) (by omega) (by omega), fun l nl => ?_⟩
      rw [NV_range]
      have s3 := same_upd (o := .lst (NV (List.range (1 + d)))) nl
      refine ⟨l, List.range (1 + d), rfl, upd_same, by rw [List.length_range]; omega, fun H4 r1 s4 nr1 hr1 => ?_⟩
      have s34 := s3.trans s4
      have M4 := M2.same s34
      have n1 := s3.free nr1
      have ar1 := M2.new n1
      refine ⟨by show 1 ≤ sizeLine; decide, fun l0 n0 => ?_⟩
      have s5 := same_upd (o := .lst [V.int 0]) n0
      have hl0 : upd H4 l0 (.lst [V.int 0]) l0 = some (.lst [V.int 0]) := upd_same
      have M5 := M4.same s5
      have al0 := M4.new n0
      have hr5 := hr1.same s5
      generalize upd H4 l0 (.lst [V.int 0]) = H5 at *
      refine ⟨_, rfl, _, rfl, _, rfl, m, lg, lc, s + 2, 3, rfl, M5, by omega, by omega, by omega, fun H6 e he kp6 M6 => ?_⟩
      have hl6 := kp6.lst M5 al0.1 hl0
      have hr6 := hr5.kp kp6 M5 ar1.1
      refine ⟨_, _, rfl, rfl, _, _, rfl, rfl, RgOk.of_le (by omega) (by omega) (by omega) (by omega), fun l2 n2 => ?_⟩
      rw [rgV_at]
      have s7 := same_upd (o := .lst (NV ((List.range e).map fun i => 1 + d + i))) n2
      have hl0' := s7 _ _ hl6
      have hl2 : upd H6 l2 (.lst (NV ((List.range e).map fun i => 1 + d + i))) l2 = some (.lst (NV ((List.range e).map fun i => 1 + d + i))) := upd_same
      have hr7 := hr6.same s7
      have M7 := M6.same s7
      generalize upd H6 l2 (.lst (NV ((List.range e).map fun i => 1 + d + i))) = H7 at *
      refine ⟨l0, l2, _, _, rfl, rfl, hl0', hl2, ?_, fun l3 n3 => ?_⟩
      · rw [NV_len, List.length_map, List.length_range]
        show 1 + e ≤ sizeLine
        exact Nat.le_of_lt (small1000 (by omega))
      have en : [V.int 0] ++ NV ((List.range e).map fun i => 1 + d + i) = NV (0 :: (List.range e).map fun i => 1 + d + i) := rfl
      rw [en]
      have s8 := same_upd (o := .lst (NV (0 :: (List.range e).map fun i => 1 + d + i))) n3
      refine ⟨l3, _, rfl, upd_same, ?_, fun H9 r2 s9 nr2 hr2 => ?_⟩
      · rw [List.length_cons, List.length_map, List.length_range]
        omega
      obtain ⟨ks, k1, k2, k3⟩ := (hr7.same s8).same s9
      obtain ⟨js, j1, j2, j3⟩ := hr2
      refine ⟨r1, r2, _, _, rfl, rfl, k1, j1, ?_, fun l4 n4 => ?_⟩
      · rw [nv_len, nv_len, ed_len k2, ed_len j2]
        unfold ringE
        rw [List.length_map, List.length_map, List.length_range, List.length_range, List.length_range, List.length_cons, List.length_map, List.length_range]
        exact Nat.le_of_lt (small1000 (by omega))
      have s10 := same_upd (o := .lst ((ks.map fun k => V.ref k.1) ++ (js.map fun k => V.ref k.1))) n4
      have sall := (s8.trans s9).trans s10
      have kp := (((kp1.trans kp2).trans (Kp.same (s34.trans s5))).trans kp6).trans (Kp.same (s7.trans sall))
      have Mz := M7.same sall
      exact q _ l4 _ (s + 3) (menu_1 hd he) kp ((((kp1.trans kp2).trans (Kp.same (s34.trans s5))).trans kp6).free M6 (s7.free ((s8.trans s9).free n4))) (edl_app k2 k3 j2 j3 n4) (by omega) Mz
    refine ⟨_, rfl, rfl, _, rfl, ite2 (fun _ => ?_) (fun _ => ?_)⟩
    · refine ⟨two, fun t1 x1 => ⟨two, fun t2 x2 => ⟨two, fun t3 x3 => ⟨two, fun t4 x4 => ⟨two, fun t5 x5 => ⟨by show 5 ≤ sizeLine; decide, fun l nl => ?_⟩⟩⟩⟩⟩⟩
      have y5 := (same_upd (o := .tup [V.int 1, V.int 3]) x5).trans (same_upd (o := .lst [V.ref t1, V.ref t2, V.ref t3, V.ref t4, V.ref t5]) nl)
      have y4 := (same_upd (o := .tup [V.int 1, V.int 2]) x4).trans y5
      have y3 := (same_upd (o := .tup [V.int 0, V.int 3]) x3).trans y4
      have y2 := (same_upd (o := .tup [V.int 0, V.int 2]) x2).trans y3
      have y1 := (same_upd (o := .tup [V.int 0, V.int 1]) x1).trans y2
      refine q _ l _ (s + 1) menu_2 (kp1.trans (Kp.same y1)) (kp1.free M1 ((same_upd x1).free ((same_upd x2).free ((same_upd x3).free ((same_upd x4).free ((same_upd x5).free nl)))))) ⟨[(t1, [0, 1]), (t2, [0, 2]), (t3, [0, 3]), (t4, [1, 2]), (t5, [1, 3])], upd_same, rfl, ?_⟩ (by omega) (M1.same y1)
      intro k hk
      simp only [List.mem_cons, List.not_mem_nil, or_false] at hk
      rcases hk with rfl | rfl | rfl | rfl | rfl
      · exact y2 _ _ upd_same
      · exact y3 _ _ upd_same
      · exact y4 _ _ upd_same
      · exact y5 _ _ upd_same
      · exact same_upd nl _ _ upd_same
    refine ⟨_, rfl, rfl, _, rfl, ite2 (fun _ => ?_) (fun _ => ?_)⟩
    · refine ⟨two, fun t1 x1 => ⟨two, fun t2 x2 => ⟨two, fun t3 x3 => ⟨two, fun t4 x4 => ⟨two, fun t5 x5 => ⟨two, fun t6 x6 => ⟨by show 6 ≤ sizeLine; decide, fun l nl => ?_⟩⟩⟩⟩⟩⟩⟩
      have y6 := (same_upd (o := .tup [V.int 1, V.int 4]) x6).trans (same_upd (o := .lst [V.ref t1, V.ref t2, V.ref t3, V.ref t4, V.ref t5, V.ref t6]) nl)
      have y5 := (same_upd (o := .tup [V.int 0, V.int 4]) x5).trans y6
      have y4 := (same_upd (o := .tup [V.int 1, V.int 3]) x4).trans y5
      have y3 := (same_upd (o := .tup [V.int 0, V.int 3]) x3).trans y4
      have y2 := (same_upd (o := .tup [V.int 1, V.int 2]) x2).trans y3
      have y1 := (same_upd (o := .tup [V.int 0, V.int 2]) x1).trans y2
      refine q _ l _ (s + 1) menu_3 (kp1.trans (Kp.same y1)) (kp1.free M1 ((same_upd x1).free ((same_upd x2).free ((same_upd x3).free ((same_upd x4).free ((same_upd x5).free ((same_upd x6).free nl))))))) ⟨[(t1, [0, 2]), (t2, [1, 2]), (t3, [0, 3]), (t4, [1, 3]), (t5, [0, 4]), (t6, [1, 4])], upd_same, rfl, ?_⟩ (by omega) (M1.same y1)
      intro k hk
      simp only [List.mem_cons, List.not_mem_nil, or_false] at hk
      rcases hk with rfl | rfl | rfl | rfl | rfl | rfl
      · exact y2 _ _ upd_same
      · exact y3 _ _ upd_same
      · exact y4 _ _ upd_same
      · exact y5 _ _ upd_same
      · exact y6 _ _ upd_same
      · exact same_upd nl _ _ upd_same
    refine ⟨_, rfl, rfl, _, rfl, ite2 (fun _ => ?_) (fun _ => ?_)⟩
    · refine ⟨two, fun t1 x1 => ⟨by show 1 ≤ sizeLine; decide, fun l1 n1 => ?_⟩⟩
      have y1 := same_upd (o := .tup [V.int 0, V.int 1]) x1
      have y2 := same_upd (o := .lst [V.ref t1]) n1
      have ht2 : Tp (upd (upd H1 t1 (.tup [V.int 0, V.int 1])) l1 (.lst [V.ref t1])) t1 [0, 1] := y2 _ _ upd_same
      have hl2 : upd (upd H1 t1 (.tup [V.int 0, V.int 1])) l1 (.lst [V.ref t1]) l1 = some (.lst [V.ref t1]) := upd_same
      have y12 := y1.trans y2
      have fr1 : ∀ {z}, upd (upd H1 t1 (.tup [V.int 0, V.int 1])) l1 (.lst [V.ref t1]) z = none → H1 z = none := fun h => y12.free h
      have M2 := M1.same y12
      have al1 := M1.new (y1.free n1)
      generalize upd (upd H1 t1 (.tup [V.int 0, V.int 1])) l1 (.lst [V.ref t1]) = H2 at *
      refine ⟨_, rfl, m, lg, lc, s + 1, 3, rfl, M2, by omega, by omega, by omega, fun H3 d hd kp3 M3 => ?_⟩
      have ht3 : Tp H3 t1 [0, 1] := kp3.tup M2 ht2
      have hl3 := kp3.lst M2 al1.1 hl2
      have kpA := (kp1.trans (Kp.same y12)).trans kp3
      refine ⟨_, _, rfl, rfl, l1, _, _, rfl, rfl, hl3, by omega, by omega, ?_, fun l2 n2 => ?_⟩
      · show 1 * _ ≤ _
        exact Nat.le_of_lt (small1000 (by omega))
      have ef : (List.replicate (Int.toNat (2 + (d : Int))) [V.ref t1]).flatten = (List.replicate (2 + d) (t1, [0, 1])).map fun k : Addr × List Nat => V.ref k.1 := by
        rw [List.flatten_replicate_singleton, List.map_replicate]
        congr 1
      rw [ef]
      have y3 := same_upd (o := .lst ((List.replicate (2 + d) (t1, [0, 1])).map fun k : Addr × List Nat => V.ref k.1)) n2
      refine q _ l2 _ (s + 2) (menu_4 hd) (kpA.trans (Kp.same y3)) (kpA.free M3 n2) ⟨List.replicate (2 + d) (t1, [0, 1]), upd_same, by rw [List.map_replicate, List.map_replicate]; rfl, fun k hk => ?_⟩ (by omega) (M3.same y3)
      rw [List.eq_of_mem_replicate hk]
      exact y3 _ _ ht3
    · refine ⟨_, rfl, m, lg, lc, s + 1, 2, rfl, M1, by omega, by omega, by omega, fun H2 d hd kp2 M2 => ?_⟩
      refine ⟨_, _, rfl, rfl, _, rfl, RgOk.of_le (by omega) (by omega) (by omega) (by omega), fun l nl => ?_⟩
      have er : rgV 0 (3 + (d : Int)) = NV (List.range (3 + d)) := by
        rw [← NV_range]
        congr 1
      rw [er]
      have s3 := same_upd (o := .lst (NV (List.range (3 + d)))) nl
      refine ⟨l, List.range (3 + d), rfl, upd_same, by rw [List.length_range]; omega, fun H4 r s4 nr hr4 => ?_⟩
      have s34 := s3.trans s4
      refine ⟨two, fun t1 x1 => ⟨by show 1 ≤ sizeLine; decide, fun l1 n1 => ?_⟩⟩
      have y1 := same_upd (o := .tup [V.int 0, V.int 2]) x1
      have y2 := same_upd (o := .lst [V.ref t1]) n1
      have y12 := y1.trans y2
      have hl5 : upd (upd H4 t1 (.tup [V.int 0, V.int 2])) l1 (.lst [V.ref t1]) l1 = some (.lst ([(t1, [0, 2])].map fun k : Addr × List Nat => V.ref k.1)) := upd_same
      have ht5 : ∀ k ∈ ([(t1, [0, 2])] : List (Addr × List Nat)), Tp (upd (upd H4 t1 (.tup [V.int 0, V.int 2])) l1 (.lst [V.ref t1])) k.1 k.2 := fun k hk => by
        rw [List.mem_singleton.mp hk]
        exact y2 _ _ upd_same
      obtain ⟨ks, k1, k2, k3⟩ := hr4.same y12
      generalize upd (upd H4 t1 (.tup [V.int 0, V.int 2])) l1 (.lst [V.ref t1]) = H5 at *
      refine ⟨r, l1, _, _, rfl, rfl, k1, hl5, ?_, fun l2 n2 => ?_⟩
      · rw [nv_len, ed_len k2]
        unfold ringE
        rw [List.length_map, List.length_range, List.length_range]
        exact Nat.le_of_lt (small1000 (show 3 + d + 1 ≤ 1000 by omega))
      have y3 := same_upd (o := .lst ((ks.map fun k => V.ref k.1) ++ ([(t1, [0, 2])].map fun k : Addr × List Nat => V.ref k.1))) n2
      have sall := (s34.trans y12).trans y3
      exact q _ l2 _ (s + 2) (menu_5 hd) ((kp1.trans kp2).trans (Kp.same sall)) ((kp1.trans kp2).free M2 ((s34.trans y12).free n2)) (edl_app k2 k3 (fs := [(0, 2)]) (js := [(t1, [0, 2])]) rfl ht5 n2) (by omega) (M2.same sall)
end
end Hw

namespace Hw
open PySem PySem.Spec PyProof.Rows L2
theorem perm_map_inv {α β : Type} (f : α → β) {xs ys : List β} (h : ys.Perm xs) : ∀ ks : List α, xs = ks.map f → ∃ js : List α, js.Perm ks ∧ ys = js.map f := by
  induction h with
  | nil => intro ks e; exact ⟨ks, .refl _, e⟩
  | @cons x l1 l2 _ ih =>
    intro ks e
    cases ks with
    | nil => cases e
    | cons k ks =>
      injection e with e1 e2
      obtain ⟨js, h1, h2⟩ := ih ks e2
      exact ⟨k :: js, h1.cons k, by rw [e1, h2]; rfl⟩
  | swap x y l =>
    intro ks e
    match ks, e with
    | a :: b :: ks, e =>
      injection e with e1 e2
      injection e2 with e2 e3
      exact ⟨b :: a :: ks, .swap _ _ _, by rw [e1, e2, e3]; rfl⟩
  | trans _ _ ih1 ih2 =>
    intro ks e
    obtain ⟨js, h1, h2⟩ := ih2 ks e
    obtain ⟨is, h3, h4⟩ := ih1 js h2
    exact ⟨is, h3.trans h1, h4⟩
theorem isP_of_perm {p : List Nat} {n : Nat} (h : p.Perm (List.range n)) : IsP p ∧ p.length = n := by
  have hl : p.length = n := by rw [h.length_eq, List.length_range]
  refine ⟨⟨h.nodup_iff.mpr List.nodup_range, fun x hx => ?_⟩, hl⟩
  rw [hl]
  exact List.mem_range.mp (h.mem_iff.mp hx)
section
variable {P : Program} {w : World} {K : PySem.W.Frag} {mg : Str → Option Value} {base : Heap}
def spRenamed : Sp := fun vs H Q _ => ∃ (m lg lc a : Addr) (s n : Nat) (es : List Ed), vs = [.ref m, .int (n : Int), .ref a] ∧ MOk H m lg lc s ∧ EdL H a es ∧ a ≠ lg ∧ VE n es ∧ n ≤ 100 ∧ es.length ≤ 100 ∧ s ≤ 90000 ∧
  ∀ H' t p fs, IsP p → p.length = n → fs.Perm (renE p es) → Kp m lg H H' → H t = none → EdT H' t fs → MOk H' m lg lc (s + n + es.length) → Q (.ref t) H'
abbrev nRen : List Str := ["_law_m", "_law_many", "_law_ties_here", "_law_names", "_law_one", "_law_far"]
theorem scRenamed : FnScope nRen ["_law_m", "_law_many", "_law_ties_here"] (defScope sRenamed) := ⟨rfl, rfl, rfl, by decide +kernel, rfl, by decide +kernel, by decide +kernel⟩
theorem cal_renamed (T : Txt mg) (GT : Cal P w K mg base "_law_tie" 1 spTie) (GM : Cal P w K mg base "_law_mixed_up" 3 (spMixedUp K)) (D : Df K mg "_law_renamed" sRenamed ["_law_m", "_law_many", "_law_ties_here"]) : Cal P w K mg base "_law_renamed" 4 spRenamed := by
  have nd := scRenamed.nd
  refine cal_of D scRenamed (fun vs H Q E h => ?_) (fun f cdv A outer s0 H vs Q E hr h => ?_)
  · obtain ⟨m, lg, lc, a, s, n, es, rfl, _⟩ := h
    rfl
  · obtain ⟨m, lg, lc, a, s, n, es, rfl, M0, hc, ha, ve, hn, hl, hs, q⟩ := h
    have hr1 := hr.mono (show 1 ≤ 3 by decide)
    refine ⟨_, pss_cons (ps_set (i := 3) nd rfl (.inr rfl) (pe_cl GM hr (by rfl) (pa_cons (pv 0) (pa_cons (pe_listRg (by rfl) (by rfl) T.list (prg_1 (by rfl) T.range (pv 1))) pa_nil))))
      <| pss_one (ps_ret (pe_callTy call_tuple_of (by rfl) T.tuple (by decide +kernel) (pa_cons (pe_cl GM hr (by rfl) (pa_cons (pv 0) (pa_cons
        (pe_lc (own := [("_law_one", 4), ("_law_far", 5)]) (g := gTup K 2 (gCons (gName 4) (gCons (gName 5) gNil))) (by rfl) nd (pi_list (pv 2))
        (blkOk_by (own := [("_law_one", 4), ("_law_far", 5)]) (N := nRen) (sc := defScope sRenamed) (by decide +kernel)) (fun _ _ _ _ _ => pg_tup rfl (pgs_cons (pg_name (i := 4) nd rfl (.inl rfl)) (pgs_cons (pg_name (i := 5) nd rfl (.inl rfl)) pgs_nil))) (fun _ _ _ _ _ => pts_nil)
        (fun _ _ _ _ _ => pe_cl GT (by exact hr1) (by rfl) (pa_cons (pe_ix (r := rIxL K) ix_list (pv 3) (pv 4) (fun _ _ => rfl)) (pa_cons (pe_ix (r := rIxL K) ix_list (pv 3) (pv 5) (fun _ _ => rfl)) pa_nil)))) pa_nil))) pa_nil))), ?_⟩
    refine ⟨_, rfl, _, rfl, _, rfl, RgOk.of_le (by omega) (by omega) (by omega) (by omega), fun l0 n0 => ?_⟩
    rw [NV_range]
    have s1 := same_upd (o := .lst (NV (List.range n))) n0
    have hl0 : upd H l0 (.lst (NV (List.range n))) l0 = some (.lst (NV (List.range n))) := upd_same
    have M1 := M0.same s1
    have hc1 := hc.same s1
    generalize upd H l0 (.lst (NV (List.range n))) = H1 at *
    refine ⟨m, lg, lc, l0, s, NV (List.range n), rfl, M1, .inl (sl_of hl0), by rw [NV_len, List.length_range]; omega, by rw [NV_len, List.length_range]; omega, fun H2 r1 ys hp kp2 nr1 hr1' M2 => ?_⟩
    rw [NV_len, List.length_range] at M2
    obtain ⟨p, rfl, pp⟩ := perm_NV hp
    obtain ⟨ip, pl'⟩ := isP_of_perm pp
    have hc2 := hc1.kp kp2 M1 ha
    obtain ⟨ks, k1, k2, k3⟩ := hc2
    have kl := ed_len k2
    refine ⟨_, rfl, _, rfl, a, rfl, ⟨_, sl_of k1⟩, fun D nD => lc_it (walk_list (xs := ks.map fun k => V.ref k.1)) (fun i H' => Same H2 H' ∧ EdL H' D ((renE p es).take i)) ⟨same_upd nD, [], upd_same, rfl, fun k hk => nomatch hk⟩ (fun i H' _ ⟨sm, _⟩ => sl_of (sm _ _ k1)) ?_ ?_⟩
    · rintro i x _ H4 hi ⟨sm, kd, hD, h2, h3⟩ ⟨rfl, hx⟩
      obtain ⟨k, hk, rfl⟩ := refs_get hx
      obtain ⟨e, he, ek⟩ := ed_get k2 hk
      have tk : Tp H4 k.1 (pl e) := by
        rw [← ek]
        exact sm _ _ (k3 k (List.mem_of_getElem? hk))
      have eb := ve e (List.mem_of_getElem? he)
      have hn2 := sm _ _ hr1'
      have g1 : p[e.1]? = some (ap p e.1) := ap_get (by omega)
      have g2 : p[e.2]? = some (ap p e.2) := ap_get (by omega)
      refine ⟨k.1, _, rfl, sq_of tk, rfl, _, _, rfl, _, _, rfl, rfl, rfl, ?_⟩
      refine ⟨_, rfl, _, rfl, r1, _, _, _, rfl, rfl, sl_of hn2, atI_nat (NV_get g1), _, rfl, _, rfl, r1, _, _, _, rfl, rfl, sl_of hn2, atI_nat (NV_get g2), ?_⟩
      refine ⟨_, _, rfl, fun H5 r s5 nr hr5 => ?_⟩
      have e2 : (renE p es).take (i + 1) = (renE p es).take i ++ [tieF (ap p e.1) (ap p e.2)] := by
        unfold renE
        rw [List.take_add_one, List.getElem?_map, he]
        rfl
      refine ⟨_, s5 _ _ hD, ?_, fun b o eb2 => ?_, ?_⟩
      · rw [nv_len, ed_len h2, List.length_take]
        unfold renE
        rw [List.length_map]
        exact Nat.lt_of_le_of_lt (Nat.min_le_right _ _) (small1000 (by omega))
      · rw [upd_ne (ne_of_none eb2 nD)]
        exact s5 _ _ (sm _ _ eb2)
      · rw [e2]
        exact edl_snoc h2 (fun k hk => s5 _ _ (h3 k hk)) hr5 (s5 _ _ hD)
    · rintro H4 ⟨sm, hD⟩
      rw [nv_len, kl] at hD
      have e : (renE p es).take es.length = renE p es := List.take_of_length_le (by unfold renE; rw [List.length_map]; exact Nat.le_refl _)
      rw [e] at hD
      obtain ⟨kd, hD, h2, h3⟩ := hD
      have M4 := M2.same sm
      have kl2 : kd.length = es.length := by
        rw [ed_len h2]
        unfold renE
        rw [List.length_map]
      refine ⟨m, lg, lc, D, s + n, kd.map (fun k => V.ref k.1), rfl, M4, .inl (sl_of hD), by rw [nv_len]; omega, by rw [nv_len]; omega, fun H5 r ys hp5 kp5 nr hr5 M5 => ?_⟩
      rw [nv_len, kl2] at M5
      obtain ⟨js, jp, rfl⟩ := perm_map_inv (fun k : Addr × List Nat => V.ref k.1) hp5 kd rfl
      obtain ⟨fs, fp, fe⟩ := perm_map_inv pl (jp.map (·.2)) (renE p es) h2
      refine ⟨r, _, rfl, .inl ⟨sl_of hr5, fun t nt => ?_⟩⟩
      have sz := same_upd (o := .tup (js.map fun k => V.ref k.1)) nt
      have kall := (((Kp.same s1).trans kp2).trans (Kp.same sm)).trans kp5
      exact q _ t p fs ip pl' fp (kall.trans (Kp.same sz)) (kall.free M5 nt) ⟨js, upd_same, fe, fun k hk => sz _ _ (kp5.tup M4 (h3 k (jp.mem_iff.mp hk)))⟩ (M5.same sz)
end
end Hw

namespace Hw
open PySem PySem.Spec PyProof.Rows L2
section
variable {P : Program} {w : World} {K : PySem.W.Frag} {mg : Str → Option Value} {base : Heap}
theorem edl_one {H : Hp} {r l : Addr} {e : Ed} (h : Tp H r (pl e)) (nl : H l = none) : EdL (upd H l (.lst [V.ref r])) l [e] :=
  ⟨[(r, pl e)], upd_same, rfl, fun k hk => by
    rw [List.mem_singleton.mp hk]
    exact same_upd nl _ _ h⟩
/-- the two lists joined -/
theorem edl_cat {H : Hp} {a b : Addr} {es fs : List Ed} (ha : EdL H a es) (hb : EdL H b fs) (le : es.length + fs.length ≤ 1000) {Q : VK}
    (q : ∀ l H', H l = none → Same H H' → EdL H' l (es ++ fs) → Q (.ref l) H') : rCat (.ref a) (.ref b) H Q := by
  obtain ⟨ks, k1, k2, k3⟩ := ha
  obtain ⟨js, j1, j2, j3⟩ := hb
  refine ⟨a, b, _, _, rfl, rfl, k1, j1, ?_, fun l nl => ?_⟩
  · rw [nv_len, nv_len, ed_len k2, ed_len j2]
    exact Nat.le_of_lt (small1000 le)
  · exact q l _ nl (same_upd nl) (edl_app k2 k3 j2 j3 nl)
/-- how a network is returned -/
theorem ties_ret {m lg lc : Addr} {H H' : Hp} {s n s' : Nat} {b : Addr} {es : List Ed} {N : L2.St → Hp → Prop} {Q : VK} {v1 v2 v3 v5 v6 v7 v8 v9 : Option V}
    (q : ∀ H' t r n es s', CN n es → n ≤ 12 → es.length ≤ 16 → Kp m lg H H' → H t = none → H r = none → H' t = some (.tup [.int (n : Int), .ref r]) → EdT H' r es → s' ≤ s + 300 → MOk H' m lg lc s' → Q (.ref t) H')
    (kp : Kp m lg H H') (M : MOk H' m lg lc s') (hs' : s' ≤ s + 200) (h8 : s ≤ 80000) (hb : EdL H' b es) (nb : b ≠ lg) (cn : CN n es) (hn : n ≤ 12) (hl : es.length ≤ 16) :
    tRet (tTup (tCons (tCal spTop (tCons (tVar 4) tNil)) (tCons (tCal spRenamed (tCons (tVar 0) (tCons (tCal spTop (tCons (tVar 4) tNil)) (tCons (tVar 4) tNil)))) tNil))) { nx := N, rt := Q }
      [some (V.ref m), v1, v2, v3, some (V.ref b), v5, v6, v7, v8, v9] H' := by
  refine ⟨_, rfl, b, es, rfl, hb, by omega, fun H3 sm3 => ?_⟩
  rw [top_eq cn]
  refine ⟨_, rfl, _, rfl, b, es, rfl, hb.same sm3, by omega, fun H4 sm4 => ?_⟩
  rw [top_eq cn]
  have sm := sm3.trans sm4
  refine ⟨_, rfl, m, lg, lc, b, s', n, es, rfl, M.same sm, hb.same sm, nb, cn.2.1, by omega, by omega, by omega, fun H5 t p fs ip pl' pf kp5 nt ht M5 => ⟨by show 2 ≤ sizeLine; decide, fun r nr => ?_⟩⟩
  have x := same_upd (o := .tup [V.int (n : Int), V.ref t]) nr
  have kall := (kp.trans (Kp.same sm)).trans kp5
  have fl : fs.length = es.length := by
    rw [pf.length_eq]
    unfold renE
    rw [List.length_map]
  have fr := kall.free M5 nr
  exact q _ r t n fs _ ((cn.ren ip pl').perm pf) hn (by omega) (kall.trans (Kp.same x)) fr ((kp.trans (Kp.same sm)).free (M.same sm) nt) upd_same (ht.same x) (by omega) (M5.same x)
def spTies : Sp := fun vs H Q _ => ∃ (m lg lc : Addr) (s cores tails more : Nat), vs = [.ref m, .int (cores : Int), .int (tails : Int), .int (more : Int)] ∧ MOk H m lg lc s ∧ s ≤ 80000 ∧ 1 ≤ cores ∧ cores ≤ 10 ∧ tails ≤ 10 ∧ more ≤ 10 ∧
  ∀ H' t r n es s', CN n es → n ≤ 12 → es.length ≤ 16 → Kp m lg H H' → H t = none → H r = none → H' t = some (.tup [.int (n : Int), .ref r]) → EdT H' r es → s' ≤ s + 300 → MOk H' m lg lc s' → Q (.ref t) H'
abbrev nTies : List Str := ["_law_m", "_law_cores", "_law_tails", "_law_more", "_law_ties_here", "_law_n", "_law_low", "_law_hinge", "_law_top_here", "_law_spot"]
theorem scTies : FnScope nTies ["_law_m", "_law_cores", "_law_tails", "_law_more"] (defScope sTies) := ⟨rfl, rfl, rfl, by decide +kernel, rfl, by decide +kernel, by decide +kernel⟩
structure TieC (P : Program) (w : World) (K : PySem.W.Frag) (mg : Str → Option Value) (base : Heap) : Prop where
  tie : Cal P w K mg base "_law_tie" 1 spTie
  draw : Cal P w K mg base "_law_draw" 2 spDraw
  top : Cal P w K mg base "_law_top" 1 spTop
  core : Cal P w K mg base "_law_core" 3 spCore
  shifted : Cal P w K mg base "_law_shifted" 2 spShifted
  tree : Cal P w K mg base "_law_tree" 3 spTree
  renamed : Cal P w K mg base "_law_renamed" 4 spRenamed
theorem cal_ties (T : Txt mg) (C : TieC P w K mg base) (D : Df K mg "_law_ties" sTies ["_law_m", "_law_cores", "_law_tails", "_law_more"]) : Cal P w K mg base "_law_ties" 5 spTies := by
  have nd := scTies.nd
  refine cal_of D scTies (fun vs H Q E h => ?_) (fun f cdv A outer s0 H vs Q E hr h => ?_)
  · obtain ⟨m, lg, lc, s, cores, tails, more, rfl, _⟩ := h
    rfl
  · obtain ⟨m, lg, lc, s, cores, tails, more, rfl, M0, hs, c1, c2, ht, hm, q⟩ := h
    have hr1 := hr.mono (show 1 ≤ 4 by decide)
    have hr2 := hr.mono (show 2 ≤ 4 by decide)
    have hr3 := hr.mono (show 3 ≤ 4 by decide)
    refine ⟨_, pss_cons (ps_set (i := 4) nd rfl (.inl rfl) (pe_cl C.core hr3 (by rfl) (pa_cons (pv 0) pa_nil)))
      <| pss_cons (ps_for PassesOwn.never rfl (pi_range1 (by rfl) T.range (pa_cons (pe_op op_sub (pv 1) pe_int) pa_nil)) (pg_name (i := 5) nd rfl (.inl rfl))
          (pss_cons (ps_par (i := 6) (j := 7) (by rfl) nd rfl rfl (by decide) rfl rfl (pa_cons (pe_cl C.top hr1 (by rfl) (pa_cons (pv 4) pa_nil)) (pa_cons (pe_cl C.draw hr2 (by rfl) (pa_cons (pv 0) (pa_cons (pe_cl C.top hr1 (by rfl) (pa_cons (pv 4) pa_nil)) pa_nil))) pa_nil)) (by rfl))
          <| pss_cons (ps_if (pt_cmpR op_gt (pe_cl C.draw hr2 (by rfl) (pa_cons (pv 0) (pa_cons pe_int pa_nil))) pe_int (nomark _))
              (pss_one (ps_par3 (i := 4) (j := 7) (l := 6) (by rfl) nd rfl rfl rfl (by decide) (by decide) (by decide) rfl rfl rfl (pa_cons (pe_op op_cat (pv 4) (pe_lst (pa_cons (pe_cl C.tie hr1 (by rfl) (pa_cons (pv 7) (pa_cons (pv 6) pa_nil))) pa_nil))) (pa_cons (pv 6) (pa_cons (pe_op op_add (pv 6) pe_int) pa_nil))) (by rfl))) pss_nil)
          <| pss_one (ps_set (i := 4) nd rfl (.inl rfl) (pe_op op_cat (pv 4) (pe_cl C.shifted hr2 (by rfl) (pa_cons (pe_cl C.core hr3 (by rfl) (pa_cons (pv 0) pa_nil)) (pa_cons (pv 6) (pa_cons (pv 7) pa_nil))))))))
      <| pss_cons (ps_set (i := 8) nd rfl (.inl rfl) (pe_cl C.top hr1 (by rfl) (pa_cons (pv 4) pa_nil)))
      <| pss_cons (ps_set (i := 4) nd rfl (.inl rfl) (pe_op op_cat (pv 4) (pe_cl C.tree hr3 (by rfl) (pa_cons (pv 0) (pa_cons (pe_op op_add (pv 8) (pv 2)) (pa_cons (pv 8) pa_nil))))))
      <| pss_cons (ps_for PassesOwn.never rfl (pi_range1 (by rfl) T.range (pa_cons (pv 3) pa_nil)) (pg_name (i := 5) nd rfl (.inl rfl))
          (pss_cons (ps_set (i := 9) nd rfl (.inl rfl) (pe_cl C.draw hr2 (by rfl) (pa_cons (pv 0) (pa_cons (pe_cl C.top hr1 (by rfl) (pa_cons (pv 4) pa_nil)) pa_nil))))
          <| pss_one (ps_set (i := 4) nd rfl (.inl rfl) (pe_op op_cat (pv 4) (pe_lst (pa_cons (pe_cl C.tie hr1 (by rfl) (pa_cons (pv 9) (pa_cons (pe_cl C.draw hr2 (by rfl) (pa_cons (pv 0) (pa_cons (pe_cl C.top hr1 (by rfl) (pa_cons (pv 4) pa_nil)) pa_nil))) pa_nil))) pa_nil))))))
      <| pss_cons (ps_if (PW.pt (pw_or (pt_cmpR op_gt (pe_cl C.top hr1 (by rfl) (pa_cons (pv 4) pa_nil)) pe_int (nomark _)) (pw_or1 (pt_cmpR op_gt (pe_callB cr_len (by rfl) T.len PySem.boot_len (pa_cons (pv 4) pa_nil)) pe_int (nomark _)))))
          (pss_one (ps_set (i := 4) nd rfl (.inl rfl) (pe_cl C.core hr3 (by rfl) (pa_cons (pv 0) pa_nil)))) pss_nil)
      <| pss_one (ps_ret (pe_tup (pa_cons (pe_cl C.top hr1 (by rfl) (pa_cons (pv 4) pa_nil)) (pa_cons (pe_cl C.renamed hr (by rfl) (pa_cons (pv 0) (pa_cons (pe_cl C.top hr1 (by rfl) (pa_cons (pv 4) pa_nil)) (pa_cons (pv 4) pa_nil)))) pa_nil)))), ?_⟩
    -- the first core
    refine ⟨_, rfl, m, lg, lc, s, rfl, M0, by omega, fun H1 b1 c s1 hc kp1 nb1 hb1 hs1 M1 => ?_⟩
    obtain ⟨cn1, ct1, cl1⟩ := menu_ok hc
    have nb1' : b1 ≠ lg := by
      obtain ⟨cs, gs, x1, x2, x3, _⟩ := M0
      exact (ne_of_none x3 nb1).symm
    have ec : (cores : Int) - 1 = ((cores - 1 : Nat) : Int) := by omega
    refine ⟨_, rfl, _, _, rfl, rfl, _, rfl, by omega, by omega, ?_⟩
    rw [ec, Int.toNat_natCast]
    refine for_it walk_rg0 (fun i σ H' => ∃ b n es s' v5 v6 v7 v8 v9, σ = [some (.ref m), some (.int (cores : Int)), some (.int (tails : Int)), some (.int (more : Int)), some (.ref b), v5, v6, v7, v8, v9] ∧ Kp m lg H H' ∧ MOk H' m lg lc s' ∧ s' ≤ s + 3 + 5 * i ∧ EdL H' b es ∧ b ≠ lg ∧ CN n es ∧ n ≤ 5 + 5 * i ∧ es.length ≤ 8 + 9 * i)
      ⟨b1, topOf c, c, s1, none, none, none, none, none, rfl, kp1, M1, by omega, hb1, nb1', cn1, by omega, by omega⟩ (fun _ _ _ _ _ => trivial) ?_ ?_
    · rintro i x σ _ H2 hi ⟨b, n, es, s2, v5, v6, v7, v8, v9, rfl, kp, M, hs2, hb, nb, cn, hn, hl⟩ ⟨rfl, rfl⟩
      refine ⟨_, rfl, b, es, rfl, hb, by omega, fun H3 sm3 => ?_⟩
      rw [top_eq cn]
      refine ⟨_, rfl, _, rfl, b, es, rfl, hb.same sm3, by omega, fun H4 sm4 => ?_⟩
      rw [top_eq cn]
      have M4 := (M.same sm3).same sm4
      have hb4 := (hb.same sm3).same sm4
      have n1 := cn.1
      refine ⟨m, lg, lc, s2, n, rfl, M4, by omega, by omega, by omega, fun H5 d hd kp5 M5 => ?_⟩
      have hb5 := hb4.kp kp5 M4 nb
      have kpA := ((kp.trans (Kp.same sm3)).trans (Kp.same sm4)).trans kp5
      refine ⟨_, _, rfl, ?_⟩
      refine ⟨_, rfl, m, lg, lc, s2 + 1, 3, rfl, M5, by omega, by omega, by omega, fun H6 e he kp6 M6 => ?_⟩
      have hb6 := hb5.kp kp6 M5 nb
      have kpB := kpA.trans kp6
      refine ⟨_, _, rfl, rfl, _, rfl, ite2 (fun z => ?_) (fun z => ?_)⟩
      · -- a bridge to the new core
        refine ⟨_, rfl, _, rfl, _, rfl, d, n, rfl, fun H7 r sm7 nr hr7 => ⟨by show 1 ≤ sizeLine; decide, fun l1 nl1 => ?_⟩⟩
        rw [tie_lt hd] at hr7
        have x1 := same_upd (o := .lst [V.ref r]) nl1
        have one := edl_one hr7 nl1
        have hb7 := (hb6.same sm7).same x1
        have M7 := (M6.same sm7).same x1
        generalize upd H7 l1 (.lst [V.ref r]) = H8 at *
        refine edl_cat hb7 one (by show es.length + 1 ≤ 1000; omega) fun l2 H9 nl2 x2 hl2 => ?_
        have M9 := M7.same x2
        have a2 := M7.new nl2
        have kpC := ((kpB.trans (Kp.same sm7)).trans (Kp.same x1)).trans (Kp.same x2)
        refine ⟨_, rfl, _, rfl, _, _, rfl, rfl, _, _, _, rfl, ?_⟩
        have cn' := cn.leaf hd
        refine ⟨_, rfl, _, rfl, m, lg, lc, s2 + 2, rfl, M9, by omega, fun HA rc c' s3 hc' kpA' nrc hrc hs3 MA => ?_⟩
        obtain ⟨cn3, ct3, cl3⟩ := menu_ok hc'
        have hl2' := hl2.kp kpA' M9 a2.1
        refine ⟨_, rfl, _, rfl, rc, c', n + 1, n, rfl, hrc, cn3.2.1.mono (by omega), by omega, by omega, fun HB rs smB nrs hrs => ?_⟩
        refine edl_cat (hl2'.same smB) hrs (by rw [List.length_append]; unfold shiftE; rw [List.length_map]; show es.length + 1 + _ ≤ 1000; omega) fun l3 HC nl3 x3 hl3 => ?_
        have MC := (MA.same smB).same x3
        have a3 := (MA.same smB).new nl3
        have kpD := ((kpC.trans kpA').trans (Kp.same smB)).trans (Kp.same x3)
        refine ⟨l3, n + 1 + topOf c' - 1, _, s3, _, _, _, _, _, rfl, kpD, MC, by omega, hl3, a3.1, cn'.core cn3 (Nat.lt_succ_self n), by omega, ?_⟩
        rw [List.length_append, List.length_append]
        unfold shiftE
        rw [List.length_map]
        show es.length + 1 + _ ≤ _
        omega
      · -- the new core at a place
        refine ⟨_, rfl, _, rfl, m, lg, lc, s2 + 2, rfl, M6, by omega, fun HA rc c' s3 hc' kpA' nrc hrc hs3 MA => ?_⟩
        obtain ⟨cn3, ct3, cl3⟩ := menu_ok hc'
        have hl2' := hb6.kp kpA' M6 nb
        refine ⟨_, rfl, _, rfl, rc, c', n, d, rfl, hrc, cn3.2.1.mono (by omega), by omega, by omega, fun HB rs smB nrs hrs => ?_⟩
        refine edl_cat (hl2'.same smB) hrs (by unfold shiftE; rw [List.length_map]; omega) fun l3 HC nl3 x3 hl3 => ?_
        have MC := (MA.same smB).same x3
        have a3 := (MA.same smB).new nl3
        have kpD := ((kpB.trans kpA').trans (Kp.same smB)).trans (Kp.same x3)
        refine ⟨l3, n + topOf c' - 1, _, s3, _, _, _, _, _, rfl, kpD, MC, by omega, hl3, a3.1, cn.core cn3 hd, by omega, ?_⟩
        rw [List.length_append]
        unfold shiftE
        rw [List.length_map]
        omega
    · rintro σ H2 ⟨b, n, es, s2, v5, v6, v7, v8, v9, rfl, kp, M, hs2, hb, nb, cn, hn, hl⟩
      have n1 := cn.1
      refine ⟨_, rfl, b, es, rfl, hb, by omega, fun H3 sm3 => ?_⟩
      rw [top_eq cn]
      have M3 := M.same sm3
      have hb3 := hb.same sm3
      have kp3 := kp.trans (Kp.same sm3)
      refine ⟨_, rfl, _, rfl, _, rfl, _, rfl, _, _, rfl, rfl, _, rfl, m, lg, lc, s2, n + tails, n, rfl, M3, n1, by omega, by omega, by omega, fun H4 r f s4 kp4 nr hf hr hs4 M4 => ?_⟩
      rw [show n + tails - n = tails by omega] at hf hr
      have cn' := cn.tree f tails hf
      refine edl_cat (hb3.kp kp4 M3 nb) hr (by unfold tailE; rw [List.length_map, List.length_range]; omega) fun l1 H5 nl1 x1 hl1 => ?_
      have M5 := M4.same x1
      have a1 := (M4.new nl1).1
      have kp5 := (kp3.trans kp4).trans (Kp.same x1)
      have le5 : (es ++ tailE f n tails).length ≤ 99 := by
        rw [List.length_append]
        unfold tailE
        rw [List.length_map, List.length_range]
        omega
      have n5 : n + tails ≤ 60 := by omega
      have cn5 : CN (n + tails) (es ++ tailE f n tails) := cn'
      have hs5 : s4 ≤ s + 110 := by omega
      clear cn' cn hl hn hf hr hb3 kp4 kp3 M3 M4 hb kp M sm3
      generalize es ++ tailE f n tails = es5 at *
      generalize n + tails = k5 at *
      refine ⟨_, rfl, _, rfl, by omega, by omega, ?_⟩
      rw [Int.toNat_natCast]
      refine for_it walk_rg0 (fun i σ H' => ∃ b es s' v5 v6 v7 v8 v9, σ = [some (.ref m), some (.int (cores : Int)), some (.int (tails : Int)), some (.int (more : Int)), some (.ref b), v5, v6, v7, v8, v9] ∧ Kp m lg H H' ∧ MOk H' m lg lc s' ∧ s' ≤ s + 110 + 2 * i ∧ EdL H' b es ∧ b ≠ lg ∧ CN k5 es ∧ es.length ≤ 99 + i)
        ⟨l1, es5, s4, _, _, _, _, _, rfl, kp5, M5, by omega, hl1, a1, cn5, by omega⟩ (fun _ _ _ _ _ => trivial) ?_ ?_
      · clear hl1 kp5 M5 cn5 le5
        rintro i x σ _ H2 hi ⟨b, es, s2, v5, v6, v7, v8, v9, rfl, kp, M, hs2, hb, nb, cn, hl⟩ ⟨rfl, rfl⟩
        have n1 := cn.1
        refine ⟨_, rfl, _, rfl, b, es, rfl, hb, by omega, fun H3 sm3 => ?_⟩
        rw [top_eq cn]
        refine ⟨m, lg, lc, s2, k5, rfl, M.same sm3, by omega, by omega, by omega, fun H4 d hd kp4 M4 => ?_⟩
        have hb4 := (hb.same sm3).kp kp4 (M.same sm3) nb
        refine ⟨_, rfl, _, rfl, _, rfl, _, rfl, b, es, rfl, hb4, by omega, fun H5 sm5 => ?_⟩
        rw [top_eq cn]
        refine ⟨m, lg, lc, s2 + 1, k5, rfl, M4.same sm5, by omega, by omega, by omega, fun H6 e he kp6 M6 => ?_⟩
        have hb6 := (hb4.same sm5).kp kp6 (M4.same sm5) nb
        refine ⟨d, e, rfl, fun H7 r sm7 nr hr7 => ⟨by show 1 ≤ sizeLine; decide, fun l1 nl1 => ?_⟩⟩
        have x1 := same_upd (o := .lst [V.ref r]) nl1
        have one := edl_one hr7 nl1
        have hb7 := (hb6.same sm7).same x1
        have M7 := (M6.same sm7).same x1
        generalize upd H7 l1 (.lst [V.ref r]) = H8 at *
        refine edl_cat hb7 one (by show es.length + 1 ≤ 1000; omega) fun l2 H9 nl2 x2 hl2 => ?_
        refine ⟨l2, _, s2 + 2, _, _, _, _, _, rfl, ((((((kp.trans (Kp.same sm3)).trans kp4).trans (Kp.same sm5)).trans kp6).trans (Kp.same sm7)).trans (Kp.same x1)).trans (Kp.same x2), M7.same x2, by omega, hl2, (M7.new nl2).1, cn.more hd he, ?_⟩
        rw [List.length_append]
        show es.length + 1 ≤ _
        omega
      · clear hl1 kp5 M5 cn5 le5
        rintro σ H2 ⟨b, es, s2, v5, v6, v7, v8, v9, rfl, kp, M, hs2, hb, nb, cn, hl⟩
        have n1 := cn.1
        refine ⟨_, rfl, b, es, rfl, hb, by omega, fun H3 sm3 => ?_⟩
        rw [top_eq cn]
        have M3 := M.same sm3
        have hb3 := hb.same sm3
        have kp3 := kp.trans (Kp.same sm3)
        obtain ⟨ks, hk1, hk2, hk3⟩ := id hb3
        have hlen : ks.length = es.length := ed_len hk2
        refine ⟨_, _, rfl, rfl, _, rfl, ite2 (fun z => iteT ?_) (fun z => ?_)⟩
        · refine ⟨_, rfl, m, lg, lc, s2, rfl, M3, by omega, fun H5 b1 c s1 hc kp1 nb1 hb1 hs1 M1 => ?_⟩
          obtain ⟨cn1, ct1, cl1⟩ := menu_ok hc
          exact ties_ret q (kp3.trans kp1) M1 (by omega) hs hb1 (by
            obtain ⟨cs, gs, x1, x2, x3, _⟩ := M3
            exact (ne_of_none x3 nb1).symm) cn1 (by omega) (by omega)
        · refine ⟨_, rfl, b, _, rfl, .inl (sl_of hk1), ?_⟩
          refine ⟨_, _, rfl, rfl, _, rfl, ite2 (fun z2 => ?_) (fun z2 => ?_)⟩
          · refine ⟨_, rfl, m, lg, lc, s2, rfl, M3, by omega, fun H5 b1 c s1 hc kp1 nb1 hb1 hs1 M1 => ?_⟩
            obtain ⟨cn1, ct1, cl1⟩ := menu_ok hc
            exact ties_ret q (kp3.trans kp1) M1 (by omega) hs hb1 (by
              obtain ⟨cs, gs, x1, x2, x3, _⟩ := M3
              exact (ne_of_none x3 nb1).symm) cn1 (by omega) (by omega)
          · rw [nv_len, hlen] at z2
            have z1' : ¬ ((12 : Int) < (k5 : Int)) := fun h => z (decide_eq_true h)
            have z2' : ¬ ((16 : Int) < (es.length : Int)) := fun h => z2 (decide_eq_true h)
            exact ties_ret q kp3 M3 (by omega) hs hb3 nb cn (by omega) (by omega)
end
end Hw

/-! Bridges and cells. No Python here. -/
namespace Hw
def cB (n : Nat) (es : List Ed) : Bool := decide (lj n es = List.replicate n 0)
def brg (n : Nat) (es : List Ed) : List Nat := (List.range es.length).filter fun i => !cB n (es.eraseIdx i)
def inn (n : Nat) (es : List Ed) : List Ed := okE (fun j => !decide (j ∈ brg n es)) es
def cls (n : Nat) (L : List Nat) (l : Nat) : List Nat := (List.range n).filter fun x => decide (ap L x = l)
def rts (n : Nat) (L : List Nat) : List Nat := (List.range n).filter fun l => decide (ap L l = l)
def celL (n : Nat) (L : List Nat) : List (List Nat) := (rts n L).map (cls n L)
def cel (n : Nat) (es : List Ed) : List (List Nat) := celL n (lj n (inn n es))
theorem ve_erase {n i : Nat} {es : List Ed} (h : VE n es) : VE n (es.eraseIdx i) := fun e m => h e (List.mem_of_mem_eraseIdx m)
theorem cB_iff {n : Nat} {es : List Ed} (h : VE n es) (hn : 1 ≤ n) : cB n es = true ↔ conn n es := by
  unfold cB
  rw [conn_iff h hn, decide_eq_true_eq]
theorem mem_brg {n : Nat} {es : List Ed} (h : CN n es) {i : Nat} : i ∈ brg n es ↔ i < es.length ∧ ¬ conn n (es.eraseIdx i) := by
  unfold brg
  rw [List.mem_filter, List.mem_range, ← cB_iff (ve_erase h.2.1) h.1]
  cases cB n (es.eraseIdx i) <;> simp
theorem brg_nodup (n : Nat) (es : List Ed) : (brg n es).Nodup := List.Nodup.sublist List.filter_sublist List.nodup_range
/-- one passage more -/
theorem Rch.add {fs gs : List Ed} {d : Ed} (h : ∀ e ∈ fs, e ∈ gs ∨ e = d) {u v : Nat} (r : Rch fs u v) : Rch gs u v ∨ (Rch gs u d.1 ∧ Rch gs v d.2) ∨ (Rch gs u d.2 ∧ Rch gs v d.1) := by
  induction r with
  | refl => exact .inl (.refl _)
  | @step v x _ a ih =>
    have go : adj gs v x → Rch gs u x ∨ (Rch gs u d.1 ∧ Rch gs x d.2) ∨ (Rch gs u d.2 ∧ Rch gs x d.1) := fun a => by
      have b := Rch.one (adj_symm a)
      rcases ih with i | ⟨i, j⟩ | ⟨i, j⟩
      · exact .inl (i.step a)
      · exact .inr (.inl ⟨i, b.trans j⟩)
      · exact .inr (.inr ⟨i, b.trans j⟩)
    rcases a with m | m
    · rcases h _ m with g | g
      · exact go (.inl g)
      · have e1 : d.1 = v := by rw [← g]
        have e2 : d.2 = x := by rw [← g]
        rw [e1, e2] at ih ⊢
        rcases ih with i | ⟨i, j⟩ | ⟨i, j⟩
        · exact .inr (.inl ⟨i, .refl _⟩)
        · exact .inl (i.trans j)
        · exact .inl i
    · rcases h _ m with g | g
      · exact go (.inr g)
      · have e1 : d.1 = x := by rw [← g]
        have e2 : d.2 = v := by rw [← g]
        rw [e1, e2] at ih ⊢
        rcases ih with i | ⟨i, j⟩ | ⟨i, j⟩
        · exact .inr (.inr ⟨i, .refl _⟩)
        · exact .inl i
        · exact .inl (i.trans j)
theorem getD_at {es : List Ed} {i : Nat} (h : i < es.length) : es[i]? = some (es.getD i (0, 0)) := by
  rw [List.getD_eq_getElem?_getD, List.getElem?_eq_getElem h]
  rfl
/-- the ends of a bridge are not joined without it -/
theorem brg_ends {n : Nat} {es : List Ed} (h : CN n es) {i : Nat} (hi : i ∈ brg n es) : ¬ Rch (es.eraseIdx i) (es.getD i (0, 0)).1 (es.getD i (0, 0)).2 := by
  obtain ⟨hl, nc⟩ := (mem_brg h).mp hi
  refine fun r => nc fun v hv => ?_
  have add := (h.2.2 v hv).add (gs := es.eraseIdx i) (d := es.getD i (0, 0)) fun e m => by
    obtain ⟨j, hj, e1⟩ := List.mem_iff_getElem.mp m
    by_cases z : j = i
    · subst z
      right
      have := getD_at hj
      rw [List.getElem?_eq_getElem hj, e1] at this
      exact Option.some.inj this
    · left
      exact List.mem_eraseIdx_iff_getElem?.mpr ⟨j, z, by rw [List.getElem?_eq_getElem hj, e1]⟩
  rcases add with a | ⟨a, b⟩ | ⟨a, b⟩
  · exact a
  · exact (a.trans r).trans b.symm
  · exact (a.trans r.symm).trans b.symm
/-- what no single passage separates is joined by passages that are no bridges -/
theorem sep {n : Nat} {es : List Ed} (h : CN n es) {u v : Nat} (hu : u < n) (hv : v < n) : Rch (inn n es) u v ↔ ∀ i, i < es.length → Rch (es.eraseIdx i) u v := by
  constructor
  · intro r i hi
    by_cases b : i ∈ brg n es
    · refine r.mono fun e m => ?_
      obtain ⟨j, o, ej⟩ := mem_okE.mp m
      refine List.mem_eraseIdx_iff_getElem?.mpr ⟨j, fun z => ?_, ej⟩
      subst z
      simp [b] at o
    · have c : conn n (es.eraseIdx i) := Classical.byContradiction fun c => b ((mem_brg h).mpr ⟨hi, c⟩)
      exact (c u hu).symm.trans (c v hv)
  · intro hs
    have main : ∀ Bs : List Nat, (∀ b ∈ Bs, b ∈ brg n es) → Rch (okE (fun j => !decide (j ∈ Bs)) es) u v := by
      intro Bs
      induction Bs with
      | nil =>
        intro _
        refine ((h.2.2 u hu).symm.trans (h.2.2 v hv)).mono fun e m => ?_
        obtain ⟨j, hj, e1⟩ := List.mem_iff_getElem.mp m
        exact mem_okE.mpr ⟨j, by simp, by rw [List.getElem?_eq_getElem hj, e1]⟩
      | cons b Bs ih =>
        intro hb
        have r := ih fun c hc => hb c (List.mem_cons_of_mem _ hc)
        have hb1 := hb b List.mem_cons_self
        have bl := ((mem_brg h).mp hb1).1
        have add := r.add (gs := okE (fun j => !decide (j ∈ b :: Bs)) es) (d := es.getD b (0, 0)) fun e m => by
          obtain ⟨j, o, ej⟩ := mem_okE.mp m
          by_cases z : j = b
          · subst z
            right
            rw [getD_at bl] at ej
            exact (Option.some.inj ej).symm
          · left
            refine mem_okE.mpr ⟨j, ?_, ej⟩
            simp [z] at o ⊢
            exact o
        have up : ∀ {x y}, Rch (okE (fun j => !decide (j ∈ b :: Bs)) es) x y → Rch (es.eraseIdx b) x y := fun q => q.mono fun e m => by
          obtain ⟨j, o, ej⟩ := mem_okE.mp m
          refine List.mem_eraseIdx_iff_getElem?.mpr ⟨j, fun z => ?_, ej⟩
          subst z
          simp at o
        have ends := brg_ends h hb1
        have uv := hs b bl
        rcases add with a | ⟨a, c⟩ | ⟨a, c⟩
        · exact a
        · exact absurd (((up a).symm.trans uv).trans (up c)) ends
        · exact absurd (((up c).symm.trans uv.symm).trans (up a)) ends
    exact main (brg n es) fun _ z => z
/-! ### roots -/
theorem mem_rts {n : Nat} {L : List Nat} {l : Nat} : l ∈ rts n L ↔ l < n ∧ ap L l = l := by
  unfold rts
  rw [List.mem_filter, List.mem_range, decide_eq_true_eq]
theorem mem_cls {n : Nat} {L : List Nat} {l x : Nat} : x ∈ cls n L l ↔ x < n ∧ ap L x = l := by
  unfold cls
  rw [List.mem_filter, List.mem_range, decide_eq_true_eq]
theorem rts_nodup (n : Nat) (L : List Nat) : (rts n L).Nodup := List.Nodup.sublist List.filter_sublist List.nodup_range
theorem filter_rise (n : Nat) (p : Nat → Bool) : ((List.range n).filter p).Pairwise (· < ·) := List.Pairwise.sublist List.filter_sublist (List.pairwise_lt_range)
theorem root_ap {n : Nat} {es : List Ed} {L : List Nat} (h : Lb n es L) {u : Nat} (hu : u < n) : ap L u < n ∧ ap L (ap L u) = ap L u := by
  obtain ⟨a, b⟩ := h.eq u (ap L u) (h.to u hu) hu
  exact ⟨a, b.symm⟩
theorem ap_step {n : Nat} {es : List Ed} {L : List Nat} (h : Lb n es L) (e : Ed) {u : Nat} (hu : u < n) : ap (ljStep L e) u = if ap L u = max (ap L e.1) (ap L e.2) then min (ap L e.1) (ap L e.2) else ap L u := by
  unfold ljStep
  rw [ap_map' _ (by rw [h.len]; exact hu)]
  rfl
theorem len_drop {l : List Nat} (h : l.Nodup) {a : Nat} (ha : a ∈ l) : (l.filter fun x => decide (x ≠ a)).length + 1 = l.length := by
  have e : (l.filter fun x => decide (x ≠ a)) = l.erase a := by
    rw [h.erase_eq_filter]
    exact List.filter_congr fun x _ => by by_cases z : x = a <;> simp [z]
  rw [e, List.length_erase_of_mem ha]
  have := List.length_pos_of_mem ha
  omega
theorem rts_step {n : Nat} {es : List Ed} {L : List Nat} (h : Lb n es L) {e : Ed} (h1 : e.1 < n) (h2 : e.2 < n) :
    (ap L e.1 = ap L e.2 → rts n (ljStep L e) = rts n L) ∧ (ap L e.1 ≠ ap L e.2 → (rts n (ljStep L e)).length + 1 = (rts n L).length) := by
  have r1 := root_ap h h1
  have r2 := root_ap h h2
  constructor
  · intro z
    unfold rts
    refine List.filter_congr fun x hx => ?_
    rw [ap_step h e (List.mem_range.mp hx), z, Nat.max_self, Nat.min_self]
    split
    · rename_i q; rw [q]
    · rfl
  · intro z
    have hmax : max (ap L e.1) (ap L e.2) < n ∧ ap L (max (ap L e.1) (ap L e.2)) = max (ap L e.1) (ap L e.2) := by
      rcases Nat.le_total (ap L e.1) (ap L e.2) with q | q
      · rw [Nat.max_eq_right q]; exact r2
      · rw [Nat.max_eq_left q]; exact r1
    have hmin : ap L (min (ap L e.1) (ap L e.2)) = min (ap L e.1) (ap L e.2) := by
      rcases Nat.le_total (ap L e.1) (ap L e.2) with q | q
      · rw [Nat.min_eq_left q]; exact r1.2
      · rw [Nat.min_eq_right q]; exact r2.2
    have hlt : min (ap L e.1) (ap L e.2) < max (ap L e.1) (ap L e.2) := by omega
    generalize eM : max (ap L e.1) (ap L e.2) = M at *
    generalize em : min (ap L e.1) (ap L e.2) = mm at *
    have e3 : rts n (ljStep L e) = (rts n L).filter fun x => decide (x ≠ M) := by
      unfold rts
      rw [List.filter_filter]
      refine List.filter_congr fun x hx => ?_
      rw [ap_step h e (List.mem_range.mp hx), eM, em]
      by_cases q : ap L x = M
      · rw [if_pos q]
        have a1 : decide (mm = x) = false := decide_eq_false fun z => by
          rw [← z, hmin] at q
          omega
        have a2 : (decide (x ≠ M) && decide (ap L x = x)) = false := by
          by_cases y : x = M
          · simp [y]
          · have : ¬ ap L x = x := fun z => y (z.symm.trans q)
            simp [this]
        rw [a1, a2]
      · rw [if_neg q]
        have a1 : decide (x ≠ M) = true := decide_eq_true fun z => q (by rw [z]; exact hmax.2)
        rw [a1, Bool.true_and]
    rw [e3]
    exact len_drop (rts_nodup n L) (mem_rts.mpr hmax)
theorem rts_fold {n : Nat} : ∀ (bs es : List Ed) (L : List Nat), Lb n es L → (∀ e ∈ bs, e.1 < n ∧ e.2 < n) → (rts n L).length ≤ (rts n (bs.foldl ljStep L)).length + bs.length
  | [], _, _, _, _ => Nat.le_refl _
  | e :: bs, es, L, h, hb => by
    have b := hb e List.mem_cons_self
    have ih := rts_fold bs (es ++ [e]) (ljStep L e) (lb_step h b.1 b.2) fun d m => hb d (List.mem_cons_of_mem _ m)
    obtain ⟨s1, s2⟩ := rts_step h b.1 b.2
    rw [List.length_cons]
    show _ ≤ (rts n (bs.foldl ljStep (ljStep L e))).length + _
    by_cases z : ap L e.1 = ap L e.2
    · rw [s1 z] at ih
      omega
    · have := s2 z
      omega
theorem rts_join {n : Nat} : ∀ (bs es : List Ed) (L : List Nat), Lb n es L → (∀ e ∈ bs, e.1 < n ∧ e.2 < n) → (∀ k e, bs[k]? = some e → ¬ Rch (es ++ bs.take k) e.1 e.2) → (rts n (bs.foldl ljStep L)).length + bs.length = (rts n L).length
  | [], _, _, _, _, _ => rfl
  | e :: bs, es, L, h, hb, hj => by
    have b := hb e List.mem_cons_self
    have ih := rts_join bs (es ++ [e]) (ljStep L e) (lb_step h b.1 b.2) (fun d m => hb d (List.mem_cons_of_mem _ m)) fun k d hd => by
      have := hj (k + 1) d (by rw [List.getElem?_cons_succ]; exact hd)
      rw [List.take_succ_cons] at this
      rw [List.append_assoc]
      exact this
    have z : ap L e.1 ≠ ap L e.2 := fun z => by
      have := hj 0 e rfl
      rw [List.take_zero, List.append_nil] at this
      have q := h.to e.1 b.1
      rw [z] at q
      exact this (q.trans (h.to e.2 b.2).symm)
    have := (rts_step h b.1 b.2).2 z
    show (rts n (bs.foldl ljStep (ljStep L e))).length + _ = _
    rw [List.length_cons]
    omega
theorem rts_one {n : Nat} {es : List Ed} {L : List Nat} (h : Lb n es L) (hn : 1 ≤ n) (c : conn n es) : (rts n L).length = 1 := by
  have z : ap L 0 = 0 := by
    have := h.le 0 hn
    omega
  have e : rts n L = [0] := by
    refine List.perm_singleton.mp (perm_of_mem (rts_nodup n L) (by simp) fun x => ?_)
    rw [mem_rts, List.mem_singleton]
    constructor
    · rintro ⟨hx, e⟩
      have := (h.eq 0 x (c x hx) hn).2
      omega
    · rintro rfl
      exact ⟨hn, z⟩
  rw [e]
  rfl
/-- one cell more than bridges -/
theorem cel_len {n : Nat} {es : List Ed} (h : CN n es) : (cel n es).length = (brg n es).length + 1 := by
  have ve : VE n (inn n es) := okE_ve h.2.1
  have lb := lb_lj ve
  have bv : ∀ e ∈ (brg n es).map (fun j => es.getD j (0, 0)), e.1 < n ∧ e.2 < n := fun e m => by
    obtain ⟨j, hj, rfl⟩ := List.mem_map.mp m
    have := h.2.1 _ (List.mem_of_getElem? (getD_at ((mem_brg h).mp hj).1))
    omega
  have j := rts_join ((brg n es).map fun j => es.getD j (0, 0)) _ _ lb bv fun k e he => by
    rw [List.getElem?_map] at he
    cases eb : (brg n es)[k]? with
    | none => rw [eb] at he; cases he
    | some b =>
      rw [eb] at he
      obtain rfl : es.getD b (0, 0) = e := Option.some.inj he
      have hb := List.mem_of_getElem? eb
      refine fun r => brg_ends h hb (r.mono fun d m => ?_)
      rcases List.mem_append.mp m with m | m
      · obtain ⟨j, o, ej⟩ := mem_okE.mp m
        refine List.mem_eraseIdx_iff_getElem?.mpr ⟨j, fun z => ?_, ej⟩
        subst z
        simp [hb] at o
      · rw [← List.map_take] at m
        obtain ⟨j, hj, rfl⟩ := List.mem_map.mp m
        refine List.mem_eraseIdx_iff_getElem?.mpr ⟨j, fun z => ?_, getD_at ((mem_brg h).mp (List.mem_of_mem_take hj)).1⟩
        subst z
        obtain ⟨i, hi, e2⟩ := List.mem_take_iff_getElem.mp hj
        obtain ⟨hk, e3⟩ := List.getElem?_eq_some_iff.mp eb
        have : i = k := (List.getElem_inj (i := i) (j := k) (h₀ := by omega) (h₁ := hk) (brg_nodup n es)).mp (e2.trans e3.symm)
        omega
  have lb2 := lb_fold _ _ _ lb bv
  have one := rts_one lb2 h.1 fun v hv => (h.2.2 v hv).mono fun e m => by
    obtain ⟨j, hj, e1⟩ := List.mem_iff_getElem.mp m
    have e2 : es[j]? = some e := by rw [List.getElem?_eq_getElem hj, e1]
    by_cases b : j ∈ brg n es
    · refine List.mem_append_right _ (List.mem_map.mpr ⟨j, b, ?_⟩)
      rw [getD_at hj] at e2
      exact Option.some.inj e2
    · exact List.mem_append_left _ (mem_okE.mpr ⟨j, by simp [b], e2⟩)
  rw [one, List.length_map] at j
  show ((rts n (lj n (inn n es))).map _).length = _
  rw [List.length_map]
  omega
/-! ### the sizes of the cells -/
theorem ind_sum (a : Nat) : ∀ R : List Nat, (R.map fun l => if a = l then 1 else 0).sum = R.count a
  | [] => rfl
  | x :: R => by
    rw [List.map_cons, List.sum_cons, ind_sum a R, List.count_cons]
    by_cases z : a = x
    · subst z; simp; omega
    · rw [if_neg z]
      have : (x == a) = false := by simp; exact fun q => z q.symm
      simp [this]
theorem sum_two (f g : Nat → Nat) : ∀ R : List Nat, (R.map fun l => f l + g l).sum = (R.map f).sum + (R.map g).sum
  | [] => rfl
  | x :: R => by
    simp only [List.map_cons, List.sum_cons, sum_two f g R]
    omega
theorem part_sum {R : List Nat} (hR : R.Nodup) (f : Nat → Nat) : ∀ xs : List Nat, (∀ x ∈ xs, f x ∈ R) → (R.map fun l => (xs.filter fun x => decide (f x = l)).length).sum = xs.length
  | [], _ => by
    induction R with
    | nil => rfl
    | cons a R ih => rw [List.map_cons, List.sum_cons, ih hR.tail (fun _ h => nomatch h)]; rfl
  | x :: xs, h => by
    have ih := part_sum hR f xs fun y hy => h y (List.mem_cons_of_mem _ hy)
    have e : (R.map fun l => ((x :: xs).filter fun y => decide (f y = l)).length) = R.map fun l => (if f x = l then 1 else 0) + (xs.filter fun y => decide (f y = l)).length := by
      refine List.map_congr_left fun l _ => ?_
      rw [List.filter_cons]
      by_cases z : f x = l
      · rw [if_pos (decide_eq_true z), if_pos z, List.length_cons]; omega
      · rw [if_neg (by simp [z]), if_neg z]; omega
    rw [e, sum_two, ih, ind_sum, nodup_count hR, if_pos (h x List.mem_cons_self), List.length_cons]
    omega
theorem celL_sum {n : Nat} {es : List Ed} {L : List Nat} (h : Lb n es L) : ((celL n L).map List.length).sum = n := by
  unfold celL
  rw [List.map_map]
  have := part_sum (rts_nodup n L) (ap L) (List.range n) fun x hx => mem_rts.mpr (root_ap h (List.mem_range.mp hx))
  rw [List.length_range] at this
  exact this
theorem cel_sum {n : Nat} {es : List Ed} (h : CN n es) : ((cel n es).map List.length).sum = n := celL_sum (lb_lj (okE_ve h.2.1))
/-! ### a second passage beside a bridge -/
theorem CN.wide {n b : Nat} {es : List Ed} (h : CN n es) (hb : b < es.length) : CN n (es ++ [es.getD b (0, 0)]) := by
  refine ⟨h.1, h.2.1.app fun e m => ?_, fun v hv => (h.2.2 v hv).mono fun e m => List.mem_append_left _ m⟩
  rw [List.mem_singleton.mp m]
  exact h.2.1 _ (List.mem_of_getElem? (getD_at hb))
theorem brg_wide {n b : Nat} {es : List Ed} (h : CN n es) (hb : b ∈ brg n es) : ∀ i, i ∈ brg n (es ++ [es.getD b (0, 0)]) → i ∈ brg n es ∧ i ≠ b := by
  intro i hi
  have bl := ((mem_brg h).mp hb).1
  have cw := h.wide bl
  obtain ⟨il, nc⟩ := (mem_brg cw).mp hi
  rw [List.length_append, List.length_singleton] at il
  have last : (es ++ [es.getD b (0, 0)])[es.length]? = some (es.getD b (0, 0)) := by simp
  have old : ∀ j e, es[j]? = some e → (es ++ [es.getD b (0, 0)])[j]? = some e := fun j e q => by
    rw [List.getElem?_append_left (List.getElem?_eq_some_iff.mp q).1]
    exact q
  have sub : ∀ k, (∀ e ∈ es.eraseIdx k, e ∈ (es ++ [es.getD b (0, 0)]).eraseIdx i) → conn n (es.eraseIdx k) → False := fun k q c => nc fun v hv => (c v hv).mono q
  have im : i ≠ es.length := fun z => by
    subst z
    refine nc fun v hv => (h.2.2 v hv).mono fun e m => ?_
    obtain ⟨j, hj, e1⟩ := List.mem_iff_getElem.mp m
    exact List.mem_eraseIdx_iff_getElem?.mpr ⟨j, by omega, old j e (by rw [List.getElem?_eq_getElem hj, e1])⟩
  have ib : i ≠ b := fun z => by
    subst z
    refine nc fun v hv => (h.2.2 v hv).mono fun e m => ?_
    obtain ⟨j, hj, e1⟩ := List.mem_iff_getElem.mp m
    have e2 : es[j]? = some e := by rw [List.getElem?_eq_getElem hj, e1]
    by_cases q : j = i
    · subst q
      rw [getD_at hj] at e2
      obtain rfl := Option.some.inj e2
      exact List.mem_eraseIdx_iff_getElem?.mpr ⟨es.length, by omega, last⟩
    · exact List.mem_eraseIdx_iff_getElem?.mpr ⟨j, q, old j e e2⟩
  refine ⟨(mem_brg h).mpr ⟨by omega, fun c => sub i (fun e m => ?_) c⟩, ib⟩
  obtain ⟨j, j1, j2⟩ := List.mem_eraseIdx_iff_getElem?.mp m
  exact List.mem_eraseIdx_iff_getElem?.mpr ⟨j, j1, old j e j2⟩
theorem len_sub : ∀ {l m : List Nat}, l.Nodup → (∀ x ∈ l, x ∈ m) → l.length ≤ m.length
  | [], _, _, _ => Nat.zero_le _
  | x :: l, m, h, hs => by
    have hx := hs x List.mem_cons_self
    have h2 := List.nodup_cons.mp h
    have := len_sub (m := m.erase x) h2.2 fun y hy => (List.mem_erase_of_ne fun z => h2.1 (by rw [← z]; exact hy)).mpr (hs y (List.mem_cons_of_mem _ hy))
    rw [List.length_erase_of_mem hx] at this
    have := List.length_pos_of_mem hx
    rw [List.length_cons]
    omega
theorem wide_less {n b : Nat} {es : List Ed} (h : CN n es) (hb : b ∈ brg n es) : (cel n (es ++ [es.getD b (0, 0)])).length < (cel n es).length := by
  have bl := ((mem_brg h).mp hb).1
  rw [cel_len h, cel_len (h.wide bl)]
  have := len_sub (l := brg n (es ++ [es.getD b (0, 0)])) (m := (brg n es).filter fun x => decide (x ≠ b)) (brg_nodup _ _) fun i hi => by
    obtain ⟨a, c⟩ := brg_wide h hb i hi
    exact List.mem_filter.mpr ⟨a, decide_eq_true c⟩
  have := len_drop (brg_nodup n es) hb
  omega
/-! ### trees -/
theorem tree_brg {n : Nat} {es : List Ed} (h : CN n es) (hl : es.length + 1 = n) : brg n es = List.range (n - 1) := by
  unfold brg
  rw [show n - 1 = es.length by omega]
  refine List.filter_eq_self.mpr fun i hi => ?_
  have il := List.mem_range.mp hi
  have ve := ve_erase (i := i) h.2.1
  have nc : ¬ cB n (es.eraseIdx i) = true := fun c => by
    have cn := (cB_iff ve h.1).mp c
    have one := rts_one (lb_lj ve) h.1 cn
    have := rts_fold (es.eraseIdx i) [] (List.range n) (lb_zero n) fun e m => ⟨Nat.lt_of_le_of_lt (ve e m).1 (ve e m).2, (ve e m).2⟩
    have e0 : rts n (List.range n) = List.range n := by
      unfold rts
      exact List.filter_eq_self.mpr fun x hx => decide_eq_true (ap_range (List.mem_range.mp hx))
    rw [e0, List.length_range, List.length_eraseIdx_of_lt il] at this
    change n ≤ (rts n (lj n (es.eraseIdx i))).length + _ at this
    rw [one] at this
    omega
  simp at nc ⊢
  exact nc
/-! ### what the cells look like -/
theorem cls_head {n : Nat} {es : List Ed} {L : List Nat} (h : Lb n es L) {l : Nat} (hl : l < n) (e : ap L l = l) : ∃ t, cls n L l = l :: t := by
  have hm : l ∈ cls n L l := mem_cls.mpr ⟨hl, e⟩
  have pw := filter_rise n fun x => decide (ap L x = l)
  change (cls n L l).Pairwise (· < ·) at pw
  cases ec : cls n L l with
  | nil => rw [ec] at hm; cases hm
  | cons a t =>
    refine ⟨t, ?_⟩
    have ha : a ∈ cls n L l := by rw [ec]; exact List.mem_cons_self
    obtain ⟨a1, a2⟩ := mem_cls.mp ha
    have := h.le a a1
    rw [ec] at hm pw
    rcases List.mem_cons.mp hm with z | z
    · rw [z]
    · have := (List.pairwise_cons.mp pw).1 l z
      omega
end Hw

/-! Other names of places and passages. No Python here. -/
namespace Hw
theorem filter_ext {n : Nat} {p q : Nat → Bool} (h : ∀ x, x < n → (p x = true ↔ q x = true)) : (List.range n).filter p = (List.range n).filter q :=
  List.filter_congr fun x hx => by
    have := h x (List.mem_range.mp hx)
    cases a : p x <;> cases b : q x <;> simp [a, b] at this <;> rfl
section
variable {n : Nat} {p : List Nat} (hp : IsP p) (hl : p.length = n)
include hp hl
theorem ren_back {fs : List Ed} (ve : VE n fs) {u v : Nat} (r : Rch (renE p fs) u v) : Rch fs (ap (inv p) u) (ap (inv p) v) := by
  refine r.map (ap (inv p)) fun e m => ?_
  obtain ⟨d, hd, rfl⟩ := List.mem_map.mp m
  have b := ve d hd
  have e1 : ap (inv p) (ap p d.1) = d.1 := ap_inv hp (by omega)
  have e2 : ap (inv p) (ap p d.2) = d.2 := ap_inv hp (by omega)
  rcases tie_cases (ap p d.1) (ap p d.2) with z | z
  · rw [z]
    show adj fs (ap (inv p) (ap p d.1)) (ap (inv p) (ap p d.2))
    rw [e1, e2]
    exact .inl hd
  · rw [z]
    show adj fs (ap (inv p) (ap p d.2)) (ap (inv p) (ap p d.1))
    rw [e1, e2]
    exact .inr hd
theorem ren_iff {fs : List Ed} (ve : VE n fs) {u v : Nat} (hu : u < n) (hv : v < n) : Rch (renE p fs) (ap p u) (ap p v) ↔ Rch fs u v := by
  refine ⟨fun r => ?_, fun r => r.ren p⟩
  have := ren_back hp hl ve r
  rw [ap_inv hp (by omega), ap_inv hp (by omega)] at this
  exact this
theorem conn_ren {fs : List Ed} (ve : VE n fs) (hn : 1 ≤ n) : conn n (renE p fs) ↔ conn n fs := by
  have lt : ∀ x, x < n → ap p x < n := fun x hx => by rw [← hl]; exact ap_lt hp (by omega)
  have sur : ∀ y, y < n → ∃ x, x < n ∧ ap p x = y := fun y hy => by
    obtain ⟨x, a, b⟩ := ap_surj hp (y := y) (by omega)
    exact ⟨x, by omega, b⟩
  constructor
  · intro c v hv
    have a := (ren_iff hp hl ve hn hv).mp (((c _ (lt 0 hn)).symm).trans (c _ (lt v hv)))
    exact a
  · intro c v hv
    obtain ⟨x, hx, rfl⟩ := sur v hv
    obtain ⟨z, hz, ez⟩ := sur 0 hn
    rw [← ez]
    exact (ren_iff hp hl ve hz hx).mpr ((c z hz).symm.trans (c x hx))
end
/-- the passages in the order q, the places named by p -/
def ordE (q : List Nat) (es : List Ed) : List Ed := q.map fun j => es.getD j (0, 0)
def renQ (p q : List Nat) (es : List Ed) : List Ed := q.map fun j => tieF (ap p (es.getD j (0, 0)).1) (ap p (es.getD j (0, 0)).2)
theorem renQ_eq (p q : List Nat) (es : List Ed) : renQ p q es = renE p (ordE q es) := by
  unfold renQ renE ordE
  rw [List.map_map]
  rfl
theorem ord_range (es : List Ed) : ordE (List.range es.length) es = es := by
  unfold ordE
  refine List.ext_getElem? fun i => ?_
  rw [List.getElem?_map]
  by_cases h : i < es.length
  · rw [List.getElem?_range h, getD_at h]
    rfl
  · rw [List.getElem?_eq_none (by rw [List.length_range]; omega), List.getElem?_eq_none (by omega)]
    rfl
section
variable {n : Nat} {es : List Ed} (h : CN n es) {p q : List Nat} (hp : IsP p) (hl : p.length = n) (hq : IsP q) (ql : q.length = es.length)
include hq ql
theorem ord_perm : (ordE q es).Perm es := by
  have a := (perm_range hq).map fun j => es.getD j (0, 0)
  rw [ql] at a
  have b := ord_range es
  unfold ordE at b ⊢
  rw [b] at a
  exact a
theorem ord_erase {k : Nat} (hk : k < es.length) (e : Ed) : e ∈ (ordE q es).eraseIdx k ↔ e ∈ es.eraseIdx (ap q k) := by
  rw [List.mem_eraseIdx_iff_getElem?, List.mem_eraseIdx_iff_getElem?]
  unfold ordE
  constructor
  · rintro ⟨j, jk, ej⟩
    rw [List.getElem?_map] at ej
    have jl : j < q.length := by
      by_cases z : j < q.length
      · exact z
      · rw [List.getElem?_eq_none (by omega)] at ej
        cases ej
    rw [ap_get jl] at ej
    obtain rfl : es.getD (ap q j) (0, 0) = e := Option.some.inj ej
    refine ⟨ap q j, fun z => jk (ap_inj hq jl (by omega) z), getD_at (by rw [← ql]; exact ap_lt hq jl)⟩
  · rintro ⟨j, jk, ej⟩
    have jl := (List.getElem?_eq_some_iff.mp ej).1
    obtain ⟨i, hi, rfl⟩ := ap_surj hq (y := j) (by omega)
    refine ⟨i, fun z => jk (by rw [z]), ?_⟩
    rw [List.getElem?_map, ap_get hi]
    rw [getD_at jl] at ej
    exact ej
include h hp hl
theorem CN.renQ : CN n (renQ p q es) := by
  rw [renQ_eq]
  exact (h.perm (ord_perm hq ql)).ren hp hl
omit h hp hl in
theorem renQ_len : (Hw.renQ p q es).length = es.length := by
  unfold Hw.renQ
  rw [List.length_map, ql]
omit hp hl in
theorem ord_ve (k : Nat) : VE n ((ordE q es).eraseIdx k) := ve_erase (h.perm (ord_perm hq ql)).2.1
omit h hp hl hq ql in
theorem renQ_erase (k : Nat) : (Hw.renQ p q es).eraseIdx k = renE p ((ordE q es).eraseIdx k) := by
  rw [renQ_eq]
  unfold renE
  rw [List.eraseIdx_eq_take_drop_succ, List.eraseIdx_eq_take_drop_succ, List.map_append, List.map_take, List.map_drop]
theorem rch_renQ {k u v : Nat} (hk : k < es.length) (hu : u < n) (hv : v < n) : Rch ((Hw.renQ p q es).eraseIdx k) (ap p u) (ap p v) ↔ Rch (es.eraseIdx (ap q k)) u v := by
  rw [renQ_erase, ren_iff hp hl (ord_ve h hq ql k) hu hv]
  exact Rch.iff (ord_erase hq ql hk)
theorem mem_brg_ren {k : Nat} : k ∈ brg n (Hw.renQ p q es) ↔ k < es.length ∧ ap q k ∈ brg n es := by
  rw [mem_brg (h.renQ hp hl hq ql), mem_brg h, renQ_len hq ql]
  constructor
  · rintro ⟨a, b⟩
    refine ⟨a, by rw [← ql]; exact ap_lt hq (by omega), fun c => b ?_⟩
    rw [renQ_erase]
    refine (conn_ren hp hl (ord_ve h hq ql k) h.1).mpr fun v hv => ?_
    exact (Rch.iff (ord_erase hq ql a)).mpr (c v hv)
  · rintro ⟨a, _, b⟩
    refine ⟨a, fun c => b ?_⟩
    rw [renQ_erase] at c
    have c := (conn_ren hp hl (ord_ve h hq ql k) h.1).mp c
    exact fun v hv => (Rch.iff (ord_erase hq ql a)).mp (c v hv)
theorem brg_ren : ((brg n (Hw.renQ p q es)).map (ap q)).Perm (brg n es) := by
  refine perm_of_mem ?_ (brg_nodup _ _) fun x => ?_
  · rw [List.nodup_iff_pairwise_ne, List.pairwise_map]
    refine List.Pairwise.imp_of_mem (fun {a b} ha hb ne e => ne ?_) (List.nodup_iff_pairwise_ne.mp (brg_nodup _ _))
    have a1 := ((mem_brg_ren h hp hl hq ql).mp ha).1
    have b1 := ((mem_brg_ren h hp hl hq ql).mp hb).1
    exact ap_inj hq (by omega) (by omega) e
  · rw [List.mem_map]
    constructor
    · rintro ⟨k, hk, rfl⟩
      exact ((mem_brg_ren h hp hl hq ql).mp hk).2
    · intro hx
      have xl := ((mem_brg h).mp hx).1
      obtain ⟨k, hk, rfl⟩ := ap_surj hq (y := x) (by omega)
      exact ⟨k, (mem_brg_ren h hp hl hq ql).mpr ⟨by omega, hx⟩, rfl⟩
theorem rch_inn {u v : Nat} (hu : u < n) (hv : v < n) : Rch (inn n (Hw.renQ p q es)) (ap p u) (ap p v) ↔ Rch (inn n es) u v := by
  have lt : ∀ x, x < n → ap p x < n := fun x hx => by rw [← hl]; exact ap_lt hp (by omega)
  rw [sep (h.renQ hp hl hq ql) (lt u hu) (lt v hv), sep h hu hv, renQ_len hq ql]
  constructor
  · intro a i hi
    obtain ⟨k, hk, rfl⟩ := ap_surj hq (y := i) (by omega)
    exact (rch_renQ h hp hl hq ql (by omega) hu hv).mp (a k (by omega))
  · intro a k hk
    exact (rch_renQ h hp hl hq ql hk hu hv).mpr (a _ (by rw [← ql]; exact ap_lt hq (by omega)))
end
/-! ### cells -/
theorem mem_cel {n : Nat} {es : List Ed} (h : CN n es) {c : List Nat} : c ∈ cel n es ↔ ∃ x, x < n ∧ c = cls n (lj n (inn n es)) (ap (lj n (inn n es)) x) := by
  have lb := lb_lj (okE_ve (ok := fun j => !decide (j ∈ brg n es)) h.2.1)
  change Lb n (inn n es) (lj n (inn n es)) at lb
  unfold cel celL
  rw [List.mem_map]
  constructor
  · rintro ⟨l, hl, rfl⟩
    obtain ⟨a, b⟩ := mem_rts.mp hl
    exact ⟨l, a, by rw [b]⟩
  · rintro ⟨x, hx, rfl⟩
    exact ⟨_, mem_rts.mpr (root_ap lb hx), rfl⟩
theorem mem_clsr {n : Nat} {es : List Ed} (h : CN n es) {x y : Nat} (hx : x < n) : y ∈ cls n (lj n (inn n es)) (ap (lj n (inn n es)) x) ↔ y < n ∧ Rch (inn n es) x y := by
  have ve : VE n (inn n es) := okE_ve h.2.1
  rw [mem_cls]
  constructor
  · rintro ⟨a, b⟩
    exact ⟨a, ((lj_same ve a hx).mp b).symm⟩
  · rintro ⟨a, b⟩
    exact ⟨a, (lj_same ve a hx).mpr b.symm⟩
def img (n : Nat) (p c : List Nat) : List Nat := (List.range n).filter fun y => decide (y ∈ c.map (ap p))
theorem cel_rise {n : Nat} {es : List Ed} (h : CN n es) : (cel n es).Pairwise fun c d => ∃ a t b s, c = a :: t ∧ d = b :: s ∧ a < b := by
  have lb := lb_lj (okE_ve (ok := fun j => !decide (j ∈ brg n es)) h.2.1)
  change Lb n (inn n es) (lj n (inn n es)) at lb
  unfold cel celL
  rw [List.pairwise_map]
  refine List.Pairwise.imp_of_mem (fun {a b} ha hb lt => ?_) (filter_rise n _)
  obtain ⟨a1, a2⟩ := mem_rts.mp ha
  obtain ⟨b1, b2⟩ := mem_rts.mp hb
  obtain ⟨t, ht⟩ := cls_head lb a1 a2
  obtain ⟨s, hs⟩ := cls_head lb b1 b2
  exact ⟨a, t, b, s, ht, hs, lt⟩
theorem cel_nodup {n : Nat} {es : List Ed} (h : CN n es) : (cel n es).Nodup := by
  rw [List.nodup_iff_pairwise_ne]
  refine List.Pairwise.imp (fun {c d} z e => ?_) (cel_rise h)
  obtain ⟨a, t, b, s, rfl, rfl, lt⟩ := z
  cases e
  omega
section
variable {n : Nat} {es : List Ed} (h : CN n es) {p q : List Nat} (hp : IsP p) (hl : p.length = n) (hq : IsP q) (ql : q.length = es.length)
include h hp hl hq ql
theorem img_cls {x : Nat} (hx : x < n) : img n p (cls n (lj n (inn n es)) (ap (lj n (inn n es)) x)) = cls n (lj n (inn n (renQ p q es))) (ap (lj n (inn n (renQ p q es))) (ap p x)) := by
  have lt : ∀ x, x < n → ap p x < n := fun x hx => by rw [← hl]; exact ap_lt hp (by omega)
  have cr := h.renQ hp hl hq ql
  have e : cls n (lj n (inn n (renQ p q es))) (ap (lj n (inn n (renQ p q es))) (ap p x)) = (List.range n).filter fun y => decide (y ∈ cls n (lj n (inn n (renQ p q es))) (ap (lj n (inn n (renQ p q es))) (ap p x))) := by
    conv => lhs; unfold cls
    refine filter_ext fun y hy => ?_
    rw [decide_eq_true_eq, decide_eq_true_eq, mem_cls]
    exact ⟨fun z => ⟨hy, z⟩, fun z => z.2⟩
  rw [e]
  unfold img
  refine filter_ext fun y hy => ?_
  rw [decide_eq_true_eq, decide_eq_true_eq, mem_clsr cr (lt x hx), List.mem_map]
  constructor
  · rintro ⟨z, hz, rfl⟩
    obtain ⟨a, b⟩ := (mem_clsr h hx).mp hz
    exact ⟨hy, (rch_inn h hp hl hq ql hx a).mpr b⟩
  · rintro ⟨_, b⟩
    obtain ⟨z, hz, rfl⟩ := ap_surj hp (y := y) (by omega)
    exact ⟨z, (mem_clsr h hx).mpr ⟨by omega, (rch_inn h hp hl hq ql hx (by omega)).mp b⟩, rfl⟩
theorem cel_ren : ((cel n es).map (img n p)).Perm (cel n (renQ p q es)) := by
  have lt : ∀ x, x < n → ap p x < n := fun x hx => by rw [← hl]; exact ap_lt hp (by omega)
  have cr := h.renQ hp hl hq ql
  have mem : ∀ c', c' ∈ (cel n es).map (img n p) ↔ c' ∈ cel n (renQ p q es) := fun c' => by
    rw [List.mem_map, mem_cel cr]
    constructor
    · rintro ⟨c, hc, rfl⟩
      obtain ⟨x, hx, rfl⟩ := (mem_cel h).mp hc
      exact ⟨ap p x, lt x hx, img_cls h hp hl hq ql hx⟩
    · rintro ⟨x', hx', rfl⟩
      obtain ⟨x, hx, rfl⟩ := ap_surj hp (y := x') (by omega)
      exact ⟨_, (mem_cel h).mpr ⟨x, by omega, rfl⟩, img_cls h hp hl hq ql (by omega)⟩
  refine (List.perm_ext_iff_of_nodup ?_ (cel_nodup cr)).mpr mem
  rw [List.nodup_iff_pairwise_ne, List.pairwise_map]
  refine List.Pairwise.imp_of_mem (fun {c d} hc hd ne e => ne ?_) (List.nodup_iff_pairwise_ne.mp (cel_nodup h))
  obtain ⟨x, hx, rfl⟩ := (mem_cel h).mp hc
  obtain ⟨y, hy, rfl⟩ := (mem_cel h).mp hd
  rw [img_cls h hp hl hq ql hx, img_cls h hp hl hq ql hy] at e
  have m : ap p y ∈ cls n (lj n (inn n (renQ p q es))) (ap (lj n (inn n (renQ p q es))) (ap p y)) := (mem_clsr cr (lt y hy)).mpr ⟨lt y hy, .refl _⟩
  rw [← e] at m
  have r := (rch_inn h hp hl hq ql hx hy).mp ((mem_clsr cr (lt x hx)).mp m).2
  have ve : VE n (inn n es) := okE_ve h.2.1
  rw [(lj_same ve hx hy).mpr r]
end
/-- sorted, the same numbers -/
theorem img_of {n : Nat} {p c s : List Nat} (hp : IsP p) (hl : p.length = n) (hc : c.Nodup) (lt : ∀ x ∈ c, x < n) (ps : s.Perm (c.map (ap p))) (so : s.Pairwise (· ≤ ·)) : s = img n p c := by
  have nd : (c.map (ap p)).Nodup := by
    rw [List.nodup_iff_pairwise_ne, List.pairwise_map]
    refine List.Pairwise.imp_of_mem (fun {a b} ha hb ne e => ne ?_) (List.nodup_iff_pairwise_ne.mp hc)
    exact ap_inj hp (by rw [hl]; exact lt a ha) (by rw [hl]; exact lt b hb) e
  have p2 : (img n p c).Perm (c.map (ap p)) := perm_of_mem (List.Nodup.sublist List.filter_sublist List.nodup_range) nd fun y => by
    unfold img
    rw [List.mem_filter, decide_eq_true_eq, List.mem_range]
    refine ⟨fun z => z.2, fun z => ⟨?_, z⟩⟩
    obtain ⟨x, hx, rfl⟩ := List.mem_map.mp z
    rw [← hl]
    exact ap_lt hp (by rw [hl]; exact lt x hx)
  refine List.Perm.eq_of_pairwise (fun a b _ _ x y => Nat.le_antisymm x y) so ?_ (ps.trans p2.symm)
  exact List.Pairwise.imp (fun z => Nat.le_of_lt z) (filter_rise n _)
theorem rise_eq {s t : List Nat} (ps : s.Perm t) (so : s.Pairwise (· ≤ ·)) (st : t.Pairwise (· < ·)) : s = t :=
  List.Perm.eq_of_pairwise (fun a b _ _ x y => Nat.le_antisymm x y) so (List.Pairwise.imp (fun z => Nat.le_of_lt z) st) ps
end Hw

namespace Hw
open PySem PySem.Spec PyProof.Rows L2
/-! ### over a list or a tuple -/
def SeqR (K : PySem.W.Frag) (H1 : Hp) (a : Addr) (R : It → Hp → Prop) : Prop := ((∃ xs, SqL K H1 a xs) ∧ R (Itl K a) H1) ∨ ((∃ xs, SqT K H1 a xs) ∧ R (Itt K a) H1)
def iSeq (K : PySem.W.Frag) (tl : TE) : TI := fun σ H R => tl σ H fun x H1 => ∃ a, x = .ref a ∧ SeqR K H1 a R
theorem pi_seq {X : Cx} {tg l : Expr} {tl : TE} (hl : PE X l tl) : PI X tg l (iSeq X.K tl) := by
  refine ⟨fun pins s σ H R I h => ?_⟩
  refine thn (hl.run pins s σ H _ I h) fun v s1 ⟨x, H1, I1, r1, q1⟩ => ?_
  obtain ⟨a, e, q1⟩ := q1
  subst e
  cases r1
  rcases q1 with ⟨⟨xs, hq⟩, q⟩ | ⟨⟨xs, hq⟩, q⟩
  · obtain ⟨its, rv, p, hz⟩ := I1.list hq
    refine wpAny_pyIter_list p.isList ?_
    refine ⟨s1.heap.objs.size, [s1.heap.objs.size], _, _, H1, rfl, I1.kept (t' := s1.toks) fun b o e => Heap.get?_push_of_some _ e, turn_list a _, ⟨_, Heap.get?_push_size _ rfl, rfl, rfl⟩, fun b hb => ?_, q⟩
    have e : b = s1.heap.objs.size := by simpa using hb
    subst e
    exact I1.fpOk (Nat.le_refl _) (I1.hok.fresh (Nat.le_refl _))
  · obtain ⟨its, rv, p, hz⟩ := I1.tuple hq
    refine wpAny_pyIter_tuple (show s1.heap.IsTuple a its.toArray from p) ?_
    refine ⟨s1.heap.objs.size, [s1.heap.objs.size], _, _, H1, rfl, I1.kept (t' := s1.toks) fun b o e => Heap.get?_push_of_some _ e, turn_tuple a _, ⟨_, Heap.get?_push_size _ rfl, rfl, rfl⟩, fun b hb => ?_, q⟩
    have e : b = s1.heap.objs.size := by simpa using hb
    subst e
    exact I1.fpOk (Nat.le_refl _) (I1.hok.fresh (Nat.le_refl _))
def EdS (H : Hp) (a : Addr) (es : List Ed) : Prop := EdL H a es ∨ EdT H a es
theorem EdS.same {H H' : Hp} {l : Addr} {es : List Ed} (h : EdS H l es) (s : Same H H') : EdS H' l es := h.elim (fun z => .inl (z.same s)) fun z => .inr (z.same s)
/-- a turn gives the pair that stands there -/
def YEd (H1 : Hp) (es : List Ed) : Nat → Hp → V → Hp → Prop := fun i H x H' => H' = H ∧ ∃ k e, x = V.ref k ∧ es[i]? = some e ∧ Tp H1 k (pl e)
theorem eds_it {K : PySem.W.Frag} {H1 : Hp} {a : Addr} {es : List Ed} (h : EdS H1 a es) {R : It → Hp → Prop} (q : ∀ J, Walk J es.length (fun H' => Same H1 H') (YEd H1 es) → R J H1) :
    SeqR K H1 a R := by
  rcases h with ⟨ks, k1, k2, k3⟩ | ⟨ks, k1, k2, k3⟩
  all_goals
    have y : ∀ i v, (ks.map fun k => V.ref k.1)[i]? = some v → ∃ k e, v = V.ref k ∧ es[i]? = some e ∧ Tp H1 k (pl e) := fun i v hv => by
      obtain ⟨k, hk, rfl⟩ := refs_get hv
      obtain ⟨e, he, ek⟩ := ed_get k2 hk
      exact ⟨k.1, e, rfl, he, by rw [← ek]; exact k3 k (List.mem_of_getElem? hk)⟩
  · have w := walk_list (K := K) (a := a) (xs := ks.map fun k => V.ref k.1)
    rw [nv_len, ed_len k2] at w
    exact .inl ⟨⟨_, sl_of k1⟩, q _ (w.mono (fun H' s => sl_of (s _ _ k1)) fun i H x H' _ _ z => ⟨z.1, y i x z.2⟩)⟩
  · have w := walk_tup (K := K) (a := a) (xs := ks.map fun k => V.ref k.1)
    rw [nv_len, ed_len k2] at w
    exact .inr ⟨⟨_, sq_of k1⟩, q _ (w.mono (fun H' s => sq_of (s _ _ k1)) fun i H x H' _ _ z => ⟨z.1, y i x z.2⟩)⟩
section
variable {P : Program} {w : World} {K : PySem.W.Frag} {mg : Str → Option Value} {base : Heap}
/-! ### _is_passage -/
def spIsPassage : Sp := fun vs H Q _ => ∃ (k : Addr) (e : Ed) (n : Nat), vs = [.ref k, .int (n : Int)] ∧ Tp H k (pl e) ∧ e.1 ≤ e.2 ∧ e.2 < n ∧ Q (.bl true) H
abbrev nIsP : List Str := ["value", "places", "u", "v"]
theorem scIsPassage : FnScope nIsP ["value", "places"] (defScope sIsPassage) := ⟨rfl, rfl, rfl, by decide +kernel, rfl, by decide +kernel, by decide +kernel⟩
theorem cal_isPassage (T : Txt mg) (GI : Cal P w K mg base "is_index" 2 spIndex) (D : Df K mg "_is_passage" sIsPassage ["value", "places"]) : Cal P w K mg base "_is_passage" 3 spIsPassage := by
  have nd := scIsPassage.nd
  refine cal_of D scIsPassage (fun vs H Q E h => ?_) (fun f cdv A outer s0 H vs Q E hr h => ?_)
  · obtain ⟨k, e, n, rfl, _⟩ := h
    rfl
  · obtain ⟨k, e, n, rfl, hk, h1, h2, q⟩ := h
    refine ⟨_, pss_cons (ps_if (PW.pt (pw_or (pt_not (pt_val (pe_callB call_isi (by rfl) T.isinstance (by decide +kernel) (pa_cons (pv 0) (pa_cons (pe_bltn (v := .ty "tuple") (by rfl) T.tuple (by decide +kernel) rfl) pa_nil)))))
        (pw_or1 (pt_cmpR op_ne (pe_callB cr_len (by rfl) T.len PySem.boot_len (pa_cons (pv 0) pa_nil)) pe_int (nomark _))))) (pss_one ps_never) pss_nil)
      <| pss_cons (ps_asg (pv 0) (pg_tup rfl (pgs_cons (pg_name (i := 2) nd rfl (.inl rfl)) (pgs_cons (pg_name (i := 3) nd rfl (.inl rfl)) pgs_nil))))
      <| pss_one (ps_ret (pe_and (pe_cl GI hr (by rfl) (pa_cons (pv 2) (pa_cons (pv 1) pa_nil))) (pe_and (pe_cl GI hr (by rfl) (pa_cons (pv 3) (pa_cons (pv 1) pa_nil))) (pe_one (pe_cmpR op_le (pv 2) (pv 3) (nomark _)))))), ?_⟩
    refine ⟨_, rfl, _, _, _, _, true, rfl, .ty _, .base (.tup hk), kit_ty (by decide +kernel), true, rfl, iteF ?_⟩
    refine ⟨_, rfl, k, _, rfl, .inr (sq_of hk), rfl, _, rfl, iteF ?_⟩
    refine ⟨_, rfl, k, _, rfl, sq_of hk, rfl, _, _, rfl, _, _, rfl, rfl, ?_⟩
    refine ⟨_, rfl, _, rfl, _, _, rfl, ?_⟩
    have b1 : decide ((0 : Int) ≤ (e.1 : Int) ∧ (e.1 : Int) < (n : Int)) = true := decide_eq_true ⟨by omega, by omega⟩
    have b2 : decide ((0 : Int) ≤ (e.2 : Int) ∧ (e.2 : Int) < (n : Int)) = true := decide_eq_true ⟨by omega, by omega⟩
    have b3 : decide ((e.1 : Int) ≤ (e.2 : Int)) = true := decide_eq_true (by omega)
    refine ⟨_, rfl, ?_⟩
    rw [b1]
    refine iteT ⟨_, rfl, _, rfl, _, _, rfl, _, rfl, ?_⟩
    rw [b2]
    refine iteT ⟨_, rfl, _, rfl, _, _, rfl, rfl, ?_⟩
    show Q (V.bl (decide ((e.1 : Int) ≤ (e.2 : Int)))) H
    rw [b3]
    exact q
/-! ### _first_wrong -/
def spFirstWrong : Sp := fun vs H Q _ => ∃ (a : Addr) (n : Nat) (es : List Ed), vs = [.ref a, .int (n : Int)] ∧ EdT H a es ∧ VE n es ∧ ∀ H', Same H H' → Q .non H'
abbrev nFw : List Str := ["values", "places", "index", "value"]
theorem scFirstWrong : FnScope nFw ["values", "places"] (defScope sFirstWrong) := ⟨rfl, rfl, rfl, by decide +kernel, rfl, by decide +kernel, by decide +kernel⟩
theorem cal_firstWrong (T : Txt mg) (GI : Cal P w K mg base "_is_passage" 3 spIsPassage) (D : Df K mg "_first_wrong" sFirstWrong ["values", "places"]) : Cal P w K mg base "_first_wrong" 4 spFirstWrong := by
  have nd := scFirstWrong.nd
  refine cal_of D scFirstWrong (fun vs H Q E h => ?_) (fun f cdv A outer s0 H vs Q E hr h => ?_)
  · obtain ⟨a, n, es, rfl, _⟩ := h
    rfl
  · obtain ⟨a, n, es, rfl, ⟨ks, k1, k2, k3⟩, ve, q⟩ := h
    refine ⟨_, pss_cons (ps_for PassesOwn.never rfl (pi_enumT (by rfl) T.enumerate (pa_cons (pv 0) pa_nil)) (pg_tup rfl (pgs_cons (pg_name (i := 2) nd rfl (.inl rfl)) (pgs_cons (pg_name (i := 3) nd rfl (.inl rfl)) pgs_nil)))
          (pss_one (ps_if (pt_not (pt_val (pe_cl GI hr (by rfl) (pa_cons (pv 3) (pa_cons (pv 1) pa_nil))))) (pss_one ps_never) pss_nil)))
      <| pss_one (ps_ret pe_non), ?_⟩
    refine ⟨_, rfl, a, _, rfl, sq_of k1, for_it (walk_enumT (xs := ks.map fun k => V.ref k.1)) (fun i σ H' => ∃ v2 v3, σ = [some (.ref a), some (.int (n : Int)), v2, v3] ∧ Same H H') ⟨_, _, rfl, fun _ _ h => h⟩ (fun i σ H' _ ⟨_, _, _, sm⟩ => sq_of (sm _ _ k1)) ?_ ?_⟩
    · rintro i x σ H3 H4 hi ⟨v2, v3, rfl, sm⟩ ⟨T1, i', y, rfl, nT, rfl, ei, ey⟩
      obtain rfl : V.int (i : Int) = i' := Option.some.inj ei
      obtain ⟨k, hk, rfl⟩ := refs_get ey
      obtain ⟨e, he, ek⟩ := ed_get k2 hk
      have smT := sm.trans (same_upd (o := .tup [V.int (i : Int), V.ref k.1]) nT)
      have tk := smT _ _ (k3 k (List.mem_of_getElem? hk))
      have b := ve e (List.mem_of_getElem? he)
      refine ⟨T1, _, rfl, .inl (.inl upd_same), rfl, _, _, rfl, _, _, rfl, rfl, ?_⟩
      refine ⟨_, rfl, _, rfl, k.1, e, n, rfl, by rw [← ek]; exact tk, b.1, b.2, ?_⟩
      exact ⟨_, rfl, iteF ⟨_, _, rfl, smT⟩⟩
    · rintro σ H3 ⟨v2, v3, rfl, sm⟩
      exact q H3 sm
/-! ### _least_joined -/
def spLeast : Sp := fun vs H Q _ => ∃ (a : Addr) (n : Nat) (es : List Ed), vs = [.int (n : Int), .ref a] ∧ EdS H a es ∧ VE n es ∧ n ≤ 100 ∧ es.length ≤ 100 ∧ ∀ H' r, Same H H' → H r = none → H' r = some (.lst (NV (lj n es))) → Q (.ref r) H'
abbrev nLj : List Str := ["places", "passages", "least", "u", "v", "low", "high", "place"]
theorem scLeast : FnScope nLj ["places", "passages"] (defScope sLeast) := ⟨rfl, rfl, rfl, by decide +kernel, rfl, by decide +kernel, by decide +kernel⟩
theorem lj_take {n : Nat} {es : List Ed} {i : Nat} {e : Ed} (he : es[i]? = some e) : (es.take (i + 1)).foldl ljStep (List.range n) = ljStep ((es.take i).foldl ljStep (List.range n)) e := by
  rw [List.take_add_one, he, List.foldl_append]
  rfl
theorem lj_len (n : Nat) : ∀ (es : List Ed) (L : List Nat), (es.foldl ljStep L).length = L.length
  | [], _ => rfl
  | e :: es, L => by
    rw [List.foldl_cons, lj_len n es]
    unfold ljStep
    rw [List.length_map]
theorem cal_least (T : Txt mg) (D : Df K mg "_least_joined" sLeast ["places", "passages"]) : Cal P w K mg base "_least_joined" 1 spLeast := by
  have nd := scLeast.nd
  refine cal_of D scLeast (fun vs H Q E h => ?_) (fun f cdv A outer s0 H vs Q E hr h => ?_)
  · obtain ⟨a, n, es, rfl, _⟩ := h
    rfl
  · obtain ⟨a, n, es, rfl, he, ve, hn, hl, q⟩ := h
    refine ⟨_, pss_cons (ps_set (i := 2) nd rfl (.inl rfl) (pe_listRg (by rfl) (by rfl) T.list (prg_1 (by rfl) T.range (pv 0))))
      <| pss_cons (ps_for PassesOwn.never rfl (pi_seq (pv 1)) (pg_tup rfl (pgs_cons (pg_name (i := 3) nd rfl (.inl rfl)) (pgs_cons (pg_name (i := 4) nd rfl (.inl rfl)) pgs_nil)))
          (pss_cons (ps_set (i := 5) nd rfl (.inr rfl) (pe_callB (call_min2 rfl) (by rfl) T.min (by decide +kernel) (pa_cons (pe_ix (r := rIxL K) ix_list (pv 2) (pv 3) (fun _ _ => rfl)) (pa_cons (pe_ix (r := rIxL K) ix_list (pv 2) (pv 4) (fun _ _ => rfl)) pa_nil))))
          <| pss_cons (ps_set (i := 6) nd rfl (.inr rfl) (pe_callB (call_max2 rfl) (by rfl) T.max (by decide +kernel) (pa_cons (pe_ix (r := rIxL K) ix_list (pv 2) (pv 3) (fun _ _ => rfl)) (pa_cons (pe_ix (r := rIxL K) ix_list (pv 2) (pv 4) (fun _ _ => rfl)) pa_nil))))
          <| pss_one (ps_setLc (i := 2) (own := [("place", 7)]) (g := gName 7) (by rfl) nd rfl rfl (sw_true rfl rfl rfl (by decide +kernel)) (pi_list (pv 2))
              (blkOk_by (own := [("place", 7)]) (N := nLj) (sc := defScope sLeast) (by decide +kernel)) (fun _ _ _ _ _ => pg_name (i := 7) nd rfl (.inl rfl)) (fun _ _ _ _ _ => pts_nil)
              (fun _ _ _ _ _ => pe_ifExp (pt_cmpR op_eq (pv 7) (pv 6) (nomark _)) (pv 5) (pv 7)))))
      <| pss_one (ps_ret (pv 2)), ?_⟩
    refine ⟨_, rfl, _, rfl, RgOk.of_le (by omega) (by omega) (by omega) (by omega), fun l0 n0 => ?_⟩
    rw [NV_range]
    have s1 := same_upd (o := .lst (NV (List.range n))) n0
    have hl0 : upd H l0 (.lst (NV (List.range n))) l0 = some (.lst (NV (List.range n))) := upd_same
    have he1 := he.same s1
    generalize upd H l0 (.lst (NV (List.range n))) = H1 at *
    refine ⟨_, rfl, a, rfl, eds_it he1 fun J W => for_it W (fun i σ H' => ∃ l v3 v4 v5 v6 v7, σ = [some (.int (n : Int)), some (.ref a), some (.ref l), v3, v4, v5, v6, v7] ∧ Same H1 H' ∧ H l = none ∧ H' l = some (.lst (NV ((es.take i).foldl ljStep (List.range n)))))
      ⟨l0, _, _, _, _, _, rfl, fun _ _ h => h, n0, hl0⟩ (fun i σ H' _ ⟨_, _, _, _, _, _, _, sm, _⟩ => sm) ?_ ?_⟩
    · rintro i x σ H2 H3 hi ⟨l, v3, v4, v5, v6, v7, rfl, sm, nl, hL⟩ ⟨rfl, k, e, rfl, hei, hk⟩
      have tk := sm _ _ hk
      have b := ve e (List.mem_of_getElem? hei)
      rw [lj_take hei]
      have Ll : ((es.take i).foldl ljStep (List.range n)).length = n := by rw [lj_len n, List.length_range]
      generalize (es.take i).foldl ljStep (List.range n) = L at *
      have g1 : atI (NV L) ((e.1 : Nat) : Int) = some (.int ((ap L e.1 : Nat) : Int)) := atI_nat (NV_get (ap_get (by omega)))
      have g2 : atI (NV L) ((e.2 : Nat) : Int) = some (.int ((ap L e.2 : Nat) : Int)) := atI_nat (NV_get (ap_get (by omega)))
      have m1 : (if ((ap L e.2 : Nat) : Int) < ((ap L e.1 : Nat) : Int) then ((ap L e.2 : Nat) : Int) else ((ap L e.1 : Nat) : Int)) = ((min (ap L e.1) (ap L e.2) : Nat) : Int) := by
        split <;> omega
      have m2 : (if ((ap L e.2 : Nat) : Int) > ((ap L e.1 : Nat) : Int) then ((ap L e.2 : Nat) : Int) else ((ap L e.1 : Nat) : Int)) = ((max (ap L e.1) (ap L e.2) : Nat) : Int) := by
        split <;> omega
      refine ⟨k, _, rfl, sq_of tk, rfl, _, _, rfl, _, _, rfl, rfl, ?_⟩
      refine ⟨_, rfl, _, rfl, l, _, _, _, rfl, rfl, sl_of hL, g1, _, rfl, _, rfl, l, _, _, _, rfl, rfl, sl_of hL, g2, _, _, rfl, ?_⟩
      dsimp only
      rw [m1]
      refine ⟨_, rfl, _, rfl, l, _, _, _, rfl, rfl, sl_of hL, g1, _, rfl, _, rfl, l, _, _, _, rfl, rfl, sl_of hL, g2, _, _, rfl, ?_⟩
      dsimp only
      rw [m2]
      refine ⟨_, rfl, l, rfl, ⟨_, sl_of hL⟩, fun D nD => lc_it (walk_list (xs := NV L)) (fun j H' => Same H3 H' ∧ H' D = some (.lst (NV ((ljStep L e).take j)))) ⟨same_upd nD, by rw [upd_same]; rfl⟩ (fun j H' _ ⟨s4, _⟩ => sl_of (s4 _ _ hL)) ?_ ?_⟩
      · rintro j y H4 H5 hj ⟨s4, hD⟩ ⟨rfl, hy⟩
        rw [NV_len] at hj
        obtain ⟨z, hz, rfl⟩ := NV_get' hy
        have low : (ljStep L e).take (j + 1) = (ljStep L e).take j ++ [if z = max (ap L e.1) (ap L e.2) then min (ap L e.1) (ap L e.2) else z] := by
          unfold ljStep
          rw [List.take_add_one, List.getElem?_map, hz]
          rfl
        have fin : ∀ v : Nat, v = (if z = max (ap L e.1) (ap L e.2) then min (ap L e.1) (ap L e.2) else z) → ∃ acc, H5 D = some (.lst acc) ∧ acc.length < sizeLine ∧ (Same H3 (upd H5 D (.lst (acc ++ [V.int (v : Int)]))) ∧ upd H5 D (.lst (acc ++ [V.int (v : Int)])) D = some (.lst (NV ((ljStep L e).take (j + 1))))) := fun v ev => by
          refine ⟨_, hD, ?_, fun b o eb => ?_, ?_⟩
          · rw [NV_len, List.length_take]
            exact Nat.lt_of_le_of_lt (Nat.min_le_left _ _) (small1000 (by omega))
          · rw [upd_ne (ne_of_none eb nD)]
            exact s4 _ _ eb
          · rw [upd_same, low, NV_snoc, ev]
        refine ⟨rfl, _, rfl, _, rfl, rfl, _, rfl, ite2 (fun c => ?_) (fun c => ?_)⟩
        · exact ⟨_, rfl, fin _ (by rw [if_pos]; have := of_decide_eq_true c; simp at this; omega)⟩
        · exact ⟨_, rfl, fin _ (by rw [if_neg]; have := of_decide_eq_false (Bool.eq_false_iff.mpr c); simp at this; omega)⟩
      · rintro H4 ⟨s4, hD⟩
        have e4 : (ljStep L e).take (NV L).length = ljStep L e := List.take_of_length_le (by rw [NV_len]; unfold ljStep; rw [List.length_map]; exact Nat.le_refl _)
        rw [e4] at hD
        exact ⟨D, _, _, _, _, _, rfl, sm.trans s4, (s1.trans sm).free nD, hD⟩
    · rintro σ H2 ⟨l, v3, v4, v5, v6, v7, rfl, sm, nl, hL⟩
      rw [List.take_length] at hL
      exact ⟨_, rfl, q H2 l (s1.trans sm) nl hL⟩
end
end Hw

namespace Hw
open PySem PySem.Spec PyProof.Rows L2 ClX
/-! ### tuples cut and joined, whatever their length -/
theorem sl_take {K : PySem.W.Frag} {H : Hp} {a : Addr} {xs : List V} {k : Nat} {Q : VK} (h : H a = some (.tup xs)) (q : ∀ p H', Same H H' → H' p = some (.tup (xs.take k)) → Q (.ref p) H') : rSlA K (.ref a) none (some (k : Int)) H Q := by
  refine ⟨a, xs, rfl, sq_of h, fun ⟨_, e⟩ => q a H (fun _ _ z => z) ?_, fun _ p np => ?_⟩
  · rw [show HT.sIx xs.length xs.length (some (k : Int)) = min k xs.length from HT.sIx_nat _ _ _] at e
    rw [List.take_of_length_le (by omega)]
    exact h
  · rw [cut_to]
    exact q p _ (same_upd np) upd_same
theorem sl_drop {K : PySem.W.Frag} {H : Hp} {a : Addr} {xs : List V} {k : Nat} {Q : VK} (h : H a = some (.tup xs)) (q : ∀ p H', Same H H' → H' p = some (.tup (xs.drop k)) → Q (.ref p) H') : rSlA K (.ref a) (some (k : Int)) none H Q := by
  refine ⟨a, xs, rfl, sq_of h, fun ⟨e, _⟩ => q a H (fun _ _ z => z) ?_, fun _ p np => ?_⟩
  · rw [show HT.sIx xs.length 0 (some (k : Int)) = min k xs.length from HT.sIx_nat _ _ _] at e
    by_cases z : k = 0
    · subst z
      exact h
    · have : xs.length = 0 := by omega
      rw [List.eq_nil_of_length_eq_zero this] at h ⊢
      rw [List.drop_nil]
      exact h
  · rw [cut_from]
    exact q p _ (same_upd np) upd_same
theorem cat_any {K : PySem.W.Frag} {H : Hp} {a b : Addr} {xs ys : List V} {Q : VK} (ha : H a = some (.tup xs)) (hb : H b = some (.tup ys)) (le : xs.length + ys.length ≤ 1000) (q : ∀ p H', Same H H' → H' p = some (.tup (xs ++ ys)) → Q (.ref p) H') : rCatA K (.ref a) (.ref b) H Q := by
  refine ⟨a, b, xs, ys, rfl, rfl, sq_of ha, sq_of hb, Nat.le_of_lt (small1000 le), fun e => q b H (fun _ _ z => z) ?_, fun _ e => q a H (fun _ _ z => z) ?_, fun _ _ p np => q p _ (same_upd np) upd_same⟩
  · rw [e]; exact hb
  · rw [e, List.append_nil]; exact ha
/-! ### the class -/
structure NetC (K : PySem.W.Frag) (mg : Str → Option Value) (C : Addr) (mc : Value) : Prop where
  gC : mg "Network" = some (.ref C)
  rd : CRead K C mc
  mp : ∃ u, CVal K C mc "MAX_PLACES" (.int 12) u
  ms : ∃ u, CVal K C mc "MAX_PASSAGES" (.int 16) u
  cl : Cls K C
  n1 : NoAttr K C "_places"
  n2 : NoAttr K C "_passages"
  n3 : NoAttr K C "_start"
  n4 : NoAttr K C "_bridges"
  n5 : NoAttr K C "_cells"
  n6 : NoAttr K C "_exits"
section
variable {P : Program} {w : World} {K : PySem.W.Frag} {mg : Str → Option Value} {base : Heap}
/-! ### _is_connected -/
def spConn : Sp := fun vs H Q _ => ∃ (a : Addr) (n : Nat) (es : List Ed), vs = [.int (n : Int), .ref a] ∧ EdS H a es ∧ VE n es ∧ 1 ≤ n ∧ n ≤ 100 ∧ es.length ≤ 100 ∧ ∀ H', Same H H' → Q (.bl (cB n es)) H'
theorem scConn : FnScope ["places", "passages"] ["places", "passages"] (defScope sConn) := ⟨rfl, rfl, rfl, by decide +kernel, rfl, by decide +kernel, by decide +kernel⟩
theorem cal_conn (T : Txt mg) (GL : Cal P w K mg base "_least_joined" 1 spLeast) (D : Df K mg "_is_connected" sConn ["places", "passages"]) : Cal P w K mg base "_is_connected" 2 spConn := by
  refine cal_of D scConn (fun vs H Q E h => ?_) (fun f cdv A outer s0 H vs Q E hr h => ?_)
  · obtain ⟨a, n, es, rfl, _⟩ := h
    rfl
  · obtain ⟨a, n, es, rfl, he, ve, n1, hn, hl, q⟩ := h
    refine ⟨_, pss_one (ps_ret (pe_cmpR (op_eqD hr.units) (pe_cl GL hr (by rfl) (pa_cons (pv 0) (pa_cons (pv 1) pa_nil))) (pe_op op_rep (pe_lst (pa_cons pe_int pa_nil)) (pv 0)) (nomark _))), ?_⟩
    refine ⟨_, rfl, _, rfl, a, n, es, rfl, he, ve, hn, hl, fun H1 r s1 nr hr1 => ?_⟩
    refine ⟨by show 1 ≤ sizeLine; decide, fun l0 n0 => ?_⟩
    have s2 := s1.trans (same_upd (o := .lst [V.int 0]) n0)
    have hr2 := same_upd (o := .lst [V.int 0]) n0 _ _ hr1
    refine ⟨_, rfl, l0, _, _, rfl, rfl, upd_same, by omega, by omega, ?_, fun l1 nl1 => ?_⟩
    · show 1 * _ ≤ _
      rw [Int.toNat_natCast]
      exact Nat.le_of_lt (small1000 (by omega))
    rw [rep_flat]
    have s3 := s2.trans (same_upd (o := .lst (List.replicate n (V.int 0))) nl1)
    have hr3 := same_upd (o := .lst (List.replicate n (V.int 0))) nl1 _ _ hr2
    have e0 : List.replicate n (V.int 0) = (NI (List.replicate n 0)).map V.int := by
      rw [← NV_NI, NV_rep]
      rfl
    have e1 : NV (lj n es) = (NI (lj n es)).map V.int := NV_NI _
    refine ⟨.list ((NI (lj n es)).map PyData.int), .list ((NI (List.replicate n 0)).map PyData.int), dp_li (sl_of (by rw [← e1]; exact hr3)), dp_li (sl_of (by rw [← e0]; exact upd_same)), shaped_li _, shaped_li _, ?_⟩
    have e2 : PyData.eqv (.list ((NI (lj n es)).map PyData.int)) (.list ((NI (List.replicate n 0)).map PyData.int)) = cB n es := by
      rw [eqv_li]
      unfold cB
      by_cases z : lj n es = List.replicate n 0
      · rw [decide_eq_true z, z]; exact decide_eq_true rfl
      · rw [decide_eq_false z]; exact decide_eq_false fun y => z (NI_inj y)
    rw [e2]
    exact q _ s3
/-! ### _fault -/
def spFault : Sp := fun vs H Q _ => ∃ (a : Addr) (n : Nat) (es : List Ed), vs = [.int (n : Int), .ref a] ∧ EdT H a es ∧ CN n es ∧ n ≤ 12 ∧ es.length ≤ 16 ∧ ∀ H', Same H H' → Q .non H'
abbrev nFault : List Str := ["places", "passages", "index"]
theorem scFault : FnScope nFault ["places", "passages"] (defScope sFault) := ⟨rfl, rfl, rfl, by decide +kernel, rfl, by decide +kernel, by decide +kernel⟩
theorem cal_fault {C : Addr} {mc : Value} (T : Txt mg) (N : NetC K mg C mc) (GW : Cal P w K mg base "is_whole" 1 spWhole) (GF : Cal P w K mg base "_first_wrong" 4 spFirstWrong) (GC : Cal P w K mg base "_is_connected" 2 spConn)
    (D : Df K mg "_fault" sFault ["places", "passages"]) : Cal P w K mg base "_fault" 5 spFault := by
  have nd := scFault.nd
  refine cal_of D scFault (fun vs H Q E h => ?_) (fun f cdv A outer s0 H vs Q E hr h => ?_)
  · obtain ⟨a, n, es, rfl, _⟩ := h
    rfl
  · obtain ⟨a, n, es, rfl, he, cn, hn, hl, q⟩ := h
    have hr1 := hr.mono (show 1 ≤ 4 by decide)
    have hr2 := hr.mono (show 2 ≤ 4 by decide)
    obtain ⟨u1, v1⟩ := N.mp
    obtain ⟨u2, v2⟩ := N.ms
    refine ⟨_, pss_cons (ps_if (PW.pt (pw_or (pt_not (pt_val (pe_cl GW hr1 (by rfl) (pa_cons (pv 0) pa_nil)))) (pw_or1 (pt_not (pt_chain op_le op_le pe_int (pv 0) (pe_cval (pe_glob (by rfl) N.gC (v := .ref C) rfl))))))) (pss_one ps_never) pss_nil)
      <| pss_cons (ps_if (PW.pt (pw_or (pt_not (pt_val (pe_callB call_isi (by rfl) T.isinstance (by decide +kernel) (pa_cons (pv 1) (pa_cons (pe_bltn (v := .ty "tuple") (by rfl) T.tuple (by decide +kernel) rfl) pa_nil)))))
          (pw_or1 (pt_cmpR op_gt (pe_callB cr_len (by rfl) T.len PySem.boot_len (pa_cons (pv 1) pa_nil)) (pe_cval (pe_glob (by rfl) N.gC (v := .ref C) rfl)) (nomark _))))) (pss_one ps_never) pss_nil)
      <| pss_cons (ps_set (i := 2) nd rfl (.inl rfl) (pe_cl GF hr (by rfl) (pa_cons (pv 1) (pa_cons (pv 0) pa_nil))))
      <| pss_cons (ps_if (pt_cmpR op_notN (pv 2) pe_non (nomark _)) (pss_one ps_never) pss_nil)
      <| pss_cons (ps_if (pt_not (pt_val (pe_cl GC hr2 (by rfl) (pa_cons (pv 0) (pa_cons (pv 1) pa_nil))))) (pss_one ps_never) pss_nil)
      <| pss_one (ps_ret pe_non), ?_⟩
    obtain ⟨ks, k1, k2, k3⟩ := id he
    have n1 := cn.1
    refine ⟨_, rfl, _, rfl, ⟨_, rfl, iteF ?_⟩⟩
    refine ⟨_, rfl, _, _, rfl, rfl, _, rfl, ?_⟩
    rw [show decide ((1 : Int) ≤ (n : Int)) = true from decide_eq_true (by omega)]
    refine iteT ⟨C, mc, _, _, rfl, N.rd, v1, _, _, rfl, rfl, ?_⟩
    refine ⟨_, rfl, ?_⟩
    rw [show decide ((n : Int) ≤ 12) = true from decide_eq_true (by omega)]
    refine iteF ?_
    refine ⟨_, rfl, _, _, _, _, true, rfl, .ty _, .base (.tup k1), kit_ty (by decide +kernel), true, rfl, iteF ?_⟩
    refine ⟨_, rfl, a, _, rfl, .inr (sq_of k1), C, mc, _, _, rfl, N.rd, v2, _, _, rfl, rfl, _, rfl, ?_⟩
    rw [nv_len, ed_len k2]
    rw [show decide ((16 : Int) < (es.length : Int)) = false from decide_eq_false (by omega)]
    refine iteF ?_
    refine ⟨_, rfl, _, rfl, a, n, es, rfl, he, cn.2.1, fun H1 s1 => ?_⟩
    refine ⟨_, rfl, rfl, _, rfl, iteF ?_⟩
    refine ⟨_, rfl, _, rfl, a, n, es, rfl, .inr (he.same s1), cn.2.1, n1, by omega, by omega, fun H2 s2 => ⟨_, rfl, ?_⟩⟩
    rw [show cB n es = true from (cB_iff cn.2.1 n1).mpr cn.2.2]
    refine iteF ?_
    exact q _ (s1.trans s2)
/-! ### _find_bridges -/
def spBridges : Sp := fun vs H Q _ => ∃ (a : Addr) (n : Nat) (es : List Ed), vs = [.int (n : Int), .ref a] ∧ EdT H a es ∧ VE n es ∧ 1 ≤ n ∧ n ≤ 12 ∧ es.length ≤ 16 ∧ ∀ H' r, Same H H' → H r = none → Tp H' r (brg n es) → Q (.ref r) H'
abbrev nBr : List Str := ["places", "passages", "passage"]
theorem scBridges : FnScope nBr ["places", "passages"] (defScope sBridges) := ⟨rfl, rfl, rfl, by decide +kernel, rfl, by decide +kernel, by decide +kernel⟩
theorem edt_cut {H : Hp} {p : Addr} {es : List Ed} {ks : List (Addr × List Nat)} {i : Nat} (k2 : ks.map (·.2) = es.map pl) (k3 : ∀ k ∈ ks, Tp H k.1 k.2) (h : H p = some (.tup ((ks.map fun k => V.ref k.1).take i ++ (ks.map fun k => V.ref k.1).drop (i + 1)))) : EdT H p (es.eraseIdx i) := by
  refine ⟨ks.take i ++ ks.drop (i + 1), by rw [h, List.map_append, List.map_take, List.map_drop], ?_, fun k hk => ?_⟩
  · rw [List.eraseIdx_eq_take_drop_succ, List.map_append, List.map_append, List.map_take, List.map_drop, k2, List.map_take, List.map_drop]
  · rcases List.mem_append.mp hk with m | m
    · exact k3 k (List.mem_of_mem_take m)
    · exact k3 k (List.mem_of_mem_drop m)
def brgTo (n : Nat) (es : List Ed) (j : Nat) : List Nat := (List.range j).filter fun i => !cB n (es.eraseIdx i)
theorem brgTo_succ (n : Nat) (es : List Ed) (j : Nat) : brgTo n es (j + 1) = brgTo n es j ++ (if cB n (es.eraseIdx j) = true then [] else [j]) := by
  unfold brgTo
  rw [List.range_succ, List.filter_append]
  congr 1
  rw [List.filter_cons, List.filter_nil]
  cases cB n (es.eraseIdx j) <;> rfl
theorem cal_bridges (T : Txt mg) (GC : Cal P w K mg base "_is_connected" 2 spConn) (D : Df K mg "_find_bridges" sBridges ["places", "passages"]) : Cal P w K mg base "_find_bridges" 3 spBridges := by
  have nd := scBridges.nd
  refine cal_of D scBridges (fun vs H Q E h => ?_) (fun f cdv A outer s0 H vs Q E hr h => ?_)
  · obtain ⟨a, n, es, rfl, _⟩ := h
    rfl
  · obtain ⟨a, n, es, rfl, he, ve, n1, hn, hl, q⟩ := h
    refine ⟨_, pss_one (ps_ret (pe_callTy call_tuple_of (by rfl) T.tuple (by decide +kernel) (pa_cons (pe_lc (own := [("passage", 2)]) (g := gName 2) (by rfl) nd (pi_range1 (by rfl) T.range (pa_cons (pe_callB cr_len (by rfl) T.len PySem.boot_len (pa_cons (pv 1) pa_nil)) pa_nil))
        (blkOk_by (own := [("passage", 2)]) (N := nBr) (sc := defScope sBridges) (by decide +kernel)) (fun _ _ _ _ _ => pg_name (i := 2) nd rfl (.inl rfl))
        (fun _ _ _ _ _ => pts_one (pt_not (pt_val (pe_cl GC (by exact hr) (by rfl) (pa_cons (pv 0) (pa_cons (pe_op (r := rCatA K) op_catA (pe_slice (r := rSlA K) sl_tupA (pv 1) po_none (po_some (pv 2))) (pe_slice (r := rSlA K) sl_tupA (pv 1) (po_some (pe_op op_add (pv 2) pe_int)) po_none)) pa_nil))))))
        (fun _ _ _ _ _ => pv 2)) pa_nil))), ?_⟩
    obtain ⟨ks, k1, k2, k3⟩ := id he
    have kl := ed_len k2
    refine ⟨_, rfl, a, _, rfl, .inr (sq_of k1), _, rfl, by rw [nv_len]; omega, by rw [nv_len]; omega, ?_⟩
    rw [nv_len, kl, Int.toNat_natCast]
    refine fun D nD => lc_it walk_rg0 (fun i H' => Same H H' ∧ H' D = some (.lst (NV (brgTo n es i)))) ⟨same_upd nD, upd_same⟩ (fun _ _ _ _ => trivial) ?_ ?_
    · rintro i x _ H2 hi ⟨sm, hD⟩ ⟨rfl, rfl⟩
      refine ⟨rfl, ?_⟩
      have e1 : ((i : Int) + 1) = ((i + 1 : Nat) : Int) := by omega
      refine ⟨_, rfl, _, rfl, _, rfl, _, rfl, sl_take (sm _ _ k1) fun p H3 s3 hp => ?_⟩
      refine ⟨_, rfl, _, rfl, _, _, rfl, rfl, _, rfl, ?_⟩
      rw [e1]
      dsimp only [tNoPart]
      refine sl_drop (s3 _ _ (sm _ _ k1)) fun p2 H4 s4 hp2 => ?_
      refine cat_any (s4 _ _ hp) hp2 (by rw [List.length_take, List.length_drop, nv_len]; omega) fun p3 H5 s5 hp3 => ?_
      have s25 := (s3.trans s4).trans s5
      have ed := edt_cut k2 (fun k hk => s25 _ _ (sm _ _ (k3 k hk))) hp3
      refine ⟨p3, n, es.eraseIdx i, rfl, .inr ed, ve_erase ve, n1, by omega, Nat.le_trans (List.length_eraseIdx_le _ _) (by omega), fun H6 s6 => ?_⟩
      have s26 := s25.trans s6
      have hD6 := s26 _ _ hD
      refine ⟨_, rfl, ?_⟩
      rw [brgTo_succ]
      cases c : cB n (es.eraseIdx i) with
      | true =>
        refine iteF ?_
        rw [if_pos rfl, List.append_nil]
        exact ⟨sm.trans s26, hD6⟩
      | false =>
        refine iteT ⟨_, rfl, _, hD6, ?_, fun b o e => ?_, ?_⟩
        · rw [NV_len]
          unfold brgTo
          exact Nat.lt_of_le_of_lt (List.length_filter_le _ _) (by rw [List.length_range]; exact small1000 (by omega))
        · rw [upd_ne (ne_of_none e nD)]
          exact s26 _ _ (sm _ _ e)
        · rw [upd_same, if_neg (by decide), NV_snoc]
    · rintro H2 ⟨sm, hD⟩
      refine ⟨D, _, rfl, .inl ⟨sl_of hD, fun t nt => ?_⟩⟩
      exact q _ t (sm.trans (same_upd nt)) (sm.free nt) upd_same
end
end Hw

namespace Hw
open PySem PySem.Spec PyProof.Rows L2 ClX
theorem flat_NV (p : List Nat) : (NV p).all flatV = true := by
  unfold NV
  rw [List.all_map, List.all_eq_true]
  intro x _
  rfl
theorem inV_NV (x : Nat) (p : List Nat) : inV (.int (x : Int)) (NV p) = decide (x ∈ p) := by
  unfold inV NV
  rw [List.any_map]
  have e : ((fun y => eqV y (V.int (x : Int))) ∘ fun n : Nat => V.int (n : Int)) = fun n => decide (n = x) := by
    funext n
    show ((n : Int) == (x : Int)) = decide (n = x)
    by_cases z : n = x
    · subst z; simp
    · rw [decide_eq_false z]
      have : ¬ ((n : Int) = (x : Int)) := by omega
      simp [z]
      exact this
  rw [e]
  by_cases z : x ∈ p
  · rw [decide_eq_true z, List.any_eq_true]
    exact ⟨x, z, decide_eq_true rfl⟩
  · rw [decide_eq_false z, List.any_eq_false]
    intro y hy
    have : y ≠ x := fun q => z (q ▸ hy)
    simp [this]
def rTupO (K : PySem.W.Frag) : List V → Hp → VK → Prop := fun xs H Q => ∃ p ys, xs = [.ref p] ∧ ((SqL K H p ys ∧ ∀ l, H l = none → Q (.ref l) (upd H l (.tup ys))) ∨ (SqT K H p ys ∧ Q (.ref p) H))
theorem cr_tupO {X : Cx} : CallR X (.type "tuple") (rTupO X.K) := call_tuple_of
/-! ### the passages that are no bridges -/
def okTo (ok : Nat → Bool) (es : List Ed) (j : Nat) : List Ed := ((List.range j).filter ok).map fun i => es.getD i (0, 0)
theorem okTo_succ (ok : Nat → Bool) (es : List Ed) (j : Nat) : okTo ok es (j + 1) = okTo ok es j ++ (if ok j = true then [es.getD j (0, 0)] else []) := by
  unfold okTo
  rw [List.range_succ, List.filter_append, List.map_append]
  congr 1
  rw [List.filter_cons, List.filter_nil]
  cases ok j <;> rfl
theorem okTo_len (ok : Nat → Bool) (es : List Ed) (j : Nat) : (okTo ok es j).length ≤ j := by
  unfold okTo
  rw [List.length_map]
  exact Nat.le_trans (List.length_filter_le _ _) (by rw [List.length_range]; exact Nat.le_refl _)
/-! ### places by their labels -/
def grp (L : List Nat) (j r : Nat) : List Nat := (List.range j).filter fun x => decide (ap L x = r)
def rtTo (L : List Nat) (j : Nat) : List Nat := (List.range j).filter fun l => decide (ap L l = l)
theorem grp_succ (L : List Nat) (j r : Nat) : grp L (j + 1) r = grp L j r ++ (if ap L j = r then [j] else []) := by
  unfold grp
  rw [List.range_succ, List.filter_append]
  congr 1
  rw [List.filter_cons, List.filter_nil]
  by_cases z : ap L j = r <;> simp [z]
theorem rtTo_succ (L : List Nat) (j : Nat) : rtTo L (j + 1) = rtTo L j ++ (if ap L j = j then [j] else []) := by
  unfold rtTo
  rw [List.range_succ, List.filter_append]
  congr 1
  rw [List.filter_cons, List.filter_nil]
  by_cases z : ap L j = j <;> simp [z]
theorem mem_rtTo {L : List Nat} {j r : Nat} : r ∈ rtTo L j ↔ r < j ∧ ap L r = r := by
  unfold rtTo
  rw [List.mem_filter, List.mem_range, decide_eq_true_eq]
theorem rtTo_len (L : List Nat) (j : Nat) : (rtTo L j).length ≤ j := by
  unfold rtTo
  exact Nat.le_trans (List.length_filter_le _ _) (by rw [List.length_range]; exact Nat.le_refl _)
def kvG (ad : Nat → Addr) (R : List Nat) : List (Key × V) := R.map fun r : Nat => (Sum.inl (r : Int), V.ref (ad r))
theorem kvG_in {ad : Nat → Addr} {r : Nat} : ∀ {R : List Nat}, r ∈ R → valV (kvG ad R) (.inl (r : Int)) = some (.ref (ad r))
  | a :: R, h => by
    by_cases z : a = r
    · subst z
      exact valV_pos (p := (Sum.inl (a : Int), V.ref (ad a))) (r := kvG ad R) rfl
    · have : ¬ ((Sum.inl (a : Int), V.ref (ad a)) : Key × V).1 = .inl (r : Int) := fun q => z (Int.ofNat.inj (Sum.inl.inj q))
      have e := valV_neg (p := ((Sum.inl (a : Int), V.ref (ad a)) : Key × V)) (r := kvG ad R) this
      exact e.trans (kvG_in ((List.mem_cons.mp h).resolve_left fun q => z q.symm))
theorem kvG_out {ad : Nat → Addr} {r : Nat} : ∀ {R : List Nat}, r ∉ R → valV (kvG ad R) (.inl (r : Int)) = none
  | [], _ => rfl
  | a :: R, h => by
    have : ¬ ((Sum.inl (a : Int), V.ref (ad a)) : Key × V).1 = .inl (r : Int) := fun q => h (by rw [Int.ofNat.inj (Sum.inl.inj q)]; exact List.mem_cons_self)
    have e := valV_neg (p := ((Sum.inl (a : Int), V.ref (ad a)) : Key × V)) (r := kvG ad R) this
    exact e.trans (kvG_out fun q => h (List.mem_cons_of_mem _ q))
theorem kvG_congr {ad bd : Nat → Addr} {R : List Nat} (h : ∀ r ∈ R, ad r = bd r) : kvG ad R = kvG bd R := List.map_congr_left fun r hr => by rw [h r hr]
/-- the dict at d, the first j places put in; H0: what stood before -/
def GrpAt (H0 H : Hp) (d : Addr) (L : List Nat) (j : Nat) : Prop := ∃ ad : Nat → Addr, H d = some (.dK (kvG ad (rtTo L j))) ∧ (∀ r ∈ rtTo L j, H (ad r) = some (.lst (NV (grp L j r))) ∧ H0 (ad r) = none) ∧ ∀ r ∈ rtTo L j, ∀ s ∈ rtTo L j, ad r = ad s → r = s
/-- how cells are handed back -/
def CsAt (H : Hp) (r : Addr) (cs : List (List Nat)) : Prop := ∃ ks : List (Addr × List Nat), H r = some (.tup (ks.map fun k => .ref k.1)) ∧ ks.map (·.2) = cs ∧ ∀ k ∈ ks, Tp H k.1 k.2
theorem CsAt.same {H H' : Hp} {r : Addr} {cs : List (List Nat)} (h : CsAt H r cs) (s : Same H H') : CsAt H' r cs := by
  obtain ⟨ks, a, b, c⟩ := h
  exact ⟨ks, s _ _ a, b, fun k hk => s _ _ (c k hk)⟩
section
variable {P : Program} {w : World} {K : PySem.W.Frag} {mg : Str → Option Value} {base : Heap}
def spCells : Sp := fun vs H Q _ => ∃ (a b : Addr) (n : Nat) (es : List Ed), vs = [.int (n : Int), .ref a, .ref b] ∧ EdT H a es ∧ Tp H b (brg n es) ∧ VE n es ∧ 1 ≤ n ∧ n ≤ 12 ∧ es.length ≤ 16 ∧ ∀ H' r, Same H H' → H r = none → CsAt H' r (cel n es) → Q (.ref r) H'
abbrev nCe : List Str := ["places", "passages", "bridges", "inner", "cells", "place", "least", "passage", "ends"]
theorem scCells : FnScope nCe ["places", "passages", "bridges"] (defScope sCells) := ⟨rfl, rfl, rfl, by decide +kernel, rfl, by decide +kernel, by decide +kernel⟩
theorem cal_cells (T : Txt mg) (GL : Cal P w K mg base "_least_joined" 1 spLeast) (D : Df K mg "_find_cells" sCells ["places", "passages", "bridges"]) : Cal P w K mg base "_find_cells" 2 spCells := by
  have nd := scCells.nd
  refine cal_of D scCells (fun vs H Q E h => ?_) (fun f cdv A outer s0 H vs Q E hr h => ?_)
  · obtain ⟨a, b, n, es, rfl, _⟩ := h
    rfl
  · obtain ⟨a, b, n, es, rfl, he, hb, ve, n1, hn, hl, q⟩ := h
    have hu := hu_of hr
    refine ⟨_, pss_cons (ps_setLc (i := 3) (own := [("passage", 7), ("ends", 8)]) (g := gTup K 2 (gCons (gName 7) (gCons (gName 8) gNil))) (by rfl) nd rfl rfl (sw_true rfl rfl rfl (by decide +kernel)) (pi_enumT (by rfl) T.enumerate (pa_cons (pv 1) pa_nil))
          (blkOk_by (own := [("passage", 7), ("ends", 8)]) (N := nCe) (sc := defScope sCells) (by decide +kernel)) (fun _ _ _ _ _ => pg_tup rfl (pgs_cons (pg_name (i := 7) nd rfl (.inl rfl)) (pgs_cons (pg_name (i := 8) nd rfl (.inl rfl)) pgs_nil)))
          (fun _ _ _ _ _ => pts_one (pt_cmpR (r := rIn K true) op_notIn_seq (pv 7) (pv 2) (by rfl))) (fun _ _ _ _ _ => pv 8))
      <| pss_cons (ps_set (i := 4) nd rfl (.inr rfl) pe_dnewK)
      <| pss_cons (ps_for PassesOwn.never rfl (pi_enum (by rfl) T.enumerate (pa_cons (pe_cl GL hr (by rfl) (pa_cons (pv 0) (pa_cons (pv 3) pa_nil))) pa_nil)) (pg_tup rfl (pgs_cons (pg_name (i := 5) nd rfl (.inl rfl)) (pgs_cons (pg_name (i := 6) nd rfl (.inl rfl)) pgs_nil)))
          (pss_one (ps_expr (pe_bm PySem.F.plainAttrs_list PySem.F.slot_list_append PySem.F.type_list_append mt_append (pe_dsetd (pv 4) (pv 6) (pe_lst pa_nil) ⟨by rfl, by rfl, by rfl, by rfl⟩) (pa_cons (pv 5) pa_nil)))))
      <| pss_one (ps_ret (pe_callTy call_tuple_of (by rfl) T.tuple (by decide +kernel) (pa_cons (pe_lc (own := [("least", 6)]) (g := gName 6) (by rfl) nd (pi_list (pe_callB (call_sortedDI rfl) (by rfl) T.sorted (by decide +kernel) (pa_cons (pv 4) pa_nil)))
          (blkOk_by (own := [("least", 6)]) (N := nCe) (sc := defScope sCells) (by decide +kernel)) (fun _ _ _ _ _ => pg_name (i := 6) nd rfl (.inl rfl)) (fun _ _ _ _ _ => pts_nil)
          (fun _ _ _ _ _ => pe_callTy (T := "tuple") (r := rTupO K) cr_tupO (by rfl) T.tuple (by decide +kernel) (pa_cons (pe_dget (by exact hu) (pv 4) (pv 6) (fun _ _ => rfl)) pa_nil))) pa_nil))), ?_⟩
    obtain ⟨ks, k1, k2, k3⟩ := id he
    have kl := ed_len k2
    refine ⟨_, rfl, a, _, rfl, sq_of k1, fun D nD => lc_it (walk_enumT (xs := ks.map fun k => V.ref k.1)) (fun i H' => Same H H' ∧ EdL H' D (okTo (fun j => !decide (j ∈ brg n es)) es i)) ⟨same_upd nD, [], upd_same, rfl, fun k hk => nomatch hk⟩ (fun i H' _ ⟨sm, _⟩ => sq_of (sm _ _ k1)) ?_ ?_⟩
    · rintro i x H2 H3 hi ⟨sm, kd, hD, h2, h3⟩ ⟨T1, i', y, rfl, nT, rfl, ei, ey⟩
      obtain rfl : V.int (i : Int) = i' := Option.some.inj ei
      obtain ⟨k, hk, rfl⟩ := refs_get ey
      obtain ⟨e, hei, ek⟩ := ed_get k2 hk
      rw [nv_len, kl] at hi
      have sT := same_upd (o := .tup [V.int (i : Int), V.ref k.1]) nT
      have smT := sm.trans sT
      have tk := smT _ _ (k3 k (List.mem_of_getElem? hk))
      refine ⟨T1, _, rfl, .inl (.inl upd_same), rfl, _, _, rfl, _, _, rfl, rfl, rfl, ?_⟩
      refine ⟨_, rfl, _, rfl, b, _, rfl, .inr (sq_of (smT _ _ hb)), rfl, flat_NV _, _, rfl, ?_⟩
      rw [inV_NV, okTo_succ]
      have eg : es.getD i (0, 0) = e := by
        rw [List.getD_eq_getElem?_getD, hei]
        rfl
      rw [eg]
      by_cases z : i ∈ brg n es
      · rw [decide_eq_true z]
        refine iteF ⟨smT, ?_⟩
        rw [if_neg (by decide), List.append_nil]
        exact ⟨kd, sT _ _ hD, h2, fun k hk => sT _ _ (h3 k hk)⟩
      · rw [decide_eq_false z]
        refine iteT ⟨_, rfl, _, sT _ _ hD, ?_, fun b o eb => ?_, ?_⟩
        · rw [nv_len, ed_len h2]
          exact Nat.lt_of_le_of_lt (okTo_len _ _ _) (small1000 (by omega))
        · rw [upd_ne (ne_of_none eb nD)]
          exact smT _ _ eb
        · rw [if_pos (show (!false) = true from rfl)]
          exact edl_snoc h2 (fun k hk => sT _ _ (h3 k hk)) (by rw [← ek]; exact tk) (sT _ _ hD)
    · rintro H2 ⟨sm, hD⟩
      rw [nv_len, kl] at hD
      have hi0 : okTo (fun j => !decide (j ∈ brg n es)) es es.length = inn n es := rfl
      rw [hi0] at hD
      intro d nd'
      have s3 := sm.trans (same_upd (o := .dK []) nd')
      have hD3 := hD.same (same_upd (o := .dK []) nd')
      have hd3 : upd H2 d (.dK []) d = some (.dK []) := upd_same
      have d0 : H d = none := sm.free nd'
      generalize upd H2 d (.dK []) = H3 at *
      have il : (inn n es).length ≤ 16 := Nat.le_trans (okTo_len _ _ _) hl
      refine ⟨_, rfl, _, rfl, D, n, inn n es, rfl, .inl hD3, okE_ve ve, by omega, by omega, fun H4 r s4 nr hr4 => ?_⟩
      have lb := lb_lj (okE_ve (ok := fun j => !decide (j ∈ brg n es)) ve)
      change Lb n (inn n es) (lj n (inn n es)) at lb
      have eC : cel n es = (rtTo (lj n (inn n es)) n).map (grp (lj n (inn n es)) n) := rfl
      rw [eC] at q
      generalize lj n (inn n es) = L at *
      have hd4 := s4 _ _ hd3
      have s04 := s3.trans s4
      have Ll := lb.len
      refine ⟨r, NV L, rfl, sl_of hr4, for_it (walk_enum (xs := NV L)) (fun i σ H' => ∃ v5 v6, σ = [some (.int (n : Int)), some (.ref a), some (.ref b), some (.ref D), some (.ref d), v5, v6, none, none] ∧ (∀ b o, b ≠ d → H4 b = some o → H' b = some o) ∧ GrpAt H4 H' d L i)
        ⟨_, _, rfl, fun b o _ e => e, fun _ => 0, hd4, fun r hr => absurd (mem_rtTo.mp hr).1 (Nat.not_lt_zero _), fun r hr => absurd (mem_rtTo.mp hr).1 (Nat.not_lt_zero _)⟩ (fun i σ H' _ ⟨_, _, _, kp, _⟩ => sl_of (kp r _ (ne_of hr4 hd4 (by intro z; cases z)) hr4)) ?_ ?_⟩
      · rintro i x σ H5 H6 hi ⟨v5, v6, rfl, kp, ad, g1, g2, g3⟩ ⟨T1, i', y, rfl, nT, rfl, ei, ey⟩
        obtain rfl : V.int (i : Int) = i' := Option.some.inj ei
        rw [NV_len, Ll] at hi
        have ey : (NV L)[i]? = some y := ey
        rw [NV_get (ap_get (by omega))] at ey
        obtain rfl := Option.some.inj ey
        have sT := same_upd (o := .tup [V.int (i : Int), V.int ((ap L i : Nat) : Int)]) nT
        have rt := root_ap lb hi
        have le := lb.le i hi
        have dT : d ≠ T1 := ne_of_none g1 nT
        have g1T := sT _ _ g1
        have kpT : ∀ b o, b ≠ d → H4 b = some o → upd H5 T1 (.tup [V.int (i : Int), V.int ((ap L i : Nat) : Int)]) b = some o := fun b o nb e => sT _ _ (kp b o nb e)
        have g2T : ∀ s ∈ rtTo L i, upd H5 T1 (.tup [V.int (i : Int), V.int ((ap L i : Nat) : Int)]) (ad s) = some (.lst (NV (grp L i s))) := fun s hs => sT _ _ (g2 s hs).1
        generalize eH6 : upd H5 T1 (.tup [V.int (i : Int), V.int ((ap L i : Nat) : Int)]) = H6 at *
        refine ⟨T1, _, rfl, .inl (.inl (by rw [← eH6, upd_same])), rfl, _, _, rfl, _, _, rfl, rfl, ?_⟩
        refine ⟨_, rfl, d, rfl, .inl ⟨_, .inl g1T⟩, _, rfl, Nat.zero_le _, fun l nl => ?_⟩
        have sl := same_upd (o := .lst []) nl
        have g1L := sl _ _ g1T
        have hl0 : upd H6 l (.lst []) l = some (.lst []) := upd_same
        have dl : d ≠ l := ne_of_none g1T nl
        have kpL : ∀ b o, b ≠ d → H4 b = some o → upd H6 l (.lst []) b = some o := fun b o nb e => sl _ _ (kpT b o nb e)
        have g2L : ∀ s ∈ rtTo L i, upd H6 l (.lst []) (ad s) = some (.lst (NV (grp L i s))) := fun s hs => sl _ _ (g2T s hs)
        have l4 : H4 l = none := by
          cases e : H4 l with
          | none => rfl
          | some o =>
            have := kpT l o dl.symm e
            rw [nl] at this
            cases this
        have adl : ∀ s ∈ rtTo L i, ad s ≠ l := fun s hs => ne_of_none (g2T s hs) nl
        generalize upd H6 l (.lst []) = H7 at *
        have klen : (kvG ad (rtTo L i)).length < sizeLine := by
          unfold kvG
          rw [List.length_map]
          exact Nat.lt_of_le_of_lt (rtTo_len L i) (small1000 (by omega))
        have glen : ∀ s, (NV (grp L i s)).length < sizeLine := fun s => by
          rw [NV_len]
          unfold grp
          exact Nat.lt_of_le_of_lt (List.length_filter_le _ _) (by rw [List.length_range]; exact small1000 (by omega))
        refine ⟨_, .inl ((ap L i : Nat) : Int), g1L, rfl, klen, fun v hv => ?_, fun hv => ?_⟩
        · -- the label is there
          have hin : ap L i ∈ rtTo L i := Classical.byContradiction fun z => by
            rw [kvG_out z] at hv
            cases hv
          rw [kvG_in hin] at hv
          obtain rfl := Option.some.inj hv
          have hne : ap L i ≠ i := fun z => by
            have := (mem_rtTo.mp hin).1
            omega
          have hL := g2L _ hin
          have dad : d ≠ ad (ap L i) := ne_of g1L hL (by intro z; cases z)
          refine ⟨.inl ⟨rfl, _, sl_of hL⟩, _, rfl, _, _, _, rfl, rfl, hL, glen _, ?_⟩
          refine ⟨_, _, rfl, fun b o nb e => ?_, ad, ?_, fun s hs => ?_, ?_⟩
          · by_cases z : b = ad (ap L i)
            · subst z
              rw [(g2 _ hin).2] at e
              cases e
            · rw [upd_ne z]
              exact kpL b o nb e
          · rw [upd_ne dad, rtTo_succ, if_neg hne, List.append_nil]
            exact g1L
          · rw [rtTo_succ, if_neg hne, List.append_nil] at hs
            refine ⟨?_, (g2 s hs).2⟩
            rw [grp_succ]
            by_cases z : s = ap L i
            · subst z
              rw [upd_same, if_pos rfl, NV_snoc]
            · rw [upd_ne fun e => z (g3 s hs _ hin e), if_neg fun e => z e.symm, List.append_nil]
              exact g2L s hs
          · rw [rtTo_succ, if_neg hne, List.append_nil]
            exact g3
        · -- the label is new
          have hout : ap L i ∉ rtTo L i := fun z => by
            rw [kvG_in z] at hv
            cases hv
          have hself : ap L i = i := Classical.byContradiction fun z => hout (mem_rtTo.mpr ⟨by omega, rt.2⟩)
          have hni : i ∉ rtTo L i := fun z => by
            have := (mem_rtTo.mp z).1
            omega
          have hL : upd H7 d (.dK (putK (kvG ad (rtTo L i)) (.inl ((ap L i : Nat) : Int)) (.ref l))) l = some (.lst []) := by
            rw [upd_ne dl.symm]
            exact hl0
          refine ⟨.inl ⟨rfl, _, sl_of hL⟩, _, rfl, _, _, _, rfl, rfl, hL, Nat.lt_of_le_of_lt (Nat.zero_le 1) (by decide), ?_⟩
          refine ⟨_, _, rfl, fun b o nb e => ?_, fun x => if x = i then l else ad x, ?_, fun s hs => ?_, ?_⟩
          · rw [upd_ne (ne_of_none e l4), upd_ne nb]
            exact kpL b o nb e
          · rw [upd_ne dl, upd_same, putK_new _ hv, rtTo_succ, if_pos hself]
            congr 2
            unfold kvG
            rw [List.map_append]
            congr 1
            · refine List.map_congr_left fun s hs => ?_
              have si : s ≠ i := fun z => hni (z ▸ hs)
              show (Sum.inl (s : Int), V.ref (ad s)) = (Sum.inl (s : Int), V.ref (if s = i then l else ad s))
              rw [if_neg si]
            · show [(Sum.inl ((ap L i : Nat) : Int), V.ref l)] = [(Sum.inl (i : Int), V.ref (if i = i then l else ad i))]
              rw [hself, if_pos rfl]
          · rw [rtTo_succ, if_pos hself] at hs
            rw [grp_succ, hself]
            rcases List.mem_append.mp hs with m | m
            · have si : s ≠ i := fun z => hni (z ▸ m)
              dsimp only
              rw [if_neg si, upd_ne (adl s m), upd_ne (ne_of (g2L s m) g1L (by intro z; cases z)), if_neg fun z => si z.symm, List.append_nil]
              exact ⟨g2L s m, (g2 s m).2⟩
            · obtain rfl := List.mem_singleton.mp m
              dsimp only
              rw [if_pos rfl, upd_same, if_pos rfl]
              have ge : grp L s s = [] := by
                unfold grp
                refine List.filter_eq_nil_iff.mpr fun x hx => ?_
                have xl := List.mem_range.mp hx
                have := lb.le x (by omega)
                simp
                omega
              rw [ge]
              exact ⟨rfl, l4⟩
          · rw [rtTo_succ, if_pos hself]
            intro s hs u hu2 e
            rcases List.mem_append.mp hs with m | m <;> rcases List.mem_append.mp hu2 with m2 | m2
            · have si : s ≠ i := fun z => hni (z ▸ m)
              have ui : u ≠ i := fun z => hni (z ▸ m2)
              dsimp only at e
              rw [if_neg si, if_neg ui] at e
              exact g3 s m u m2 e
            · obtain rfl := List.mem_singleton.mp m2
              have si : s ≠ u := fun z => hni (z ▸ m)
              dsimp only at e
              rw [if_neg si, if_pos rfl] at e
              exact absurd e (adl s m)
            · obtain rfl := List.mem_singleton.mp m
              have ui : u ≠ s := fun z => hni (z ▸ m2)
              dsimp only at e
              rw [if_neg ui, if_pos rfl] at e
              exact absurd e.symm (adl u m2)
            · rw [List.mem_singleton.mp m, List.mem_singleton.mp m2]
      · rintro σ H5 ⟨v5, v6, rfl, kp, ad, g1, g2, g3⟩
        rw [NV_len, Ll] at g1 g2 g3
        have s05 : Same H H5 := fun b o e => kp b o (ne_of_none e d0) (s04 _ _ e)
        refine ⟨_, rfl, d, _, NI (rtTo L n), rfl, .inl g1, ?_, ?_, fun ys p hp pw np => ?_⟩
        · unfold kvG NI
          rw [List.map_map, List.map_map]
          rfl
        · rw [NI_len]
          have := rtTo_len L n
          omega
        · have ey : ys = NI (rtTo L n) := sorted_is hp pw (List.Perm.refl _) (List.Pairwise.imp (fun z => Nat.le_of_lt z) (filter_rise n _))
          subst ey
          rw [← NV_NI]
          have s6 := same_upd (o := .lst (NV (rtTo L n))) np
          have g1' := s6 _ _ g1
          have g2' : ∀ r ∈ rtTo L n, upd H5 p (.lst (NV (rtTo L n))) (ad r) = some (.lst (NV (grp L n r))) := fun r hr => s6 _ _ (g2 r hr).1
          have s06 := s05.trans s6
          have hp6 : upd H5 p (.lst (NV (rtTo L n))) p = some (.lst (NV (rtTo L n))) := upd_same
          generalize upd H5 p (.lst (NV (rtTo L n))) = H6 at *
          refine ⟨p, rfl, ⟨_, sl_of hp6⟩, fun D2 nD2 => lc_it (walk_list (xs := NV (rtTo L n))) (fun i H' => Same H6 H' ∧ ∃ ks : List (Addr × List Nat), H' D2 = some (.lst (ks.map fun k => V.ref k.1)) ∧ ks.map (·.2) = ((rtTo L n).take i).map (grp L n) ∧ ∀ k ∈ ks, Tp H' k.1 k.2)
            ⟨same_upd nD2, [], upd_same, rfl, fun k hk => nomatch hk⟩ (fun i H' _ ⟨sm, _⟩ => sl_of (sm _ _ hp6)) ?_ ?_⟩
          · rintro i x _ H7 hi ⟨sm, js, j1, j2, j3⟩ ⟨rfl, hx⟩
            obtain ⟨s, hs, rfl⟩ := NV_get' hx
            have hm := List.mem_of_getElem? hs
            have hL := sm _ _ (g2' s hm)
            refine ⟨rfl, _, rfl, _, rfl, d, _, rfl, by rw [← kvG_in hm]; exact DGet.k (k := Sum.inl (s : Int)) (sm _ _ g1'), ?_⟩
            refine ⟨_, _, rfl, .inl ⟨sl_of hL, fun t nt => ?_⟩⟩
            have st := same_upd (o := .tup (NV (grp L n s))) nt
            refine ⟨_, st _ _ j1, ?_, fun b o e => ?_, js ++ [(t, grp L n s)], ?_, ?_, fun k hk => ?_⟩
            · have : js.length ≤ i := by
                have := congrArg List.length j2
                rw [List.length_map, List.length_map, List.length_take] at this
                omega
              rw [nv_len]
              rw [NV_len] at hi
              have := rtTo_len L n
              exact small1000 (by omega)
            · rw [upd_ne (ne_of_none e nD2)]
              exact st _ _ (sm _ _ e)
            · rw [upd_same, List.map_append]
              rfl
            · rw [List.map_append, j2, List.take_add_one, hs, List.map_append]
              rfl
            · rcases List.mem_append.mp hk with m | m
              · exact tp_upd (st _ _ (j3 k m)) (st _ _ j1)
              · rw [List.mem_singleton.mp m]
                exact tp_upd upd_same (st _ _ j1)
          · rintro H7 ⟨sm, js, j1, j2, j3⟩
            rw [NV_len, List.take_length] at j2
            refine ⟨D2, _, rfl, .inl ⟨sl_of j1, fun t nt => ?_⟩⟩
            have st := same_upd (o := .tup (js.map fun k => V.ref k.1)) nt
            exact q _ t ((s06.trans sm).trans st) ((s06.trans sm).free nt) ⟨js, upd_same, j2, fun k hk => st _ _ (j3 k hk)⟩
end
end Hw

namespace Hw
open PySem PySem.Spec PyProof.Rows L2 ClX
abbrev sInit : Stmt := inClass sNetwork 2
abbrev sGetB : Stmt := inClass sNetwork 8
abbrev sGetC : Stmt := inClass sNetwork 9
/-- all but the object is as it was -/
def Kx (x : Addr) (H H' : Hp) : Prop := ∀ b o, b ≠ x → H b = some o → H' b = some o
theorem Kx.of {x : Addr} {H H' : Hp} (s : Same H H') : Kx x H H' := fun b o _ e => s b o e
theorem Kx.trans {x : Addr} {H H1 H2 : Hp} (a : Kx x H H1) (b : Kx x H1 H2) : Kx x H H2 := fun c o n e => b c o n (a c o n e)
theorem Kx.upd (x : Addr) (H : Hp) (o : HO) : Kx x H (upd H x o) := fun b _ n e => by rw [upd_ne n]; exact e
theorem Kx.tup {x : Addr} {H H' : Hp} {C dx : Addr} {fs : List (Str × V)} (k : Kx x H H') (hx : H x = some (.ins C dx fs)) {b : Addr} {xs : List V} (h : H b = some (.tup xs)) : H' b = some (.tup xs) := k b _ (ne_of h hx (by intro z; cases z)) h
theorem EdT.kx {x : Addr} {H H' : Hp} {C dx : Addr} {fs : List (Str × V)} {l : Addr} {es : List Ed} (h : EdT H l es) (k : Kx x H H') (hx : H x = some (.ins C dx fs)) : EdT H' l es := by
  obtain ⟨ks, a, b, c⟩ := h
  exact ⟨ks, k.tup hx a, b, fun y hy => k.tup hx (c y hy)⟩
theorem CsAt.kx {x : Addr} {H H' : Hp} {C dx : Addr} {fs : List (Str × V)} {l : Addr} {cs : List (List Nat)} (h : CsAt H l cs) (k : Kx x H H') (hx : H x = some (.ins C dx fs)) : CsAt H' l cs := by
  obtain ⟨ks, a, b, c⟩ := h
  exact ⟨ks, k.tup hx a, b, fun y hy => k.tup hx (c y hy)⟩
/-- a network stands at x -/
def NetAt (C : Addr) (H : Hp) (x : Addr) (n : Nat) (es : List Ed) : Prop := ∃ (dx : Addr) (fs : List (Str × V)) (b c : Addr), H x = some (.ins C dx fs) ∧ fs.lookup ("_bridges" : Str) = some (.ref b) ∧ fs.lookup ("_cells" : Str) = some (.ref c) ∧ Tp H b (brg n es) ∧ CsAt H c (cel n es)
theorem NetAt.same {C : Addr} {H H' : Hp} {x : Addr} {n : Nat} {es : List Ed} (h : NetAt C H x n es) (s : Same H H') : NetAt C H' x n es := by
  obtain ⟨dx, fs, b, c, h1, h2, h3, h4, h5⟩ := h
  exact ⟨dx, fs, b, c, s _ _ h1, h2, h3, s _ _ h4, h5.same s⟩
theorem len_putF (f : Str) (v : V) : ∀ fs : List (Str × V), (putF f v fs).length ≤ fs.length + 1
  | [] => Nat.le_refl _
  | (g, x) :: r => by
    show (if g = f then (g, v) :: r else (g, x) :: putF f v r).length ≤ r.length + 1 + 1
    split
    · exact Nat.le_succ _
    · have := len_putF f v r
      rw [List.length_cons]
      omega
section
variable {P : Program} {w : World} {K : PySem.W.Frag} {mg : Str → Option Value} {base : Heap}
/-! ### _find_exits -/
def spExits : Sp := fun vs H Q _ => ∃ (a : Addr) (n : Nat) (es : List Ed), vs = [.int (n : Int), .ref a] ∧ EdT H a es ∧ n ≤ 12 ∧ es.length ≤ 16 ∧ ∀ H' r, Same H H' → Q (.ref r) H'
abbrev nEx : List Str := ["places", "passages", "exits", "place", "passage", "ends"]
theorem scExits : FnScope nEx ["places", "passages"] (defScope sExits) := ⟨rfl, rfl, rfl, by decide +kernel, rfl, by decide +kernel, by decide +kernel⟩
theorem cal_exits (T : Txt mg) (D : Df K mg "_find_exits" sExits ["places", "passages"]) : Cal P w K mg base "_find_exits" 1 spExits := by
  have nd := scExits.nd
  refine cal_of D scExits (fun vs H Q E h => ?_) (fun f cdv A outer s0 H vs Q E hr h => ?_)
  · obtain ⟨a, n, es, rfl, _⟩ := h
    rfl
  · obtain ⟨a, n, es, rfl, he, hn, hl, q⟩ := h
    refine ⟨_, pss_cons (ps_set (i := 2) nd rfl (.inl rfl) (pe_lst pa_nil))
      <| pss_cons (ps_for PassesOwn.never rfl (pi_range1 (by rfl) T.range (pa_cons (pv 0) pa_nil)) (pg_name (i := 3) nd rfl (.inr rfl))
          (pss_one (ps_expr (pe_bm PySem.F.plainAttrs_list PySem.F.slot_list_append PySem.F.type_list_append mt_append (pv 2) (pa_cons (pe_callTy call_tuple_of (by rfl) T.tuple (by decide +kernel) (pa_cons
              (pe_lc (own := [("passage", 4), ("ends", 5)]) (g := gTup K 2 (gCons (gName 4) (gCons (gName 5) gNil))) (by rfl) nd (pi_enumT (by rfl) T.enumerate (pa_cons (pv 1) pa_nil))
                (blkOk_by (own := [("passage", 4), ("ends", 5)]) (N := nEx) (sc := defScope sExits) (by decide +kernel)) (fun _ _ _ _ _ => pg_tup rfl (pgs_cons (pg_name (i := 4) nd rfl (.inl rfl)) (pgs_cons (pg_name (i := 5) nd rfl (.inl rfl)) pgs_nil)))
                (fun _ _ _ _ _ => pts_one (pt_cmpR (r := rIn K false) op_in_seq (pv 3) (pv 5) (by rfl))) (fun _ _ _ _ _ => pv 4)) pa_nil)) pa_nil)))))
      <| pss_one (ps_ret (pe_callTy call_tuple_of (by rfl) T.tuple (by decide +kernel) (pa_cons (pv 2) pa_nil))), ?_⟩
    obtain ⟨ks, k1, k2, k3⟩ := id he
    have kl := ed_len k2
    refine ⟨Nat.zero_le _, fun l nl => ?_⟩
    refine ⟨_, rfl, _, rfl, by omega, by omega, ?_⟩
    rw [Int.toNat_natCast]
    refine for_it walk_rg0 (fun i σ H' => ∃ v3 v4 v5 xs, σ = [some (.int (n : Int)), some (.ref a), some (.ref l), v3, v4, v5] ∧ Same H H' ∧ H' l = some (.lst xs) ∧ xs.length ≤ i) ⟨_, _, _, _, rfl, same_upd nl, upd_same, Nat.le_refl _⟩ (fun _ _ _ _ _ => trivial) ?_ ?_
    · rintro i x σ _ H2 hi ⟨v3, v4, v5, xs, rfl, sm, hL, xl⟩ ⟨rfl, rfl⟩
      refine ⟨_, rfl, .inl ⟨rfl, _, sl_of hL⟩, _, rfl, a, _, rfl, sq_of (sm _ _ k1) |> fun z => z, fun D nD => lc_it (walk_enumT (xs := ks.map fun k => V.ref k.1)) (fun j H' => Same H2 H' ∧ ∃ acc, H' D = some (.lst acc) ∧ acc.length ≤ j) ⟨same_upd nD, [], upd_same, Nat.le_refl _⟩ (fun j H' _ ⟨s, _⟩ => sq_of (s _ _ (sm _ _ k1))) ?_ ?_⟩
      · rintro j y H3 H4 hj ⟨s3, acc, hD, al⟩ ⟨T1, i', y', rfl, nT, rfl, ei, ey⟩
        obtain rfl : V.int (j : Int) = i' := Option.some.inj ei
        obtain ⟨k, hk, rfl⟩ := refs_get ey
        obtain ⟨e, hei, ek⟩ := ed_get k2 hk
        rw [nv_len, kl] at hj
        have sT := same_upd (o := .tup [V.int (j : Int), V.ref k.1]) nT
        have tk := sT _ _ (s3 _ _ (sm _ _ (k3 k (List.mem_of_getElem? hk))))
        refine ⟨T1, _, rfl, .inl (.inl upd_same), rfl, _, _, rfl, _, _, rfl, rfl, rfl, ?_⟩
        refine ⟨_, rfl, _, rfl, k.1, _, rfl, .inr (sq_of tk), rfl, flat_NV _, _, rfl, ite2 (fun _ => ?_) (fun _ => ?_)⟩
        · refine ⟨_, rfl, _, sT _ _ hD, small1000 (by omega), fun b o eb => ?_, _, upd_same, by rw [List.length_append]; show acc.length + 1 ≤ _; omega⟩
          rw [upd_ne (ne_of_none eb nD)]
          exact sT _ _ (s3 _ _ eb)
        · exact ⟨s3.trans sT, acc, sT _ _ hD, by omega⟩
      · rintro H3 ⟨s3, acc, hD, al⟩
        refine ⟨D, acc, rfl, .inl ⟨sl_of hD, fun t nt => ?_⟩⟩
        have st := same_upd (o := .tup acc) nt
        refine ⟨l, _, _, rfl, rfl, st _ _ (s3 _ _ hL), small1000 (by omega), ?_⟩
        refine ⟨_, _, _, _, rfl, fun b o e => ?_, upd_same, by rw [List.length_append]; show xs.length + 1 ≤ _; omega⟩
        rw [upd_ne (ne_of_none e nl)]
        exact st _ _ (s3 _ _ (sm _ _ e))
    · rintro σ H2 ⟨v3, v4, v5, xs, rfl, sm, hL, xl⟩
      exact ⟨_, rfl, l, _, rfl, .inl ⟨sl_of hL, fun t nt => q _ t (sm.trans (same_upd nt))⟩⟩
end
end Hw

namespace Hw
open PySem PySem.Spec PyProof.Rows L2 ClX
theorem pl_mem {e : Ed} {u : Nat} : decide (u ∈ pl e) = decide (u ∈ [e.1, e.2]) := rfl
theorem drs_len (es : List Ed) (u : Nat) : (drs es u).length ≤ es.length := drsTo_len es u _
def exs (n : Nat) (es : List Ed) : List (List Nat) := (List.range (n : Nat)).map (drs es)
section
variable {P : Program} {w : World} {K : PySem.W.Frag} {mg : Str → Option Value} {base : Heap}
/-! ### _find_exits, whole -/
def spExits5 : Sp := fun vs H Q _ => ∃ (a : Addr) (n : Nat) (es : List Ed), vs = [.int (n : Int), .ref a] ∧ EdT H a es ∧ n ≤ 12 ∧ es.length ≤ 16 ∧ ∀ H' r, Same H H' → CsAt H' r (exs n es) → Q (.ref r) H'
theorem cal_exits5 (T : Txt mg) (D : Df K mg "_find_exits" sExits ["places", "passages"]) : Cal P w K mg base "_find_exits" 1 spExits5 := by
  have nd := scExits.nd
  refine cal_of D scExits (fun vs H Q E h => ?_) (fun f cdv A outer s0 H vs Q E hr h => ?_)
  · obtain ⟨a, n, es, rfl, _⟩ := h
    rfl
  · obtain ⟨a, n, es, rfl, he, hn, hl, q⟩ := h
    refine ⟨_, pss_cons (ps_set (i := 2) nd rfl (.inl rfl) (pe_lst pa_nil))
      <| pss_cons (ps_for PassesOwn.never rfl (pi_range1 (by rfl) T.range (pa_cons (pv 0) pa_nil)) (pg_name (i := 3) nd rfl (.inr rfl))
          (pss_one (ps_expr (pe_bm PySem.F.plainAttrs_list PySem.F.slot_list_append PySem.F.type_list_append mt_append (pv 2) (pa_cons (pe_callTy call_tuple_of (by rfl) T.tuple (by decide +kernel) (pa_cons
              (pe_lc (own := [("passage", 4), ("ends", 5)]) (g := gTup K 2 (gCons (gName 4) (gCons (gName 5) gNil))) (by rfl) nd (pi_enumT (by rfl) T.enumerate (pa_cons (pv 1) pa_nil))
                (blkOk_by (own := [("passage", 4), ("ends", 5)]) (N := nEx) (sc := defScope sExits) (by decide +kernel)) (fun _ _ _ _ _ => pg_tup rfl (pgs_cons (pg_name (i := 4) nd rfl (.inl rfl)) (pgs_cons (pg_name (i := 5) nd rfl (.inl rfl)) pgs_nil)))
                (fun _ _ _ _ _ => pts_one (pt_cmpR (r := rIn K false) op_in_seq (pv 3) (pv 5) (by rfl))) (fun _ _ _ _ _ => pv 4)) pa_nil)) pa_nil)))))
      <| pss_one (ps_ret (pe_callTy call_tuple_of (by rfl) T.tuple (by decide +kernel) (pa_cons (pv 2) pa_nil))), ?_⟩
    obtain ⟨ks, k1, k2, k3⟩ := id he
    have kl := ed_len k2
    refine ⟨Nat.zero_le _, fun l nl => ?_⟩
    refine ⟨_, rfl, _, rfl, by omega, by omega, ?_⟩
    rw [Int.toNat_natCast]
    refine for_it walk_rg0 (fun i σ H' => ∃ v3 v4 v5, ∃ js : List (Addr × List Nat), σ = [some (.int (n : Int)), some (.ref a), some (.ref l), v3, v4, v5] ∧ Same H H' ∧ H' l = some (.lst (js.map fun k => V.ref k.1)) ∧ js.map (·.2) = exs i es ∧ ∀ k ∈ js, Tp H' k.1 k.2)
      ⟨_, _, _, [], rfl, same_upd nl, upd_same, rfl, fun k hk => nomatch hk⟩ (fun _ _ _ _ _ => trivial) ?_ ?_
    · rintro i x σ _ H2 hi ⟨v3, v4, v5, js, rfl, sm, hL, j2, j3⟩ ⟨rfl, rfl⟩
      have jl : js.length = i := by
        have := congrArg List.length j2
        unfold exs at this
        rw [List.length_map, List.length_map, List.length_range] at this
        exact this
      refine ⟨_, rfl, .inl ⟨rfl, _, sl_of hL⟩, _, rfl, a, _, rfl, sq_of (sm _ _ k1) |> fun z => z, fun D nD => lc_it (walk_enumT (xs := ks.map fun k => V.ref k.1)) (fun j H' => Same H2 H' ∧ H' D = some (.lst (NV (drsTo es i j)))) ⟨same_upd nD, upd_same⟩ (fun j H' _ ⟨s, _⟩ => sq_of (s _ _ (sm _ _ k1))) ?_ ?_⟩
      · rintro j y H3 H4 hj ⟨s3, hD⟩ ⟨T1, i', y', rfl, nT, rfl, ei, ey⟩
        obtain rfl : V.int (j : Int) = i' := Option.some.inj ei
        obtain ⟨k, hk, rfl⟩ := refs_get ey
        obtain ⟨e, hei, ek⟩ := ed_get k2 hk
        rw [nv_len, kl] at hj
        have sT := same_upd (o := .tup [V.int (j : Int), V.ref k.1]) nT
        have tk := sT _ _ (s3 _ _ (sm _ _ (k3 k (List.mem_of_getElem? hk))))
        rw [ek] at tk
        refine ⟨T1, _, rfl, .inl (.inl upd_same), rfl, _, _, rfl, _, _, rfl, rfl, rfl, ?_⟩
        refine ⟨_, rfl, _, rfl, k.1, _, rfl, .inr (sq_of tk), rfl, flat_NV _, _, rfl, ?_⟩
        rw [inV_NV, drsTo_succ, getD_of hei]
        refine ite2 (fun z => ?_) (fun z => ?_)
        · have z' : decide (i ∈ [e.1, e.2]) = true := z
          rw [z']
          refine ⟨_, rfl, _, sT _ _ hD, ?_, fun b o eb => ?_, ?_⟩
          · rw [NV_len]
            exact Nat.lt_of_le_of_lt (drsTo_len _ _ _) (small1000 (by omega))
          · rw [upd_ne (ne_of_none eb nD)]
            exact sT _ _ (s3 _ _ eb)
          · rw [if_pos rfl, upd_same, NV_snoc]
        · have z' : ¬ decide (i ∈ [e.1, e.2]) = true := z
          rw [if_neg z', List.append_nil]
          exact ⟨s3.trans sT, sT _ _ hD⟩
      · rintro H3 ⟨s3, hD⟩
        rw [nv_len, kl] at hD
        refine ⟨D, _, rfl, .inl ⟨sl_of hD, fun t nt => ?_⟩⟩
        have st := same_upd (o := .tup (NV (drsTo es i es.length))) nt
        refine ⟨l, _, _, rfl, rfl, st _ _ (s3 _ _ hL), small1000 (by rw [nv_len]; omega), ?_⟩
        refine ⟨_, _, _, js ++ [(t, drs es i)], rfl, fun b o e => ?_, ?_, ?_, fun k hk => ?_⟩
        · rw [upd_ne (ne_of_none e nl)]
          exact st _ _ (s3 _ _ (sm _ _ e))
        · rw [upd_same, List.map_append]
          rfl
        · unfold exs
          rw [List.map_append, j2, List.range_succ, List.map_append]
          rfl
        · rcases List.mem_append.mp hk with m | m
          · exact tp_upd (st _ _ (s3 _ _ (j3 k m))) (st _ _ (s3 _ _ hL))
          · rw [List.mem_singleton.mp m]
            exact tp_upd upd_same (st _ _ (s3 _ _ hL))
    · rintro σ H2 ⟨v3, v4, v5, js, rfl, sm, hL, j2, j3⟩
      refine ⟨_, rfl, l, _, rfl, .inl ⟨sl_of hL, fun t nt => ?_⟩⟩
      have st := same_upd (o := .tup (js.map fun k => V.ref k.1)) nt
      exact q _ t (sm.trans st) ⟨js, upd_same, j2, fun k hk => st _ _ (j3 k hk)⟩
end
end Hw

/-! An own exception whose __init__ begins with super().__init__(..): the def, as a promise. -/
namespace Hw
open PySem PySem.Spec PyProof.Rows L2
theorem lk_cons {α : Type} (y x : Str) (v : α) (m : List (Str × α)) : ((y, v) :: m).lookup x = if x = y then some v else m.lookup x := by
  by_cases h : x = y
  · subst h
    simp [List.lookup]
  · have e : (x == y) = false := by simpa using h
    rw [if_neg h]
    simp [List.lookup, e]
theorem rev_lookup {l : List (Str × Value)} (nd : (l.map (·.1)).Nodup) {x : Str} {u : Value} (h : (x, u) ∈ l) : l.reverse.lookup x = some u := by
  have gen : ∀ m : List (Str × Value), (m.map (·.1)).Nodup → (x, u) ∈ m → m.lookup x = some u := by
    intro m
    induction m with
    | nil => intro _ h; cases h
    | cons p m ih =>
      obtain ⟨y, v⟩ := p
      intro nd h
      rw [List.map_cons, List.nodup_cons] at nd
      rw [lk_cons]
      rcases List.mem_cons.mp h with e | m'
      · cases e
        rw [if_pos rfl]
      · rw [if_neg fun z : x = y => nd.1 (by rw [← z]; exact List.mem_map.mpr ⟨_, m', rfl⟩)]
        exact ih nd.2 m'
  refine gen _ ?_ (List.mem_reverse.mpr h)
  rw [List.map_reverse, List.nodup_iff_pairwise_ne, List.pairwise_reverse]
  exact List.Pairwise.imp (fun h => h.symm) (List.nodup_iff_pairwise_ne.mp nd)
/-- the frame of such a def -/
def cxK (P : Program) (w : World) (K : PySem.W.Frag) (mg : Str → Option Value) (base : Heap) (N : List Str) (env : Env) (A : Around) (outer : List Env) (st : Shared) (H : Hp) : Cx where
  prog := P
  w := w
  K := K
  mg := mg
  base := base
  A := A.deeper env
  N := N
  s_0 := st
  H_0 := H
  env := env
  outer := outer
  stack := env :: outer
  ex := []
  calm := true
  fn := fun _ => false
  pn := []
  xe := fun _ _ => False
/-- what the text says of such a class and its def -/
structure XiF (P : Program) (K : PySem.W.Frag) (mg : Str → Option Value) (C f : Addr) (fd : FuncData) (qual : Str) (scope : Scope) (body : List Stmt) (cda cc : Addr) : Prop where
  low : OexC K C
  fd_ : ∃ params dV kV doc pm an ct ar, fd = PySem.W.ksFn "__init__" qual params body scope dV kV doc pm an (.ref cda) ct cc ∧ (fd.params.posonlyargs ++ fd.params.args).head? = some ar ∧ ar.arg = "self"
  lk : ∃ oc od osl, K.lookup f = some ⟨oc, od, .func fd, osl⟩
  code : PySem.W.codeIn K (.ref cda) qual = true
  file : ∃ ccl cdd vs ccs file tf, K.lookup cda = some ⟨ccl, cdd, .fields vs, ccs⟩ ∧ vs[2]? = some (.str file tf) ∧ ((P.main.file : Str) == file) = true
  cell : ∃ cl cld csl, K.lookup cc = some ⟨cl, cld, .cell (some (.ref C)), csl⟩
  sub : PySem.W.mroIn K C (.ref C) = some true
  opq : PySem.W.nsIn K PySem.cStatics "thirdparty.any" = some none
  sup : PySem.W.ks_superIn K C C "__init__" = some (some (.builtin "ValueError.__init__"))
  isV : PySem.W.subIn K (.ref C) (.type "ValueError") = some true
  noS : mg "super" = none
  top : (P.main.scope.names.lookup ("super" : Str)).isSome = false
/-- what the def's own names are -/
structure XiS (N ps : List Str) (scope : Scope) : Prop where
  kind : scope.kind = .function
  co : scope.isCoroutine = false
  gen : scope.isGenerator = false
  nd : N.Nodup
  pre : N.take ps.length = ps
  par : ∀ x ∈ ps, scope.names.lookup x = some .local
  nocell : ∀ y ∈ scope.names, y.2 ≠ .cell
  free : ∀ y ∈ scope.names, y.2 = .free → y.1 = "__class__"
  sup : scope.names.lookup ("super" : Str) = some .globalImplicit
  cls : scope.names.lookup ("__class__" : Str) = some .free
  self : N[0]? = some ("self" : Str) ∧ scope.names.lookup ("self" : Str) = some .local ∧ 0 < ps.length
section
variable {P : Program} {w : World} {K : PySem.W.Frag} {mg : Str → Option Value} {base : Heap}
theorem inv_k {N ps : List Str} {scope : Scope} {qual : Str} {f cda cc : Addr} {A : Around} {outer : List Env} {st : Shared} {H : Hp} {us : List Value} {vs : List V} {h0 : Heap} {tk : Nat} (S : XiS N ps scope) (hd : A.handled = none) (e0 : Env0 P w K mg base A outer st H)
    (hl : vs.length = ps.length) (r : Vals vs us) (hcell : ∃ cl cld csl C, K.lookup cc = some ⟨cl, cld, .cell (some (.ref C)), csl⟩) (ns : h0.Ns st.heap.objs.size (fun x => (ps.zip us).reverse.lookup x)) (keep : ∀ b o, st.heap.get? b = some o → h0.get? b = some o) :
    Inv (cxK P w K mg base N (PySem.W.ksEnv qual scope st.heap.objs.size f (.ref cda) cc) A outer st H) [] (L2.start N vs) H { st with heap := h0, toks := tk } := by
  obtain ⟨cl, cld, csl, C, hc⟩ := hcell
  have hpl : ps.length ≤ N.length := by
    have := congrArg List.length S.pre
    rw [List.length_take] at this
    omega
  have kb := e0.mod.kin _ _ hc
  have one : ∀ (x : Str) (c : Addr), ([("__class__", cc)] : List (Str × Addr)).lookup x = some c → x = "__class__" ∧ c = cc := fun x c h => by
    rw [lk_cons] at h
    split at h
    · rename_i z
      exact ⟨z, (Option.some.inj h).symm⟩
    · cases h
  have noex : ∀ b : Addr, b ∉ ([] : List Addr) := fun b z => by cases z
  refine ⟨⟨e0.mod, S.kind, rfl, rfl, Nat.le_refl _, fun y z c h1 h2 => ?_, fun y hy => ?_, fun y c hf _ => (by cases hf), fun _ => hd, Around.frames_deeper e0.frames, .inr ⟨rfl, rfl⟩, fun b z => absurd z (noex b), e0.bs, e0.bsz, fun b _ _ => noex b, fun b z => absurd z (noex b), e0.funs, e0.frf⟩,
    rfl, e0.bare, Un.kept keep, ⟨_, ns, fun i y v h1 h2 h3 => ?_⟩, fun y c h => ?_, e0.hok.fresh (Nat.le_refl _), fun y c h => ?_, fun p hp => absurd hp (by simp [cxK]), e0.hok.kept keep, ?_⟩
  · exact (one y c h1).1.trans (one z c h2).1.symm
  · have hy' : scope.names.lookup y = some .cell ∨ scope.names.lookup y = some .free := hy
    rcases hy' with q | q
    · exact absurd rfl (S.nocell _ (PySem.mem_of_lookup q))
    · have := S.free _ (PySem.mem_of_lookup q) rfl
      dsimp only at this
      subst this
      exact ⟨cc, by rfl⟩
  · have hi : i < vs.length := by
      unfold L2.start at h2
      by_cases z : i < vs.length
      · exact z
      · rw [List.getElem?_append_right (by simpa using z), List.getElem?_replicate] at h2
        split at h2 <;> cases h2
    have ha : vs[i]? = some v := by
      unfold L2.start at h2
      rw [List.getElem?_append_left (by simpa using hi), List.getElem?_map] at h2
      cases e : vs[i]? with
      | none => rw [e] at h2; cases h2
      | some a => rw [e] at h2; cases h2; rfl
    obtain ⟨u, hu, rv⟩ := r.get ha
    have hp : ps[i]? = some y := by
      rw [← S.pre, List.getElem?_take_of_lt (by omega)]
      exact h1
    have ndP : ps.Nodup := by
      rw [← S.pre]
      exact S.nd.sublist (List.take_sublist _ _)
    have lz : us.length = ps.length := by rw [← hl, r.length]
    refine ⟨u, rv, .inl ⟨S.par y (List.mem_of_getElem? hp), rev_lookup ?_ ?_⟩⟩
    · rw [List.map_fst_zip (by omega)]
      exact ndP
    · refine List.mem_of_getElem? (i := i) ?_
      rw [List.getElem?_zip_eq_some]
      exact ⟨hp, hu⟩
  · obtain ⟨_, rfl⟩ := one y c h
    exact ⟨_, _, keep _ _ (e0.bs _ _ kb).1, rfl⟩
  · obtain ⟨_, rfl⟩ := one y c h
    exact (e0.bs _ _ kb).2
  · unfold L2.start
    show _ = N.length
    rw [List.length_append, List.length_map, List.length_replicate]
    omega
end
/-- the built-in __init__, bound to the exception, called -/
theorem mw_call {X : Cx} {pins : List (Addr × Obj)} {σ : L2.St} {H : Hp} {st : Shared} {A : Around} {E : Value → Shared → Prop} {C a u : Addr} {us : List Value} {Q : Value → Shared → Prop} (T : OexC X.K C) (I : L2.Inv X pins σ H st) (e : H a = some (exo a C none)) (hu : st.heap.get? u = some (PySem.W.kxs_mw "ValueError.__init__" a))
    (hl : us.length ≤ sizeLine) (q : ∀ s', L2.Inv X pins σ H s' → Q .none s') : wpAny (model X.prog X.w) A (call (.ref u) us) Q E st := by
  obtain ⟨nm, qn, N, bs, bm, sn, sub, ab, col, dd, k0, k1, k2, k3, k5, hC, hbm⟩ := T.cls
  obtain ⟨t1, ho⟩ := exo_at I.hok e
  have hCh := I.kIn _ _ hC
  obtain ⟨hp, g, d, t, os⟩ := st
  refine wpAny_call (codeAny_of_tree ?_)
  show wpAny _ A.in1 (callAny (.ref u) ⟨us, []⟩) _ _ _
  simp only [callAny]
  refine wpAny_bind (wpAny_load hu ?_)
  simp only [PySem.W.kxs_mw, show (Value.type "method-wrapper" == Value.type "method" || Value.type "method-wrapper" == Value.type "builtin_function_or_method" || Value.type "method-wrapper" == Value.type "method-wrapper") = true by decide, if_true]
  refine PySem.W.KFB.if_so (by decide) ?_
  refine wpAny_bind (PySem.W.check_bound_init F.excBase_ValueError.toExcCallFacts hCh ho rfl ?_)
  refine wpAny_bind (wpAny_pure (wpAny_pure ?_))
  refine ⟨plainId_quiet F.excBase_ValueError.init.plain _, codeAny_builtin F.excBase_ValueError.initEntry ?_⟩
  refine PySem.W.exc_init_tree (cls := .ref C) (t0 := t1) (dv := none) (c2 := .none) (c3 := .none) (b4 := .bool false) ho hl fun h' k hx _ => ?_
  have J := I.write (t' := t) (x := a) (e := a) (o := exo a C none) (h' := h') (by rw [e]; exact True.intro) (.inl rfl) k ⟨_, hx⟩ (exo_ok hx)
  have eu : upd H a (exo a C none) = H := by
    funext b
    by_cases hb : b = a
    · rw [hb, upd_same, e]
    · rw [upd_ne hb]
  rw [eu] at J
  exact q _ J
section
variable {P : Program} {w : World} {K : PySem.W.Frag} {mg : Str → Option Value} {base : Heap}
/-- the def, by what stands behind super().__init__(text) -/
theorem fn_super {C f cda cc : Addr} {fd : FuncData} {qual : Str} {scope : Scope} {N ps : List Str} {k : Nat} {sp : Sp} {e : Expr} {p0 p1 p2 p3 p4 : Pos} {rest : List Stmt} {ta : TA} {pl : Sem Bool}
    (F : XiF P K mg C f fd qual scope (.Expr (.Call (.Attribute (.Call (.Name "super" p0) [] [] p1) "__init__" p2) [e] [] p3) p4 :: rest) cda cc) (S : XiS N ps scope) (ln : ∀ vs H Q E, sp vs H Q E → vs.length = ps.length)
    (hb : ∀ (A : Around) (outer : List Env) (st : Shared) (H : Hp) (vs : List V) (Q : VK) (E : XK), Room k (A.deeper (PySem.W.ksEnv qual scope st.heap.objs.size f (.ref cda) cc)) → sp vs H Q E →
      ∃ (a : Addr) (t : TS), vs[0]? = some (.ref a) ∧ H a = some (exo a C none) ∧ PA (cxK P w K mg base N (PySem.W.ksEnv qual scope st.heap.objs.size f (.ref cda) cc) A outer st H) [e] ta ∧ ta (L2.start N vs) H (fun ws H1 => H1 = H ∧ ws.length ≤ 1000) ∧
        PSs (cxK P w K mg base N (PySem.W.ksEnv qual scope st.heap.objs.size f (.ref cda) cc) A outer st H) rest t ∧ t { nx := fun _ H' => Q .non H', rt := Q } (L2.start N vs) H)
    (hev : ∀ (L : Addr), eval (.Call (.Attribute (.Call (.Name "super" p0) [] [] p1) "__init__" p2) [e] [] p3) (PySem.W.ksEnv qual scope L f (.ref cda) cc) = (do
      let ov ← attributeBase (.Call (.Name "super" p0) [] [] p1) "__init__" (PySem.W.ksEnv qual scope L f (.ref cda) cc) (eval (.Call (.Name "super" p0) [] [] p1) (PySem.W.ksEnv qual scope L f (.ref cda) cc))
      standAt p2.atName
      let (f1, first) ← holding [ov] (getMethod ov "__init__" pl)
      callWith p3 f1 first (backTo p3 (starEach [e] (PySem.W.ksEnv qual scope L f (.ref cda) cc))) []))
    (hi : ∀ L : Addr, interactive (PySem.W.ksEnv qual scope L f (.ref cda) cc) = false) (hsw : ∀ L : Addr, swapsWith (.Call (.Attribute (.Call (.Name "super" p0) [] [] p1) "__init__" p2) [e] [] p3) none p4.line (PySem.W.ksEnv qual scope L f (.ref cda) cc) = pure false)
    (hse : ∀ L : Addr, starEach [e] (PySem.W.ksEnv qual scope L f (.ref cda) cc) = [(false, eval e (PySem.W.ksEnv qual scope L f (.ref cda) cc))]) :
    FnOk P w K mg base CX0 (k + 1) f fd ps sp := by
  obtain ⟨params, dV, kV, doc, pm, an, ct, ar, rfl, hhead, har⟩ := F.fd_
  obtain ⟨oc, od, osl, lk⟩ := F.lk
  refine ⟨ln, fun A outer st H args us vs Q E hr e0 bn r hsp => ?_⟩
  have hl := ln _ _ _ _ hsp
  have KX : K.In st.heap := e0.mod.kin.keeps fun b o e => (e0.bs b o e).1
  have lim : st.heap.NoLimit := e0.mod.nolimit.keeps fun b o e => (e0.bs b o e).1
  refine ks_codeAny_call_defAt (fd := _) (body := _) (binds := ps.zip us) hr.depth (KX _ _ lk) rfl lim (PySem.W.codeRec_of KX F.code) rfl bn S.nocell (fun x hx => S.par x.1 (List.of_mem_zip hx).1) (fun h0 ns keep => ?_) S.co S.gen S.kind
  obtain ⟨a, t, hv0, hexo, hpa, hta, hps, ht⟩ := hb A outer st H vs Q E (hr.deeper _) hsp
  have I0 := inv_k (qual := qual) (f := f) (cda := cda) (cc := cc) (tk := st.toks + (ps.zip us).length) S hr.hd e0 hl r (let ⟨a, b, c, d⟩ := F.cell; ⟨a, b, c, C, d⟩) ns keep
  obtain ⟨ccl, cdd, fv, ccs, file, tf, ck, cv, cf⟩ := F.file
  obtain ⟨cl, cld, csl, cellk⟩ := F.cell
  obtain ⟨nm, qn, N', bs, bm, sn, sub, ab, col, dd, k0, k1, k2, k3, k5, hC, hbm⟩ := F.low.cls
  have hcd : PySem.W.clsIn K C = some { name := nm, bases := bs, mro := .ref C :: bm, ns := N', qualname := qn, hasDict := true, slotNames := sn, subclasses := sub, abstract := ab, collection := col, hasDel := false } := by
    unfold PySem.W.clsIn
    rw [hC] <;> rfl
  have hsup := F.sup
  unfold PySem.W.ks_superIn at hsup
  rw [hcd] at hsup
  obtain ⟨mb, hm1, hm2⟩ := e0.mod.blt
  have bk := I0.bk
  have KI : K.In h0 := I0.kIn
  obtain ⟨t1, ho⟩ := exo_at I0.hok hexo
  -- self
  obtain ⟨mL, hnL, hlL⟩ := I0.loc
  have v0 : (L2.start N vs)[0]? = some (some (.ref a)) := by
    unfold L2.start
    have lz : 0 < vs.length := by rw [hl]; exact S.self.2.2
    rw [List.getElem?_append_left (by simpa using lz), List.getElem?_map, hv0]
    rfl
  obtain ⟨u0, ru, look⟩ := hlL 0 "self" (.ref a) S.self.1 v0 (.inl S.self.2.1)
  obtain rfl : u0 = Value.ref a := ru
  have hself : mL "self" = some (.ref a) := by
    rcases look with ⟨_, z⟩ | ⟨z, _⟩
    · exact z
    · exfalso
      have z' : scope.names.lookup ("self" : Str) = some .cell ∨ scope.names.lookup ("self" : Str) = some .free := z
      rw [S.self.2.1] at z'
      rcases z' with z' | z' <;> cases z'
  refine ks_wpAt_mono (Q := fun fl s2 => CR CX0 outer P w H st Q E (.ok (.ret (match fl with | .ret v => v | _ => .none))) s2) (E := fun _ _ => False) ?_ (fun _ _ z => z) (fun _ _ z => z.elim)
  refine ks_wpAt_execs_cons (ks_wpAt_Expr_any (ks_wpAt_MethodCall (pl := pl) ?_ (hev _)) (hi _) (hsw _))
  refine ks_wpAt_super_base (env := PySem.W.ksEnv qual scope st.heap.objs.size f (.ref cda) cc) S.sup S.cls (by decide) rfl (keep _ _ (KX _ _ lk)) rfl hhead rfl (KI _ _ ck) rfl cv cf F.top ?_
  refine PySem.W.ks_loadName_global S.kind S.sup (Calls.loadGlobal_builtin (env := PySem.W.ksEnv qual scope st.heap.objs.size f (.ref cda) cc) (e0.mod.glob.keeps bk) F.noS (hm1.keeps bk) ((hm2 _ (by decide)).trans (by decide +kernel)) ⟨rfl, ?_⟩)
  refine wpAny_loadName_free S.kind S.cls rfl ⟨_, KI _ _ cellk, rfl⟩ ?_
  rw [har]
  refine wpAny_loadName_local S.kind S.self.2.1 hnL hself ?_
  refine ks_wpAny_isType_cls (KI _ _ hC) rfl ⟨rfl, ?_⟩
  refine ks_wpAny_call_super (KI _ _ hC) rfl ho rfl (fun c z => by cases z) (PySem.W.looks_mroIn KI F.sub) (fun h1 hso k1 => ?_)
  have I1 := I0.kept (h' := h1) (t' := st.toks + (ps.zip us).length) k1
  have hexo1 := hexo
  have K1 : K.In h1 := I1.kIn
  obtain ⟨t2, ho1⟩ := exo_at I1.hok hexo
  have at1 : PySem.W.InstAt h1 a ({ cls := .ref C, dict := none, data := .fields #[.ref t2, .none, .none, .none, .bool false, .none] } : Obj) C none := ⟨ho1, rfl, rfl, trivial⟩
  refine PySem.W.kxs_getMethod PySem.W.kxs_ValueError hso (PySem.W.looks_opaque K1 F.opq) (fun A Q E s k q => wpAny_bind ((PySem.W.looks_clsIn K1 hcd) A _ E s k (wpAny_pure q))) rfl K1 hsup (at1.type.andThen (PySem.W.looks_subIn K1 F.isV)) (PySem.W.ks_ne K1 at1 hcd) (by decide) ?_
  have I2 := ClX.pin_new (o := PySem.W.kxs_mw "ValueError.__init__" a) (t' := st.toks + (ps.zip us).length + 1) I1 (h' := h1.push (PySem.W.kxs_mw "ValueError.__init__" a)) (fun b o e => Heap.get?_push_of_some _ e) (Nat.le_refl _) (Heap.get?_push_size _ rfl) (fun v z => by cases z)
  show wpAny _ _ (callWith p3 (.ref h1.objs.size) [] (backTo p3 (starEach [e] (PySem.W.ksEnv qual scope st.heap.objs.size f (.ref cda) cc))) []) _ _ _
  rw [hse]
  refine PySem.W.kxs_callWith (i := "ValueError.__init__") (x := a) (by rfl) ?_
  have hrun := hpa.run p3 _ _ (L2.start N vs) H _ I2 hta
  rw [show starEach [e] (cxK P w K mg base N (PySem.W.ksEnv qual scope st.heap.objs.size f (.ref cda) cc) A outer st H).env = [(false, eval e (PySem.W.ksEnv qual scope st.heap.objs.size f (.ref cda) cc))] from hse _] at hrun
  refine Calls.evalArgs_plain (wpAny_mono hrun ?_ fun _ _ z => z)
  rintro us s1 ⟨ws, H2, I3, r3, eH, hlw⟩
  subst eH
  have hu3 := (I3.pin (h1.objs.size, PySem.W.kxs_mw "ValueError.__init__" a) (by simp [cxK])).1
  refine ⟨hu3, mw_call F.low I3 hexo hu3 (by show us.length ≤ sizeLine; rw [← r3.length]; exact Nat.le_of_lt (small1000 hlw)) fun s2 I4 => ?_⟩
  refine wpAt_of_wpAny (thn (hps.run _ s2 (L2.start N vs) H2 _ I4 ht) fun fl s3 q => ?_)
  cases fl with
  | ret u => exact let ⟨v, _, H', J, rv, q2⟩ := q; ⟨v, H', J.os, J.bare, J.base, J.hok, rv, q2⟩
  | next => exact let ⟨_, H', J, q2⟩ := q; ⟨V.non, H', J.os, J.bare, J.base, J.hok, rfl, q2⟩
  | brk => exact let ⟨_, _, _, z⟩ := q; z.elim
  | cont => exact let ⟨_, _, _, z⟩ := q; z.elim
end
end Hw

namespace Hw
open PySem PySem.Spec PyProof.Rows L2 ClX
/-- a value that is no whole number -/
def OddV (K : PySem.W.Frag) (H : Hp) (v : V) : Prop := ∃ (T : Value) (bi bb : Bool), TyX K H v T ∧ PySem.W.kitOne K T (.type "int") = some bi ∧ PySem.W.kitOne K T (.type "bool") = some bb ∧ (bi = false ∨ bb = true)
section
variable {P : Program} {w : World} {K : PySem.W.Frag} {mg : Str → Option Value} {base : Heap}
def spWhole5 (K : PySem.W.Frag) : Sp := fun vs H Q _ => ∃ v : V, vs = [v] ∧ ((∃ i : Int, v = .int i ∧ Q (.bl true) H) ∨ (OddV K H v ∧ Q (.bl false) H))
theorem cal_whole5 (T : Txt mg) (D : Df K mg "is_whole" sWhole ["value"]) : Cal P w K mg base "is_whole" 1 (spWhole5 K) := by
  refine cal_of D scWhole (fun vs H Q E h => ?_) (fun f cdv A outer s H vs Q E hr h => ?_)
  · obtain ⟨v, rfl, _⟩ := h
    rfl
  · obtain ⟨v, rfl, q⟩ := h
    refine ⟨_, pss_one (ps_ret (pe_and (pe_callB call_isi (by rfl) T.isinstance (by decide +kernel) (pa_cons (pv 0) (pa_cons (pe_bltn (v := .ty "int") (by rfl) T.int (by decide +kernel) rfl) pa_nil)))
      (pe_one (pe_not (pe_callB call_isi (by rfl) T.isinstance (by decide +kernel) (pa_cons (pv 0) (pa_cons (pe_bltn (v := .ty "bool") (by rfl) T.bool (by decide +kernel) rfl) pa_nil))))))), ?_⟩
    rcases q with ⟨i, rfl, q⟩ | ⟨⟨t, bi, bb, ty, h1, h2, hc⟩, q⟩
    · refine ⟨_, rfl, _, _, _, _, true, rfl, .ty _, .base (.int i), kit_ty (by decide +kernel), true, rfl, iteT ?_⟩
      refine ⟨_, rfl, _, _, _, _, false, rfl, .ty _, .base (.int i), kit_ty (by decide +kernel), false, rfl, ?_⟩
      exact q
    · refine ⟨_, rfl, _, _, _, _, bi, rfl, .ty _, ty, h1, bi, rfl, ?_⟩
      cases bi with
      | false => exact iteF q
      | true =>
        obtain rfl : bb = true := hc.resolve_left (by decide)
        refine iteT ?_
        exact ⟨_, rfl, _, _, _, _, true, rfl, .ty _, ty, h2, true, rfl, q⟩
def spIndex5 (K : PySem.W.Frag) : Sp := fun vs H Q _ => ∃ (v : V) (c : Int), vs = [v, .int c] ∧ ((∃ i : Int, v = .int i ∧ Q (.bl (decide (0 ≤ i ∧ i < c))) H) ∨ (OddV K H v ∧ Q (.bl false) H))
theorem cal_index5 (T : Txt mg) (GW : Cal P w K mg base "is_whole" 1 (spWhole5 K)) (D : Df K mg "is_index" sIndex ["value", "count"]) : Cal P w K mg base "is_index" 2 (spIndex5 K) := by
  refine cal_of D scIndex (fun vs H Q E h => ?_) (fun f cdv A outer s H vs Q E hr h => ?_)
  · obtain ⟨i, c, rfl, _⟩ := h
    rfl
  · obtain ⟨v, c, rfl, q⟩ := h
    refine ⟨_, pss_one (ps_ret (pe_and (pe_cl GW hr (by rfl) (pa_cons (pv 0) pa_nil)) (pe_one (pe_chain op_le op_lt pe_int (pv 0) (pv 1))))), ?_⟩
    rcases q with ⟨i, rfl, q⟩ | ⟨odd, q⟩
    · refine ⟨_, rfl, _, rfl, .inl ⟨i, rfl, true, rfl, iteT ?_⟩⟩
      refine ⟨_, rfl, _, _, rfl, rfl, _, rfl, ite2 (fun h => ?_) (fun h => ?_)⟩
      · refine ⟨_, rfl, _, _, rfl, rfl, ?_⟩
        have h' : (0 : Int) ≤ i := of_decide_eq_true h
        have e : decide (i < c) = decide (0 ≤ i ∧ i < c) := by
          by_cases z : i < c <;> simp [z, h']
        show Q (V.bl (decide (i < c))) H
        rw [e]
        exact q
      · have h' : ¬ (0 : Int) ≤ i := fun z => h (decide_eq_true z)
        have e : false = decide (0 ≤ i ∧ i < c) := by simp [h']
        show Q (V.bl false) H
        rw [e]
        exact q
    · exact ⟨_, rfl, _, rfl, .inr ⟨odd, false, rfl, iteF q⟩⟩
end
end Hw

namespace Hw
open PySem PySem.Spec PyProof.Rows L2 ClX
abbrev mNames : List Str := ["far_end", "way", "_check_place", "_across", "_distances_to", "_nearing_step"]
/-- no field is named as a method -/
def NoM (fs : List (Str × V)) : Prop := ∀ m ∈ mNames, fs.lookup m = none
theorem noM_nil : NoM [] := fun _ _ => rfl
theorem noM_put {f : Str} {v : V} {fs : List (Str × V)} (h : ∀ m ∈ mNames, ¬ m = f) (n : NoM fs) : NoM (putF f v fs) := fun m hm => by
  rw [lookup_putF, if_neg (h m hm)]
  exact n m hm
theorem lk_put {f g : Str} {v : V} {fs : List (Str × V)} (h : ¬ g = f) : (putF f v fs).lookup g = fs.lookup g := by rw [lookup_putF, if_neg h]
theorem lk_put0 {f : Str} {v : V} {fs : List (Str × V)} : (putF f v fs).lookup f = some v := by rw [lookup_putF, if_pos rfl]
/-- a network stands at x, with what its walks need -/
def NetAt5 (C : Addr) (H : Hp) (x : Addr) (n : Nat) (es : List Ed) : Prop := ∃ (dx : Addr) (fs : List (Str × V)) (a e : Addr), H x = some (.ins C dx fs) ∧ fs.lookup ("_places" : Str) = some (.int (n : Int)) ∧ fs.lookup ("_passages" : Str) = some (.ref a) ∧
  fs.lookup ("_exits" : Str) = some (.ref e) ∧ NoM fs ∧ EdT H a es ∧ CsAt H e (exs n es)
theorem NetAt5.same {C : Addr} {H H' : Hp} {x : Addr} {n : Nat} {es : List Ed} (h : NetAt5 C H x n es) (s : Same H H') : NetAt5 C H' x n es := by
  obtain ⟨dx, fs, a, e, h1, h2, h3, h4, h5, h6, h7⟩ := h
  exact ⟨dx, fs, a, e, s _ _ h1, h2, h3, h4, h5, h6.same s, h7.same s⟩
/-- what else stands at x: the start, the bridges, the cells -/
def NetX (C : Addr) (H : Hp) (x : Addr) (n : Nat) (es : List Ed) : Prop := ∃ (dx : Addr) (fs : List (Str × V)) (s t b c : Addr), H x = some (.ins C dx fs) ∧ fs.lookup ("_start" : Str) = some (.ref s) ∧ fs.lookup ("_bridges" : Str) = some (.ref b) ∧ fs.lookup ("_cells" : Str) = some (.ref c) ∧
  H s = some (.tup [.int 0, .ref t]) ∧ Tp H t (List.range (es.length + 1)) ∧ Tp H b (brg n es) ∧ CsAt H c (cel n es)
theorem NetX.same {C : Addr} {H H' : Hp} {x : Addr} {n : Nat} {es : List Ed} (h : NetX C H x n es) (z : Same H H') : NetX C H' x n es := by
  obtain ⟨dx, fs, s, t, b, c, h1, h2, h3, h4, h5, h6, h7, h8⟩ := h
  exact ⟨dx, fs, s, t, b, c, z _ _ h1, h2, h3, h4, z _ _ h5, z _ _ h6, z _ _ h7, h8.same z⟩
theorem n_st : ¬ (("_start" : Str) = "_bridges") ∧ ¬ (("_start" : Str) = "_cells") ∧ ¬ (("_start" : Str) = "_exits") ∧ ¬ (("_bridges" : Str) = "_cells") ∧ ¬ (("_bridges" : Str) = "_exits") ∧ ¬ (("_cells" : Str) = "_exits") := by decide +kernel
theorem n_pl : ¬ (("_places" : Str) = "_passages") ∧ ¬ (("_places" : Str) = "_start") ∧ ¬ (("_places" : Str) = "_bridges") ∧ ¬ (("_places" : Str) = "_cells") ∧ ¬ (("_places" : Str) = "_exits") := by decide +kernel
theorem n_pa : ¬ (("_passages" : Str) = "_start") ∧ ¬ (("_passages" : Str) = "_bridges") ∧ ¬ (("_passages" : Str) = "_cells") ∧ ¬ (("_passages" : Str) = "_exits") := by decide +kernel
theorem m_pl : ∀ m ∈ mNames, ¬ m = "_places" := by decide +kernel
theorem m_pa : ∀ m ∈ mNames, ¬ m = "_passages" := by decide +kernel
theorem m_st : ∀ m ∈ mNames, ¬ m = "_start" := by decide +kernel
theorem m_br : ∀ m ∈ mNames, ¬ m = "_bridges" := by decide +kernel
theorem m_ce : ∀ m ∈ mNames, ¬ m = "_cells" := by decide +kernel
theorem m_ex : ∀ m ∈ mNames, ¬ m = "_exits" := by decide +kernel
section
variable {P : Program} {w : World} {K : PySem.W.Frag} {mg : Str → Option Value} {base : Heap}
def spInit5 (C : Addr) : Sp := fun vs H Q _ => ∃ (x dx a : Addr) (n : Nat) (es : List Ed), vs = [.ref x, .int (n : Int), .ref a] ∧ H x = some (.ins C dx []) ∧ EdT H a es ∧ CN n es ∧ n ≤ 12 ∧ es.length ≤ 16 ∧
  ∀ H', Kx x H H' → NetAt5 C H' x n es → NetX C H' x n es → Q .non H'
abbrev nInit : List Str := ["self", "places", "passages", "fault", "part", "index"]
theorem scInit : FnScope nInit ["self", "places", "passages"] (defScope sInit) := ⟨rfl, rfl, rfl, by decide +kernel, rfl, by decide +kernel, by decide +kernel⟩
structure NetF (P : Program) (w : World) (K : PySem.W.Frag) (mg : Str → Option Value) (base : Heap) : Prop where
  fault : Cal P w K mg base "_fault" 5 spFault
  bridges : Cal P w K mg base "_find_bridges" 3 spBridges
  cells : Cal P w K mg base "_find_cells" 2 spCells
  exits : Cal P w K mg base "_find_exits" 1 spExits5
theorem ok_init5 {C : Addr} {mc : Value} {f : Addr} {fd : FuncData} (T : Txt mg) (N : NetC K mg C mc) (G : NetF P w K mg base) (F : Fun K "__init__" "Network.__init__" sInit f fd) : FnOk P w K mg base CX0 6 f fd ["self", "places", "passages"] (spInit5 C) := by
  have nd := scInit.nd
  refine F.ok scInit (fun vs H Q E h => ?_) (fun cdv A outer s0 H vs Q E hr h => ?_)
  · obtain ⟨x, dx, a, n, es, rfl, _⟩ := h
    rfl
  · obtain ⟨x, dx, a, n, es, rfl, hx, he, cn, hn, hl, q⟩ := h
    have hr3 := hr.mono (show 3 ≤ 5 by decide)
    have hr2 := hr.mono (show 2 ≤ 5 by decide)
    have hr1 := hr.mono (show 1 ≤ 5 by decide)
    refine ⟨_, pss_cons (ps_set (i := 3) nd rfl (.inl rfl) (pe_cl G.fault hr (by rfl) (pa_cons (pv 1) (pa_cons (pv 2) pa_nil))))
      <| pss_cons (ps_if (pt_cmpR op_notN (pv 3) pe_non (nomark _)) pss_never pss_nil)
      <| pss_cons (ps_fld (pv 0) (pv 1) rfl)
      <| pss_cons (ps_fld (pv 0) (pv 2) rfl)
      <| pss_cons (ps_fld (pv 0) (pe_tup (pa_cons pe_int (pa_cons (pe_tupRg (by rfl) (by rfl) T.tuple (prg_1 (by rfl) T.range (pe_op op_add (pe_callB cr_len (by rfl) T.len PySem.boot_len (pa_cons (pv 2) pa_nil)) pe_int))) pa_nil))) rfl)
      <| pss_cons (ps_fld (pv 0) (pe_cl G.bridges hr3 (by rfl) (pa_cons (pv 1) (pa_cons (pv 2) pa_nil))) rfl)
      <| pss_cons (ps_fld (pv 0) (pe_cl G.cells hr2 (by rfl) (pa_cons (pv 1) (pa_cons (pv 2) (pa_cons (pe_fld (pv 0) rfl) pa_nil)))) rfl)
      <| pss_one (ps_fld (pv 0) (pe_cl G.exits hr1 (by rfl) (pa_cons (pv 1) (pa_cons (pv 2) pa_nil))) rfl), ?_⟩
    refine ⟨_, rfl, _, rfl, a, n, es, rfl, he, cn, hn, hl, fun H1 s1 => ?_⟩
    have hx1 := s1 _ _ hx
    have he1 := he.same s1
    refine ⟨_, rfl, rfl, _, rfl, iteF ?_⟩
    -- _places, _passages
    refine ⟨_, rfl, _, rfl, x, C, dx, _, rfl, hx1, N.cl, N.n1, by decide, ?_⟩
    have k2 := Kx.upd x H1 (.ins C dx (putF "_places" (.int (n : Int)) []))
    have l2 := len_putF "_places" (.int (n : Int)) []
    have p2 := lk_put0 (f := "_places") (v := .int (n : Int)) (fs := [])
    have m2 := noM_put (v := .int (n : Int)) m_pl noM_nil
    have hx2 : upd H1 x (.ins C dx (putF "_places" (.int (n : Int)) [])) x = some (.ins C dx (putF "_places" (.int (n : Int)) [])) := upd_same
    generalize putF "_places" (.int (n : Int)) [] = f2 at *
    generalize upd H1 x (.ins C dx f2) = H2 at *
    refine ⟨_, rfl, _, rfl, x, C, dx, _, rfl, hx2, N.cl, N.n2, by simp at l2; omega, ?_⟩
    have k3 := Kx.upd x H2 (.ins C dx (putF "_passages" (.ref a) f2))
    have l3 := len_putF "_passages" (.ref a) f2
    have p3 := (lk_put (v := .ref a) (fs := f2) n_pl.1).trans p2
    have q3 := lk_put0 (f := "_passages") (v := .ref a) (fs := f2)
    have m3 := noM_put (v := .ref a) m_pa m2
    have hx3 : upd H2 x (.ins C dx (putF "_passages" (.ref a) f2)) x = some (.ins C dx (putF "_passages" (.ref a) f2)) := upd_same
    generalize putF "_passages" (.ref a) f2 = f3 at *
    generalize upd H2 x (.ins C dx f3) = H3 at *
    have he3 := (he1.kx k2 hx1).kx k3 hx2
    have kx3 := ((Kx.of s1).trans k2).trans k3
    obtain ⟨ks, k31, k32, k33⟩ := id he3
    -- _start
    refine ⟨_, rfl, a, _, rfl, .inr (sq_of k31), _, _, rfl, rfl, ?_⟩
    rw [nv_len, ed_len k32]
    refine ⟨_, rfl, RgOk.of_le (by omega) (by omega) (by omega) (by omega), fun t nt => ⟨by show 2 ≤ sizeLine; decide, fun t2 nt2 => ?_⟩⟩
    have s4 := (same_upd nt).trans (same_upd (o := .tup [V.int 0, .ref t]) nt2)
    have st4 : upd (upd H3 t (.tup (rgV 0 ((es.length : Int) + 1)))) t2 (.tup [V.int 0, .ref t]) t2 = some (.tup [V.int 0, .ref t]) := upd_same
    have tt4 : upd (upd H3 t (.tup (rgV 0 ((es.length : Int) + 1)))) t2 (.tup [V.int 0, .ref t]) t = some (.tup (NV (List.range (es.length + 1)))) := by
      rw [same_upd nt2 t _ upd_same, show (es.length : Int) + 1 = ((es.length + 1 : Nat) : Int) by omega, NV_range]
    generalize upd (upd H3 t _) t2 (.tup [V.int 0, .ref t]) = H4 at *
    have hx4 := s4 _ _ hx3
    refine ⟨_, rfl, x, C, dx, _, rfl, hx4, N.cl, N.n3, by simp at l2; omega, ?_⟩
    have k5 := Kx.upd x H4 (.ins C dx (putF "_start" (.ref t2) f3))
    have l5 := len_putF "_start" (.ref t2) f3
    have p5 := (lk_put (v := .ref t2) (fs := f3) n_pl.2.1).trans p3
    have q5 := (lk_put (v := .ref t2) (fs := f3) n_pa.1).trans q3
    have a5 := lk_put0 (f := "_start") (v := .ref t2) (fs := f3)
    have m5 := noM_put (v := .ref t2) m_st m3
    have hx5 : upd H4 x (.ins C dx (putF "_start" (.ref t2) f3)) x = some (.ins C dx (putF "_start" (.ref t2) f3)) := upd_same
    generalize putF "_start" (.ref t2) f3 = f5 at *
    generalize upd H4 x (.ins C dx f5) = H5 at *
    have he5 := (he3.same s4).kx k5 hx4
    have kx5 := (kx3.trans (Kx.of s4)).trans k5
    have st5 := k5.tup hx4 st4
    have tt5 := k5.tup hx4 tt4
    -- _bridges
    refine ⟨_, rfl, _, rfl, a, n, es, rfl, he5, cn.2.1, cn.1, hn, hl, fun H6 b s6 nb hb => ?_⟩
    have hx6 := s6 _ _ hx5
    refine ⟨_, rfl, x, C, dx, _, rfl, hx6, N.cl, N.n4, by simp at l2; omega, ?_⟩
    have k7 := Kx.upd x H6 (.ins C dx (putF "_bridges" (.ref b) f5))
    have l7 := len_putF "_bridges" (.ref b) f5
    have g7 := lk_put0 (f := "_bridges") (v := .ref b) (fs := f5)
    have p7 := (lk_put (v := .ref b) (fs := f5) n_pl.2.2.1).trans p5
    have q7 := (lk_put (v := .ref b) (fs := f5) n_pa.2.1).trans q5
    have a7 := (lk_put (v := .ref b) (fs := f5) n_st.1).trans a5
    have m7 := noM_put (v := .ref b) m_br m5
    have hx7 : upd H6 x (.ins C dx (putF "_bridges" (.ref b) f5)) x = some (.ins C dx (putF "_bridges" (.ref b) f5)) := upd_same
    generalize putF "_bridges" (.ref b) f5 = f7 at *
    generalize upd H6 x (.ins C dx f7) = H7 at *
    have he7 := (he5.same s6).kx k7 hx6
    have hb7 : Tp H7 b (brg n es) := k7.tup hx6 hb
    have kx7 := (kx5.trans (Kx.of s6)).trans k7
    have st7 := k7.tup hx6 (s6 _ _ st5)
    have tt7 := k7.tup hx6 (s6 _ _ tt5)
    -- _cells
    refine ⟨_, rfl, _, rfl, _, rfl, x, C, dx, f7, _, rfl, hx7, N.cl, N.n4, g7, a, b, n, es, rfl, he7, hb7, cn.2.1, cn.1, hn, hl, fun H8 c s8 nc hc => ?_⟩
    have hx8 := s8 _ _ hx7
    refine ⟨_, rfl, x, C, dx, _, rfl, hx8, N.cl, N.n5, by simp at l2; omega, ?_⟩
    have k9 := Kx.upd x H8 (.ins C dx (putF "_cells" (.ref c) f7))
    have l9 := len_putF "_cells" (.ref c) f7
    have p9 := (lk_put (v := .ref c) (fs := f7) n_pl.2.2.2.1).trans p7
    have q9 := (lk_put (v := .ref c) (fs := f7) n_pa.2.2.1).trans q7
    have a9 := (lk_put (v := .ref c) (fs := f7) n_st.2.1).trans a7
    have b9 := (lk_put (v := .ref c) (fs := f7) n_st.2.2.2.1).trans g7
    have c9 := lk_put0 (f := "_cells") (v := .ref c) (fs := f7)
    have m9 := noM_put (v := .ref c) m_ce m7
    have hx9 : upd H8 x (.ins C dx (putF "_cells" (.ref c) f7)) x = some (.ins C dx (putF "_cells" (.ref c) f7)) := upd_same
    generalize putF "_cells" (.ref c) f7 = f9 at *
    generalize upd H8 x (.ins C dx f9) = H9 at *
    have he9 := (he7.same s8).kx k9 hx8
    have kx9 := (kx7.trans (Kx.of s8)).trans k9
    have st9 := k9.tup hx8 (s8 _ _ st7)
    have tt9 := k9.tup hx8 (s8 _ _ tt7)
    have hb9 := k9.tup hx8 (s8 _ _ hb7)
    have hc9 := hc.kx k9 hx8
    -- _exits
    refine ⟨_, rfl, _, rfl, a, n, es, rfl, he9, hn, hl, fun HA e sA hcs => ?_⟩
    have hxA := sA _ _ hx9
    refine ⟨_, rfl, x, C, dx, _, rfl, hxA, N.cl, N.n6, by simp at l2; omega, ?_⟩
    have kB := Kx.upd x HA (.ins C dx (putF "_exits" (.ref e) f9))
    exact q _ ((kx9.trans (Kx.of sA)).trans kB) ⟨dx, putF "_exits" (.ref e) f9, a, e, upd_same, (lk_put n_pl.2.2.2.2).trans p9, (lk_put n_pa.2.2.2).trans q9, lk_put0, noM_put m_ex m9, (he9.same sA).kx kB hxA, hcs.kx kB hxA⟩
      ⟨dx, putF "_exits" (.ref e) f9, t2, t, b, c, upd_same, (lk_put n_st.2.2.1).trans a9, (lk_put n_st.2.2.2.2.1).trans b9, (lk_put n_st.2.2.2.2.2).trans c9, kB.tup hxA (sA _ _ st9), kB.tup hxA (sA _ _ tt9), kB.tup hxA (sA _ _ hb9), (hc9.same sA).kx kB hxA⟩
end
end Hw

namespace Hw
open PySem PySem.Spec PyProof.Rows L2 ClX
abbrev sFarEnd : Stmt := inClass sNetwork 13
abbrev sWay : Stmt := inClass sNetwork 14
abbrev sCheck : Stmt := inClass sNetwork 15
abbrev sAcross : Stmt := inClass sNetwork 16
abbrev sDists : Stmt := inClass sNetwork 17
abbrev sNearing : Stmt := inClass sNetwork 18
/-! ### an own exception with one field -/
def spXi (C : Addr) (f : Str) : Sp := fun vs H Q _ => ∃ (a : Addr) (v : V), vs = [.ref a, v] ∧ H a = some (exo a C none) ∧ ∀ dx, H dx = none → dx ≠ a → Q .non (upd (upd H dx (exd dx [(f, v)])) a (exo a C (some dx)))
structure Xc1 (P : Program) (w : World) (K : PySem.W.Frag) (mg : Str → Option Value) (base : Heap) (x : Str) (C : Addr) (f : Str) : Prop where
  gC : mg x = some (.ref C)
  oex : OexC K C
  init : ∃ (fI : Addr) (fd : FuncData) (ps : List Str), PySem.W.findIn K (.ref C) "__init__" = some (some (.ref fI)) ∧ PySem.W.typeIn K (.ref fI) = some (.type "function") ∧ FnOk P w K mg base CX0 1 fI fd ps (spXi C f) ∧ Binds K fd ps []
  xf : XfC K C
  noF : PySem.W.findIn K (.ref C) f = some none
  te : PySem.W.exmOne K (.ref C) (.ref C) = some true
def tMk1 (C : Addr) (f : Str) (te : TE) : L2.St → Hp → XK → Prop := tMkO C (spXi C f) [] (tCons te tNil)
theorem pmk_x1 {X : Cx} {x f : Str} {C : Addr} {e : Expr} {te : TE} {p pos : Pos} (c : Xc1 X.prog X.w X.K X.mg X.base x C f) (hr : Room 2 X.A) (hg : Gl X x) (ha : PE X e te) (hdb : (x == ("__debug__" : Str)) = false := by decide)
    (he : starEach [e] X.env = (false, eval e X.env) :: starEach [] X.env := by rfl) (hpl : (backTo pos (starEach [] X.env)).any (·.1) = false := by rfl) : PMk X (.Call (.Name x p) [e] [] pos) (tMk1 C f te) := by
  obtain ⟨fI, fd, ps, h1, h2, F, b⟩ := c.init
  exact pmk_oex (pos := pos) (p := p) (dvs := []) (ds := []) c.oex h1 h2 F hr b .nil pass0 hg c.gC (pa_cons ha pa_nil (hs := he)) hdb he hpl
theorem mk1_ok {C : Addr} {f : Str} {v : V} {H1 : Hp} {Q : XK} (q : ∀ d, H1 d = none → Q (.ref C) (some d) (upd H1 d (.xd [(f, v)]))) : [v].length ≤ 1000 ∧ ∀ a, H1 a = none → spXi C f (.ref a :: ([v] ++ [])) (upd H1 a (exo a C none))
      (fun v H2 => v = .non ∧ ∃ (d : Addr) (fs : List (Str × V)), H2 a = some (exo a C (some d)) ∧ H2 d = some (exd d fs) ∧ H1 d = none ∧ Q (.ref C) (some d) (upd (L2.del H2 a) d (.xd fs))) (fun _ _ _ => False) := by
  refine ⟨(by show 1 ≤ 1000; decide), fun a na => ⟨a, v, rfl, upd_same, fun dx ndx ne => ⟨rfl, dx, [(f, v)], upd_same, ?_, ?_, ?_⟩⟩⟩
  · rw [upd_ne ne, upd_same]
  · rw [upd_ne ne] at ndx
    exact ndx
  · rw [upd_ne ne] at ndx
    have e : upd (L2.del (upd (upd (upd H1 a (exo a C none)) dx (exd dx [(f, v)])) a (exo a C (some dx))) a) dx (.xd [(f, v)]) = upd H1 dx (.xd [(f, v)]) := by
      funext b
      by_cases z : b = dx
      · rw [z, upd_same, upd_same]
      · rw [upd_ne z, upd_ne z]
        by_cases y : b = a
        · rw [y, del_same, na]
        · rw [del_ne y, upd_ne y, upd_ne z, upd_ne y]
    rw [e]
    exact q dx ndx
/-! ### methods with their promises -/
structure Dm (K : PySem.W.Frag) (C : Addr) (m qual : Str) (st : Stmt) (ps : List Str) : Prop where
  ex : ∃ (f : Addr) (fd : FuncData), Fun K m qual st f fd ∧ L2.Binds K fd ps [] ∧ Meth K C m f
structure MC (P : Program) (w : World) (K : PySem.W.Frag) (mg : Str → Option Value) (base : Heap) (CX : CXT) (C : Addr) (m : Str) (k : Nat) (sp : Sp) : Prop where
  ex : ∃ f : Addr, Meth K C m f ∧ L2.FnR P w K mg base CX k f sp
section
variable {P : Program} {w : World} {K : PySem.W.Frag} {mg : Str → Option Value} {base : Heap}
theorem raw0 {CX : CXT} {k : Nat} {f : Addr} {fd : FuncData} {ps : List Str} {sp : Sp} (F : FnOk P w K mg base CX k f fd ps sp) (b : L2.Binds K fd ps []) : L2.FnR P w K mg base CX k f sp :=
  (F.raw b (dvs := []) .nil).imp fun vs H Q E h => by
    show sp (vs ++ []) H Q E
    rw [List.append_nil]
    exact h
theorem mc_of {C : Addr} {m qual : Str} {st : Stmt} {N ps : List Str} {k : Nat} {sp : Sp} (D : Dm K C m qual st ps) (S : FnScope N ps (defScope st)) (len : ∀ vs H Q E, sp vs H Q E → vs.length = ps.length)
    (hbody : ∀ (f : Addr) (cdv : Value) (A : Around) (outer : List Env) (s : Shared) (H : Hp) (vs : List V) (Q : VK) (E : XK), Room k (A.deeper (envOfC qual (defScope st) s.heap.objs.size f cdv)) → sp vs H Q E →
      ∃ t, PSs (cxOf CX0 P w K mg base N qual (defScope st) f cdv A outer s H E).nox (defBody st) t ∧ t { nx := fun _ H' => Q .non H', rt := Q } (start N vs) H) : MC P w K mg base CX0 C m (k + 1) sp := by
  obtain ⟨f, fd, F, b, me⟩ := D.ex
  exact ⟨f, me, raw0 (F.ok S len (fun cdv A outer s H vs Q E hr h => hbody f cdv A outer s H vs Q E hr h)) b⟩
theorem mc_ofX {C : Addr} {m qual : Str} {st : Stmt} {N ps : List Str} {k : Nat} {sp : Sp} (D : Dm K C m qual st ps) (S : FnScope N ps (defScope st)) (len : ∀ vs H Q E, sp vs H Q E → vs.length = ps.length)
    (hbody : ∀ (f : Addr) (cdv : Value) (A : Around) (outer : List Env) (s : Shared) (H : Hp) (vs : List V) (Q : VK) (E : XK), Room k (A.deeper (envOfC qual (defScope st) s.heap.objs.size f cdv)) → sp vs H Q E →
      ∃ t, PSs (cxOf (L2.CX P w) P w K mg base N qual (defScope st) f cdv A outer s H E) (defBody st) t ∧ t { nx := fun _ H' => Q .non H', rt := Q } (start N vs) H) : MC P w K mg base (L2.CX P w) C m (k + 1) sp := by
  obtain ⟨f, fd, F, b, me⟩ := D.ex
  exact ⟨f, me, raw0 (F.okX S len (fun cdv A outer s H vs Q E hr h => hbody f cdv A outer s H vs Q E hr h)) b⟩
structure MF (P : Program) (w : World) (K : PySem.W.Frag) (mg : Str → Option Value) (base : Heap) (CX : CXT) (C : Addr) (m qual : Str) (st : Stmt) (ps : List Str) (k : Nat) (sp : Sp) : Prop where
  ex : ∃ (f : Addr) (fd : FuncData), Fun K m qual st f fd ∧ L2.Binds K fd ps [] ∧ Meth K C m f ∧ FnOk P w K mg base CX k f fd ps sp
theorem MF.mc {CX : CXT} {C : Addr} {m qual : Str} {st : Stmt} {ps : List Str} {k : Nat} {sp : Sp} (M : MF P w K mg base CX C m qual st ps k sp) : MC P w K mg base CX C m k sp := by
  obtain ⟨f, fd, F, b, me, G⟩ := M.ex
  exact ⟨f, me, raw0 G b⟩
theorem mf_ofX {C : Addr} {m qual : Str} {st : Stmt} {N ps : List Str} {k : Nat} {sp : Sp} (D : Dm K C m qual st ps) (S : FnScope N ps (defScope st)) (len : ∀ vs H Q E, sp vs H Q E → vs.length = ps.length)
    (hbody : ∀ (f : Addr) (cdv : Value) (A : Around) (outer : List Env) (s : Shared) (H : Hp) (vs : List V) (Q : VK) (E : XK), Room k (A.deeper (envOfC qual (defScope st) s.heap.objs.size f cdv)) → sp vs H Q E →
      ∃ t, PSs (cxOf (L2.CX P w) P w K mg base N qual (defScope st) f cdv A outer s H E) (defBody st) t ∧ t { nx := fun _ H' => Q .non H', rt := Q } (start N vs) H) : MF P w K mg base (L2.CX P w) C m qual st ps (k + 1) sp := by
  obtain ⟨f, fd, F, b, me⟩ := D.ex
  exact ⟨f, fd, F, b, me, F.okX S len (fun cdv A outer s H vs Q E hr h => hbody f cdv A outer s H vs Q E hr h)⟩
/-! ### _across -/
def spAcross (C : Addr) : Sp := fun vs H Q _ => ∃ (x : Addr) (n : Nat) (es : List Ed) (i p : Nat), vs = [.ref x, .int (i : Int), .int (p : Int)] ∧ NetAt5 C H x n es ∧ i < es.length ∧ Q (.int ((oth (es.getD i (0, 0)) p : Nat) : Int)) H
abbrev nAc : List Str := ["self", "passage", "place", "u", "v"]
theorem scAcross : FnScope nAc ["self", "passage", "place"] (defScope sAcross) := ⟨rfl, rfl, rfl, by decide +kernel, rfl, by decide +kernel, by decide +kernel⟩
theorem mc_across {C : Addr} {mc : Value} (T : Txt mg) (N : NetC K mg C mc) (D : Dm K C "_across" "Network._across" sAcross ["self", "passage", "place"]) : MC P w K mg base CX0 C "_across" 1 (spAcross C) := by
  have nd := scAcross.nd
  refine mc_of D scAcross (fun vs H Q E h => ?_) (fun f cdv A outer s0 H vs Q E hr h => ?_)
  · obtain ⟨x, n, es, i, p, rfl, _⟩ := h
    rfl
  · obtain ⟨x, n, es, i, p, rfl, ⟨dx, fs, a, e, h1, h2, h3, h4, h5, ⟨ks, k1, k2, k3⟩, h7⟩, hi, q⟩ := h
    refine ⟨_, pss_cons (ps_asg (pe_ix (r := rIxT K) ix_tup (pe_fld (pv 0) rfl) (pv 1) (fun _ _ => rfl)) (pg_tup rfl (pgs_cons (pg_name (i := 3) nd rfl (.inl rfl)) (pgs_cons (pg_name (i := 4) nd rfl (.inl rfl)) pgs_nil))))
      <| pss_one (ps_ret (pe_ifExp (pt_cmpR op_eq (pv 2) (pv 3) (nomark _)) (pv 4) (pv 3))), ?_⟩
    have hk : i < ks.length := by rw [ed_len k2]; exact hi
    obtain ⟨k, hki⟩ : ∃ k, ks[i]? = some k := ⟨ks[i], List.getElem?_eq_getElem hk⟩
    obtain ⟨e', he', ek⟩ := ed_get k2 hki
    have tk := k3 k (List.mem_of_getElem? hki)
    rw [ek] at tk
    have at1 : atI (ks.map fun k => V.ref k.1) ((i : Nat) : Int) = some (.ref k.1) := atI_nat (by rw [List.getElem?_map, hki]; rfl)
    refine ⟨_, rfl, x, C, dx, fs, _, rfl, h1, N.cl, N.n2, h3, _, rfl, a, _, _, _, rfl, rfl, sq_of k1, at1, ?_⟩
    refine ⟨k.1, _, rfl, sq_of tk, rfl, _, _, rfl, _, _, rfl, rfl, ?_⟩
    rw [getD_of he'] at q
    unfold oth at q
    refine ⟨_, rfl, _, rfl, rfl, _, rfl, ite2 (fun c => ?_) (fun c => ?_)⟩
    · have c' : p = e'.1 := by
        have := of_decide_eq_true c
        simp at this
        omega
      rw [if_pos c'] at q
      exact ⟨_, rfl, q⟩
    · have c' : ¬ p = e'.1 := by
        have := of_decide_eq_false (Bool.eq_false_iff.mpr c)
        simp at this
        omega
      rw [if_neg c'] at q
      exact ⟨_, rfl, q⟩
end
end Hw

namespace Hw
open PySem PySem.Spec PyProof.Rows L2 ClX
/-- the row of a place among the exits -/
theorem cs_at {H : Hp} {e : Addr} {n p : Nat} {es : List Ed} (h : CsAt H e (exs n es)) (hp : p < n) : ∃ (ks : List V) (b : Addr), H e = some (.tup ks) ∧ atI ks ((p : Nat) : Int) = some (.ref b) ∧ Tp H b (drs es p) := by
  obtain ⟨ks, k1, k2, k3⟩ := h
  have kl : ks.length = n := by
    have := congrArg List.length k2
    unfold exs at this
    rw [List.length_map, List.length_map, List.length_range] at this
    exact this
  obtain ⟨k, hk⟩ : ∃ k, ks[p]? = some k := ⟨ks[p], List.getElem?_eq_getElem (by omega)⟩
  have e2 : k.2 = drs es p := by
    have := congrArg (fun l => l[p]?) k2
    unfold exs at this
    simp only [List.getElem?_map, hk, List.getElem?_range hp] at this
    exact Option.some.inj this
  refine ⟨_, k.1, k1, atI_nat (by rw [List.getElem?_map, hk]; rfl), ?_⟩
  rw [← e2]
  exact k3 k (List.mem_of_getElem? hk)
section
variable {P : Program} {w : World} {K : PySem.W.Frag} {mg : Str → Option Value} {base : Heap}
def tM (C : Addr) (m : Str) (sp : Sp) (ta : TE) (t : TA) : TE := tMethR C m sp E0 ta t
theorem pe_m {X : Cx} {k : Nat} {C : Addr} {m : Str} {sp : Sp} {o e : Expr} {es : List Expr} {ta : TE} {t : TA} {apos pos : Pos} {pl : Sem Bool} (M : MC X.prog X.w X.K X.mg X.base CX0 C m k sp) (c : Cls X.K C) (hr : Room k X.A) (he : PE X o ta) (ha : PA X (e :: es) t)
    (hst : starEach (e :: es) X.env = (false, eval e X.env) :: starEach es X.env := by rfl) (hpl : (backTo pos (starEach es X.env)).any (·.1) = false := by rfl) (ht : eval (.Call (.Attribute o m apos) (e :: es) [] pos) X.env = (do let ov ← eval o X.env; standAt apos.atName; let (f, first) ← holding [ov] (getMethod ov m pl); callWith pos f first (backTo pos (starEach (e :: es) X.env)) (backToKw pos (keywordEach [] X.env))) := by rfl) :
    PE X (.Call (.Attribute o m apos) (e :: es) [] pos) (tM C m sp ta t) := by
  obtain ⟨f, hm, F⟩ := M.ex
  exact pe_methR he c hm F hr pass0 ha hst hpl ht
end
end Hw

namespace Hw
open PySem PySem.Spec PyProof.Rows L2 ClX
section
variable {P : Program} {w : World} {K : PySem.W.Frag} {mg : Str → Option Value} {base : Heap}
/-! ### far_end, of a passage and one of its ends -/
def spFar (C : Addr) : Sp := fun vs H Q _ => ∃ (x : Addr) (n : Nat) (es : List Ed) (i p : Nat), vs = [.ref x, .int (i : Int), .int (p : Int)] ∧ NetAt5 C H x n es ∧ i ∈ drs es p ∧ Q (.int ((oth (es.getD i (0, 0)) p : Nat) : Int)) H
abbrev nFa : List Str := ["self", "passage", "place"]
theorem scFar : FnScope nFa ["self", "passage", "place"] (defScope sFarEnd) := ⟨rfl, rfl, rfl, by decide +kernel, rfl, by decide +kernel, by decide +kernel⟩
theorem mc_far {C : Addr} {mc : Value} (T : Txt mg) (N : NetC K mg C mc) (GI : Cal P w K mg base "is_index" 2 spIndex) (GW : Cal P w K mg base "is_whole" 1 spWhole) (GA : MC P w K mg base CX0 C "_across" 1 (spAcross C))
    (D : Dm K C "far_end" "Network.far_end" sFarEnd ["self", "passage", "place"]) : MC P w K mg base CX0 C "far_end" 3 (spFar C) := by
  have nd := scFar.nd
  refine mc_of D scFar (fun vs H Q E h => ?_) (fun f cdv A outer s0 H vs Q E hr h => ?_)
  · obtain ⟨x, n, es, i, p, rfl, _⟩ := h
    rfl
  · obtain ⟨x, n, es, i, p, rfl, net, hi, q⟩ := h
    have hr1 := hr.mono (show 1 ≤ 2 by decide)
    refine ⟨_, pss_cons (ps_if (pt_not (pt_val (pe_cl GI hr (by rfl) (pa_cons (pv 1) (pa_cons (pe_callB cr_len (by rfl) T.len PySem.boot_len (pa_cons (pe_fld (pv 0) rfl) pa_nil)) pa_nil))))) (pss_one ps_never) pss_nil)
      <| pss_cons (ps_if (PW.pt (pw_or (pt_not (pt_val (pe_cl GW hr1 (by rfl) (pa_cons (pv 2) pa_nil)))) (pw_or1 (pt_cmpR (r := rIn K true) op_notIn_seq (pv 2) (pe_ix (r := rIxT K) ix_tup (pe_fld (pv 0) rfl) (pv 1) (fun _ _ => rfl)) (by rfl))))) (pss_one ps_never) pss_nil)
      <| pss_one (ps_ret (pe_m GA N.cl hr1 (pv 0) (pa_cons (pv 1) (pa_cons (pv 2) pa_nil)))), ?_⟩
    obtain ⟨dx, fs, a, e, h1, h2, h3, h4, h5, ⟨ks, k1, k2, k3⟩, h7⟩ := id net
    obtain ⟨il, im⟩ := mem_drs.mp hi
    have kl := ed_len k2
    have hk : i < ks.length := by rw [kl]; exact il
    obtain ⟨k, hki⟩ : ∃ k, ks[i]? = some k := ⟨ks[i], List.getElem?_eq_getElem hk⟩
    obtain ⟨e', he', ek⟩ := ed_get k2 hki
    have tk := k3 k (List.mem_of_getElem? hki)
    rw [ek] at tk
    have at1 : atI (ks.map fun k => V.ref k.1) ((i : Nat) : Int) = some (.ref k.1) := atI_nat (by rw [List.getElem?_map, hki]; rfl)
    refine ⟨_, rfl, _, rfl, x, C, dx, fs, _, rfl, h1, N.cl, N.n2, h3, a, _, rfl, .inr (sq_of k1), _, _, rfl, ?_⟩
    rw [nv_len, kl]
    refine ⟨_, rfl, ?_⟩
    rw [show decide ((0 : Int) ≤ (i : Int) ∧ (i : Int) < (es.length : Int)) = true from decide_eq_true ⟨by omega, by omega⟩]
    refine iteF ?_
    refine ⟨_, rfl, _, rfl, ⟨_, rfl, iteF ?_⟩⟩
    refine ⟨_, rfl, _, rfl, x, C, dx, fs, _, rfl, h1, N.cl, N.n2, h3, _, rfl, a, _, _, _, rfl, rfl, sq_of k1, at1, k.1, _, rfl, .inr (sq_of tk), rfl, flat_NV _, _, rfl, ?_⟩
    rw [inV_NV, show decide (p ∈ pl e') = true from decide_eq_true (by rw [getD_of he'] at im; exact im)]
    refine iteF ?_
    exact ⟨_, rfl, x, dx, fs, rfl, h1, h5 _ (by decide +kernel), _, rfl, _, rfl, x, n, es, i, p, rfl, net, il, q⟩
end
/-! ### o.m(k = v, ..) -/
def tMethK (C : Addr) (m : Str) (sp : Sp) (gV : List V → List V → List V) (j : Nat) (E : XK) (ta : TE) (tk : TA) : TE := fun σ H Q => ta σ H fun x H1 => ∃ a dx fs, x = .ref a ∧ H1 a = some (.ins C dx fs) ∧ fs.lookup m = none ∧ tk σ H1 fun zs H2 => zs.length = j ∧ sp (gV [x] zs) H2 Q E
theorem pe_methK {X : Cx} {CX : CXT} {k : Nat} {C f : Addr} {fd : FuncData} {ps ks : List Str} {m : Str} {sp : Sp} {E : XK} {o : Expr} {kws : List Keyword} {ta : TE} {tk : TA} {apos pos : Pos} {pl : Sem Bool} {g : List Value → List Value → List Value} {gV : List V → List V → List V}
    (he : PE X o ta) (c : Cls X.K C) (hm : Meth X.K C m f) (F : FnOk X.prog X.w X.K X.mg X.base CX k f fd ps sp) (hr : Room k X.A) (hb : KBn X.K fd ps 1 ks g gV) (hx : Passes CX X E) (hkw : PK X kws tk)
    (hall : (backToKw pos (keywordEach kws X.env)).all (·.1.isSome) = true := by rfl) (hks : (backToKw pos (keywordEach kws X.env)).filterMap (·.1) = ks := by rfl)
    (hpl : ((backTo pos (starEach [] X.env)).any (·.1) || (backToKw pos (keywordEach kws X.env)).any (·.1.isNone)) = false := by rfl)
    (ht : eval (.Call (.Attribute o m apos) [] kws pos) X.env = (do let ov ← eval o X.env; standAt apos.atName; let (f, first) ← holding [ov] (getMethod ov m pl); callWith pos f first (backTo pos (starEach [] X.env)) (backToKw pos (keywordEach kws X.env))) := by rfl) :
    PE X (.Call (.Attribute o m apos) [] kws pos) (tMethK C m sp gV ks.length E ta tk) := by
  refine ⟨fun pins s σ H Q I h => ?_⟩
  refine PySem.W.methodCall_KW (pl := pl) (thn (he.run pins s σ H _ I h) fun u s1 ⟨x, H1, I1, rx, a, dx, fs, ex, ea, l, q⟩ => ?_) ht
  subst ex
  obtain rfl : u = Value.ref a := rx
  refine getmeth_ok I1 ea c hm l ?_
  refine PySem.W.callWith_KW0 (first := [.ref a]) (h₀ := X.base) I.ok.mod.kin hm.kp hall ?_ hpl
  refine thn (hkw.run pos pins s1 σ H1 _ I1 q) fun ws s2 ⟨zs, H2, I2, rz, l2, q2⟩ => ⟨I2.kIn, ?_⟩
  rw [hks]
  have r1 : Vals [V.ref a] [Value.ref a] := .cons rfl .nil
  have r2 := hb.rel r1 rz
  refine wpAny_call (codeAny_mono (F.run X.A X.stack s2 H2 ⟨[.ref a], ks.zip ws⟩ (g [.ref a] ws) (gV [V.ref a] zs) Q E hr I2.env0 (hb.to s2 [.ref a] ws I2.kIn rfl (rz.length.symm.trans l2)) r2 q2) fun r s' hq => ?_)
  cases r with
  | error e => exact hx pins σ H2 s2 e s' I2 hq
  | ok fl =>
    cases fl with
    | ret u => exact I2.after hq
    | next => exact False.elim hq
    | brk => exact False.elim hq
    | cont => exact False.elim hq
end Hw

namespace Hw
open PySem PySem.Spec PyProof.Rows L2 ClX
/-- a state stands at t -/
def StT (H : Hp) (t : Addr) (s : Sta) : Prop := ∃ q, H t = some (.tup [.int (s.1 : Int), .ref q]) ∧ Tp H q s.2
theorem StT.same {H H' : Hp} {t : Addr} {s : Sta} (h : StT H t s) (z : Same H H') : StT H' t s := by
  obtain ⟨q, h1, h2⟩ := h
  exact ⟨q, z _ _ h1, z _ _ h2⟩
/-- a property that reads a field -/
structure PrG (P : Program) (w : World) (K : PySem.W.Frag) (mg : Str → Option Value) (base : Heap) (C : Addr) (f fld : Str) : Prop where
  ex : ∃ (p g : Addr) (fd : FuncData), PropOf K C f p g ∧ FnOk P w K mg base CX0 1 g fd ["self"] (getSp C fld) ∧ L2.Binds K fd ["self"] []
def tPrp (C : Addr) (fld : Str) (ta : TE) : TE := fun σ H Q => ta σ H fun v H1 => ∃ (x dx : Addr) (fs : List (Str × V)) (u : V), v = .ref x ∧ H1 x = some (.ins C dx fs) ∧ fs.lookup fld = some u ∧ Q u H1
theorem pe_prp {X : Cx} {C : Addr} {f fld : Str} {e : Expr} {ta : TE} {pos : Pos} (G : PrG X.prog X.w X.K X.mg X.base C f fld) (c : Cls X.K C) (hr : Room 2 X.A) (he : PE X e ta) (hab : attributeBase e f X.env (eval e X.env) = eval e X.env := by rfl) : PE X (.Attribute e f pos) (tPrp C fld ta) := by
  obtain ⟨p, g, fd, hp, F, b⟩ := G.ex
  refine ⟨fun pins s σ H Q I h => attr_of hab (thn (he.run pins s σ H _ I h) fun u s1 ⟨v, H1, I1, rx, x, dx, fs, w, ex, h1, h2, q⟩ => ?_)⟩
  subst ex
  obtain rfl : u = Value.ref x := rx
  exact getprop_ok (CX := CX0) (E := E0) (dvs := []) I1 h1 c hp F hr b .nil pass0 ⟨x, dx, fs, _, rfl, h1, h2, q⟩
abbrev sLenP : Stmt := inClass sNetwork 10
section
variable {P : Program} {w : World} {K : PySem.W.Frag} {mg : Str → Option Value} {base : Heap}
/-! ### __len__ -/
def spLenM (C : Addr) : Sp := fun vs H Q _ => ∃ (x : Addr) (n : Nat) (es : List Ed), vs = [.ref x] ∧ NetAt5 C H x n es ∧ Q (.int ((es.length : Nat) : Int)) H
theorem scLenP : FnScope ["self"] ["self"] (defScope sLenP) := ⟨rfl, rfl, rfl, by decide +kernel, rfl, by decide +kernel, by decide +kernel⟩
theorem mc_len {C : Addr} {mc : Value} (T : Txt mg) (N : NetC K mg C mc) (D : Dm K C "__len__" "Network.__len__" sLenP ["self"]) : MC P w K mg base CX0 C "__len__" 1 (spLenM C) := by
  refine mc_of D scLenP (fun vs H Q E h => ?_) (fun f cdv A outer s0 H vs Q E hr h => ?_)
  · obtain ⟨x, n, es, rfl, _⟩ := h
    rfl
  · obtain ⟨x, n, es, rfl, ⟨dx, fs, a, e, h1, h2, h3, h4, h5, ⟨ks, k1, k2, k3⟩, h7⟩, q⟩ := h
    refine ⟨_, pss_one (ps_ret (pe_callB cr_len (by rfl) T.len PySem.boot_len (pa_cons (pe_fld (pv 0) rfl) pa_nil))), ?_⟩
    refine ⟨_, rfl, x, C, dx, fs, _, rfl, h1, N.cl, N.n2, h3, a, _, rfl, .inr (sq_of k1), ?_⟩
    rw [nv_len, ed_len k2]
    exact q
/-- what the moves ask of the network's class -/
structure MvC (P : Program) (w : World) (K : PySem.W.Frag) (mg : Str → Option Value) (base : Heap) (C : Addr) : Prop where
  cl : Cls K C
  pl : PrG P w K mg base C "places" "_places"
  pa : PrG P w K mg base C "passages" "_passages"
  len : MC P w K mg base CX0 C "__len__" 1 (spLenM C)
  far : MC P w K mg base CX0 C "far_end" 3 (spFar C)
  index : Cal P w K mg base "is_index" 2 spIndex
  perm : Cal P w K mg base "is_permutation" 3 spIsPerm
theorem cr_lenN {X : Cx} {C : Addr} (M : MC X.prog X.w X.K X.mg X.base CX0 C "__len__" 1 (spLenM C)) (hr : Room 2 X.A) : CallR X (.builtin "len") (rLenO C (spLenM C)) := by
  obtain ⟨f, me, F⟩ := M.ex
  exact cr_lenO me.at_ me.fn F hr
/-! ### check_state, of a state -/
def spCkS (C : Addr) : Sp := fun vs H Q _ => ∃ (x t : Addr) (n : Nat) (es : List Ed) (s : Sta), vs = [.ref x, .ref t] ∧ NetAt5 C H x n es ∧ StT H t s ∧ IsS n es.length s ∧ es.length ≤ 16 ∧ ∀ H', Same H H' → Q .non H'
abbrev nCk : List Str := ["network", "state", "place", "things"]
theorem scCk : FnScope nCk ["network", "state"] (defScope sCheckState) := ⟨rfl, rfl, rfl, by decide +kernel, rfl, by decide +kernel, by decide +kernel⟩
theorem cal_ckS {C : Addr} (T : Txt mg) (G : MvC P w K mg base C) (D : Df K mg "check_state" sCheckState ["network", "state"]) : Cal P w K mg base "check_state" 4 (spCkS C) := by
  have nd := scCk.nd
  refine cal_of D scCk (fun vs H Q E h => ?_) (fun f cdv A outer s0 H vs Q E hr h => ?_)
  · obtain ⟨x, t, n, es, s, rfl, _⟩ := h
    rfl
  · obtain ⟨x, t, n, es, s, rfl, net, ⟨q1, ht, hq⟩, ⟨i1, i2, i3⟩, hl, q⟩ := h
    have hr2 := hr.mono (show 2 ≤ 3 by decide)
    refine ⟨_, pss_cons (ps_if (PW.pt (pw_or (pt_not (pt_val (pe_callB call_isi (by rfl) T.isinstance (by decide +kernel) (pa_cons (pv 1) (pa_cons (pe_bltn (v := .ty "tuple") (by rfl) T.tuple (by decide +kernel) rfl) pa_nil))))) (pw_or1 (pt_cmpR op_ne (pe_callB cr_len (by rfl) T.len PySem.boot_len (pa_cons (pv 1) pa_nil)) pe_int (nomark _))))) (pss_one ps_never) pss_nil)
      <| pss_cons (ps_asg (pv 1) (pg_tup rfl (pgs_cons (pg_name (i := 2) nd rfl (.inl rfl)) (pgs_cons (pg_name (i := 3) nd rfl (.inl rfl)) pgs_nil))))
      <| pss_cons (ps_if (pt_not (pt_val (pe_cl G.index hr2 (by rfl) (pa_cons (pv 2) (pa_cons (pe_prp G.pl G.cl hr2 (pv 0)) pa_nil))))) (pss_one ps_never) pss_nil)
      <| pss_one (ps_if (PW.pt (pw_or (pt_not (pt_val (pe_cl G.perm hr (by rfl) (pa_cons (pv 3) pa_nil)))) (pw_or1 (pt_cmpR op_ne (pe_callB cr_len (by rfl) T.len PySem.boot_len (pa_cons (pv 3) pa_nil)) (pe_op op_add (pe_callB (cr_lenN G.len hr2) (by rfl) T.len PySem.boot_len (pa_cons (pv 0) pa_nil)) pe_int) (nomark _))))) (pss_one ps_never) pss_nil), ?_⟩
    obtain ⟨dx, fs, a, e, h1, h2, h3, h4, h5, h6, h7⟩ := id net
    refine ⟨_, rfl, _, _, _, _, true, rfl, .ty _, .base (.tup ht), kit_ty (by decide +kernel), true, rfl, iteF ?_⟩
    refine ⟨_, rfl, t, _, rfl, .inr (sq_of ht), rfl, _, rfl, iteF ?_⟩
    refine ⟨_, rfl, t, _, rfl, sq_of ht, rfl, _, _, rfl, _, _, rfl, rfl, ?_⟩
    refine ⟨_, rfl, _, rfl, x, dx, fs, _, rfl, h1, h2, _, _, rfl, ?_⟩
    refine ⟨_, rfl, ?_⟩
    rw [show decide ((0 : Int) ≤ (s.1 : Int) ∧ (s.1 : Int) < (n : Int)) = true from decide_eq_true ⟨by omega, by omega⟩]
    refine iteF ?_
    refine ⟨_, rfl, q1, s.2, rfl, hq, i2, by omega, fun H1 s1 => ⟨_, rfl, iteF ?_⟩⟩
    refine ⟨_, rfl, q1, _, rfl, .inr (sq_of (s1 _ _ hq)), _, rfl, x, dx, fs, rfl, s1 _ _ h1, x, n, es, rfl, net.same s1, es.length, rfl, by omega, _, _, rfl, rfl, rfl, ?_⟩
    rw [NV_len, i3]
    refine ⟨_, rfl, ?_⟩
    rw [show (!decide (V.int ((es.length + 1 : Nat) : Int) = V.int ((es.length : Int) + 1))) = false by simp]
    exact iteF (q H1 s1)
/-! ### is_step, of a step -/
def spIsStep (C : Addr) : Sp := fun vs H Q _ => ∃ (x : Addr) (n : Nat) (es : List Ed) (p e : Nat), vs = [.ref x, .int (p : Int), .int (e : Int)] ∧ NetAt5 C H x n es ∧ e ∈ drs es p ∧ es.length ≤ 16 ∧ Q (.bl true) H
theorem scIsStep : FnScope ["network", "place", "value"] ["network", "place", "value"] (defScope sIsStep) := ⟨rfl, rfl, rfl, by decide +kernel, rfl, by decide +kernel, by decide +kernel⟩
theorem cal_isStep {C : Addr} (T : Txt mg) (G : MvC P w K mg base C) (D : Df K mg "is_step" sIsStep ["network", "place", "value"]) : Cal P w K mg base "is_step" 3 (spIsStep C) := by
  refine cal_of D scIsStep (fun vs H Q E h => ?_) (fun f cdv A outer s0 H vs Q E hr h => ?_)
  · obtain ⟨x, n, es, p, e, rfl, _⟩ := h
    rfl
  · obtain ⟨x, n, es, p, i, rfl, net, hi, hl, q⟩ := h
    refine ⟨_, pss_one (ps_ret (pe_and (pe_cl G.index hr (by rfl) (pa_cons (pv 2) (pa_cons (pe_callB (cr_lenN G.len hr) (by rfl) T.len PySem.boot_len (pa_cons (pv 0) pa_nil)) pa_nil)))
        (pe_one (pe_cmpR (r := rIn K false) op_in_seq (pv 1) (pe_ix (r := rIxT K) ix_tup (pe_prp G.pa G.cl hr (pv 0)) (pv 2) (fun _ _ => rfl)) (by rfl))))), ?_⟩
    obtain ⟨dx, fs, a, e, h1, h2, h3, h4, h5, ⟨ks, k1, k2, k3⟩, h7⟩ := id net
    obtain ⟨il, im⟩ := mem_drs.mp hi
    have kl := ed_len k2
    have hk : i < ks.length := by rw [kl]; exact il
    obtain ⟨k, hki⟩ : ∃ k, ks[i]? = some k := ⟨ks[i], List.getElem?_eq_getElem hk⟩
    obtain ⟨e', he', ek⟩ := ed_get k2 hki
    have tk := k3 k (List.mem_of_getElem? hki)
    rw [ek] at tk
    have at1 : atI (ks.map fun k => V.ref k.1) ((i : Nat) : Int) = some (.ref k.1) := atI_nat (by rw [List.getElem?_map, hki]; rfl)
    refine ⟨_, rfl, _, rfl, x, dx, fs, rfl, h1, x, n, es, rfl, net, es.length, rfl, by omega, _, _, rfl, ?_⟩
    refine ⟨_, rfl, ?_⟩
    rw [show decide ((0 : Int) ≤ (i : Int) ∧ (i : Int) < (es.length : Int)) = true from decide_eq_true ⟨by omega, by omega⟩]
    refine iteT ?_
    refine ⟨_, rfl, _, rfl, x, dx, fs, _, rfl, h1, h3, _, rfl, a, _, _, _, rfl, rfl, sq_of k1, at1, k.1, _, rfl, .inr (sq_of tk), rfl, flat_NV _, ?_⟩
    rw [inV_NV, show decide (p ∈ pl e') = true from decide_eq_true (by rw [getD_of he'] at im; exact im)]
    exact q
end
end Hw

namespace Hw
open PySem PySem.Spec PyProof.Rows L2 ClX
theorem ix_last {n : Nat} (h : 0 < n) : ixN n (-1) = some (n - 1) := by
  unfold ixN
  rw [if_neg (by decide), if_pos (by omega)]
  congr 1
  omega
theorem at_last {xs : List V} {v : V} (h : xs[xs.length - 1]? = some v) : atI xs (-1) = some v := by
  unfold atI
  have hl : 0 < xs.length := by
    have := (List.getElem?_eq_some_iff.mp h).1
    omega
  rw [ix_last hl]
  exact h
theorem NV_ap {p : List Nat} {i : Nat} (h : i < p.length) : (NV p)[i]? = some (.int ((ap p i : Nat) : Int)) := NV_get (ap_get h)
section
variable {P : Program} {w : World} {K : PySem.W.Frag} {mg : Str → Option Value} {base : Heap}
/-! ### after_step -/
def spAfS (C : Addr) : Sp := fun vs H Q _ => ∃ (x t : Addr) (n : Nat) (es : List Ed) (s : Sta) (e : Nat), vs = [.ref x, .ref t, .int (e : Int)] ∧ NetAt5 C H x n es ∧ StT H t s ∧ IsS n es.length s ∧ e ∈ drs es s.1 ∧ es.length ≤ 16 ∧
  ∀ H' r, Same H H' → H r = none → StT H' r (stpS es s e) → Q (.ref r) H'
abbrev nAs : List Str := ["network", "state", "step", "place", "things", "moved"]
theorem scAs : FnScope nAs ["network", "state", "step"] (defScope sAfterStep) := ⟨rfl, rfl, rfl, by decide +kernel, rfl, by decide +kernel, by decide +kernel⟩
theorem cal_afS {C : Addr} (T : Txt mg) (G : MvC P w K mg base C) (D : Df K mg "after_step" sAfterStep ["network", "state", "step"]) : Cal P w K mg base "after_step" 4 (spAfS C) := by
  have nd := scAs.nd
  refine cal_of D scAs (fun vs H Q E h => ?_) (fun f cdv A outer s0 H vs Q E hr h => ?_)
  · obtain ⟨x, t, n, es, s, e, rfl, _⟩ := h
    rfl
  · obtain ⟨x, t, n, es, s, e, rfl, net, ⟨q1, ht, hq⟩, ⟨i1, i2, i3⟩, he, hl, q⟩ := h
    refine ⟨_, pss_cons (ps_asg (pv 1) (pg_tup rfl (pgs_cons (pg_name (i := 3) nd rfl (.inl rfl)) (pgs_cons (pg_name (i := 4) nd rfl (.inl rfl)) pgs_nil))))
      <| pss_cons (ps_set (i := 5) nd rfl (.inl rfl) (pe_callTy call_list_of (by rfl) T.list (by decide +kernel) (pa_cons (pv 4) pa_nil)))
      <| pss_cons (ps_asg (pe_tup (pa_cons (pe_ix (r := rIxT K) ix_tup (pv 4) (pe_un un_neg pe_int) (fun _ _ => rfl)) (pa_cons (pe_ix (r := rIxT K) ix_tup (pv 4) (pv 2) (fun _ _ => rfl)) pa_nil)))
          (pg_tup rfl (pgs_cons (pg_sub (pv 5) (pv 2) set_list) (pgs_cons (pg_sub (pv 5) (pe_un un_neg pe_int) set_list) pgs_nil))))
      <| pss_one (ps_ret (pe_tup (pa_cons (pe_m G.far G.cl hr (pv 0) (pa_cons (pv 2) (pa_cons (pv 3) pa_nil))) (pa_cons (pe_callTy call_tuple_of (by rfl) T.tuple (by decide +kernel) (pa_cons (pv 5) pa_nil)) pa_nil)))), ?_⟩
    have el := (mem_drs.mp he).1
    have e2 : e < s.2.length := by omega
    have l2 : s.2.length - 1 < s.2.length := by omega
    refine ⟨_, rfl, t, _, rfl, sq_of ht, rfl, _, _, rfl, _, _, rfl, rfl, ?_⟩
    refine ⟨_, rfl, q1, _, rfl, .inr (sq_of hq), fun l nl => ?_⟩
    have s1 := same_upd (o := .lst (NV s.2)) nl
    have hl1 : upd H l (.lst (NV s.2)) l = some (.lst (NV s.2)) := upd_same
    generalize upd H l (.lst (NV s.2)) = H1 at *
    refine ⟨_, rfl, _, rfl, q1, _, _, _, rfl, rfl, sq_of (s1 _ _ hq), at_last (by rw [NV_len]; exact NV_ap l2), ?_⟩
    refine ⟨_, rfl, _, rfl, q1, _, _, _, rfl, rfl, sq_of (s1 _ _ hq), atI_nat (NV_ap e2), by show 2 ≤ sizeLine; decide, fun u nu => ?_⟩
    have s2 := same_upd (o := .tup [V.int ((ap s.2 (s.2.length - 1) : Nat) : Int), V.int ((ap s.2 e : Nat) : Int)]) nu
    have hu2 : upd H1 u (.tup [V.int ((ap s.2 (s.2.length - 1) : Nat) : Int), V.int ((ap s.2 e : Nat) : Int)]) u = some (.tup [V.int ((ap s.2 (s.2.length - 1) : Nat) : Int), V.int ((ap s.2 e : Nat) : Int)]) := upd_same
    have hl2 := s2 _ _ hl1
    generalize upd H1 u (.tup [V.int ((ap s.2 (s.2.length - 1) : Nat) : Int), V.int ((ap s.2 e : Nat) : Int)]) = H2 at *
    refine ⟨u, _, rfl, sq_of hu2, rfl, _, _, rfl, ?_⟩
    refine ⟨_, rfl, _, rfl, l, _, _, e, rfl, rfl, hl2, by rw [NV_len]; exact ix_at e2 rfl, _, _, rfl, ?_⟩
    rw [NV_set]
    refine ⟨_, rfl, 1, rfl, l, _, _, s.2.length - 1, rfl, rfl, upd_same, ?_, rfl, ?_⟩
    · rw [NV_len, List.length_set]
      exact ix_last (by omega)
    rw [NV_set]
    have sw : (s.2.set e (ap s.2 (s.2.length - 1))).set (s.2.length - 1) (ap s.2 e) = swp s.2 e := rfl
    rw [sw]
    have s3 : Same H (upd (upd H2 l (.lst (NV (s.2.set e (ap s.2 (s.2.length - 1)))))) l (.lst (NV (swp s.2 e)))) := fun b o eb => by
      have nb : b ≠ l := ne_of_none eb nl
      rw [upd_ne nb, upd_ne nb]
      exact s2 _ _ (s1 _ _ eb)
    have hl3 : upd (upd H2 l (.lst (NV (s.2.set e (ap s.2 (s.2.length - 1)))))) l (.lst (NV (swp s.2 e))) l = some (.lst (NV (swp s.2 e))) := upd_same
    generalize upd (upd H2 l (.lst (NV (s.2.set e (ap s.2 (s.2.length - 1)))))) l (.lst (NV (swp s.2 e))) = H3 at *
    obtain ⟨dx, fs, _, _, h1, _, _, _, h5, _, _⟩ := id (net.same s3)
    refine ⟨_, rfl, x, dx, fs, rfl, h1, h5 _ (by decide +kernel), _, rfl, _, rfl, x, n, es, e, s.1, rfl, net.same s3, he, ?_⟩
    refine ⟨_, rfl, l, _, rfl, .inl ⟨sl_of hl3, fun v nv => ?_⟩⟩
    have s4 := same_upd (o := .tup (NV (swp s.2 e))) nv
    have hv4 : upd H3 v (.tup (NV (swp s.2 e))) v = some (.tup (NV (swp s.2 e))) := upd_same
    generalize upd H3 v (.tup (NV (swp s.2 e))) = H4 at *
    refine ⟨by show 2 ≤ sizeLine; decide, fun r nr => ?_⟩
    have s5 := same_upd (o := .tup [V.int ((oth (es.getD e (0, 0)) s.1 : Nat) : Int), .ref v]) nr
    exact q _ r ((s3.trans s4).trans s5) ((s3.trans s4).free nr) ⟨v, upd_same, s5 _ _ hv4⟩
/-! ### trace, of steps that can be taken -/
structure TrC (P : Program) (w : World) (K : PySem.W.Frag) (mg : Str → Option Value) (base : Heap) (C : Addr) : Prop where
  cks : Cal P w K mg base "check_state" 4 (spCkS C)
  iss : Cal P w K mg base "is_step" 3 (spIsStep C)
  afs : Cal P w K mg base "after_step" 4 (spAfS C)
/-- the states along the way -/
def StsT (H : Hp) (es : List Ed) (s : Sta) (ks : List Nat) (ys : List V) : Prop := ys.length = ks.length + 1 ∧ ∀ i, i ≤ ks.length → ∃ t, ys[i]? = some (.ref t) ∧ StT H t (runS es s (ks.take i))
theorem StsT.same {H H' : Hp} {es : List Ed} {s : Sta} {ks : List Nat} {ys : List V} (h : StsT H es s ks ys) (z : Same H H') : StsT H' es s ks ys := ⟨h.1, fun i hi => by
  obtain ⟨t, h1, h2⟩ := h.2 i hi
  exact ⟨t, h1, h2.same z⟩⟩
def spTr (C : Addr) : SpGx := fun vs H Q => ∃ (x t p : Addr) (n : Nat) (es : List Ed) (s : Sta) (ks : List Nat), vs = [.ref x, .ref t, .ref p] ∧ NetAt5 C H x n es ∧ VE n es ∧ StT H t s ∧ IsS n es.length s ∧ Tp H p ks ∧ Wlk es s.1 ks ∧ es.length ≤ 16 ∧ ks.length < 100000 ∧
  ∀ H' ys, Same H H' → ys[0]? = some (.ref t) → StsT H' es s ks ys → Q ys H'
abbrev nTr : List Str := ["network", "state", "steps", "reached", "index", "step"]
theorem scTr : GScope nTr ((["network", "state"] : List Str) ++ (["steps"] : List Str)) (defScope sTraceP) := ⟨rfl, rfl, rfl, by decide +kernel, rfl, by decide +kernel, by decide +kernel⟩
theorem sts_snoc {H : Hp} {es : List Ed} {s : Sta} {ks : List Nat} {e : Nat} {ys : List V} {t : Addr} {i : Nat} (h : StsT H es s (ks.take i) ys) (hi : ks[i]? = some e) (ht : StT H t (stpS es (runS es s (ks.take i)) e)) : StsT H es s (ks.take (i + 1)) (ys ++ [.ref t]) := by
  obtain ⟨h1, h2⟩ := h
  have hlt := (List.getElem?_eq_some_iff.mp hi).1
  have l1 : (ks.take i).length = i := by rw [List.length_take]; omega
  have l2 : (ks.take (i + 1)).length = i + 1 := by rw [List.length_take]; omega
  rw [l1] at h1 h2
  refine ⟨by rw [List.length_append, List.length_singleton, l2, h1], fun j hj => ?_⟩
  rw [l2] at hj
  by_cases z : j ≤ i
  · obtain ⟨u, u1, u2⟩ := h2 j z
    refine ⟨u, by rw [List.getElem?_append_left (by omega)]; exact u1, ?_⟩
    rw [List.take_take, Nat.min_eq_left z] at u2
    rw [List.take_take, Nat.min_eq_left (by omega)]
    exact u2
  · obtain rfl : j = i + 1 := by omega
    refine ⟨t, by rw [List.getElem?_append_right (by omega), h1]; simp, ?_⟩
    rw [List.take_take, Nat.min_self, List.take_add_one, hi]
    show StT H t (runS es s (ks.take i ++ [e]))
    rw [runS_snoc]
    exact ht
theorem gfx_trace {C : Addr} (T : Txt mg) (G : TrC P w K mg base C) {f : Addr} {oc : Value} {od an : Option Addr} {osl : Array (Option Value)} {kV doc pm cdv ct : Value}
    (lk : K.lookup f = some ⟨oc, od, .func (PySem.W.fnOf "trace" "trace" (defArgs sTraceP) (defBody sTraceP) (defScope sTraceP) .none kV doc pm an cdv ct), osl⟩) (hcd : PySem.W.codeIn K cdv "trace" = true) :
    GFX P w K mg base 5 f (fun vs H Q => ∃ ws rest, vs = ws ++ rest ∧ ws.length = (["network", "state"] : List Str).length ∧ rest.length ≤ sizeLine ∧ ∀ p, H p = none → spTr C (ws ++ [.ref p]) (upd H p (.tup rest)) Q) := by
  have nd := scTr.nd
  refine gfx_star (ps := ["network", "state"]) (pv := "steps") lk hcd scTr (StX.bind_star2 (B := fun l => bindArgs (PySem.W.fnOf "trace" "trace" (defArgs sTraceP) (defBody sTraceP) (defScope sTraceP) .none kV doc pm an cdv ct) ⟨l, []⟩) (p1 := "network") (p2 := "state") (pv := "steps") (fun a b => rfl) (fun a b r rs => by kernel_rfl)) (fun A outer s0 H vs Q pn hr h => ?_)
  obtain ⟨x, t, p, n, es, s, ks, rfl, net, ve, ht, is, hp, wl, hl, kl, q⟩ := h
  have hr3 := hr.mono (show 3 ≤ 4 by decide)
  refine ⟨_, gfs_cons (gf_ps fun s1 => ps_expr (pe_cl (X := reb (cxG P w K mg base nTr "trace" (defScope sTraceP) f cdv A outer s0 H pn) s1) G.cks hr (by rfl) (pa_cons (pv 0) (pa_cons (pv 1) pa_nil))))
    <| gfs_cons (gf_yield fun s1 => pv 1)
    <| gfs_cons (gf_ps fun s1 => ps_set (i := 3) nd rfl (.inl rfl) (pv 1))
    <| gfs_one (gf_for (wi := iEnumT K (tCons (tVar 2) tNil)) (g := gTup K 2 (gCons (gName 4) (gCons (gName 5) gNil))) rfl (fun s1 => pi_enumT (X := reb (cxG P w K mg base nTr "trace" (defScope sTraceP) f cdv A outer s0 H pn) s1) (by rfl) T.enumerate (pa_cons (pv 2) pa_nil)) (fun s1 => pg_tup (X := reb (cxG P w K mg base nTr "trace" (defScope sTraceP) f cdv A outer s0 H pn) s1) rfl (pgs_cons (pg_name (i := 4) nd rfl (.inl rfl)) (pgs_cons (pg_name (i := 5) nd rfl (.inl rfl)) pgs_nil)))
        (gfs_cons (gf_ps fun s1 => ps_if (pt_not (pt_val (pe_cl (X := reb (cxG P w K mg base nTr "trace" (defScope sTraceP) f cdv A outer s0 H pn) s1) G.iss hr3 (by rfl) (pa_cons (pv 0) (pa_cons (pe_ix (r := rIxT K) ix_tup (pv 3) pe_int (fun _ _ => rfl)) (pa_cons (pv 5) pa_nil)))))) (pss_one ps_never) pss_nil)
        <| gfs_cons (gf_ps fun s1 => ps_set (i := 3) nd rfl (.inl rfl) (pe_cl (X := reb (cxG P w K mg base nTr "trace" (defScope sTraceP) f cdv A outer s0 H pn) s1) G.afs hr (by rfl) (pa_cons (pv 0) (pa_cons (pv 3) (pa_cons (pv 5) pa_nil)))))
        <| gfs_one (gf_yield fun s1 => pv 3))), ?_⟩
  refine ⟨_, rfl, _, rfl, x, t, n, es, s, rfl, net, ht, is, hl, fun H1 s1 => ?_⟩
  refine ⟨Nat.zero_lt_of_lt (show 0 < sizeLine by decide), _, rfl, ?_⟩
  refine ⟨_, rfl, ?_⟩
  refine ⟨_, rfl, p, NV ks, rfl, sq_of (s1 _ _ hp), ?_⟩
  have h0 : StsT H1 es s (ks.take 0) [.ref t] := ⟨rfl, fun i hi => by
    have : i = 0 := by simpa using hi
    subst this
    exact ⟨t, rfl, ht.same s1⟩⟩
  refine ⟨fun i m ys σ H2 => m = ks.length - i ∧ i ≤ ks.length ∧ Same H H2 ∧ ys[0]? = some (.ref t) ∧ StsT H2 es s (ks.take i) ys ∧ ∃ u v4 v5, σ = [some (.ref x), some (.ref t), some (.ref p), some (.ref u), v4, v5] ∧ StT H2 u (runS es s (ks.take i)), ⟨ks.length, by omega, by omega, s1, rfl, h0, t, _, _, rfl, ht.same s1⟩, ?_⟩
  rintro i m ys σ H2 ⟨rfl, hi, sm, y0, sts, u, v4, v5, rfl, hu⟩
  by_cases lt : i < ks.length
  · obtain ⟨e, he⟩ : ∃ e, ks[i]? = some e := ⟨ks[i], List.getElem?_eq_getElem lt⟩
    refine .inr ⟨⟨NV ks, .int (e : Int), sq_of (sm _ _ hp), NV_get he⟩, fun ys' σ' H' => Same H H' ∧ ys'[0]? = some (.ref t) ∧ StsT H' es s (ks.take (i + 1)) ys' ∧ ∃ u v4 v5, σ' = [some (.ref x), some (.ref t), some (.ref p), some (.ref u), v4, v5] ∧ StT H' u (runS es s (ks.take (i + 1))), fun ys' σ' H' z => ⟨ks.length - (i + 1), by omega, rfl, by omega, z.1, z.2.1, z.2.2.1, z.2.2.2⟩, ?_⟩
    rintro y H3 ⟨T1, y2, rfl, nT, rfl, hy⟩
    obtain rfl : y2 = .int (e : Int) := by
      have := hy _ (sq_of (sm _ _ hp))
      rw [NV_get he] at this
      exact (Option.some.inj this).symm
    have sT := same_upd (o := .tup [V.int (i : Int), V.int (e : Int)]) nT
    refine ⟨T1, _, rfl, sq_of upd_same, rfl, _, _, rfl, _, _, rfl, rfl, ?_⟩
    have sm3 := sm.trans sT
    have hu3 := hu.same sT
    have sts3 := sts.same sT
    generalize upd H2 T1 (.tup [V.int (i : Int), V.int (e : Int)]) = H3 at *
    have hd := wlk_get wl he
    rw [← runS_fst es (ks.take i) s] at hd
    have is2 : IsS n es.length (runS es s (ks.take i)) := runS_is ve is (by
      have := wl
      rw [← List.take_append_drop i ks, wlk_app] at this
      exact this.1)
    obtain ⟨q2, hu4, _⟩ := id hu3
    refine ⟨_, rfl, _, rfl, u, _, _, _, rfl, rfl, sq_of hu4, rfl, _, rfl, x, n, es, _, e, rfl, net.same sm3, hd, hl, ?_⟩
    refine ⟨_, rfl, iteF ?_⟩
    refine ⟨_, rfl, _, rfl, _, rfl, x, u, n, es, _, e, rfl, net.same sm3, hu3, is2, hd, hl, fun H4 r s4 nr hr4 => ?_⟩
    have sn := sts_snoc (sts3.same s4) he hr4
    refine ⟨?_, _, rfl, sm3.trans s4, ?_, sn, r, _, _, rfl, ?_⟩
    · have := sts.1
      rw [this, List.length_take]
      show _ < sizeLine
      exact Nat.lt_of_le_of_lt (show min i ks.length + 1 ≤ 100000 by omega) (by decide)
    · rw [List.getElem?_append_left]
      · exact y0
      · have := sts.1
        omega
    · rw [List.take_add_one, he]
      show StT H4 r (runS es s (ks.take i ++ [e]))
      rw [runS_snoc]
      exact hr4
  · obtain rfl : i = ks.length := by omega
    rw [List.take_length] at sts hu
    refine .inl ⟨⟨NV ks, sq_of (sm _ _ hp), NV_len ks⟩, q H2 ys sm y0 sts⟩
end
end Hw

namespace Hw
open PySem PySem.Spec PyProof.Rows L2 ClX
/-- a def with a star parameter -/
structure DfS (K : PySem.W.Frag) (mg : Str → Option Value) (x : Str) (st : Stmt) : Prop where
  ex : ∃ (f : Addr) (fd : FuncData), Fun K x x st f fd ∧ mg x = some (.ref f)
/-- a generator def that is called by its name -/
structure CalX (P : Program) (w : World) (K : PySem.W.Frag) (mg : Str → Option Value) (base : Heap) (x : Str) (k : Nat) (sp : SpGx) : Prop where
  ex : ∃ f : Addr, mg x = some (.ref f) ∧ PySem.W.keepIn K (.ref f) = true ∧ GFX P w K mg base k f sp
theorem pgx_call {X : Cx} {k : Nat} {x : Str} {sp : SpGx} {e : Expr} {es : List Expr} {t : TA} {p pos : Pos} (c : CalX X.prog X.w X.K X.mg X.base x k sp) (hr : Room k X.A) (hg : Gl X x) (ha : PA X (e :: es) t) (hd : (x == ("__debug__" : Str)) = false := by decide)
    (he : starEach (e :: es) X.env = (false, eval e X.env) :: starEach es X.env := by rfl) (hst : (backTo pos (starEach es X.env)).any (·.1) = true := by rfl) : PGX X k (.Call (.Name x p) (e :: es) [] pos) (fun σ H cont => t σ H fun vs H1 => sp vs H1 cont) := by
  obtain ⟨f, hm, hk, F⟩ := c.ex
  refine ⟨fun pins s σ H cont I h => ?_⟩
  refine wpAny_Call_Name_kw (ld_glob I hg hm ?_ hd)
  refine PySem.W.callWith_S2 (h₀ := X.base) I.ok.mod.kin hk (thn (ha.run pos pins s σ H _ I h) fun us s1 ⟨vs, H1, I1, r, q⟩ => ⟨I1.kIn, ?_⟩) he hst
  refine wpAny_call (codeAny_mono (F X.A X.stack s1 H1 us vs cont hr I1.env0 r q) fun rs s2 hq => ?_)
  obtain ⟨a, g, c, sB, HB, rfl, gm⟩ := hq
  exact ⟨H1, s1, a, g, c, sB, HB, rfl, I1, gm⟩
section
variable {P : Program} {w : World} {K : PySem.W.Frag} {mg : Str → Option Value} {base : Heap}
/-- trace, by its arguments -/
def spTrace (C : Addr) : SpGx := fun vs H Q => ∃ (x t : Addr) (n : Nat) (es : List Ed) (s : Sta) (ks : List Nat), vs = [.ref x, .ref t] ++ NV ks ∧ NetAt5 C H x n es ∧ VE n es ∧ StT H t s ∧ IsS n es.length s ∧ Wlk es s.1 ks ∧ es.length ≤ 16 ∧ ks.length < 100000 ∧
  ∀ H' ys, Same H H' → ys[0]? = some (.ref t) → StsT H' es s ks ys → Q ys H'
theorem calx_trace {C : Addr} (T : Txt mg) (G : TrC P w K mg base C) (D : DfS K mg "trace" sTraceP) : CalX P w K mg base "trace" 5 (spTrace C) := by
  obtain ⟨f, fd, F, g⟩ := D.ex
  obtain ⟨oc, od, kV, doc, pm, an, cdv, ct, osl, rfl, lk, hcd⟩ := F.ex
  refine ⟨f, g, F.kp, fun A outer s H us vs Q hr e0 r hs => gfx_trace T G lk hcd A outer s H us vs Q hr e0 r ?_⟩
  obtain ⟨x, t, n, es, st, ks, rfl, net, ve, ht, is, wl, hl, kl, q⟩ := hs
  refine ⟨[.ref x, .ref t], NV ks, rfl, rfl, by rw [NV_len]; exact Nat.le_trans (Nat.le_of_lt kl) (by decide), fun p np => ?_⟩
  have z := same_upd (o := .tup (NV ks)) np
  exact ⟨x, t, p, n, es, st, ks, rfl, net.same z, ve, ht.same z, is, upd_same, wl, hl, kl, fun H' ys sm => q H' ys (z.trans sm)⟩
/-! ### after -/
def spAft0 (C : Addr) : Sp := fun vs H Q _ => ∃ (x t p : Addr) (n : Nat) (es : List Ed) (s : Sta) (ks : List Nat), vs = [.ref x, .ref t, .ref p] ∧ NetAt5 C H x n es ∧ VE n es ∧ StT H t s ∧ IsS n es.length s ∧ Tp H p ks ∧ Wlk es s.1 ks ∧ es.length ≤ 16 ∧ ks.length < 100000 ∧
  ∀ H' r, Same H H' → StT H' r (runS es s ks) → Q (.ref r) H'
def spAfter (C : Addr) : Sp := fun vs H Q _ => ∃ (x t : Addr) (n : Nat) (es : List Ed) (s : Sta) (ks : List Nat), vs = [.ref x, .ref t] ++ NV ks ∧ NetAt5 C H x n es ∧ VE n es ∧ StT H t s ∧ IsS n es.length s ∧ Wlk es s.1 ks ∧ es.length ≤ 16 ∧ ks.length < 100000 ∧
  ∀ H' r, Same H H' → StT H' r (runS es s ks) → Q (.ref r) H'
abbrev nAf : List Str := ["network", "state", "steps", "last", "reached"]
theorem scAf : FnScope nAf (([("network" : Str), "state"] : List Str) ++ [("steps" : Str)]) (defScope sAfterP) := ⟨rfl, rfl, rfl, by decide +kernel, rfl, by decide +kernel, by decide +kernel⟩
theorem cal_after {C : Addr} (T : Txt mg) (G : CalX P w K mg base "trace" 5 (spTrace C)) (D : DfS K mg "after" sAfterP) : Cal P w K mg base "after" 7 (spAfter C) := by
  obtain ⟨f, fd, F, g⟩ := D.ex
  obtain ⟨oc, od, kV, doc, pm, an, cdv, ct, osl, rfl, lk, hcd⟩ := F.ex
  have nd := scAf.nd
  have R := StX.fn_star (P := P) (w := w) (K := K) (mg := mg) (base := base) (CX := CX0) (k := 6) (ps := ["network", "state"]) (pv := "steps") (sp := spAft0 C) lk hcd scAf StX.cxUp_none
    (StX.bind_star2 (B := fun l => bindArgs (PySem.W.fnOf "after" "after" (defArgs sAfterP) (defBody sAfterP) (defScope sAfterP) .none kV doc pm an cdv ct) ⟨l, []⟩) (p1 := "network") (p2 := "state") (pv := "steps") (fun a b => rfl) (fun a b r rs => by kernel_rfl))
    (fun A outer s0 H vs Q E hr h => ?_)
  · refine ⟨f, g, F.kp, R.imp ?_⟩
    rintro vs H Q E ⟨x, t, n, es, s, ks, rfl, net, ve, ht, is, wl, hl, kl, q⟩
    refine ⟨[.ref x, .ref t], NV ks, rfl, rfl, by rw [NV_len]; exact Nat.le_trans (Nat.le_of_lt kl) (by decide), fun p np => ?_⟩
    have z := same_upd (o := .tup (NV ks)) np
    exact ⟨x, t, p, n, es, s, ks, rfl, net.same z, ve, ht.same z, is, upd_same, wl, hl, kl, fun H' r sm => q H' r (z.trans sm)⟩
  · obtain ⟨x, t, p, n, es, s, ks, rfl, net, ve, ht, is, hp, wl, hl, kl, q⟩ := h
    refine ⟨_, pss_cons (ps_set (i := 3) nd rfl (.inl rfl) pe_non)
      <| pss_cons (ps_last (k := 5) (ir := 4) (il := 3) rfl nd rfl rfl rfl rfl rfl rfl (by decide) (pgx_call G (hr.mono (by decide)) (by rfl) (pa_cons (pv 0) (pa_cons (pv 1) (StX.pa_star (pv 2) pa_nil)))) hr)
      <| pss_one (ps_ret (pv 3)), ?_⟩
    refine ⟨_, rfl, _, rfl, _, rfl, p, NV ks, rfl, .inl (sq_of hp), ?_⟩
    show spTrace C (V.ref x :: V.ref t :: (NV ks ++ [])) H _
    rw [List.append_nil]
    refine ⟨x, t, n, es, s, ks, rfl, net, ve, ht, is, wl, hl, kl, fun H' ys sm y0 sts => ?_⟩
    have yl := sts.1
    refine ⟨fun z => by rw [z] at yl; simp at yl, fun y v hy => ?_⟩
    obtain ⟨r, h1, h2⟩ := sts.2 ks.length (Nat.le_refl _)
    rw [List.take_length] at h2
    rw [List.getLast?_eq_getElem?, yl, Nat.add_sub_cancel, h1] at hy
    obtain rfl := Option.some.inj hy
    exact ⟨_, rfl, q H' r sm h2⟩
end
end Hw

namespace Hw
open PySem PySem.Spec PyProof.Rows L2 ClX
section
variable {P : Program} {w : World} {K : PySem.W.Frag} {mg : Str → Option Value} {base : Heap}
/-! ### doors -/
def spDoors : Sp := fun vs H Q _ => ∃ (a : Addr) (es : List Ed) (u : Nat), vs = [.ref a, .int (u : Int)] ∧ EdT H a es ∧ es.length ≤ 100 ∧ ∀ H' r, Same H H' → H r = none → H' r = some (.lst (NV (drs es u))) → Q (.ref r) H'
abbrev nDo : List Str := ["_law_ties_here", "_law_here", "_law_at", "_law_pair"]
theorem scDoors : FnScope nDo ["_law_ties_here", "_law_here"] (defScope sDoors) := ⟨rfl, rfl, rfl, by decide +kernel, rfl, by decide +kernel, by decide +kernel⟩
theorem cal_doors (T : Txt mg) (D : Df K mg "_law_doors" sDoors ["_law_ties_here", "_law_here"]) : Cal P w K mg base "_law_doors" 1 spDoors := by
  have nd := scDoors.nd
  refine cal_of D scDoors (fun vs H Q E h => ?_) (fun f cdv A outer s0 H vs Q E hr h => ?_)
  · obtain ⟨a, es, u, rfl, _⟩ := h
    rfl
  · obtain ⟨a, es, u, rfl, he, hl, q⟩ := h
    refine ⟨_, pss_one (ps_ret (pe_lc (own := [("_law_at", 2), ("_law_pair", 3)]) (g := gTup K 2 (gCons (gName 2) (gCons (gName 3) gNil))) (by rfl) nd (pi_enumT (by rfl) T.enumerate (pa_cons (pv 0) pa_nil))
          (blkOk_by (own := [("_law_at", 2), ("_law_pair", 3)]) (N := nDo) (sc := defScope sDoors) (by decide +kernel)) (fun _ _ _ _ _ => pg_tup rfl (pgs_cons (pg_name (i := 2) nd rfl (.inl rfl)) (pgs_cons (pg_name (i := 3) nd rfl (.inl rfl)) pgs_nil)))
          (fun _ _ _ _ _ => pts_one (pt_cmpR (r := rIn K false) op_in_seq (pv 1) (pv 3) (by rfl))) (fun _ _ _ _ _ => pv 2))), ?_⟩
    obtain ⟨ks, k1, k2, k3⟩ := id he
    have kl := ed_len k2
    refine ⟨_, rfl, a, _, rfl, sq_of k1, fun D nD => lc_it (walk_enumT (xs := ks.map fun k => V.ref k.1)) (fun i H' => Same H H' ∧ H' D = some (.lst (NV (drsTo es u i)))) ⟨same_upd nD, upd_same⟩ (fun i H' _ ⟨sm, _⟩ => sq_of (sm _ _ k1)) ?_ ?_⟩
    · rintro i x H2 H3 hi ⟨sm, hD⟩ ⟨T1, i', y, rfl, nT, rfl, ei, ey⟩
      obtain rfl : V.int (i : Int) = i' := Option.some.inj ei
      obtain ⟨k, hk, rfl⟩ := refs_get ey
      obtain ⟨e, hei, ek⟩ := ed_get k2 hk
      rw [nv_len, kl] at hi
      have sT := same_upd (o := .tup [V.int (i : Int), V.ref k.1]) nT
      have tk := sT _ _ (sm _ _ (k3 k (List.mem_of_getElem? hk)))
      rw [ek] at tk
      refine ⟨T1, _, rfl, .inl (.inl upd_same), rfl, _, _, rfl, _, _, rfl, rfl, rfl, ?_⟩
      refine ⟨_, rfl, _, rfl, k.1, _, rfl, .inr (sq_of tk), rfl, flat_NV _, _, rfl, ?_⟩
      rw [inV_NV, drsTo_succ, getD_of hei]
      refine ite2 (fun z => ?_) (fun z => ?_)
      · have z' : decide (u ∈ [e.1, e.2]) = true := z
        rw [z']
        refine ⟨_, rfl, _, sT _ _ hD, ?_, fun b o eb => ?_, ?_⟩
        · rw [NV_len]
          exact Nat.lt_of_le_of_lt (drsTo_len _ _ _) (small1000 (by omega))
        · rw [upd_ne (ne_of_none eb nD)]
          exact sT _ _ (sm _ _ eb)
        · rw [if_pos rfl, upd_same, NV_snoc]
      · have z' : ¬ decide (u ∈ [e.1, e.2]) = true := z
        rw [if_neg z', List.append_nil]
        exact ⟨sm.trans sT, sT _ _ hD⟩
    · rintro H2 ⟨sm, hD⟩
      rw [nv_len, kl] at hD
      exact q H2 D sm nD hD

end
end Hw

namespace Hw
open PySem PySem.Spec PyProof.Rows L2 ClX
/-- the ends of passage e, read off the tuple of passages -/
theorem edt_at {H : Hp} {a : Addr} {es : List Ed} {i : Nat} (h : EdT H a es) (hi : i < es.length) : ∃ (ks : List V) (b : Addr), H a = some (.tup ks) ∧ atI ks ((i : Nat) : Int) = some (.ref b) ∧ Tp H b [(es.getD i (0, 0)).1, (es.getD i (0, 0)).2] := by
  obtain ⟨ks, k1, k2, k3⟩ := h
  have kl := ed_len k2
  have hk : i < ks.length := by rw [kl]; exact hi
  obtain ⟨k, hki⟩ : ∃ k, ks[i]? = some k := ⟨ks[i], List.getElem?_eq_getElem hk⟩
  obtain ⟨e, he, ek⟩ := ed_get k2 hki
  have tk := k3 k (List.mem_of_getElem? hki)
  rw [ek] at tk
  rw [getD_of he]
  exact ⟨_, k.1, k1, atI_nat (by rw [List.getElem?_map, hki]; rfl), tk⟩
theorem oth_int {e : Ed} {p : Nat} (h : p ∈ [e.1, e.2]) : ((e.1 : Int) + (e.2 : Int)) - (p : Int) = ((oth e p : Nat) : Int) := by
  unfold oth
  rcases List.mem_cons.mp h with rfl | h
  · rw [if_pos rfl]; omega
  · rw [List.mem_singleton] at h
    subst h
    split
    · rename_i z; omega
    · omega
section
variable {P : Program} {w : World} {K : PySem.W.Frag} {mg : Str → Option Value} {base : Heap}
/-! ### moved -/
def spMoved : Sp := fun vs H Q _ => ∃ (a q1 : Addr) (es : List Ed) (p e : Nat) (xs : List Nat), vs = [.ref a, .int (p : Int), .ref q1, .int (e : Int)] ∧ EdT H a es ∧ Tp H q1 xs ∧ xs.length = es.length + 1 ∧ e ∈ drs es p ∧ es.length ≤ 100 ∧
  ∀ H' r, Same H H' → H r = none → StT H' r (stpS es (p, xs) e) → Q (.ref r) H'
abbrev nMv : List Str := ["_law_ties_here", "_law_here", "_law_things", "_law_at", "_law_row"]
theorem scMv : FnScope ["_law_ties_here", "_law_here", "_law_things", "_law_at", "_law_row"] ["_law_ties_here", "_law_here", "_law_things", "_law_at"] (defScope sMoved) := ⟨rfl, rfl, rfl, by decide +kernel, rfl, by decide +kernel, by decide +kernel⟩
theorem cal_moved (T : Txt mg) (D : Df K mg "_law_moved" sMoved ["_law_ties_here", "_law_here", "_law_things", "_law_at"]) : Cal P w K mg base "_law_moved" 1 spMoved := by
  have nd := scMv.nd
  refine cal_of D scMv (fun vs H Q E h => ?_) (fun f cdv A outer s0 H vs Q E hr h => ?_)
  · obtain ⟨a, q1, es, p, e, xs, rfl, _⟩ := h
    rfl
  · obtain ⟨a, q1, es, p, e, xs, rfl, ed, hq, xl, he, hl, q⟩ := h
    refine ⟨_, pss_cons (ps_set (i := 4) nd rfl (.inl rfl) (pe_callTy call_list_of (by rfl) T.list (by decide +kernel) (pa_cons (pv 2) pa_nil)))
      <| pss_cons (ps_asg (pe_tup (pa_cons (pe_ix (r := rIxL K) ix_list (pv 4) (pe_un un_neg pe_int) (fun _ _ => rfl)) (pa_cons (pe_ix (r := rIxL K) ix_list (pv 4) (pv 3) (fun _ _ => rfl)) pa_nil)))
          (pg_tup rfl (pgs_cons (pg_sub (pv 4) (pv 3) set_list) (pgs_cons (pg_sub (pv 4) (pe_un un_neg pe_int) set_list) pgs_nil))))
      <| pss_one (ps_ret (pe_tup (pa_cons (pe_op op_sub (pe_op op_add (pe_ix (r := rIxT K) ix_tup (pe_ix (r := rIxT K) ix_tup (pv 0) (pv 3) (fun _ _ => rfl)) pe_int (fun _ _ => rfl)) (pe_ix (r := rIxT K) ix_tup (pe_ix (r := rIxT K) ix_tup (pv 0) (pv 3) (fun _ _ => rfl)) pe_int (fun _ _ => rfl))) (pv 1))
          (pa_cons (pe_callTy call_tuple_of (by rfl) T.tuple (by decide +kernel) (pa_cons (pv 4) pa_nil)) pa_nil)))), ?_⟩
    obtain ⟨el, em⟩ := mem_drs.mp he
    have e2 : e < xs.length := by omega
    have l2 : xs.length - 1 < xs.length := by omega
    refine ⟨_, rfl, q1, _, rfl, .inr (sq_of hq), fun l nl => ?_⟩
    have s1 := same_upd (o := .lst (NV xs)) nl
    have hl1 : upd H l (.lst (NV xs)) l = some (.lst (NV xs)) := upd_same
    generalize upd H l (.lst (NV xs)) = H1 at *
    refine ⟨_, rfl, _, rfl, l, _, _, _, rfl, rfl, sl_of hl1, at_last (by rw [NV_len]; exact NV_ap l2), ?_⟩
    refine ⟨_, rfl, _, rfl, l, _, _, _, rfl, rfl, sl_of hl1, atI_nat (NV_ap e2), by show 2 ≤ sizeLine; decide, fun u nu => ?_⟩
    have s2 := same_upd (o := .tup [V.int ((ap xs (xs.length - 1) : Nat) : Int), V.int ((ap xs e : Nat) : Int)]) nu
    have hu2 : upd H1 u (.tup [V.int ((ap xs (xs.length - 1) : Nat) : Int), V.int ((ap xs e : Nat) : Int)]) u = some (.tup [V.int ((ap xs (xs.length - 1) : Nat) : Int), V.int ((ap xs e : Nat) : Int)]) := upd_same
    have hl2 := s2 _ _ hl1
    generalize upd H1 u (.tup [V.int ((ap xs (xs.length - 1) : Nat) : Int), V.int ((ap xs e : Nat) : Int)]) = H2 at *
    refine ⟨u, _, rfl, sq_of hu2, rfl, _, _, rfl, ?_⟩
    refine ⟨_, rfl, _, rfl, l, _, _, e, rfl, rfl, hl2, by rw [NV_len]; exact ix_at e2 rfl, _, _, rfl, ?_⟩
    rw [NV_set]
    refine ⟨_, rfl, 1, rfl, l, _, _, xs.length - 1, rfl, rfl, upd_same, ?_, rfl, ?_⟩
    · rw [NV_len, List.length_set]
      exact ix_last (by omega)
    rw [NV_set]
    have sw : (xs.set e (ap xs (xs.length - 1))).set (xs.length - 1) (ap xs e) = swp xs e := rfl
    rw [sw]
    have s3 : Same H (upd (upd H2 l (.lst (NV (xs.set e (ap xs (xs.length - 1)))))) l (.lst (NV (swp xs e)))) := fun b o eb => by
      have nb : b ≠ l := ne_of_none eb nl
      rw [upd_ne nb, upd_ne nb]
      exact s2 _ _ (s1 _ _ eb)
    have hl3 : upd (upd H2 l (.lst (NV (xs.set e (ap xs (xs.length - 1)))))) l (.lst (NV (swp xs e))) l = some (.lst (NV (swp xs e))) := upd_same
    generalize upd (upd H2 l (.lst (NV (xs.set e (ap xs (xs.length - 1)))))) l (.lst (NV (swp xs e))) = H3 at *
    obtain ⟨ks, b, k1, k2, k3⟩ := edt_at (ed.same s3) el
    refine ⟨_, rfl, _, rfl, a, _, _, _, rfl, rfl, sq_of k1, k2, b, _, _, _, rfl, rfl, sq_of k3, rfl, ?_⟩
    refine ⟨_, rfl, _, rfl, a, _, _, _, rfl, rfl, sq_of k1, k2, b, _, _, _, rfl, rfl, sq_of k3, rfl, _, _, rfl, rfl, ?_⟩
    refine ⟨_, rfl, _, _, rfl, rfl, ?_⟩
    refine ⟨_, rfl, l, _, rfl, .inl ⟨sl_of hl3, fun v nv => ?_⟩⟩
    have s4 := same_upd (o := .tup (NV (swp xs e))) nv
    have hv4 : upd H3 v (.tup (NV (swp xs e))) v = some (.tup (NV (swp xs e))) := upd_same
    generalize upd H3 v (.tup (NV (swp xs e))) = H4 at *
    refine ⟨by show 2 ≤ sizeLine; decide, fun r nr => ?_⟩
    show Q (V.ref r) (upd H4 r (.tup [V.int (((es.getD e (0, 0)).1 : Int) + ((es.getD e (0, 0)).2 : Int) - (p : Int)), .ref v]))
    rw [oth_int em]
    have s5 := same_upd (o := .tup [V.int ((oth (es.getD e (0, 0)) p : Nat) : Int), .ref v]) nr
    exact q _ r ((s3.trans s4).trans s5) ((s3.trans s4).free nr) ⟨v, upd_same, s5 _ _ hv4⟩
/-! ### the law's own after -/
def spLAfter (K : PySem.W.Frag) : Sp := fun vs H Q _ => ∃ (a t l : Addr) (n : Nat) (es : List Ed) (s : Sta) (ks : List Nat), vs = [.ref a, .ref t, .ref l] ∧ EdT H a es ∧ VE n es ∧ StT H t s ∧ IsS n es.length s ∧ SqL K H l (NV ks) ∧ Wlk es s.1 ks ∧ es.length ≤ 100 ∧
  ∀ H' r, Same H H' → H r = none → StT H' r (runS es s ks) → Q (.ref r) H'
abbrev nLa : List Str := ["_law_ties_here", "_law_base", "_law_road_here", "_law_here", "_law_things", "_law_at"]
theorem scLa : FnScope nLa ["_law_ties_here", "_law_base", "_law_road_here"] (defScope sAfter) := ⟨rfl, rfl, rfl, by decide +kernel, rfl, by decide +kernel, by decide +kernel⟩
theorem cal_lafter (T : Txt mg) (GM : Cal P w K mg base "_law_moved" 1 spMoved) (D : Df K mg "_law_after" sAfter ["_law_ties_here", "_law_base", "_law_road_here"]) : Cal P w K mg base "_law_after" 2 (spLAfter K) := by
  have nd := scLa.nd
  refine cal_of D scLa (fun vs H Q E h => ?_) (fun f cdv A outer s0 H vs Q E hr h => ?_)
  · obtain ⟨a, t, l, n, es, s, ks, rfl, _⟩ := h
    rfl
  · obtain ⟨a, t, l, n, es, s, ks, rfl, ed, ve, ⟨q1, ht, hq⟩, is, hl, wl, el, q⟩ := h
    refine ⟨_, pss_cons (ps_asg (pv 1) (pg_tup rfl (pgs_cons (pg_name (i := 3) nd rfl (.inl rfl)) (pgs_cons (pg_name (i := 4) nd rfl (.inl rfl)) pgs_nil))))
      <| pss_cons (ps_for PassesOwn.never rfl (pi_list (pv 2)) (pg_name (i := 5) nd rfl (.inl rfl))
          (pss_one (ps_asg (pe_cl GM hr (by rfl) (pa_cons (pv 0) (pa_cons (pv 3) (pa_cons (pv 4) (pa_cons (pv 5) pa_nil))))) (pg_tup rfl (pgs_cons (pg_name (i := 3) nd rfl (.inl rfl)) (pgs_cons (pg_name (i := 4) nd rfl (.inl rfl)) pgs_nil))))))
      <| pss_one (ps_ret (pe_tup (pa_cons (pv 3) (pa_cons (pv 4) pa_nil)))), ?_⟩
    refine ⟨_, rfl, t, _, rfl, sq_of ht, rfl, _, _, rfl, _, _, rfl, rfl, ?_⟩
    refine ⟨_, rfl, l, rfl, ⟨_, hl⟩, ?_⟩
    refine for_it (walk_list (xs := NV ks)) (fun i σ H' => ∃ u v5, σ = [some (.ref a), some (.ref t), some (.ref l), some (.int ((runS es s (ks.take i)).1 : Int)), some (.ref u), v5] ∧ Same H H' ∧ Tp H' u (runS es s (ks.take i)).2) ⟨q1, _, rfl, fun _ _ z => z, hq⟩ (fun i σ H' _ ⟨_, _, _, sm, _⟩ => sm.seq hl) ?_ ?_
    · rintro i y σ _ H2 hi ⟨u, v5, rfl, sm, hu⟩ ⟨rfl, hy⟩
      obtain ⟨e, he, rfl⟩ := NV_get' hy
      have hd := wlk_get wl he
      rw [← runS_fst es (ks.take i) s] at hd
      have is2 : IsS n es.length (runS es s (ks.take i)) := runS_is ve is (by
        have := wl
        rw [← List.take_append_drop i ks, wlk_app] at this
        exact this.1)
      refine ⟨_, rfl, _, rfl, _, rfl, _, rfl, a, u, es, _, e, _, rfl, ed.same sm, hu, is2.2.2, hd, el, fun H3 r s3 nr ⟨q2, h1, h2⟩ => ?_⟩
      refine ⟨r, _, rfl, sq_of h1, rfl, _, _, rfl, _, _, rfl, rfl, q2, some (.int (e : Int)), ?_, sm.trans s3, ?_⟩
      · rw [List.take_add_one, he, runS_app]
        rfl
      · rw [List.take_add_one, he, runS_app]
        exact h2
    · rintro σ H2 ⟨u, v5, rfl, sm, hu⟩
      rw [NV_len, List.take_length] at *
      refine ⟨_, rfl, _, rfl, by show 2 ≤ sizeLine; decide, fun r nr => ?_⟩
      have z := same_upd (o := .tup [V.int ((runS es s ks).1 : Int), .ref u]) nr
      exact q _ r (sm.trans z) (sm.free nr) ⟨u, upd_same, z _ _ hu⟩
end
end Hw

/-! repr of data: it asks that no repr is under way, which the level alone does not tell. -/
namespace Hw
open PySem PySem.Spec PyProof.Rows L2
/-- no repr is under way below -/
def NoG (A : Around) : Prop := A.guards = some []
theorem NoG.deeper {A : Around} (g : NoG A) (env : Env) : NoG (A.deeper env) := g
/-- a promise that is kept where no repr is under way -/
def FnG (P : Program) (w : World) (K : PySem.W.Frag) (mg : Str → Option Value) (base : Heap) (k : Nat) (f : Addr) (fd : FuncData) (ps : List Str) (sp : Sp) : Prop :=
  ∀ (A : Around), NoG A → Room k A → ∀ (outer : List Env) (st : Shared) (H : Hp) (ar : Args) (us : List Value) (vs : List V) (Q : VK) (E : XK),
    Env0 P w K mg base A outer st H → BindsTo st fd ar (ps.zip us) → Vals vs us → sp vs H Q E → codeAny (model P w) A (.call (.ref f) ar) (CR CX0 outer P w H st Q E) st
section
variable {P : Program} {w : World} {K : PySem.W.Frag} {mg : Str → Option Value} {base : Heap}
theorem okG {x qual : Str} {stm : Stmt} {f : Addr} {fd : FuncData} {N ps : List Str} {k : Nat} {sp : Sp} (F : Fun K x qual stm f fd) (S : FnScope N ps (defScope stm)) (ln : ∀ vs H Q E, sp vs H Q E → vs.length = ps.length)
    (body : ∀ (cdv : Value) (A : Around) (outer : List Env) (st : Shared) (H : Hp) (vs : List V) (Q : VK) (E : XK), NoG A → Room k (A.deeper (envOfC qual (defScope stm) st.heap.objs.size f cdv)) → sp vs H Q E →
      ∃ t, PSs (cxOf CX0 P w K mg base N qual (defScope stm) f cdv A outer st H E).nox (defBody stm) t ∧ t { nx := fun _ H' => Q .non H', rt := Q } (start N vs) H) :
    FnG P w K mg base (k + 1) f fd ps sp := by
  obtain ⟨oc, od, kV, doc, pm, an, cdv, ct, osl, rfl, lk, cr⟩ := F.ex
  intro A g rm outer st H ar us vs Q E e0 bn rl hs
  have eq := ln _ _ _ _ hs
  have keep := e0.mod.kin.keeps fun b o e => (e0.bs b o e).1
  have nolim := e0.mod.nolimit.keeps fun b o e => (e0.bs b o e).1
  refine codeAny_call_function rm.depth (keep _ _ lk) rfl S.co S.gen rfl (PySem.W.codeRec_of keep cr) (bn _ _ _ _ ?_)
  refine wpAny_newFunctionEnv_cells S.kind ?_ fun env ee s1 ic => ?_
  · rintro ⟨y, u⟩ hy
    have hp := S.par y (List.of_mem_zip hy).1
    exact hp.elim Or.inl fun q => Or.inr ⟨q, PySem.W.cellsFrom_some _ _ _ (Or.inl q)⟩
  · subst ee
    obtain ⟨t, ht, q⟩ := body cdv A outer st H vs Q E g (rm.deeper _) hs
    have I0 := inv_start (CX := CX0) (E := E) S rm.hd e0 eq rl ic
    refine ⟨nolim.keeps ic.toInCall.keep, codeAny_func (wpAny_mono (ht.nox.run [] s1 (start N vs) H _ I0 q) (fun fl s2 r => ?_) fun _ _ z => z)⟩
    cases fl with
    | ret u => exact let ⟨v, _, H', J, rv, q2⟩ := r; ⟨v, H', J.os, J.bare, J.base, J.hok, rv, q2⟩
    | next => exact let ⟨_, H', J, q2⟩ := r; ⟨V.non, H', J.os, J.bare, J.base, J.hok, rfl, q2⟩
    | brk => exact let ⟨_, _, _, z⟩ := r; z.elim
    | cont => exact let ⟨_, _, _, z⟩ := r; z.elim
/-- a def that can be called by its name where no repr is under way -/
structure CalG (P : Program) (w : World) (K : PySem.W.Frag) (mg : Str → Option Value) (base : Heap) (x : Str) (k : Nat) (ps : List Str) (sp : Sp) : Prop where
  ex : ∃ (f : Addr) (fd : FuncData), mg x = some (.ref f) ∧ PySem.W.keepIn K (.ref f) = true ∧ Binds K fd ps [] ∧ (∀ vs H Q E, sp vs H Q E → vs.length = ps.length) ∧ FnG P w K mg base k f fd ps sp
theorem calG_of {x : Str} {stm : Stmt} {N ps : List Str} {k : Nat} {sp : Sp} (D : Df K mg x stm ps) (S : FnScope N ps (defScope stm)) (ln : ∀ vs H Q E, sp vs H Q E → vs.length = ps.length)
    (body : ∀ (f : Addr) (cdv : Value) (A : Around) (outer : List Env) (st : Shared) (H : Hp) (vs : List V) (Q : VK) (E : XK), NoG A → Room k (A.deeper (envOfC x (defScope stm) st.heap.objs.size f cdv)) → sp vs H Q E →
      ∃ t, PSs (cxOf CX0 P w K mg base N x (defScope stm) f cdv A outer st H E).nox (defBody stm) t ∧ t { nx := fun _ H' => Q .non H', rt := Q } (start N vs) H) : CalG P w K mg base x (k + 1) ps sp := by
  obtain ⟨f, fd, F, b, g⟩ := D.ex
  exact ⟨f, fd, g, F.kp, b, ln, okG F S ln fun cdv A outer st H vs Q E => body f cdv A outer st H vs Q E⟩
end
section
variable {X : Cx}
theorem pe_clG {k : Nat} {sp : Sp} {ps : List Str} {x : Str} {p pos : Pos} {e : Expr} {es : List Expr} {t : TA} (c : CalG X.prog X.w X.K X.mg X.base x k ps sp) (g : NoG X.A) (hr : Room k X.A) (hg : Gl X x) (ha : PA X (e :: es) t) (hdb : (x == ("__debug__" : Str)) = false := by decide)
    (he : starEach (e :: es) X.env = (false, eval e X.env) :: starEach es X.env := by rfl) (hpl : (backTo pos (starEach es X.env)).any (·.1) = false := by rfl) :
    PE X (.Call (.Name x p) (e :: es) [] pos) (tCal sp t) := by
  obtain ⟨f, fd, hm, hk, b, ln, F⟩ := c.ex
  refine ⟨fun pins st σ H Q I h => wpAny_Call_Name_kw (ld_glob I hg hm ?_ hdb)⟩
  refine PySem.W.callWith_K (h₀ := X.base) I.ok.mod.kin hk (thn (ha.run pos pins st σ H _ I h) fun us s1 ⟨vs, H1, I1, r, q⟩ => ⟨I1.kIn, wpAny_call ?_⟩) he hpl
  have bd : BindsTo s1 fd ⟨us, []⟩ (ps.zip us) := by
    have z := b s1 us I1.kIn (by rw [← ln _ _ _ _ q, r.length, List.append_nil])
    rw [List.append_nil] at z
    exact z
  refine codeAny_mono (F X.A g hr X.stack s1 H1 ⟨us, []⟩ us vs Q E0 I1.env0 bd r q) fun rs s2 hq => ?_
  cases rs with
  | error er => exact (hq : False).elim
  | ok fl =>
    cases fl with
    | ret u => exact I1.after hq
    | next => exact (hq : False).elim
    | brk => exact (hq : False).elim
    | cont => exact (hq : False).elim
/-! ### repr of tuples of numbers, and of tuples of them -/
def dT (p : List Nat) : PyData := .tuple ((NI p).map PyData.int)
def dCT (cs : List (List Nat)) : PyData := .tuple (cs.map dT)
/-- few and small numbers -/
def Sm (p : List Nat) : Prop := p.length ≤ 100 ∧ ∀ x ∈ p, x < 1000
theorem log_small {x : Nat} (h : x < 1000) : (x : Int).natAbs.log2 < 10 := by
  rw [Int.natAbs_natCast]
  by_cases z : x = 0
  · subst z; decide
  · exact (Nat.log2_lt z).mpr (by omega)
theorem show_ints : ∀ p : List Nat, (∀ x ∈ p, x < 1000) → PyData.showableAll ((NI p).map PyData.int) = true
  | [], _ => rfl
  | x :: p, h => by
    have := log_small (h x List.mem_cons_self)
    show (decide ((x : Int).natAbs.log2 < 1920) && PyData.showableAll ((NI p).map PyData.int)) = true
    rw [decide_eq_true (by omega), show_ints p fun y hy => h y (List.mem_cons_of_mem _ hy)]
    rfl
theorem short_ints : ∀ p : List Nat, (∀ x ∈ p, x < 1000) → PyData.intsShortAll 13 ((NI p).map PyData.int) = true
  | [], _ => rfl
  | x :: p, h => by
    have hx := h x List.mem_cons_self
    have l := toString_length_le (v := (x : Int)) (by omega) (k := 3) (by decide) (by omega)
    show (decide ((PyData.shown (.int (x : Int))).length ≤ 13) && PyData.intsShortAll 13 ((NI p).map PyData.int)) = true
    have l2 : (PyData.shown (.int (x : Int))).length ≤ 13 := by
      unfold PyData.shown
      exact Nat.le_trans l (by decide)
    rw [decide_eq_true l2, short_ints p fun y hy => h y (List.mem_cons_of_mem _ hy)]
    rfl
theorem weight_ints : ∀ p : List Nat, (∀ x ∈ p, x < 1000) → PyData.weightAll ((NI p).map PyData.int) ≤ 12 * p.length
  | [], _ => Nat.zero_le _
  | x :: p, h => by
    have hx := log_small (h x List.mem_cons_self)
    have ih := weight_ints p fun y hy => h y (List.mem_cons_of_mem _ hy)
    have w : PyData.weight (.int (x : Int)) ≤ 11 := by
      unfold PyData.weight
      split <;> omega
    show PyData.weight (.int (x : Int)) + 1 + PyData.weightAll ((NI p).map PyData.int) ≤ 12 * (p.length + 1)
    omega
theorem show_dT {p : List Nat} (h : Sm p) : (dT p).showable = true := show_ints p h.2
theorem weight_dT {p : List Nat} (h : Sm p) : (dT p).weight ≤ 1200 := by
  have := weight_ints p h.2
  have := h.1
  show PyData.weightAll ((NI p).map PyData.int) ≤ 1200
  omega
theorem depth_dT (p : List Nat) : (dT p).depth = 1 := by
  show PyData.depthAll ((NI p).map PyData.int) + 1 = 1
  rw [depth_ints]
theorem lay_dT (p : List Nat) : (dT p).canLay0 = true := lay_ints _
theorem short_dT {p : List Nat} (h : Sm p) : (dT p).intsShort 13 = true := short_ints p h.2
theorem line_dT {p : List Nat} (h : Sm p) : (dT p).shown.length ≤ sizeLine := by
  have w := weight_dT h
  have d := depth_dT p
  have l : PyData.layable0 (dT p) = true := by
    show ((dT p).canLay0 && decide ((dT p).depth ≤ 64) && decide ((dT p).weight ≤ 2 ^ 20)) = true
    rw [lay_dT, d, decide_eq_true (show (dT p).weight ≤ 2 ^ 20 by omega)]
    rfl
  exact Nat.le_trans (shown_le13 l (short_dT h)) (by decide)
def SmC (cs : List (List Nat)) : Prop := cs.length ≤ 100 ∧ ∀ c ∈ cs, Sm c
theorem all_dCT : ∀ cs : List (List Nat), (∀ c ∈ cs, Sm c) → PyData.showableAll (cs.map dT) = true ∧ PyData.canLayAll0 (cs.map dT) = true ∧ PyData.intsShortAll 13 (cs.map dT) = true ∧ PyData.weightAll (cs.map dT) ≤ 1201 * cs.length ∧ PyData.depthAll (cs.map dT) ≤ 1
  | [], _ => ⟨rfl, rfl, rfl, Nat.zero_le _, Nat.zero_le _⟩
  | c :: cs, h => by
    have hc := h c List.mem_cons_self
    obtain ⟨a1, a2, a3, a4, a5⟩ := all_dCT cs fun d hd => h d (List.mem_cons_of_mem _ hd)
    refine ⟨?_, ?_, ?_, ?_, ?_⟩
    · show ((dT c).showable && PyData.showableAll (cs.map dT)) = true
      rw [show_dT hc, a1]; rfl
    · show ((dT c).canLay0 && PyData.canLayAll0 (cs.map dT)) = true
      rw [lay_dT, a2]; rfl
    · show ((dT c).intsShort 13 && PyData.intsShortAll 13 (cs.map dT)) = true
      rw [short_dT hc, a3]; rfl
    · show (dT c).weight + 1 + PyData.weightAll (cs.map dT) ≤ 1201 * (cs.length + 1)
      have := weight_dT hc
      omega
    · show max (dT c).depth (PyData.depthAll (cs.map dT)) ≤ 1
      rw [depth_dT]
      exact Nat.max_le.mpr ⟨Nat.le_refl _, a5⟩
theorem line_dCT {cs : List (List Nat)} (h : SmC cs) : (dCT cs).shown.length ≤ sizeLine := by
  obtain ⟨a1, a2, a3, a4, a5⟩ := all_dCT cs h.2
  have h1 := h.1
  have l : PyData.layable0 (dCT cs) = true := by
    show ((dCT cs).canLay0 && decide ((dCT cs).depth ≤ 64) && decide ((dCT cs).weight ≤ 2 ^ 20)) = true
    have d : (dCT cs).depth ≤ 64 := by
      show PyData.depthAll (cs.map dT) + 1 ≤ 64
      omega
    have w : (dCT cs).weight ≤ 2 ^ 20 := by
      show PyData.weightAll (cs.map dT) ≤ 2 ^ 20
      omega
    rw [decide_eq_true d, decide_eq_true w]
    show (PyData.canLayAll0 (cs.map dT) && true && true) = true
    rw [a2]; rfl
  exact Nat.le_trans (shown_le13 l a3) (by decide)
theorem hd_dT (p : List Nat) : (dT p).hasDict = false := PyData.hasDict_of_canLay _ (lay_dT p)
theorem reads_dT {H : Hp} {pins : List (Addr × Obj)} {σ : L2.St} {st : Shared} (I : L2.Inv X pins σ H st) {a : Addr} {p : List Nat} (h : Tp H a p) : Reads st.heap (.ref a) (dT p) [] := by
  obtain ⟨its, rv, ⟨o, ho, hc, n, hd⟩, _⟩ := I.tuple (sq_of (K := X.K) h)
  rw [NV_NI] at rv
  exact Reads.tuple ho hc hd (by simpa using reads_ints (h := st.heap) rv)
def rReprT : List V → Hp → VK → Prop := fun vs H Q => ∃ (a : Addr) (p : List Nat), vs = [.ref a] ∧ Tp H a p ∧ Sm p ∧ Q (.str (dT p).shown) H
theorem cr_reprT (g : NoG X.A) (hu : X.A.units + 64 < cLine) : CallR X (.builtin "repr") rReprT := by
  rintro pins st σ H vs us Q I r ⟨a, p, rfl, h, sm, q⟩
  rw [Vals.ref1 r]
  have rd := reads_dT I h
  refine repr_of_reads' rd (show_dT sm) (fun z => by rw [hd_dT] at z; cases z) g (by rw [depth_dT]; omega) (fun _ _ e => e) (fun h' u tk kp => ?_) (line_dT sm)
  exact ⟨.str _, H, I.kept kp, ⟨_, rfl⟩, q⟩
end
end Hw

namespace Hw
open PySem PySem.Spec PyProof.Rows L2 ClX
theorem EdT.kp {m lg lc a : Addr} {H H' : Hp} {s : Nat} {es : List Ed} (h : EdT H a es) (k : Kp m lg H H') (M : MOk H m lg lc s) : EdT H' a es := by
  obtain ⟨k0, k1, k2, k3⟩ := h
  exact ⟨k0, k.tup M k1, k2, fun y hy => k.tup M (k3 y hy)⟩
/-- every place of a connected network with passages has a door -/
theorem door_ex {n : Nat} {es : List Ed} (c : CN n es) (ne : es ≠ []) {p : Nat} (hp : p < n) : drs es p ≠ [] := by
  have some_ : ∀ q, adj es p q → drs es p ≠ [] := fun q a z => by
    obtain ⟨i, hi, _⟩ := adj_oth a
    rw [z] at hi
    cases hi
  by_cases hz : ∃ q, adj es p q
  · obtain ⟨q, a⟩ := hz
    exact some_ q a
  · exfalso
    have iso : ∀ {u v : Nat}, Rch es u v → (u = p ↔ v = p) := fun {u v} r => by
      induction r with
      | refl => exact Iff.rfl
      | step _ a ih =>
        refine ih.trans ⟨fun z => ?_, fun z => ?_⟩
        · subst z; exact absurd ⟨_, a⟩ hz
        · subst z; exact absurd ⟨_, adj_symm a⟩ hz
    have all : ∀ v, v < n → v = p := fun v hv => (iso (c.2.2 v hv)).mp ((iso (c.2.2 p hp)).mpr rfl)
    obtain ⟨e, he⟩ := List.exists_mem_of_ne_nil es ne
    obtain ⟨h1, h2⟩ := c.2.1 e he
    have e1 := all e.1 (by omega)
    exact hz ⟨e.2, .inl (by rw [← e1]; exact he)⟩
section
variable {P : Program} {w : World} {K : PySem.W.Frag} {mg : Str → Option Value} {base : Heap}
/-! ### road -/
def spRoad : Sp := fun vs H Q _ => ∃ (m lg lc a : Addr) (s n p k : Nat) (es : List Ed), vs = [.ref m, .ref a, .int (p : Int), .int (k : Int)] ∧ MOk H m lg lc s ∧ s + k ≤ 100000 ∧ EdT H a es ∧ CN n es ∧ p < n ∧ es.length ≤ 16 ∧ k ≤ 900 ∧
  ∀ H' r ks s', H r = none → r ≠ lg → Kp m lg H H' → H' r = some (.lst (NV ks)) → Wlk es p ks → (ks.length = k ∨ (es = [] ∧ ks = [])) → s' ≤ s + k → MOk H' m lg lc s' → Q (.ref r) H'
abbrev nRo : List Str := ["_law_m", "_law_ties_here", "_law_here", "_law_many", "_law_found", "_law_n", "_law_some", "_law_at"]
theorem scRo : FnScope nRo ["_law_m", "_law_ties_here", "_law_here", "_law_many"] (defScope sRoad) := ⟨rfl, rfl, rfl, by decide +kernel, rfl, by decide +kernel, by decide +kernel⟩
theorem dp_ed {H : Hp} {a : Addr} {es : List Ed} (h : EdT H a es) : ∃ d, Dp K H (.ref a) d ∧ SeqAt.shaped d = true ∧ PyData.eqv d (.tuple []) = decide (es = []) := by
  obtain ⟨ks, k1, k2, k3⟩ := h
  have kl := ed_len k2
  refine ⟨dCT (ks.map (·.2)), .tup (sq_of k1) (by have z := dpa_cs (K := K) ks k3; exact z), ?_, ?_⟩
  · unfold SeqAt.shaped
    have e : (dCT (ks.map (·.2))).depth ≤ 64 := by
      show PyData.depthAll ((ks.map (·.2)).map fun c => PyData.tuple ((NI c).map PyData.int)) + 1 ≤ 64
      have := depth_cs (ks.map (·.2))
      omega
    show (PyData.canLayAll0 ((ks.map (·.2)).map fun c => PyData.tuple ((NI c).map PyData.int)) && _) = true
    rw [lay_cs, decide_eq_true e]
    rfl
  · cases ks with
    | nil =>
      have : es = [] := List.eq_nil_of_length_eq_zero (by simpa using kl.symm)
      subst this
      rfl
    | cons k ks =>
      have : ¬ es = [] := fun z => by rw [z] at kl; simp at kl
      rw [decide_eq_false this]
      rfl
theorem wlk_snoc {es : List Ed} {p : Nat} {ks : List Nat} {e : Nat} (h : Wlk es p ks) (he : e ∈ drs es (plcS es p ks)) : Wlk es p (ks ++ [e]) := wlk_app.mpr ⟨h, he, trivial⟩
theorem plc_snoc (es : List Ed) (p : Nat) (ks : List Nat) (e : Nat) : plcS es p (ks ++ [e]) = oth (es.getD e (0, 0)) (plcS es p ks) := by unfold plcS; rw [List.foldl_append]; rfl
theorem plc_lt {n : Nat} {es : List Ed} (h : VE n es) : ∀ {ks : List Nat} {p : Nat}, p < n → Wlk es p ks → plcS es p ks < n
  | [], _, hp, _ => hp
  | _ :: ks, _, hp, w => plc_lt h (ks := ks) (oth_lt h w.1) w.2
theorem cal_road (T : Txt mg) (GDo : Cal P w K mg base "_law_doors" 1 spDoors) (GD : Cal P w K mg base "_law_draw" 2 spDraw) (D : Df K mg "_law_road" sRoad ["_law_m", "_law_ties_here", "_law_here", "_law_many"]) : Cal P w K mg base "_law_road" 3 spRoad := by
  have nd := scRo.nd
  refine cal_of D scRo (fun vs H Q E h => ?_) (fun f cdv A outer s0 H vs Q E hr h => ?_)
  · obtain ⟨m, lg, lc, a, s, n, p, k, es, rfl, _⟩ := h
    rfl
  · obtain ⟨m, lg, lc, a, s, n, p, k, es, rfl, M, hs, ed, cn, hp, hl, hk, q⟩ := h
    have hr1 := hr.mono (show 1 ≤ 2 by decide)
    have hu := hr.units
    refine ⟨_, pss_cons (ps_set (i := 4) nd rfl (.inl rfl) (pe_lst pa_nil))
      <| pss_cons (ps_for PassesOwn.never rfl (pi_range1 (by rfl) T.range (pa_cons (pe_ifExp (pt_cmpR (op_neD hu) (pv 1) (pe_tup pa_nil) (nomark _)) (pv 3) pe_int) pa_nil)) (pg_name (i := 5) nd rfl (.inl rfl))
          (pss_cons (ps_set (i := 6) nd rfl (.inl rfl) (pe_cl GDo hr1 (by rfl) (pa_cons (pv 1) (pa_cons (pv 2) pa_nil))))
          <| pss_cons (ps_set (i := 7) nd rfl (.inl rfl) (pe_ix (r := rIxL K) ix_list (pv 6) (pe_cl GD hr (by rfl) (pa_cons (pv 0) (pa_cons (pe_callB cr_len (by rfl) T.len PySem.boot_len (pa_cons (pv 6) pa_nil)) pa_nil))) (fun _ _ => rfl)))
          <| pss_cons (ps_expr (pe_bm PySem.F.plainAttrs_list PySem.F.slot_list_append PySem.F.type_list_append mt_append (pv 4) (pa_cons (pv 7) pa_nil)))
          <| pss_one (ps_set (i := 2) nd rfl (.inl rfl) (pe_op op_sub (pe_op op_add (pe_ix (r := rIxT K) ix_tup (pe_ix (r := rIxT K) ix_tup (pv 1) (pv 7) (fun _ _ => rfl)) pe_int (fun _ _ => rfl)) (pe_ix (r := rIxT K) ix_tup (pe_ix (r := rIxT K) ix_tup (pv 1) (pv 7) (fun _ _ => rfl)) pe_int (fun _ _ => rfl))) (pv 2)))))
      <| pss_one (ps_ret (pv 4)), ?_⟩
    refine ⟨Nat.zero_le _, fun l nl => ?_⟩
    have s1 := same_upd (o := .lst []) nl
    have hl1 : upd H l (.lst []) l = some (.lst (NV [])) := upd_same
    have M1 := M.same s1
    have nlg := (M.new nl).1
    generalize upd H l (.lst []) = H1 at *
    obtain ⟨dd, d1, d2, d3⟩ := dp_ed (K := K) (ed.same s1)
    refine ⟨_, rfl, Nat.zero_le _, fun t0 nt0 => ?_⟩
    have s2 := same_upd (o := .tup []) nt0
    have ht0 : upd H1 t0 (.tup []) t0 = some (.tup (NV [])) := upd_same
    obtain ⟨dd2, e1, e2, e3⟩ := dp_ed (K := K) ((ed.same s1).same s2)
    have M2 := M1.same s2
    have hl2 := s2 _ _ hl1
    have s12 := s1.trans s2
    generalize upd H1 t0 (.tup []) = H2 at *
    refine ⟨dd2, .tuple ((NI []).map PyData.int), e1, dp_tp ht0, e2, shaped_ti _, ?_⟩
    have e3' : PyData.eqv dd2 (.tuple ((NI []).map PyData.int)) = decide (es = []) := e3
    rw [e3']
    by_cases hes : es = []
    · -- no passages
      rw [decide_eq_true hes]
      refine ⟨_, rfl, iteF ⟨0, rfl, by decide, by decide, ?_⟩⟩
      refine for_it (walk_rg0 (n := 0)) (fun i σ H' => H' = H2 ∧ σ[4]? = some (some (.ref l))) ⟨rfl, rfl⟩ (fun _ _ _ _ _ => trivial) (fun i x σ H' _ hi => absurd hi (Nat.not_lt_zero _)) ?_
      rintro σ H' ⟨rfl, h4⟩
      refine ⟨_, h4, q _ l [] s nl nlg (Kp.same s12) hl2 trivial (.inr ⟨hes, rfl⟩) (by omega) M2⟩
    · rw [decide_eq_false hes]
      refine ⟨_, rfl, iteT ⟨_, rfl, k, rfl, by omega, by omega, ?_⟩⟩
      rw [Int.toNat_natCast]
      refine for_it walk_rg0 (fun i σ H' => ∃ v5 v6 v7 ks s', σ = [some (.ref m), some (.ref a), some (.int (plcS es p ks : Int)), some (.int (k : Int)), some (.ref l), v5, v6, v7] ∧ Kp m lg H H' ∧ H' l = some (.lst (NV ks)) ∧ EdT H' a es ∧ Wlk es p ks ∧ ks.length = i ∧ s' ≤ s + i ∧ MOk H' m lg lc s')
        ⟨none, none, none, [], s, rfl, Kp.same s12, hl2, (ed.same s1).same s2 |> fun z => by first | exact z | exact ed.same s12, trivial, rfl, by omega, M2⟩ (fun _ _ _ _ _ => trivial) ?_ ?_
      · rintro i x σ _ H3 hi ⟨v5, v6, v7, ks, s', rfl, kp, hL, ed3, wl, kl, hs', M3⟩ ⟨rfl, rfl⟩
        have pl := plc_lt cn.2.1 hp wl
        have dne := door_ex cn hes pl
        refine ⟨_, rfl, _, rfl, a, es, _, rfl, ed3, by omega, fun H4 r s4 nr hr4 => ?_⟩
        have M4 := M3.same s4
        have hL4 := s4 _ _ hL
        have ed4 := ed3.same s4
        have nrg := (M3.new nr).1
        have dl := drs_len es (plcS es p ks)
        have dpos : 0 < (drs es (plcS es p ks)).length := List.length_pos_iff.mpr dne
        refine ⟨_, rfl, _, rfl, _, rfl, r, _, rfl, .inl (sl_of hr4), m, lg, lc, s', (drs es (plcS es p ks)).length, by rw [NV_len], M4, by omega, by omega, by omega, fun H5 d hd kp5 M5 => ?_⟩
        have hr5 := kp5.lst M4 nrg hr4
        have hL5 := kp5.lst M4 nlg hL4
        have ed5 := ed4.kp kp5 M4
        obtain ⟨e, he⟩ : ∃ e, (drs es (plcS es p ks))[d]? = some e := ⟨_, List.getElem?_eq_getElem hd⟩
        have hem : e ∈ drs es (plcS es p ks) := List.mem_of_getElem? he
        obtain ⟨el, em⟩ := mem_drs.mp hem
        refine ⟨r, _, _, _, rfl, rfl, sl_of hr5, atI_nat (NV_get he), ?_⟩
        refine ⟨_, rfl, .inl ⟨rfl, _, sl_of hL5⟩, _, rfl, l, _, _, rfl, rfl, hL5, by rw [NV_len]; exact small1000 (by omega), ?_⟩
        rw [← NV_snoc]
        have hL6 : upd H5 l (.lst (NV (ks ++ [e]))) l = some (.lst (NV (ks ++ [e]))) := upd_same
        have M6 : MOk (upd H5 l (.lst (NV (ks ++ [e])))) m lg lc (s' + 1) := M5.upd (M.new nl)
        have ed6 : EdT (upd H5 l (.lst (NV (ks ++ [e])))) a es := by
          obtain ⟨k0, k1, k2, k3⟩ := ed5
          exact ⟨k0, by rw [upd_ne (ne_of k1 hL5 (by intro z; cases z))]; exact k1, k2, fun y hy => tp_upd (k3 y hy) hL5⟩
        have kp6 : Kp m lg H (upd H5 l (.lst (NV (ks ++ [e])))) := fun b o h1 h2 eb => by
          rw [upd_ne (ne_of_none eb nl)]
          exact kp5 b o h1 h2 (s4 _ _ (kp b o h1 h2 eb))
        generalize upd H5 l (.lst (NV (ks ++ [e]))) = H6 at *
        obtain ⟨k0, b, k1, k2, k3⟩ := edt_at ed6 el
        refine ⟨_, rfl, _, rfl, a, _, _, _, rfl, rfl, sq_of k1, k2, b, _, _, _, rfl, rfl, sq_of k3, rfl, ?_⟩
        refine ⟨_, rfl, _, rfl, a, _, _, _, rfl, rfl, sq_of k1, k2, b, _, _, _, rfl, rfl, sq_of k3, rfl, _, _, rfl, rfl, ?_⟩
        refine ⟨_, rfl, _, _, rfl, rfl, some (.int (i : Int)), some (.ref r), some (.int (e : Int)), ks ++ [e], s' + 1, ?_, kp6, hL6, ed6, wlk_snoc wl hem, by rw [List.length_append, kl]; rfl, by omega, M6⟩
        rw [plc_snoc, ← oth_int em]
        rfl
      · rintro σ H3 ⟨v5, v6, v7, ks, s', rfl, kp, hL, ed3, wl, kl, hs', M3⟩
        exact ⟨_, rfl, q H3 l ks s' nl nlg kp hL wl (.inl kl) hs' M3⟩
end
end Hw

/-! t[::-1] of a tuple. -/
namespace Hw
open PySem PySem.Spec PyProof.Rows L2 HT
theorem back_lo (n : Nat) : Builtin.Slice.sliceAdjust none none (-1) (n : Int) = ((n : Int) - 1, (-1 : Int)) := by
  unfold Builtin.Slice.sliceAdjust
  simp
theorem back_many (n : Nat) : Builtin.Slice.slicePlaces ((n : Int) - 1) (-1) (-1) = n := by
  unfold Builtin.Slice.slicePlaces
  simp
  omega
theorem back_n {prog : Program} {w : World} {A : Around} {E : Value → Shared → Prop} {st : Shared} {sl : Addr} {by_ : Value} {n : Nat} {R : Int × Int × Nat → Shared → Prop} (at_ : st.heap.IsSliceOf sl .none .none by_) (one : IsPart by_ (some (-1))) (fin : R ((n : Int) - 1, -1, n) st) :
    wpAny (model prog w) A (Builtin.Slice.sliceApplied (.ref sl) (pure ((n : Nat) : Int))) R E st := by
  obtain ⟨ob, there, _, flds⟩ := at_
  unfold Builtin.Slice.sliceApplied
  unfold Builtin.Slice.sliceFields
  apply wpAny_bind; apply wpAny_bind
  apply wpAny_field there flds (x := .none) rfl
  apply wpAny_bind
  apply wpAny_field there flds (x := .none) rfl
  apply wpAny_bind
  apply wpAny_field there flds (x := by_) rfl
  apply wpAny_pure
  apply wpAny_bind
  apply slicePart_ one
  show wpAny _ _ (if ((-1 : Int) == 0) = true then _ else _) _ _ st
  rw [if_neg (by decide)]
  apply wpAny_bind; apply slicePart_none; apply wpAny_bind; apply slicePart_none; apply wpAny_bind; apply wpAny_pure
  show wpAny _ _ (match Builtin.Slice.sliceAdjust none none (-1) ((n : Nat) : Int) with | (x, y) => pure (x, (-1 : Int), Builtin.Slice.slicePlaces x y (-1))) _ _ st
  rw [back_lo]
  show wpAny _ _ (pure (((n : Int) - 1), (-1 : Int), Builtin.Slice.slicePlaces ((n : Int) - 1) (-1) (-1))) _ _ st
  rw [back_many]
  exact wpAny_pure fin
theorem fmap_some {α β : Type} {f : α → Option β} {g : α → β} : ∀ {l : List α}, (∀ m ∈ l, f m = some (g m)) → l.filterMap f = l.map g
  | [], _ => rfl
  | a :: l, h => by
    rw [List.filterMap_cons, h a List.mem_cons_self, List.map_cons]
    exact congrArg _ (fmap_some fun m hm => h m (List.mem_cons_of_mem _ hm))
theorem pick_back (xs : List Value) : ((List.range xs.length).filterMap fun (m : Nat) => xs.toArray[(((xs.length : Int) - 1) + (m : Int) * (-1)).toNat]?) = xs.reverse := by
  apply List.ext_getElem?
  intro i
  have e : ∀ m, m < xs.length → xs.toArray[(((xs.length : Int) - 1) + (m : Int) * (-1)).toNat]? = some (xs.reverse.getD m .none) := fun m hm => by
    have : (((xs.length : Int) - 1) + (m : Int) * (-1)).toNat = xs.length - 1 - m := by omega
    rw [this, List.getD_eq_getElem?_getD, List.getElem?_reverse hm]
    have h2 : xs.length - 1 - m < xs.length := by omega
    simp [h2]
  have e2 : ((List.range xs.length).filterMap fun (m : Nat) => xs.toArray[(((xs.length : Int) - 1) + (m : Int) * (-1)).toNat]?) = (List.range xs.length).map fun m => xs.reverse.getD m .none := by
    exact fmap_some fun m hm => e m (List.mem_range.mp hm)
  rw [e2, List.getElem?_map]
  by_cases hi : i < xs.length
  · rw [List.getElem?_range hi]
    show some (xs.reverse.getD i .none) = _
    rw [List.getD_eq_getElem?_getD, List.getElem?_eq_getElem (by rw [List.length_reverse]; exact hi)]
    rfl
  · rw [List.getElem?_eq_none (by rw [List.length_range]; omega), List.getElem?_eq_none (by rw [List.length_reverse]; omega)]
    rfl
theorem tup_back {prog : Program} {w : World} {A : Around} {E : Value → Shared → Prop} {st : Shared} {t sl : Addr} {its : List Value} {by_ : Value} {R : Value → Shared → Prop} (tup : IsTup st.heap t its.toArray) (le : its.length ≤ sizeLine) (at_ : st.heap.IsSliceOf sl .none .none by_) (one : IsPart by_ (some (-1)))
    (fin : R (.ref st.heap.objs.size) { st with heap := st.heap.push { cls := .type "tuple", data := .seq its.reverse.toArray } }) : wpAny (model prog w) A (getItem (.ref t) (.ref sl)) R E st := by
  have fits : sizeOk (.seq its.reverse.toArray) := by
    show its.reverse.toArray.size ≤ sizeLine
    rw [List.size_toArray, List.length_reverse]
    exact le
  have isS : st.TypeIs (.ref sl) "slice" := let ⟨ob, e1, e2, _⟩ := at_; ⟨ob, e1, e2⟩
  unfold getItem
  apply wpAny_holding
  apply wpAny_bind
  apply wpAny_sequenceKey tup.typeIs (by decide)
  apply wpAny_bind
  apply wpAny_callSpecial?_slot (name := Str.ofString "__getitem__") tup.typeIs PyProof.Rows.slot_tuple_getitem
  refine wpAny_call_entry PyProof.Rows.slot_tuple_getitem tup.typeIs entry_tuple_getitem ?_ (args_tuple_getitem _ _)
  show wpAny _ _ (Builtin.Tuple.tupleItemsOf (.ref t) >>= _) _ _ st
  apply wpAny_bind
  apply tupleItemsOf_ tup
  apply wpAny_bind
  apply wpAny_typeOf isS
  rw [if_pos (by decide)]
  apply wpAny_bind
  have sz : its.toArray.size = its.length := List.size_toArray ..
  rw [sz]
  apply back_n at_ one
  have no : (((its.length : Int) - 1 == 0) && ((-1 : Int) == 1) && (its.length == its.length)) = false := by simp
  show wpAny _ _ (if (((its.length : Int) - 1 == 0) && ((-1 : Int) == 1) && (its.length == its.length)) = true then _ else _) _ _ st
  rw [no, if_neg (by decide), show ((List.range its.length).filterMap fun (m : Nat) => its.toArray[(((its.length : Int) - 1) + (m : Int) * (-1)).toNat]?).toArray = its.reverse.toArray from congrArg _ (pick_back its)]
  first
    | exact wpAny_bind (m := Builtin.Tuple.tupleExact _) (wpAny_newObj_type (wpAny_pure ⟨_, rfl, wpAny_pure fin⟩) fits)
    | exact wpAny_bind (m := Builtin.Tuple.tupleExact _) (wpAny_newObj_type (wpAny_bind (wpAny_pure (wpAny_pure ⟨_, rfl, wpAny_pure fin⟩))) fits)
    | exact wpAny_bind (wpAny_bind (m := Builtin.Tuple.tupleExact _) (wpAny_newObj_type (wpAny_pure (wpAny_pure ⟨_, rfl, wpAny_pure fin⟩)) fits))
    | exact wpAny_bind (wpAny_bind (m := Builtin.Tuple.tupleExact _) (wpAny_newObj_type (wpAny_pure ⟨_, rfl, wpAny_pure fin⟩) fits))
def tRevT (K : PySem.W.Frag) (te : TE) : TE := fun σ H Q => te σ H fun x H1 => ∃ (a : Addr) (xs : List V), x = .ref a ∧ SqT K H1 a xs ∧ ∀ p, H1 p = none → Q (.ref p) (upd H1 p (.tup xs.reverse))
theorem revT_none {X : Cx} {pins : List (Addr × Obj)} {σ : L2.St} {H : Hp} {st : Shared} {R : Value → Shared → Prop} (I : L2.Inv X pins σ H st) (fin : ∀ u s2, L2.Inv X pins σ H s2 → IsPart u none → R u s2) : wpAny (model X.prog X.w) X.A (evalPart none X.env) R X.xe st :=
  wpAny_mono (po_none.run pins st σ H (fun o G => o = none ∧ G = H) I ⟨rfl, rfl⟩) (fun u s2 ⟨_, _, J, part, e, eH⟩ => by subst e; subst eH; exact fin u s2 J part) fun _ _ z => z
theorem revT_back {X : Cx} {pins : List (Addr × Obj)} {σ : L2.St} {H : Hp} {st : Shared} {R : Value → Shared → Prop} {k : Nat} {p1 p2 : Pos} (I : L2.Inv X pins σ H st) (fin : ∀ u s2, L2.Inv X pins σ H s2 → IsPart u (some (-1)) → R u s2) : wpAny (model X.prog X.w) X.A (evalPart (some (.UnaryOp .USub (.Constant (.int 1) k p1) p2)) X.env) R X.xe st :=
  wpAny_mono ((po_some (pe_un un_neg pe_int)).run pins st σ H (fun o G => o = some (-1) ∧ G = H) I ⟨1, rfl, -1, rfl, rfl, rfl⟩) (fun u s2 ⟨_, _, J, part, e, eH⟩ => by subst e; subst eH; exact fin u s2 J part) fun _ _ z => z
theorem vals_rev {xs : List V} {its : List Value} (r : Vals xs its) : Vals xs.reverse its.reverse := by
  induction r with
  | nil => exact .nil
  | cons h _ ih =>
    rw [List.reverse_cons, List.reverse_cons]
    exact ih.append (.cons h .nil)
/-- t[::-1] -/
theorem pe_revT {X : Cx} {e : Expr} {te : TE} {k : Nat} {p1 p2 p3 pos : Pos} (he : PE X e te) : PE X (.Subscript e (.Slice none none (some (.UnaryOp .USub (.Constant (.int 1) k p1) p2)) p3) pos) (tRevT X.K te) := by
  constructor
  intro pins st σ H Q I want
  refine Subscript_ (thn (he.run pins st σ H _ I want) fun v s1 ⟨x, H1, J1, rx, a, xs, ex, sq, fin⟩ => ?_)
  subst ex
  cases rx
  refine wpAny_Slice (revT_none J1 fun vl s2 J2 pl => revT_none J2 fun vu s3 J3 pu => revT_back J3 fun vs s4 J4 pb => ?_)
  cases pl
  cases pu
  have J5 : L2.Inv X pins σ H1 { s4 with heap := s4.heap.push { cls := .type "slice", data := .fields #[.none, .none, vs] } } := J4.kept (t' := s4.toks) fun _ _ z => Heap.get?_push_of_some _ z
  obtain ⟨its, rel, tup, le⟩ := J5.tuple sq
  have le2 : its.length ≤ sizeLine := by rw [← rel.length]; exact le
  show wpAny (model X.prog X.w) X.A (subscriptTail e _ (.ref a) (.ref s4.heap.objs.size)) (EP X pins σ Q) X.xe _
  refine tail_any (ops := [.ref a, .ref s4.heap.objs.size]) tup.typeIs (PyProof.Rows.slot_tuple_getitem.lookup) ?_ (by with_unfolding_all rfl)
  refine tup_back tup le2 (Heap.IsSliceOf.new _ .none .none vs) pb ?_
  exact ⟨.ref _, _, J5.laid (t' := s4.toks) (o := .tup xs.reverse) (fun _ _ z => Heap.get?_push_of_some _ z) (Nat.le_refl _) ⟨by rw [List.length_reverse]; exact le, _, vals_rev rel, _, Heap.get?_push_size _ rfl, rfl, _, rfl⟩, rfl, fin _ (J5.hok.fresh (Nat.le_refl _))⟩
end Hw

/-! Rows of numbers in which pairs of equal neighbours are removed. No Python here. -/
namespace Hw
section
variable {α : Type} [DecidableEq α]
def pushR (st : List α) (x : α) : List α := if st.getLast? = some x then st.dropLast else st ++ [x]
def redF (ks : List α) : List α := ks.foldl pushR []
/-- no two equal neighbours -/
def NoEq (ks : List α) : Prop := ∀ i x, ks[i]? = some x → ks[i + 1]? ≠ some x
theorem redF_snoc (ks : List α) (x : α) : redF (ks ++ [x]) = pushR (redF ks) x := by unfold redF; rw [List.foldl_append]; rfl
theorem noEq_nil : NoEq ([] : List α) := fun i x h => by simp at h
theorem noEq_push {st : List α} {x : α} (h : NoEq st) : NoEq (pushR st x) := by
  unfold pushR
  split
  · intro i y hy z
    rw [List.getElem?_dropLast] at hy z
    split at hy
    · split at z
      · exact h i y hy z
      · cases z
    · cases hy
  · rename_i hl
    intro i y hy z
    by_cases h1 : i + 1 < st.length
    · rw [List.getElem?_append_left (by omega)] at hy
      rw [List.getElem?_append_left h1] at z
      exact h i y hy z
    · by_cases h2 : i + 1 = st.length
      · rw [List.getElem?_append_left (by omega)] at hy
        rw [List.getElem?_append_right (by omega), h2, Nat.sub_self] at z
        have z' : x = y := by simpa using z
        subst z'
        apply hl
        rw [List.getLast?_eq_getElem?]
        rw [show st.length - 1 = i by omega]
        exact hy
      · rw [List.getElem?_eq_none (by rw [List.length_append, List.length_singleton]; omega)] at z
        cases z
theorem noEq_redF (ks : List α) : NoEq (redF ks) := by
  suffices h : ∀ (ks st : List α), NoEq st → NoEq (ks.foldl pushR st) from h ks [] noEq_nil
  intro ks
  induction ks with
  | nil => intro st h; exact h
  | cons x ks ih => intro st h; exact ih _ (noEq_push h)
/-- the same twice: as it was -/
theorem push_push {st : List α} {x : α} (h : NoEq st) : pushR (pushR st x) x = st := by
  by_cases hl : st.getLast? = some x
  · have e1 : pushR st x = st.dropLast := by unfold pushR; rw [if_pos hl]
    rw [e1]
    have e2 : st.dropLast.getLast? ≠ some x := fun z => by
      rw [List.getLast?_eq_getElem?] at hl z
      rw [List.length_dropLast, List.getElem?_dropLast] at z
      split at z
      · rename_i h1
        refine h (st.length - 1 - 1) x z ?_
        rw [show st.length - 1 - 1 + 1 = st.length - 1 by omega]
        exact hl
      · cases z
    unfold pushR
    rw [if_neg e2]
    have hne : st ≠ [] := fun z => by rw [z] at hl; simp at hl
    have := List.dropLast_concat_getLast hne
    rw [List.getLast?_eq_some_getLast hne] at hl
    rw [Option.some.inj hl] at this
    exact this
  · have e1 : pushR st x = st ++ [x] := by unfold pushR; rw [if_neg hl]
    rw [e1]
    unfold pushR
    rw [if_pos (by simp), List.dropLast_concat]
theorem redF_app (ks ls : List α) : redF (ks ++ ls) = ls.foldl pushR (redF ks) := by unfold redF; rw [List.foldl_append]
/-- a pair taken out -/
theorem redF_pair (a b : List α) (x : α) : redF (a ++ [x, x] ++ b) = redF (a ++ b) := by
  rw [redF_app, redF_app, redF_app]
  show b.foldl pushR (pushR (pushR (redF a) x) x) = _
  rw [push_push (noEq_redF a)]
/-- of a row without such pairs -/
theorem redF_id : ∀ {ks : List α}, NoEq ks → redF ks = ks := by
  intro ks
  suffices h : ∀ n, n ≤ ks.length → NoEq ks → redF (ks.take n) = ks.take n from fun z => by
    have := h ks.length (Nat.le_refl _) z
    rwa [List.take_length] at this
  intro n
  induction n with
  | zero => intro _ _; rfl
  | succ n ih =>
    intro hn z
    obtain ⟨x, hx⟩ : ∃ x, ks[n]? = some x := ⟨ks[n], List.getElem?_eq_getElem (by omega)⟩
    rw [List.take_add_one, hx]
    show redF (ks.take n ++ [x]) = ks.take n ++ [x]
    rw [redF_snoc, ih (by omega) z]
    unfold pushR
    rw [if_neg]
    intro q
    rw [List.getLast?_eq_getElem?, List.length_take] at q
    cases n with
    | zero => simp at q
    | succ n =>
      rw [Nat.min_eq_left (by omega), Nat.add_sub_cancel, List.getElem?_take_of_lt (by omega)] at q
      exact z n x q hx
/-! ### the law's own way -/
/-- the places at which an equal pair begins -/
def prs (ks : List α) : List Nat := (List.range (ks.length - 1)).filter fun i => decide (ks[i]? = ks[i + 1]?)
def cutB (ks : List α) : List α := match (prs ks).getLast? with
  | some i => ks.take i ++ ks.drop (i + 2)
  | none => ks
def bareN : Nat → List α → List α
  | 0, ks => ks
  | n + 1, ks => bareN n (cutB ks)
theorem mem_prs {ks : List α} {i : Nat} : i ∈ prs ks ↔ i + 1 < ks.length ∧ ks[i]? = ks[i + 1]? := by
  unfold prs
  rw [List.mem_filter, List.mem_range, decide_eq_true_eq]
  constructor
  · rintro ⟨a, b⟩; exact ⟨by omega, b⟩
  · rintro ⟨a, b⟩; exact ⟨by omega, b⟩
theorem cutB_split {ks : List α} {i : Nat} (h : (prs ks).getLast? = some i) : ∃ x, ks = ks.take i ++ [x, x] ++ ks.drop (i + 2) := by
  obtain ⟨h1, h2⟩ := mem_prs.mp (List.mem_of_getLast? h)
  refine ⟨ks[i], ?_⟩
  have e2 : ks[i + 1] = ks[i] := by
    rw [List.getElem?_eq_getElem (by omega), List.getElem?_eq_getElem h1] at h2
    exact (Option.some.inj h2).symm
  conv => lhs; rw [← List.take_append_drop i ks]
  rw [List.drop_eq_getElem_cons (by omega), List.drop_eq_getElem_cons (by omega), e2]
  simp
theorem redF_cutB (ks : List α) : redF (cutB ks) = redF ks := by
  unfold cutB
  split
  · rename_i i h
    obtain ⟨x, e⟩ := cutB_split h
    conv => rhs; rw [e]
    exact (redF_pair _ _ _).symm
  · rfl
theorem prs_none {ks : List α} (h : (prs ks).getLast? = none) : NoEq ks := by
  have e : prs ks = [] := List.getLast?_eq_none_iff.mp h
  intro i x h1 h2
  have hi : i + 1 < ks.length := (List.getElem?_eq_some_iff.mp h2).1
  have : i ∈ prs ks := mem_prs.mpr ⟨hi, h1.trans h2.symm⟩
  rw [e] at this
  cases this
theorem cutB_len {ks : List α} {i : Nat} (h : (prs ks).getLast? = some i) : (cutB ks).length + 2 = ks.length := by
  obtain ⟨h1, _⟩ := mem_prs.mp (List.mem_of_getLast? h)
  unfold cutB
  rw [h]
  show (ks.take i ++ ks.drop (i + 2)).length + 2 = _
  rw [List.length_append, List.length_take, List.length_drop]
  omega
theorem bareN_is : ∀ (n : Nat) (ks : List α), ks.length ≤ n → bareN n ks = redF ks
  | 0, ks, h => by
    have : ks = [] := List.eq_nil_of_length_eq_zero (by omega)
    subst this
    rfl
  | n + 1, ks, h => by
    show bareN n (cutB ks) = redF ks
    cases hl : (prs ks).getLast? with
    | some i =>
      have := cutB_len hl
      rw [bareN_is n _ (by omega), redF_cutB]
    | none =>
      have e : cutB ks = ks := by unfold cutB; rw [hl]
      rw [e]
      have ne := prs_none hl
      -- nothing changes any more
      suffices z : ∀ m, bareN m ks = ks by rw [z, redF_id ne]
      intro m
      induction m with
      | zero => rfl
      | succ m ih =>
        show bareN m (cutB ks) = ks
        rw [e]
        exact ih
theorem pushR_len (st : List α) (x : α) : ∃ d : Int, ((pushR st x).length : Int) = st.length + 1 - 2 * d := by
  unfold pushR
  split
  · rename_i h
    have : st ≠ [] := fun z => by rw [z] at h; simp at h
    have := List.length_pos_iff.mpr this
    refine ⟨1, ?_⟩
    rw [List.length_dropLast]
    omega
  · refine ⟨0, ?_⟩
    rw [List.length_append, List.length_singleton]
    omega
theorem redF_par (ks : List α) : ∃ d : Int, ((redF ks).length : Int) = ks.length - 2 * d := by
  suffices h : ∀ n, n ≤ ks.length → ∃ d : Int, ((redF (ks.take n)).length : Int) = n - 2 * d by
    obtain ⟨d, h⟩ := h ks.length (Nat.le_refl _)
    rw [List.take_length] at h
    exact ⟨d, h⟩
  intro n
  induction n with
  | zero => intro _; exact ⟨0, rfl⟩
  | succ n ih =>
    intro hn
    obtain ⟨d, hd⟩ := ih (by omega)
    obtain ⟨x, hx⟩ : ∃ x, ks[n]? = some x := ⟨ks[n], List.getElem?_eq_getElem (by omega)⟩
    rw [List.take_add_one, hx]
    show ∃ d : Int, ((redF (ks.take n ++ [x])).length : Int) = _
    rw [redF_snoc]
    obtain ⟨d2, h2⟩ := pushR_len (redF (ks.take n)) x
    exact ⟨d + d2, by omega⟩
theorem noEq_rev {ks : List α} (h : NoEq ks) : NoEq ks.reverse := by
  intro i x h1 h2
  have l1 := (List.getElem?_eq_some_iff.mp h1).1
  have l2 := (List.getElem?_eq_some_iff.mp h2).1
  rw [List.length_reverse] at l1 l2
  rw [List.getElem?_reverse l1] at h1
  rw [List.getElem?_reverse l2] at h2
  refine h (ks.length - 1 - (i + 1)) x h2 ?_
  rw [show ks.length - 1 - (i + 1) + 1 = ks.length - 1 - i by omega]
  exact h1
/-- turned round and reduced: the reduced one turned round -/
theorem redF_rev (ks : List α) : redF ks.reverse = (redF ks).reverse := by
  suffices h : ∀ (n : Nat) (ks : List α), ks.length ≤ n → redF ks.reverse = (redF ks).reverse from h _ ks (Nat.le_refl _)
  intro n
  induction n with
  | zero =>
    intro ks h
    have : ks = [] := List.eq_nil_of_length_eq_zero (by omega)
    subst this
    rfl
  | succ n ih =>
    intro ks h
    cases hl : (prs ks).getLast? with
    | none =>
      have ne := prs_none hl
      rw [redF_id ne, redF_id (noEq_rev ne)]
    | some i =>
      obtain ⟨x, e⟩ := cutB_split hl
      have cl := cutB_len hl
      have ec : cutB ks = ks.take i ++ ks.drop (i + 2) := by unfold cutB; rw [hl]
      have e1 : redF ks = redF (cutB ks) := (redF_cutB ks).symm
      rw [e1, ← ih (cutB ks) (by omega), ec]
      conv => lhs; rw [e]
      rw [List.reverse_append, List.reverse_append, List.reverse_append, show ([x, x] : List α).reverse = [x, x] from rfl, ← List.append_assoc]
      exact redF_pair _ _ _
/-- there and back: nothing is left -/
theorem redF_back (ks : List α) : redF (ks ++ ks.reverse) = [] := by
  suffices h : ∀ n, n ≤ ks.length → redF (ks.take n ++ (ks.take n).reverse) = [] by
    have := h ks.length (Nat.le_refl _)
    rwa [List.take_length] at this
  intro n
  induction n with
  | zero => intro _; rfl
  | succ n ih =>
    intro hn
    obtain ⟨x, hx⟩ : ∃ x, ks[n]? = some x := ⟨ks[n], List.getElem?_eq_getElem (by omega)⟩
    rw [List.take_add_one, hx]
    show redF (ks.take n ++ [x] ++ (ks.take n ++ [x]).reverse) = []
    have e : ks.take n ++ [x] ++ (ks.take n ++ [x]).reverse = ks.take n ++ [x, x] ++ (ks.take n).reverse := by simp
    rw [e, redF_pair]
    exact ih (by omega)
end
theorem pushR_map {α β : Type} [DecidableEq α] [DecidableEq β] {f : α → β} (hf : ∀ a b, f a = f b → a = b) (st : List α) (x : α) : pushR (st.map f) (f x) = (pushR st x).map f := by
  unfold pushR
  by_cases h : st.getLast? = some x
  · rw [if_pos h, if_pos (by rw [List.getLast?_map, h]; rfl), List.map_dropLast]
  · rw [if_neg h, if_neg (fun z => h ?_), List.map_append]
    · rfl
    · rw [List.getLast?_map] at z
      cases q : st.getLast? with
      | none => rw [q] at z; cases z
      | some y => rw [q] at z; rw [hf _ _ (Option.some.inj z)]
theorem redF_map {α β : Type} [DecidableEq α] [DecidableEq β] {f : α → β} (hf : ∀ a b, f a = f b → a = b) (ks : List α) : redF (ks.map f) = (redF ks).map f := by
  suffices h : ∀ (ks st : List α), (ks.map f).foldl pushR (st.map f) = (ks.foldl pushR st).map f from h ks []
  intro ks
  induction ks with
  | nil => intro st; rfl
  | cons x ks ih =>
    intro st
    show (ks.map f).foldl pushR (pushR (st.map f) (f x)) = (ks.foldl pushR (pushR st x)).map f
    rw [pushR_map hf]
    exact ih _
end Hw

/-! repr of any data without dicts. -/
namespace Hw
open PySem PySem.Spec PyProof.Rows L2
structure ShD (d : PyData) : Prop where
  sh : d.showable = true
  nd : d.hasDict = false
  dp : d.depth ≤ 60
  ln : d.shown.length ≤ sizeLine
def rReprD (K : PySem.W.Frag) : List V → Hp → VK → Prop := fun vs H Q => ∃ (a : Addr) (d : PyData), vs = [.ref a] ∧ Dp K H (.ref a) d ∧ ShD d ∧ Q (.str d.shown) H
theorem cr_reprD {X : Cx} (g : NoG X.A) (hu : X.A.units + 64 < cLine) : CallR X (.builtin "repr") (rReprD X.K) := by
  rintro pins st σ H vs us Q I r ⟨a, d, rfl, h, sd, q⟩
  rw [Vals.ref1 r]
  obtain ⟨as, rd⟩ := Dp.reads I d (.ref a) (.ref a) h rfl
  have := sd.dp
  refine repr_of_reads' rd sd.sh (fun z => by rw [sd.nd] at z; cases z) g (by omega) (fun _ _ e => e) (fun h' u tk kp => ?_) sd.ln
  exact ⟨.str _, H, I.kept kp, ⟨_, rfl⟩, q⟩
def dCL (cs : List (List Nat)) : PyData := .list (cs.map dT)
theorem sh_dCL {cs : List (List Nat)} (h : SmC cs) : ShD (dCL cs) := by
  obtain ⟨a1, a2, a3, a4, a5⟩ := all_dCT cs h.2
  have h1 := h.1
  have dp : (dCL cs).depth ≤ 2 := by
    show PyData.depthAll (cs.map dT) + 1 ≤ 2
    omega
  have l : PyData.layable0 (dCL cs) = true := by
    show ((dCL cs).canLay0 && decide ((dCL cs).depth ≤ 64) && decide ((dCL cs).weight ≤ 2 ^ 20)) = true
    have d : (dCL cs).depth ≤ 64 := by omega
    have w : (dCL cs).weight ≤ 2 ^ 20 := by
      show PyData.weightAll (cs.map dT) ≤ 2 ^ 20
      omega
    rw [decide_eq_true d, decide_eq_true w]
    show (PyData.canLayAll0 (cs.map dT) && true && true) = true
    rw [a2]; rfl
  refine ⟨a1, PyData.hasDict_of_canLay _ a2, by omega, ?_⟩
  exact Nat.le_trans (shown_le13 l a3) (by decide)
theorem dp_cl {K : PySem.W.Frag} {H : Hp} {a : Addr} {ks : List (Addr × List Nat)} (h : SqL K H a (ks.map fun k => V.ref k.1)) (hk : ∀ k ∈ ks, Tp H k.1 k.2) : Dp K H (.ref a) (dCL (ks.map (·.2))) := Dp.lst h (dpa_cs (K := K) ks hk)
end Hw

/-! repr of rows of integers of up to 31 digits. -/
namespace Hw
open PySem PySem.Spec PyProof.Rows L2
/-- integers as values -/
abbrev IV (ns : List Int) : List V := ns.map V.int
abbrev TpI (H : Hp) (a : Addr) (ns : List Int) : Prop := H a = some (.tup (IV ns))
def Sm1 (n : Int) : Prop := n = -1 ∨ (0 ≤ n ∧ n < 10 ^ 31)
def SmI (ns : List Int) : Prop := ∀ n ∈ ns, Sm1 n
theorem sm1_log {n : Int} (h : Sm1 n) : n.natAbs.log2 < 104 := by
  have l : n.natAbs < 2 ^ 104 := by
    rcases h with rfl | ⟨h0, h1⟩
    · decide
    · have : (10 : Int) ^ 31 ≤ 2 ^ 104 := by decide
      have e : ((2 ^ 104 : Nat) : Int) = 2 ^ 104 := by decide
      omega
  by_cases z : n.natAbs = 0
  · rw [z]; decide
  · exact (Nat.log2_lt z).mpr l
theorem sm1_len {n : Int} (h : Sm1 n) : (PyData.shown (.int n)).length ≤ 40 := by
  rcases h with rfl | ⟨h0, h1⟩
  · decide +kernel
  · unfold PyData.shown
    exact Nat.le_trans (toString_length_le h0 (k := 31) (by decide) h1) (by decide)
theorem sm1_weight {n : Int} (h : Sm1 n) : PyData.weight (.int n) ≤ 104 := by
  have := sm1_log h
  unfold PyData.weight
  split <;> omega
theorem all_int : ∀ {ns : List Int}, SmI ns → PyData.showableAll (ns.map PyData.int) = true ∧ PyData.leavesShortAll 40 (ns.map PyData.int) = true ∧ PyData.weightAll (ns.map PyData.int) ≤ 105 * ns.length
  | [], _ => ⟨rfl, rfl, Nat.zero_le _⟩
  | n :: ns, h => by
    have hn := h n List.mem_cons_self
    obtain ⟨a, b, c⟩ := all_int (ns := ns) fun m hm => h m (List.mem_cons_of_mem _ hm)
    refine ⟨?_, ?_, ?_⟩
    · show (decide (n.natAbs.log2 < 1920) && PyData.showableAll (ns.map PyData.int)) = true
      have := sm1_log hn
      rw [decide_eq_true (by omega), a]
      rfl
    · show (decide ((PyData.shown (.int n)).length ≤ 40) && PyData.leavesShortAll 40 (ns.map PyData.int)) = true
      rw [decide_eq_true (sm1_len hn), b]
      rfl
    · show PyData.weight (.int n) + 1 + PyData.weightAll (ns.map PyData.int) ≤ 105 * (ns.length + 1)
      have := sm1_weight hn
      omega
theorem shD_mk {d : PyData} (a : d.canLay0 = true) (b : d.showable = true) (c : d.leavesShort 40 = true) (e : d.depth ≤ 60) (f : d.weight ≤ 100000) : ShD d := by
  refine ⟨b, PyData.hasDict_of_canLay _ a, e, ?_⟩
  have := PyData.shown_le 40 (by decide) d c
  have s : sizeLine = 16777216 := by decide
  omega
abbrev dLi (ns : List Int) : PyData := .list (ns.map PyData.int)
abbrev dTi (ns : List Int) : PyData := .tuple (ns.map PyData.int)
theorem sh_dLi {ns : List Int} (h : SmI ns) (l : ns.length ≤ 100) : ShD (dLi ns) := by
  obtain ⟨a, b, c⟩ := all_int h
  exact shD_mk (lay_ints ns) a b (by show PyData.depthAll _ + 1 ≤ 60; rw [depth_ints]; decide) (by show PyData.weightAll _ ≤ _; omega)
theorem sh_dTi {ns : List Int} (h : SmI ns) (l : ns.length ≤ 100) : ShD (dTi ns) := by
  obtain ⟨a, b, c⟩ := all_int h
  exact shD_mk (lay_ints ns) a b (by show PyData.depthAll _ + 1 ≤ 60; rw [depth_ints]; decide) (by show PyData.weightAll _ ≤ _; omega)
/-- a list of tuples of integers -/
abbrev dLT (as : List (List Int)) : PyData := .list (as.map dTi)
theorem all_dTi : ∀ {as : List (List Int)}, (∀ a ∈ as, SmI a ∧ a.length ≤ 20) → PyData.showableAll (as.map dTi) = true ∧ PyData.leavesShortAll 40 (as.map dTi) = true ∧ PyData.canLayAll0 (as.map dTi) = true ∧ PyData.depthAll (as.map dTi) ≤ 1 ∧ PyData.weightAll (as.map dTi) ≤ 2101 * as.length
  | [], _ => ⟨rfl, rfl, rfl, by decide, Nat.zero_le _⟩
  | n :: ns, h => by
    obtain ⟨h1, h2⟩ := h n List.mem_cons_self
    obtain ⟨p, q, r⟩ := all_int h1
    obtain ⟨a, b, c, d, e⟩ := all_dTi (as := ns) fun m hm => h m (List.mem_cons_of_mem _ hm)
    refine ⟨?_, ?_, ?_, ?_, ?_⟩
    · show (PyData.showableAll (n.map PyData.int) && PyData.showableAll (ns.map dTi)) = true
      rw [p, a]; rfl
    · show (PyData.leavesShortAll 40 (n.map PyData.int) && PyData.leavesShortAll 40 (ns.map dTi)) = true
      rw [q, b]; rfl
    · show (PyData.canLayAll0 (n.map PyData.int) && PyData.canLayAll0 (ns.map dTi)) = true
      rw [lay_ints, c]; rfl
    · show max (PyData.depthAll (n.map PyData.int) + 1) (PyData.depthAll (ns.map dTi)) ≤ 1
      rw [depth_ints]
      exact Nat.max_le.mpr ⟨by decide, d⟩
    · show PyData.weightAll (n.map PyData.int) + 1 + PyData.weightAll (ns.map dTi) ≤ 2101 * (ns.length + 1)
      omega
theorem sh_dLT {as : List (List Int)} (h : ∀ a ∈ as, SmI a ∧ a.length ≤ 20) (l : as.length ≤ 20) : ShD (dLT as) := by
  obtain ⟨a, b, c, d, e⟩ := all_dTi h
  exact shD_mk c a b (by show PyData.depthAll _ + 1 ≤ 60; omega) (by show PyData.weightAll _ ≤ _; omega)
theorem dp_dLT {K : PySem.W.Frag} {H : Hp} {l : Addr} {ks : List (Addr × List Int)} (h : SqL K H l (ks.map fun k => V.ref k.1)) (hk : ∀ k ∈ ks, TpI H k.1 k.2) : Dp K H (.ref l) (dLT (ks.map (·.2))) := by
  refine Dp.lst h ?_
  have : ∀ ks : List (Addr × List Int), (∀ k ∈ ks, TpI H k.1 k.2) → DpAll K H (ks.map fun k => V.ref k.1) ((ks.map (·.2)).map dTi) := by
    intro ks
    induction ks with
    | nil => intro _; exact dpa_ints (K := K) (H := H) []
    | cons k ks ih =>
      intro h
      exact DpAll.cons (dp_ti (sq_of (h k List.mem_cons_self))) (ih fun m hm => h m (List.mem_cons_of_mem _ hm))
  exact this ks hk
end Hw

namespace Hw
open PySem PySem.Spec PyProof.Rows L2 ClX
theorem stpS_twice {n : Nat} {es : List Ed} {s : Sta} {e : Nat} (i : IsS n es.length s) (he : e ∈ drs es s.1) : stpS es (stpS es s e) e = s := by
  have hl := (mem_drs.mp he).1
  have hm := (mem_drs.mp he).2
  refine Prod.ext ?_ (swp_swp (by rw [i.2.2]; omega))
  show oth (es.getD e (0, 0)) (oth (es.getD e (0, 0)) s.1) = s.1
  unfold oth
  rcases List.mem_cons.mp hm with z | z
  · rw [z, if_pos rfl]
    split
    · rename_i q; exact q
    · rfl
  · rw [List.mem_singleton] at z
    by_cases q : s.1 = (es.getD e (0, 0)).1
    · rw [if_pos q]
      split
      · rename_i q2; omega
      · exact q.symm
    · rw [if_neg q, if_pos rfl]
      exact z.symm
theorem wlk_init {es : List Ed} {p : Nat} {ks : List Nat} {e : Nat} (h : Wlk es p (ks ++ [e])) : Wlk es p ks ∧ e ∈ drs es (plcS es p ks) := by
  have := wlk_app.mp h
  exact ⟨this.1, this.2.1⟩
/-- the reduced walk is a walk to the same state -/
theorem red_walk {n : Nat} {es : List Ed} {s : Sta} (ve : VE n es) (is : IsS n es.length s) {ks : List Nat} (w : Wlk es s.1 ks) : Wlk es s.1 (redF ks) ∧ runS es s (redF ks) = runS es s ks := by
  suffices h : ∀ j, j ≤ ks.length → Wlk es s.1 (redF (ks.take j)) ∧ runS es s (redF (ks.take j)) = runS es s (ks.take j) by
    have := h ks.length (Nat.le_refl _)
    rwa [List.take_length] at this
  intro j
  induction j with
  | zero => intro _; exact ⟨trivial, rfl⟩
  | succ j ih =>
    intro hj
    obtain ⟨i1, i2⟩ := ih (by omega)
    obtain ⟨e, he⟩ : ∃ e, ks[j]? = some e := ⟨ks[j], List.getElem?_eq_getElem (by omega)⟩
    rw [List.take_add_one, he]
    show Wlk es s.1 (redF (ks.take j ++ [e])) ∧ runS es s (redF (ks.take j ++ [e])) = runS es s (ks.take j ++ [e])
    have hd := wlk_get w he
    rw [← runS_fst es (ks.take j) s, ← i2, runS_fst] at hd
    rw [redF_snoc, runS_snoc, ← i2]
    unfold pushR
    split
    · rename_i hl
      have hne : redF (ks.take j) ≠ [] := fun z => by rw [z] at hl; simp at hl
      have q := List.dropLast_concat_getLast hne
      rw [List.getLast?_eq_some_getLast hne] at hl
      rw [Option.some.inj hl] at q
      generalize (redF (ks.take j)).dropLast = st at *
      rw [← q] at i1 i2 hd ⊢
      obtain ⟨w1, w2⟩ := wlk_init i1
      refine ⟨w1, ?_⟩
      rw [runS_snoc]
      have is2 := runS_is ve is w1
      rw [← runS_fst] at w2
      exact (stpS_twice is2 w2).symm
    · exact ⟨wlk_snoc i1 hd, runS_snoc _ _ _ _⟩
/-- a walk with its way back -/
theorem back_walk {n : Nat} {es : List Ed} (ve : VE n es) : ∀ {ks : List Nat} {s : Sta}, IsS n es.length s → Wlk es s.1 ks → Wlk es (runS es s ks).1 ks.reverse ∧ runS es (runS es s ks) ks.reverse = s
  | [], s, _, _ => ⟨trivial, rfl⟩
  | e :: ks, s, i, w => by
    have i2 := stpS_is ve i w.1
    obtain ⟨h1, h2⟩ := back_walk ve (ks := ks) i2 w.2
    have hd : e ∈ drs es (stpS es s e).1 := by
      have hl := mem_drs.mp w.1
      refine mem_drs.mpr ⟨hl.1, ?_⟩
      show oth (es.getD e (0, 0)) s.1 ∈ _
      unfold oth
      split <;> simp
    rw [List.reverse_cons]
    show Wlk es (runS es (stpS es s e) ks).1 (ks.reverse ++ [e]) ∧ runS es (runS es (stpS es s e) ks) (ks.reverse ++ [e]) = s
    refine ⟨wlk_snoc h1 ?_, ?_⟩
    · rw [← runS_fst, h2]
      exact hd
    · rw [runS_snoc, h2]
      exact stpS_twice i w.1
section
variable {P : Program} {w : World} {K : PySem.W.Frag} {mg : Str → Option Value} {base : Heap}
/-! ### back -/
def spBack : Sp := fun vs H Q _ => ∃ (ns : List Int), vs = IV ns ∧ ns.length < 100000 ∧ ∀ H' r, Same H H' → H r = none → TpI H' r ns.reverse → Q (.ref r) H'
theorem scBk : FnScope ["steps"] (([] : List Str) ++ [("steps" : Str)]) (defScope sBackP) := ⟨rfl, rfl, rfl, by decide +kernel, rfl, by decide +kernel, by decide +kernel⟩
theorem cal_back (D : DfS K mg "back" sBackP) : Cal P w K mg base "back" 1 spBack := by
  obtain ⟨f, fd, F, g⟩ := D.ex
  obtain ⟨oc, od, kV, doc, pm, an, cdv, ct, osl, rfl, lk, hcd⟩ := F.ex
  have R := StX.fn_star (P := P) (w := w) (K := K) (mg := mg) (base := base) (CX := CX0) (k := 0) (ps := []) (pv := "steps") (sp := fun vs H Q _ => ∃ (p : Addr) (ns : List Int), vs = [.ref p] ∧ TpI H p ns ∧ ns.length < 100000 ∧ ∀ H' r, Same H H' → H r = none → TpI H' r ns.reverse → Q (.ref r) H') lk hcd scBk StX.cxUp_none
    (fun us rest hl => ?_) (fun A outer s0 H vs Q E hr h => ?_)
  · refine ⟨f, g, F.kp, R.imp ?_⟩
    rintro vs H Q E ⟨ns, rfl, hl, q⟩
    refine ⟨[], IV ns, rfl, rfl, by rw [List.length_map]; exact Nat.le_trans (Nat.le_of_lt hl) (by decide), fun p np => ⟨p, ns, rfl, upd_same, hl, fun H' r sm nr => q H' r ((same_upd np).trans sm) ((same_upd np).free nr)⟩⟩
  · cases us with
    | cons u us => cases hl
    | nil => cases rest <;> rfl
  · obtain ⟨p, ns, rfl, hp, hl, q⟩ := h
    refine ⟨_, pss_one (ps_ret (pe_revT (pv 0))), ?_⟩
    refine ⟨_, rfl, p, IV ns, rfl, sq_of hp, fun r nr => q _ r (same_upd nr) nr ?_⟩
    show upd H r _ r = some (.tup (IV ns.reverse))
    rw [upd_same]
    unfold IV
    rw [List.map_reverse]
end
end Hw

namespace Hw
open PySem PySem.Spec PyProof.Rows L2
section
variable {P : Program} {w : World} {K : PySem.W.Frag} {mg : Str → Option Value} {base : Heap}
def spCkP : Sp := fun vs H Q _ => ∃ (a : Addr) (p : List Nat), vs = [.ref a] ∧ Tp H a p ∧ IsP p ∧ p.length ≤ 1000 ∧ ∀ H', Same H H' → Q .non H'
theorem scCkP : FnScope ["value"] ["value"] (defScope sCheckPerm) := ⟨rfl, rfl, rfl, by decide +kernel, rfl, by decide +kernel, by decide +kernel⟩
theorem cal_ckP (G : Cal P w K mg base "is_permutation" 3 spIsPerm) (D : Df K mg "_check" sCheckPerm ["value"]) : Cal P w K mg base "_check" 4 spCkP := by
  refine cal_of D scCkP (fun vs H Q E h => ?_) (fun f cdv A outer s H vs Q E hr h => ?_)
  · obtain ⟨a, p, rfl, _⟩ := h
    rfl
  · obtain ⟨a, p, rfl, ha, hp, hl, q⟩ := h
    refine ⟨_, pss_one (ps_if (pt_not (pt_val (pe_cal G hr (by rfl) (pa_cons (pv 0) pa_nil)))) (pss_one ps_never) pss_nil), ?_⟩
    exact ⟨_, rfl, a, p, rfl, ha, hp, hl, fun H' sm => ⟨_, rfl, iteF (q H' sm)⟩⟩
end
end Hw

namespace Hw
open PySem PySem.Spec PyProof.Rows L2
section
variable {P : Program} {w : World} {K : PySem.W.Frag} {mg : Str → Option Value} {base : Heap}
/-- several permutations of one size -/
def Perms (H : Hp) (n : Nat) (ps : List (Addr × List Nat)) : Prop := ∀ p ∈ ps, Tp H p.1 p.2 ∧ IsP p.2 ∧ p.2.length = n
def spCompose0 : Sp := fun vs H Q _ => ∃ (t : Addr) (ps : List (Addr × List Nat)) (n : Nat), vs = [.ref t] ∧ H t = some (.tup (ps.map fun p => .ref p.1)) ∧ Perms H n ps ∧ n ≤ 1000 ∧ ps.length ≤ 1000 ∧ (ps = [] → n = 0) ∧
  ∀ H' r, Same H H' → Tp H' r (muls n (ps.map (·.2))) → Q (.ref r) H'
def spCompose : Sp := fun vs H Q _ => ∃ (ps : List (Addr × List Nat)) (n : Nat), vs = ps.map (fun p => .ref p.1) ∧ Perms H n ps ∧ n ≤ 1000 ∧ ps.length ≤ 1000 ∧ (ps = [] → n = 0) ∧
  ∀ H' r, Same H H' → Tp H' r (muls n (ps.map (·.2))) → Q (.ref r) H'
theorem scCompose : FnScope ["permutations", "permutation", "sizes", "moved", "position"] ["permutations"] (defScope sCompose) := ⟨rfl, rfl, rfl, by decide +kernel, rfl, by decide +kernel, by decide +kernel⟩
theorem body_compose {f : Addr} {cdv : Value} {A : Around} {outer : List Env} {s : Shared} {H : Hp} {vs : List V} {Q : VK} {E : XK} (T : Txt mg) (GC : Cal P w K mg base "_check" 4 spCkP)
    (hr : Room 4 (A.deeper (envOfC "compose" (defScope sCompose) s.heap.objs.size f cdv))) (h : spCompose0 vs H Q E) :
    ∃ t, PSs (cxOf CX0 P w K mg base ["permutations", "permutation", "sizes", "moved", "position"] "compose" (defScope sCompose) f cdv A outer s H E) (defBody sCompose) t ∧ t { nx := fun _ H' => Q .non H', rt := Q } (start ["permutations", "permutation", "sizes", "moved", "position"] vs) H := by
  have nd := scCompose.nd
  obtain ⟨t, ps, n, rfl, ht, hp, hn, hz, h0, q⟩ := h
  refine ⟨_, PSs.nox (pss_cons (ps_for PassesOwn.never rfl (pi_tup (pv 0)) (pg_name (i := 1) nd rfl (.inr rfl)) (pss_one (ps_expr (pe_cal GC hr (by rfl) (pa_cons (pv 1) pa_nil)))))
    <| pss_cons (ps_set (i := 2) nd rfl (.inl rfl) (pe_callTy call_tuple_of (by rfl) T.tuple (by decide +kernel) (pa_cons (pe_lc (own := [("permutation", 1)]) (g := gName 1) (by rfl) nd (pi_tup (pv 0))
        (blkOk_by (own := [("permutation", 1)]) (N := ["permutations", "permutation", "sizes", "moved", "position"]) (sc := defScope sCompose) (by decide +kernel)) (fun _ _ _ _ _ => pg_name (i := 1) nd rfl (.inl rfl)) (fun _ _ _ _ _ => pts_nil)
        (fun _ _ _ _ _ => pe_callB (r := rLenS K) cr_len (by rfl) T.len PySem.boot_len (pa_cons (pv 1) pa_nil))) pa_nil)))
    <| pss_cons (ps_if (pt_cmpR op_gt (pe_lenSetT (by rfl) T.len (by rfl) T.set (pv 2)) pe_int (nomark _)) (pss_one ps_never) pss_nil)
    <| pss_cons (ps_if (pt_not (pt_truth (pv 0) (by intro _; rfl))) (pss_one (ps_ret (pe_tup pa_nil))) pss_nil)
    <| pss_cons (ps_set (i := 3) nd rfl (.inl rfl) (pe_listRg (by rfl) (by rfl) T.list (prg_1 (by rfl) T.range (pe_ix ix_tup (pv 2) pe_int (fun _ _ => rfl)))))
    <| pss_cons (ps_for PassesOwn.never rfl (pi_tup (pv 0)) (pg_name (i := 1) nd rfl (.inr rfl)) (pss_one (ps_setLc (i := 3) (own := [("position", 4)]) (g := gName 4) (by rfl) nd rfl rfl (sw_true rfl rfl rfl (by decide +kernel)) (pi_list (pv 3))
        (blkOk_by (own := [("position", 4)]) (N := ["permutations", "permutation", "sizes", "moved", "position"]) (sc := defScope sCompose) (by decide +kernel)) (fun _ _ _ _ _ => pg_name (i := 4) nd rfl (.inl rfl)) (fun _ _ _ _ _ => pts_nil)
        (fun _ _ _ _ _ => pe_ix (r := rIxT K) ix_tup (pv 1) (pv 4) (fun _ _ => rfl)))))
    <| pss_one (ps_ret (pe_callTy call_tuple_of (by rfl) T.tuple (by decide +kernel) (pa_cons (pv 3) pa_nil)))), ?_⟩
  have rg : ∀ {H'} (v : V) i, Same H H' → (ps.map fun p => V.ref p.1)[i]? = some v → ∃ (p : Addr × List Nat), v = .ref p.1 ∧ ps[i]? = some p ∧ Tp H' p.1 p.2 ∧ IsP p.2 ∧ p.2.length = n := fun v i sm hi => by
    obtain ⟨p, hp1, rfl⟩ := refs_get hi
    obtain ⟨h1, h2, h3⟩ := hp p (List.mem_of_getElem? hp1)
    exact ⟨p, rfl, hp1, sm _ _ h1, h2, h3⟩
  refine ⟨_, rfl, t, rfl, ⟨_, sq_of ht⟩, for_it (walk_tup (xs := ps.map fun p => V.ref p.1)) (fun i σ H' => ∃ v, σ = [some (.ref t), v, none, none, none] ∧ Same H H') ⟨none, rfl, Same.refl H⟩ (fun i σ H' _ ⟨_, _, sm⟩ => sq_of (sm _ _ ht)) ?_ ?_⟩
  · rintro i x σ H1 _ hi ⟨v, rfl, sm⟩ ⟨rfl, hx⟩
    obtain ⟨p, rfl, _, h1, h2, h3⟩ := rg x i sm hx
    exact ⟨_, rfl, p.1, p.2, rfl, h1, h2, by omega, fun H2 sm2 => ⟨_, rfl, sm.trans sm2⟩⟩
  rintro σ H1 ⟨v, rfl, sm1⟩
  refine ⟨_, rfl, t, rfl, ⟨_, sq_of (sm1 _ _ ht)⟩, fun D nD => lc_it (walk_tup (xs := ps.map fun p => V.ref p.1)) (fun i H' => Same H1 H' ∧ H' D = some (.lst (List.replicate i (V.int n)))) ⟨same_upd nD, upd_same⟩ (fun i H' _ ⟨sm, _⟩ => sq_of (sm _ _ (sm1 _ _ ht))) ?_ ?_⟩
  · rintro i x H2 _ hi ⟨sm, hD⟩ ⟨rfl, hx⟩
    obtain ⟨p, rfl, _, h1, h2, h3⟩ := rg x i (sm1.trans sm) hx
    refine ⟨rfl, _, rfl, p.1, NV p.2, rfl, .inr (sq_of h1), _, hD, ?_, ?_, ?_⟩
    · rw [List.length_replicate]
      have := (List.getElem?_eq_some_iff.mp hx).1
      rw [nv_len] at this
      exact small1000 (by omega)
    · exact fun b o e => by rw [upd_ne (ne_of_none e nD)]; exact sm _ _ e
    · rw [upd_same, NV_len, h3, List.replicate_succ']
  rintro H2 ⟨sm2, hD⟩
  rw [nv_len] at hD
  refine ⟨D, _, rfl, .inl ⟨sl_of hD, fun l nl => ?_⟩⟩
  have sm3 := sm1.trans (sm2.trans (same_upd (o := .tup (List.replicate ps.length (V.int n))) nl))
  refine ⟨_, rfl, l, List.replicate ps.length (n : Int), n, rfl, sq_of (by rw [upd_same, List.map_replicate]), fun m hm => List.eq_of_mem_replicate hm, by rw [List.length_replicate]; exact hz, fun c hc => ?_⟩
  refine ⟨_, _, rfl, rfl, _, rfl, ?_⟩
  rw [show decide ((1 : Int) < (c : Int)) = false from decide_eq_false (by omega)]
  refine iteF ⟨_, rfl, _, .inr (.inl ⟨_, sq_of (sm3 _ _ ht), rfl⟩), ?_⟩
  cases ps with
  | nil =>
    refine iteT ⟨Nat.zero_le _, fun r nr => ?_⟩
    refine q _ r (sm3.trans (same_upd nr)) ?_
    rw [h0 rfl]
    exact upd_same
  | cons p0 ps0 =>
    refine iteF ?_
    refine ⟨_, rfl, l, _, 0, V.int (n : Int), rfl, rfl, sq_of upd_same, atI_nat (j := 0) rfl, _, rfl, RgOk.of_le (by omega) (by omega) (by omega) (by omega), fun M nM => ?_⟩
    rw [NV_range]
    have sm4 := sm3.trans (same_upd (o := .lst (NV (List.range n))) nM)
    generalize eps : p0 :: ps0 = ps at *
    refine ⟨_, rfl, t, rfl, ⟨_, sq_of (sm4 _ _ ht)⟩, for_it (walk_tup (xs := ps.map fun p => V.ref p.1)) (fun i σ H' => ∃ v M, σ = [some (.ref t), v, some (.ref l), some (.ref M), none] ∧ Same H H' ∧ H' M = some (.lst (NV (muls n ((ps.take i).map (·.2)))))) ⟨_, M, rfl, sm4, upd_same⟩ (fun i σ H' _ ⟨_, _, _, sm, _⟩ => sq_of (sm _ _ ht)) ?_ ?_⟩
    · rintro i x σ _ H3 hi ⟨v, M, rfl, sm, hM⟩ ⟨rfl, hx⟩
      obtain ⟨p, rfl, hpi, h1, h2, h3⟩ := rg x i sm hx
      have rw1 : Row n (muls n ((ps.take i).map (·.2))) := row_muls fun r hr => by
        obtain ⟨p', hp', rfl⟩ := List.mem_map.mp hr
        obtain ⟨_, g2, g3⟩ := hp p' (List.mem_of_mem_take hp')
        exact row_of g2 g3
      generalize em : muls n ((ps.take i).map (·.2)) = m at *
      refine ⟨_, rfl, M, rfl, ⟨_, sl_of hM⟩, fun D2 nD2 => lc_it (walk_list (xs := NV m)) (fun j H' => Same H3 H' ∧ H' D2 = some (.lst (NV ((m.take j).map (ap p.2))))) ⟨same_upd nD2, upd_same⟩ (fun j H' _ ⟨s', _⟩ => sl_of (s' _ _ hM)) ?_ ?_⟩
      · rintro j y _ H4 hj ⟨s4, hD2⟩ ⟨rfl, hy⟩
        obtain ⟨z, hz1, rfl⟩ := NV_get' hy
        have zb : z < p.2.length := by rw [h3]; exact rw1.2 z (List.mem_of_getElem? hz1)
        refine ⟨rfl, _, rfl, _, rfl, p.1, _, _, _, rfl, rfl, sq_of (s4 _ _ h1), atI_nat (NV_get (ap_get zb)), _, hD2, ?_, ?_, ?_⟩
        · rw [NV_len, List.length_map, List.length_take]
          exact Nat.lt_of_le_of_lt (Nat.min_le_right _ _) (small1000 (by rw [rw1.1]; exact hn))
        · exact fun b o e => by rw [upd_ne (ne_of_none e nD2)]; exact s4 _ _ e
        · rw [upd_same, ← NV_snoc, List.take_add_one, hz1, List.map_append]
          rfl
      · rintro H4 ⟨s4, hD2⟩
        refine ⟨_, D2, rfl, sm.trans s4, ?_⟩
        rw [hD2, NV_len, List.take_length, List.take_add_one, hpi, List.map_append]
        show _ = some (HO.lst (NV (muls n ((ps.take i).map (·.2) ++ [p.2]))))
        rw [muls_snoc, em]
        rfl
    · rintro σ H3 ⟨v, M, rfl, sm, hM⟩
      rw [nv_len, List.take_length] at hM
      refine ⟨_, rfl, M, _, rfl, .inl ⟨sl_of hM, fun r nr => ?_⟩⟩
      exact q _ r (sm.trans (same_upd nr)) upd_same
theorem cal_compose (T : Txt mg) (GC : Cal P w K mg base "_check" 4 spCkP) (D : DfS K mg "compose" sCompose) : Cal P w K mg base "compose" 5 spCompose := by
  obtain ⟨f, fd, F, g⟩ := D.ex
  obtain ⟨oc, od, kV, doc, pm, an, cdv, ct, osl, rfl, lk, hcd⟩ := F.ex
  have G := StX.fn_star (P := P) (w := w) (K := K) (mg := mg) (base := base) (CX := CX0) (k := 4) (ps := []) (pv := "permutations") (sp := spCompose0) lk hcd scCompose StX.cxUp_none (fun us rest hl => ?_) (fun A outer s H vs Q E hr h => body_compose T GC hr h)
  · refine ⟨f, g, F.kp, G.imp ?_⟩
    rintro vs H Q E ⟨ps, n, rfl, hp, hn, hz, h0, q⟩
    refine ⟨[], _, rfl, rfl, by rw [nv_len]; exact Nat.le_of_lt (small1000 hz), fun t nt => ⟨t, ps, n, rfl, upd_same, fun p m => ?_, hn, hz, h0, fun H' r sm => q H' r ((same_upd nt).trans sm)⟩⟩
    obtain ⟨h1, h2⟩ := hp p m
    exact ⟨same_upd nt _ _ h1, h2⟩
  · cases us with
    | cons u us => cases hl
    | nil => cases rest <;> rfl
end
end Hw

namespace Hw
open PySem PySem.Spec PyProof.Rows L2
/-! ### inverse -/
def invI (p : List Nat) (i : Nat) : List Nat := (List.range p.length).map fun y => if y ∈ p.take i then p.idxOf y else 0
theorem invI_len (p : List Nat) (i : Nat) : (invI p i).length = p.length := by unfold invI; simp
theorem invI_zero (p : List Nat) : invI p 0 = List.replicate p.length 0 := by
  unfold invI
  apply List.ext_getElem?
  intro j
  by_cases hj : j < p.length
  · rw [List.getElem?_map, List.getElem?_range hj, List.getElem?_replicate, if_pos hj]
    simp
  · rw [List.getElem?_eq_none (by simp; omega), List.getElem?_eq_none (by simp; omega)]
theorem invI_set {p : List Nat} (hd : p.Nodup) {i x : Nat} (h : p[i]? = some x) : (invI p i).set x i = invI p (i + 1) := by
  obtain ⟨hi, ex⟩ := List.getElem?_eq_some_iff.mp h
  apply List.ext_getElem?
  intro j
  by_cases hj : j < p.length
  · rw [List.getElem?_set, invI_len]
    unfold invI
    rw [List.getElem?_map, List.getElem?_map, List.getElem?_range hj, List.take_add_one, h]
    by_cases e : x = j
    · subst e
      have h1 : p.idxOf x < p.length := List.idxOf_lt_length_iff.mpr (List.mem_of_getElem? h)
      have h2 : p[p.idxOf x] = x := List.getElem_idxOf h1
      have h3 : p.idxOf x = i := (List.getElem_inj (h₀ := h1) (h₁ := hi) hd).mp (h2.trans ex.symm)
      simp [hj, h3]
    · rw [if_neg e]
      have e' : ¬ j = x := fun z => e z.symm
      simp [e']
  · rw [List.getElem?_eq_none (by rw [List.length_set, invI_len]; omega), List.getElem?_eq_none (by rw [invI_len]; omega)]
theorem invI_end {p : List Nat} (hp : IsP p) : invI p p.length = inv p := by
  unfold invI inv
  apply List.map_congr_left
  intro y hy
  rw [List.take_length, if_pos (isP_mem hp (List.mem_range.mp hy))]
section
variable {P : Program} {w : World} {K : PySem.W.Frag} {mg : Str → Option Value} {base : Heap}
def spInverse : Sp := fun vs H Q _ => ∃ (a : Addr) (p : List Nat), vs = [.ref a] ∧ Tp H a p ∧ IsP p ∧ p.length ≤ 1000 ∧ ∀ H' r, Same H H' → Tp H' r (inv p) → Q (.ref r) H'
theorem scInverse : FnScope ["permutation", "origins", "position", "target"] ["permutation"] (defScope sInverse) := ⟨rfl, rfl, rfl, by decide +kernel, rfl, by decide +kernel, by decide +kernel⟩
theorem cal_inverse (T : Txt mg) (GC : Cal P w K mg base "_check" 4 spCkP) (D : Df K mg "inverse" sInverse ["permutation"]) : Cal P w K mg base "inverse" 5 spInverse := by
  have nd := scInverse.nd
  refine cal_of D scInverse (fun vs H Q E h => ?_) (fun f cdv A outer s H vs Q E hr h => ?_)
  · obtain ⟨a, p, rfl, _⟩ := h
    rfl
  · obtain ⟨a, p, rfl, ha, hp, hl, q⟩ := h
    refine ⟨_, pss_cons (ps_expr (pe_cal GC hr (by rfl) (pa_cons (pv 0) pa_nil)))
      <| pss_cons (ps_set (i := 1) nd rfl (.inl rfl) (pe_op op_rep (pe_lst (pa_cons pe_int pa_nil)) (pe_callB cr_len (by rfl) T.len PySem.boot_len (pa_cons (pv 0) pa_nil))))
      <| pss_cons (ps_for PassesOwn.never rfl (pi_enumT (by rfl) T.enumerate (pa_cons (pv 0) pa_nil)) (pg_tup rfl (pgs_cons (pg_name (i := 2) nd rfl (.inl rfl)) (pgs_cons (pg_name (i := 3) nd rfl (.inl rfl)) pgs_nil)))
          (pss_one (ps_asg (pv 2) (pg_sub (pv 1) (pv 3) set_list))))
      <| pss_one (ps_ret (pe_callTy call_tuple_of (by rfl) T.tuple (by decide +kernel) (pa_cons (pv 1) pa_nil))), ?_⟩
    refine ⟨_, rfl, a, p, rfl, ha, hp, hl, fun H1 sm1 => ?_⟩
    refine ⟨by show 1 ≤ sizeLine; decide, fun l0 n0 => ?_⟩
    have sm2 := sm1.trans (same_upd (o := .lst [V.int 0]) n0)
    refine ⟨_, rfl, a, NV p, rfl, .inr (sq_of (sm2 _ _ ha)), l0, _, _, rfl, rfl, upd_same, by rw [NV_len]; omega, by rw [NV_len]; omega, ?_, fun l1 n1 => ?_⟩
    · rw [NV_len]
      show 1 * _ ≤ _
      exact Nat.le_of_lt (small1000 (by omega))
    rw [NV_len, rep_flat]
    have n1' : H l1 = none := sm2.free n1
    have sm3 := sm2.trans (same_upd (o := .lst (List.replicate p.length (V.int 0))) n1)
    refine ⟨_, rfl, a, NV p, rfl, sq_of (sm3 _ _ ha), for_it (walk_enumT (xs := NV p)) (fun i σ H' => ∃ v2 v3, σ = [some (.ref a), some (.ref l1), v2, v3] ∧ Same H H' ∧ H' l1 = some (.lst (NV (invI p i)))) ⟨none, none, rfl, sm3, ?_⟩ (fun i σ H' _ ⟨_, _, _, sm, _⟩ => sq_of (sm _ _ ha)) ?_ ?_⟩
    · rw [upd_same, invI_zero, NV_rep]
      rfl
    · rintro i x σ H2 H3 hi ⟨v2, v3, rfl, sm, hL⟩ ⟨T1, i', y, rfl, nT, rfl, ei, ey⟩
      obtain rfl : V.int (i : Int) = i' := Option.some.inj ei
      obtain ⟨z, hz, rfl⟩ := NV_get' ey
      have zb : z < p.length := hp.2 z (List.mem_of_getElem? hz)
      have smT := sm.trans (same_upd (o := .tup [V.int (i : Int), V.int (z : Int)]) nT)
      refine ⟨T1, _, rfl, .inl (.inl upd_same), rfl, _, _, rfl, _, _, rfl, rfl, ?_⟩
      refine ⟨_, rfl, _, rfl, _, rfl, l1, _, _, z, rfl, rfl, (by rw [upd_ne (ne_of_none hL nT)]; exact hL), ?_, ?_⟩
      · rw [NV_len, invI_len]
        unfold ixN
        rw [if_pos (by omega), if_pos (by omega)]
        rfl
      · refine ⟨_, _, rfl, fun b o e => ?_, ?_⟩
        · rw [upd_ne (ne_of_none e n1')]
          exact smT _ _ e
        · rw [upd_same, NV_set, invI_set hp.1 hz]
    · rintro σ H2 ⟨v2, v3, rfl, sm, hL⟩
      rw [NV_len, invI_end hp] at hL
      exact ⟨_, rfl, l1, _, rfl, .inl ⟨sl_of hL, fun r nr => q _ r (sm.trans (same_upd nr)) upd_same⟩⟩
end
end Hw

namespace Hw
open PySem PySem.Spec PyProof.Rows L2
/-! ### the seen ones while the way of i is walked -/
def snK (p : List Nat) (i k : Nat) : List V := (List.range p.length).map fun j => V.bl (sn p i j || decide (j ∈ (orb p i).take k))
def snTo (p : List Nat) (i : Nat) : Nat := if sn p i i = true then 0 else per p i
theorem snK_len (p : List Nat) (i k : Nat) : (snK p i k).length = p.length := by unfold snK; simp
theorem snK_get {p : List Nat} {i k j : Nat} (h : j < p.length) : (snK p i k)[j]? = some (V.bl (sn p i j || decide (j ∈ (orb p i).take k))) := by
  unfold snK
  rw [List.getElem?_map, List.getElem?_range h]
  rfl
theorem snK_set {p : List Nat} (hp : IsP p) {i k : Nat} (hi : i < p.length) (hk : k < per p i) : (snK p i k).set (it p k i) (V.bl true) = snK p i (k + 1) := by
  have hx := it_lt hp hi k
  apply List.ext_getElem?
  intro j
  by_cases hj : j < p.length
  · rw [List.getElem?_set, snK_get hj, snK_get hj, snK_len, List.take_add_one, orb_get hp hi hk]
    by_cases e : it p k i = j
    · subst e
      simp [hj]
    · rw [if_neg e]
      have e' : ¬ j = it p k i := fun z => e z.symm
      simp [e']
  · rw [List.getElem?_eq_none (by rw [List.length_set, snK_len]; omega), List.getElem?_eq_none (by rw [snK_len]; omega)]
theorem snK_at {p : List Nat} (hp : IsP p) {i k : Nat} (hi : i < p.length) (hk : k ≤ snTo p i) : (snK p i k)[it p k i]? = some (V.bl (decide (k = snTo p i))) := by
  rw [snK_get (it_lt hp hi k)]
  congr 2
  unfold snTo at hk ⊢
  cases hs : sn p i i with
  | true =>
    rw [hs] at hk
    have : k = 0 := by simpa using hk
    subst this
    show (sn p i i || _) = _
    rw [hs]
    simp
  | false =>
    rw [hs] at hk
    simp only [Bool.false_eq_true, if_false] at hk ⊢
    have ps := per_spec hp hi
    by_cases z : k = per p i
    · subst z
      have m : i ∈ (orb p i).take (per p i) := by
        rw [← orb_len hp hi, List.take_length]
        exact self_orb hp hi
      rw [ps.2.2.1]
      simp [m]
    · have hlt : k < per p i := by omega
      have h1 := sn_fresh hp hi hs ((mem_orb hp hi).mpr ⟨k, rfl⟩)
      have h2 : it p k i ∉ (orb p i).take k := fresh_of (orb_nodup hp hi) (orb_get hp hi hlt)
      rw [h1]
      simp [h2, z]
theorem snK_zero (p : List Nat) (i : Nat) : snK p i 0 = (List.range p.length).map fun j => V.bl (sn p i j) := by
  unfold snK
  apply List.map_congr_left
  intro j _
  simp
theorem snK_to {p : List Nat} (hp : IsP p) {i : Nat} (hi : i < p.length) : snK p i (snTo p i) = snK p (i + 1) 0 := by
  rw [snK_zero]
  unfold snK
  apply List.map_congr_left
  intro j _
  congr 1
  unfold snTo
  cases hs : sn p i i with
  | true =>
    rw [sn_seen hp hi hs]
    simp
  | false =>
    rw [sn_succ]
    simp only [Bool.false_eq_true, if_false]
    rw [← orb_len hp hi, List.take_length]
theorem cycF_to {p : List Nat} (hp : IsP p) {i : Nat} (hi : i < p.length) : cycF p (i + 1) = cycF p i ++ if 1 < snTo p i then [(orb p i).take (snTo p i)] else [] := by
  rw [cycF_succ]
  congr 1
  unfold snTo
  cases hs : sn p i i with
  | true => simp
  | false =>
    simp only [Bool.false_eq_true, if_false, Bool.not_false, Bool.true_and, decide_eq_true_eq]
    have e : (orb p i).take (per p i) = orb p i := by rw [← orb_len hp hi, List.take_length]
    rw [e]
theorem snTo_le {p : List Nat} (hp : IsP p) {i : Nat} (hi : i < p.length) : snTo p i ≤ per p i := by
  unfold snTo
  split <;> omega
section
variable {P : Program} {w : World} {K : PySem.W.Frag} {mg : Str → Option Value} {base : Heap}
/-- what cycles hands back -/
def CycAt (H : Hp) (r : Addr) (p : List Nat) : Prop := ∃ ks : List (Addr × List Nat), H r = some (.tup (ks.map fun k => .ref k.1)) ∧ ks.map (·.2) = cyc p ∧ ∀ k ∈ ks, Tp H k.1 k.2
def spCycles : Sp := fun vs H Q _ => ∃ (a : Addr) (p : List Nat), vs = [.ref a] ∧ Tp H a p ∧ IsP p ∧ p.length ≤ 1000 ∧ ∀ H' r, Same H H' → CycAt H' r p → Q (.ref r) H'
theorem scCycles : FnScope ["permutation", "seen", "found", "first", "cycle", "position"] ["permutation"] (defScope sCycles) := ⟨rfl, rfl, rfl, by decide +kernel, rfl, by decide +kernel, by decide +kernel⟩
theorem cal_cycles (T : Txt mg) (GC : Cal P w K mg base "_check" 4 spCkP) (D : Df K mg "cycles" sCycles ["permutation"]) : Cal P w K mg base "cycles" 5 spCycles := by
  have nd := scCycles.nd
  refine cal_of D scCycles (fun vs H Q E h => ?_) (fun f cdv A outer s H vs Q E hr h => ?_)
  · obtain ⟨a, p, rfl, _⟩ := h
    rfl
  · obtain ⟨a, p, rfl, ha, hp, hl, q⟩ := h
    refine ⟨_, pss_cons (ps_expr (pe_cal GC hr (by rfl) (pa_cons (pv 0) pa_nil)))
      <| pss_cons (ps_set (i := 1) nd rfl (.inl rfl) (pe_op op_rep (pe_lst (pa_cons pe_bl pa_nil)) (pe_callB cr_len (by rfl) T.len PySem.boot_len (pa_cons (pv 0) pa_nil))))
      <| pss_cons (ps_set (i := 2) nd rfl (.inl rfl) (pe_lst pa_nil))
      <| pss_cons (ps_for PassesOwn.never rfl (pi_range1 (by rfl) T.range (pa_cons (pe_callB cr_len (by rfl) T.len PySem.boot_len (pa_cons (pv 0) pa_nil)) pa_nil)) (pg_name (i := 3) nd rfl (.inl rfl))
          (pss_cons (ps_set (i := 4) nd rfl (.inl rfl) (pe_lst pa_nil))
          <| pss_cons (ps_set (i := 5) nd rfl (.inl rfl) (pv 3))
          <| pss_cons (ps_while PassesOwn.never (pt_not (pt_val (pe_ix ix_list (pv 1) (pv 5) (fun _ _ => rfl))))
              (pss_cons (ps_asg pe_bl (pg_sub (pv 1) (pv 5) set_list))
              <| pss_cons (ps_expr (pe_bm PySem.F.plainAttrs_list PySem.F.slot_list_append PySem.F.type_list_append mt_append (pv 4) (pa_cons (pv 5) pa_nil)))
              <| pss_one (ps_set (i := 5) nd rfl (.inl rfl) (pe_ix ix_tup (pv 0) (pv 5) (fun _ _ => rfl)))))
          <| pss_one (ps_if (pt_cmpR op_gt (pe_callB cr_len (by rfl) T.len PySem.boot_len (pa_cons (pv 4) pa_nil)) pe_int (nomark _))
              (pss_one (ps_expr (pe_bm PySem.F.plainAttrs_list PySem.F.slot_list_append PySem.F.type_list_append mt_append (pv 2) (pa_cons (pe_callTy call_tuple_of (by rfl) T.tuple (by decide +kernel) (pa_cons (pv 4) pa_nil)) pa_nil)))) pss_nil)))
      <| pss_one (ps_ret (pe_callTy call_tuple_of (by rfl) T.tuple (by decide +kernel) (pa_cons (pv 2) pa_nil))), ?_⟩
    refine ⟨_, rfl, a, p, rfl, ha, hp, hl, fun H1 sm1 => ?_⟩
    refine ⟨by show 1 ≤ sizeLine; decide, fun l0 n0 => ?_⟩
    have sm2 := sm1.trans (same_upd (o := .lst [V.bl false]) n0)
    refine ⟨_, rfl, a, NV p, rfl, .inr (sq_of (sm2 _ _ ha)), l0, _, _, rfl, rfl, upd_same, by rw [NV_len]; omega, by rw [NV_len]; omega, ?_, fun l1 n1 => ?_⟩
    · rw [NV_len]
      show 1 * _ ≤ _
      exact Nat.le_of_lt (small1000 (by omega))
    rw [NV_len, rep_flat]
    have n1' : H l1 = none := sm2.free n1
    have e0 : List.replicate p.length (V.bl false) = snK p 0 0 := by
      rw [snK_zero]
      apply List.ext_getElem?
      intro j
      by_cases hj : j < p.length
      · rw [List.getElem?_map, List.getElem?_range hj, List.getElem?_replicate, if_pos hj]
        rfl
      · rw [List.getElem?_eq_none (by simp; omega), List.getElem?_eq_none (by simp; omega)]
    rw [e0]
    have sm3 := sm2.trans (same_upd (o := .lst (snK p 0 0)) n1)
    refine ⟨Nat.zero_le _, fun l2 n2 => ?_⟩
    have n2' : H l2 = none := sm3.free n2
    have n12 : l1 ≠ l2 := ne_of_none upd_same n2
    have sm4 := sm3.trans (same_upd (o := .lst []) n2)
    refine ⟨_, rfl, a, NV p, rfl, .inr (sq_of (sm4 _ _ ha)), _, rfl, by rw [NV_len]; omega, by rw [NV_len]; omega, ?_⟩
    rw [NV_len, Int.toNat_natCast]
    refine for_it walk_rg0 (fun i σ H' => ∃ v3 v4 v5 ks, σ = [some (.ref a), some (.ref l1), some (.ref l2), v3, v4, v5] ∧ Same H H' ∧ H' l1 = some (.lst (snK p i 0)) ∧ H' l2 = some (.lst (ks.map fun k => .ref k.1)) ∧ ks.map (·.2) = cycF p i ∧ ks.length ≤ i ∧ ∀ k ∈ ks, Tp H' k.1 k.2)
      ⟨none, none, none, ([] : List (Addr × List Nat)), rfl, sm4, by rw [upd_ne n12, upd_same], upd_same, rfl, Nat.le_refl _, fun k hk => nomatch hk⟩ (fun _ _ _ _ _ => trivial) ?_ ?_
    · rintro i x σ _ H2 hi ⟨v3, v4, v5, ks, rfl, sm, hL1, hL2, hks, hkl, hkt⟩ ⟨rfl, rfl⟩
      refine ⟨Nat.zero_le _, fun l3 n3 => ?_⟩
      have n3' : H l3 = none := sm.free n3
      have n13 : l1 ≠ l3 := ne_of_none hL1 n3
      have n23 : l2 ≠ l3 := ne_of_none hL2 n3
      refine ⟨_, rfl, ?_⟩
      refine ⟨fun m σ H' => ∃ k, k + m = snTo p i ∧ σ = [some (.ref a), some (.ref l1), some (.ref l2), some (.int (i : Int)), some (.ref l3), some (.int (it p k i : Nat))] ∧ Same H H' ∧ H' l1 = some (.lst (snK p i k)) ∧ H' l2 = some (.lst (ks.map fun k => .ref k.1)) ∧ H' l3 = some (.lst (NV ((orb p i).take k))) ∧ ∀ k ∈ ks, Tp H' k.1 k.2,
        ⟨snTo p i, 0, by omega, rfl, same_in sm n3', by rw [upd_ne n13]; exact hL1, by rw [upd_ne n23]; exact hL2, upd_same, fun k hk => tp_new (hkt k hk) n3⟩, ?_⟩
      rintro m σ H3 ⟨k, hk, rfl, sm3, h1, h2, h3, h4⟩
      have at_ := snK_at hp hi (k := k) (by omega)
      refine ⟨_, rfl, _, rfl, l1, _, _, _, rfl, rfl, sl_of h1, atI_nat at_, _, rfl, ?_⟩
      by_cases z : k = snTo p i
      · rw [decide_eq_true z]
        refine iteF ?_
        -- the way is closed
        subst z
        have el : ((orb p i).take (snTo p i)).length = snTo p i := by
          rw [List.length_take, orb_len hp hi]
          have := snTo_le hp hi
          omega
        refine ⟨_, rfl, l3, _, rfl, .inl (sl_of h3), _, _, rfl, rfl, _, rfl, ?_⟩
        rw [NV_len, el]
        have hcy := cycF_to hp hi
        rw [snK_to hp hi] at h1
        refine ite2 (fun z => ?_) (fun z => ?_)
        · have z' : 1 < snTo p i := by
            have := of_decide_eq_true z
            omega
          rw [if_pos z'] at hcy
          refine ⟨_, rfl, .inl ⟨rfl, _, sl_of h2⟩, _, rfl, l3, _, rfl, .inl ⟨sl_of h3, fun T0 nT => ?_⟩⟩
          have nT2 : l2 ≠ T0 := ne_of_none h2 nT
          refine ⟨l2, _, _, rfl, rfl, (by rw [upd_ne nT2]; exact h2), ?_, ?_⟩
          · rw [nv_len]
            exact small1000 (by omega)
          · refine ⟨_, _, _, ks ++ [(T0, (orb p i).take (snTo p i))], rfl, ?_, ?_, ?_, ?_, ?_, ?_⟩
            · exact same_in (sm3.trans (same_upd nT)) n2'
            · rw [upd_ne n12, upd_ne (ne_of_none h1 nT)]
              exact h1
            · rw [upd_same, List.map_append]
              rfl
            · rw [List.map_append, hks, hcy]
              rfl
            · rw [List.length_append, List.length_singleton]
              omega
            · intro k hk
              have hl2 : upd H3 T0 (.tup (NV ((orb p i).take (snTo p i)))) l2 = some (.lst (ks.map fun k => .ref k.1)) := by
                rw [upd_ne nT2]
                exact h2
              rcases List.mem_append.mp hk with hk | hk
              · exact tp_upd (tp_new (h4 k hk) nT) hl2
              · rw [List.mem_singleton.mp hk]
                exact tp_upd upd_same hl2
        · have z' : ¬ 1 < snTo p i := fun y => z (decide_eq_true (by omega))
          rw [if_neg z', List.append_nil] at hcy
          exact ⟨_, _, _, ks, rfl, sm3, h1, h2, by rw [hks, hcy], by omega, h4⟩
      · rw [decide_eq_false z]
        refine iteT ⟨fun σ' H' => ∃ σ0, σ0 = σ' ∧ (k + 1) + (m - 1) = snTo p i ∧ σ' = [some (.ref a), some (.ref l1), some (.ref l2), some (.int (i : Int)), some (.ref l3), some (.int (it p (k + 1) i : Nat))] ∧ Same H H' ∧ H' l1 = some (.lst (snK p i (k + 1))) ∧ H' l2 = some (.lst (ks.map fun k => .ref k.1)) ∧ H' l3 = some (.lst (NV ((orb p i).take (k + 1)))) ∧ ∀ k ∈ ks, Tp H' k.1 k.2, ?_, ?_⟩
        · rintro σ' H' ⟨_, _, e, r⟩
          exact ⟨m - 1, by omega, k + 1, e, r⟩
        · have hs : sn p i i = false := by
            cases e : sn p i i with
            | false => rfl
            | true =>
              unfold snTo at hk z
              rw [if_pos e] at hk z
              omega
          have hkp : k < per p i := by
            unfold snTo at hk z
            rw [hs] at hk z
            simp only [Bool.false_eq_true, if_false] at hk z
            omega
          have ib := it_lt hp hi k
          refine ⟨_, rfl, _, rfl, l1, _, _, it p k i, rfl, rfl, h1, ?_, ?_⟩
          · rw [snK_len]
            unfold ixN
            rw [if_pos (by omega), if_pos (by omega)]
            rfl
          rw [snK_set hp hi hkp]
          have n31 : l3 ≠ l1 := n13.symm
          refine ⟨_, rfl, .inl ⟨rfl, _, sl_of (show upd H3 l1 _ l3 = _ by rw [upd_ne n31]; exact h3)⟩, _, rfl, l3, _, _, rfl, rfl, (by rw [upd_ne n31]; exact h3), ?_, ?_⟩
          · rw [NV_len, List.length_take]
            exact Nat.lt_of_le_of_lt (Nat.min_le_right _ _) (small1000 (by rw [orb_len hp hi]; exact Nat.le_trans (per_spec hp hi).2.1 hl))
          have smA : Same H (upd (upd H3 l1 (.lst (snK p i (k + 1)))) l3 (.lst (NV ((orb p i).take k) ++ [V.int (it p k i : Nat)]))) := same_in (same_in sm3 n1') n3'
          refine ⟨_, rfl, _, rfl, a, _, _, _, rfl, rfl, sq_of (smA _ _ ha), atI_nat (NV_get (ap_get ib)), ?_⟩
          refine ⟨_, rfl, by omega, rfl, smA, ?_, ?_, ?_, ?_⟩
          · rw [upd_ne n13, upd_same]
          · rw [upd_ne n23, upd_ne n12.symm]
            exact h2
          · rw [upd_same, ← NV_snoc, List.take_add_one, orb_get hp hi hkp]
            rfl
          · exact fun c hc => tp_upd (tp_upd (h4 c hc) h1) (show upd H3 l1 _ l3 = _ by rw [upd_ne n31]; exact h3)
    · rintro σ H2 ⟨v3, v4, v5, ks, rfl, sm, hL1, hL2, hks, hkl, hkt⟩
      refine ⟨_, rfl, l2, _, rfl, .inl ⟨sl_of hL2, fun r nr => ?_⟩⟩
      exact q _ r (sm.trans (same_upd nr)) ⟨ks, upd_same, hks, fun k hk => tp_new (hkt k hk) nr⟩
end
end Hw

namespace Hw
open PySem PySem.Spec PyProof.Rows L2
section
variable {P : Program} {w : World} {K : PySem.W.Frag} {mg : Str → Option Value} {base : Heap}
def spEven : Sp := fun vs H Q _ => ∃ (a : Addr) (p : List Nat), vs = [.ref a] ∧ Tp H a p ∧ IsP p ∧ p.length ≤ 1000 ∧ ∀ H', Same H H' → Q (.bl (evenP p)) H'
theorem scEven : FnScope ["permutation", "exchanges", "cycle"] ["permutation"] (defScope sEven) := ⟨rfl, rfl, rfl, by decide +kernel, rfl, by decide +kernel, by decide +kernel⟩
theorem cyc_length (p : List Nat) : (cyc p).length ≤ p.length := by
  unfold cyc cycF
  rw [List.length_map]
  exact Nat.le_trans (List.length_filter_le _ _) (by rw [List.length_range]; exact Nat.le_refl _)
theorem cal_even (T : Txt mg) (GC : Cal P w K mg base "cycles" 5 spCycles) (D : Df K mg "is_even" sEven ["permutation"]) : Cal P w K mg base "is_even" 6 spEven := by
  have nd := scEven.nd
  refine cal_of D scEven (fun vs H Q E h => ?_) (fun f cdv A outer s H vs Q E hr h => ?_)
  · obtain ⟨a, p, rfl, _⟩ := h
    rfl
  · obtain ⟨a, p, rfl, ha, hp, hl, q⟩ := h
    refine ⟨_, pss_cons (ps_set (i := 1) nd rfl (.inl rfl) (pe_callB (cr_sum rfl) (by rfl) T.sum (by decide +kernel) (pa_cons (pe_lc (own := [("cycle", 2)]) (g := gName 2) (by rfl) nd (pi_tup (pe_cal GC hr (by rfl) (pa_cons (pv 0) pa_nil)))
        (blkOk_by (own := [("cycle", 2)]) (N := ["permutation", "exchanges", "cycle"]) (sc := defScope sEven) (by decide +kernel)) (fun _ _ _ _ _ => pg_name (i := 2) nd rfl (.inl rfl)) (fun _ _ _ _ _ => pts_nil)
        (fun _ _ _ _ _ => pe_op op_sub (pe_callB (r := rLenS K) cr_len (by rfl) T.len PySem.boot_len (pa_cons (pv 2) pa_nil)) pe_int)) pa_nil)))
      <| pss_one (ps_ret (pe_cmpR op_eq (pe_op op_mod (pv 1) pe_int) pe_int (nomark _))), ?_⟩
    refine ⟨_, rfl, a, p, rfl, ha, hp, hl, fun H1 r sm1 cy => ?_⟩
    obtain ⟨ks, hr1, hk1, hk2⟩ := cy
    have kl : ks.length ≤ 1000 := by
      have := cyc_length p
      rw [← hk1, List.length_map] at this
      omega
    refine ⟨r, rfl, ⟨_, sq_of hr1⟩, fun D nD => lc_it (walk_tup (xs := ks.map fun k => V.ref k.1)) (fun i H' => Same H1 H' ∧ H' D = some (.lst (((ks.take i).map fun k => ((k.2.length : Int) - 1)).map V.int))) ⟨same_upd nD, upd_same⟩ (fun i H' _ ⟨sm, _⟩ => sq_of (sm _ _ hr1)) ?_ ?_⟩
    · rintro i x _ H2 hi ⟨sm, hD⟩ ⟨rfl, hx⟩
      obtain ⟨k, hk, rfl⟩ := refs_get hx
      have tk := hk2 k (List.mem_of_getElem? hk)
      refine ⟨rfl, _, rfl, k.1, NV k.2, rfl, .inr (sq_of (sm _ _ tk)), _, _, rfl, rfl, _, hD, ?_, ?_, ?_⟩
      · rw [List.length_map, List.length_map, List.length_take]
        exact Nat.lt_of_le_of_lt (Nat.min_le_right _ _) (small1000 kl)
      · exact fun b o e => by rw [upd_ne (ne_of_none e nD)]; exact sm _ _ e
      · rw [upd_same, List.take_add_one, hk, List.map_append, List.map_append, NV_len]
        rfl
    · rintro H2 ⟨sm2, hD⟩
      rw [nv_len, List.take_length] at hD
      refine ⟨D, _, rfl, sl_of hD, ?_⟩
      refine ⟨_, rfl, _, _, rfl, rfl, (by show (0 : Int) < 2; decide), rfl, ?_⟩
      have e1 : (ks.map fun k => ((k.2.length : Int) - 1)).sum = ((cyc p).map fun c => (c.length : Int) - 1).sum := by
        rw [← hk1, List.map_map]
        rfl
      have e2 : decide (V.int ((ks.map fun k => ((k.2.length : Int) - 1)).sum % 2) = V.int 0) = evenP p := by
        rw [e1]
        unfold evenP
        congr 1
        simp
      rw [← e2] at q
      exact q _ (sm1.trans sm2)
end
end Hw

/-! What a walk does to the positions. No Python here. -/
namespace Hw
/-- the things after a walk, where thing i begins at i -/
def sgm (es : List Ed) (p : Nat) (ks : List Nat) : List Nat := (runS es (p, List.range (es.length + 1)) ks).2
/-- the effect -/
def eff (es : List Ed) (p : Nat) (ks : List Nat) : List Nat := inv (sgm es p ks)
theorem ap_lmap {p : List Nat} {x : Nat} (f : Nat → Nat) (h : x < p.length) : ap (p.map f) x = f (ap p x) := by
  unfold ap
  rw [List.getD_eq_getElem?_getD, List.getElem?_map, List.getD_eq_getElem?_getD, List.getElem?_eq_getElem h]
  rfl
theorem swp_map {r : List Nat} {e : Nat} (f : Nat → Nat) (he : e < r.length) : swp (r.map f) e = (swp r e).map f := by
  refine ext_ap (by rw [swp_len, List.length_map, List.length_map, swp_len]) fun x hx => ?_
  rw [swp_len, List.length_map] at hx
  have h0 : r.length - 1 < r.length := by omega
  rw [swp_ap (by rw [List.length_map]; exact he) (by rw [List.length_map]; exact hx), List.length_map, ap_lmap f (swi_lt h0 he hx), ap_lmap f (by rw [swp_len]; exact hx), swp_ap he hx]
theorem run_len {es : List Ed} : ∀ (ks : List Nat) (s : Sta), (runS es s ks).2.length = s.2.length
  | [], _ => rfl
  | e :: ks, s => (run_len ks (stpS es s e)).trans (swp_len _ _)
theorem wlk_lt {es : List Ed} : ∀ {ks : List Nat} {p : Nat}, Wlk es p ks → ∀ e ∈ ks, e < es.length
  | [], _, _, e, h => by cases h
  | k :: ks, p, w, e, h => by
    rcases List.mem_cons.mp h with z | z
    · rw [z]; exact (mem_drs.mp w.1).1
    · exact wlk_lt (ks := ks) w.2 e z
/-- a walk moves whatever lies there as it moves the numbers -/
theorem run_map {es : List Ed} (f : Nat → Nat) : ∀ (ks : List Nat) (p : Nat) (r : List Nat), (∀ e ∈ ks, e < r.length) → (runS es (p, r.map f) ks).2 = ((runS es (p, r) ks).2).map f
  | [], _, _, _ => rfl
  | e :: ks, p, r, h => by
    show (runS es (oth (es.getD e (0, 0)) p, swp (r.map f) e) ks).2 = ((runS es (oth (es.getD e (0, 0)) p, swp r e) ks).2).map f
    rw [swp_map f (h e List.mem_cons_self)]
    exact run_map f ks _ _ fun x hx => by rw [swp_len]; exact h x (List.mem_cons_of_mem _ hx)
section
variable {n : Nat} {es : List Ed} {p : Nat} {ks : List Nat}
theorem is_id (hp : p < n) : IsS n es.length (p, List.range (es.length + 1)) := ⟨hp, isP_range _, List.length_range⟩
theorem sgm_len : (sgm es p ks).length = es.length + 1 := by unfold sgm; rw [run_len]; exact List.length_range
theorem sgm_isP (ve : VE n es) (hp : p < n) (w : Wlk es p ks) : IsP (sgm es p ks) := (runS_is ve (is_id hp) w).2.1
theorem run_sgm {q : List Nat} (hq : q.length = es.length + 1) (w : Wlk es p ks) : (runS es (p, q) ks).2 = mul (sgm es p ks) q := by
  have e : q = (List.range (es.length + 1)).map (ap q) := by rw [← hq]; exact (map_ap q).symm
  have := run_map (es := es) (ap q) ks p (List.range (es.length + 1)) fun x hx => by rw [List.length_range]; exact Nat.lt_succ_of_lt (wlk_lt w x hx)
  rw [← e] at this
  exact this
theorem run_sta {q : List Nat} (hq : q.length = es.length + 1) (w : Wlk es p ks) : runS es (p, q) ks = (plcS es p ks, mul (sgm es p ks) q) := Prod.ext (runS_fst es ks (p, q)) (run_sgm hq w)
theorem sgm_app {ls : List Nat} (w : Wlk es p ks) (w2 : Wlk es (plcS es p ks) ls) : sgm es p (ks ++ ls) = mul (sgm es (plcS es p ks) ls) (sgm es p ks) := by
  have h1 : runS es (p, List.range (es.length + 1)) ks = (plcS es p ks, sgm es p ks) := Prod.ext (runS_fst es ks _) rfl
  show (runS es (p, List.range (es.length + 1)) (ks ++ ls)).2 = _
  rw [runS_app, h1]
  exact run_sgm sgm_len w2
theorem inv_mul2 {a b : List Nat} (ha : IsP a) (hb : IsP b) (hl : a.length = b.length) : inv (mul a b) = mul (inv b) (inv a) := by
  refine (inv_of (isP_mul ha hb hl) (by rw [mul_len, inv_len, mul_len, hl]) fun x hx => ?_).symm
  rw [mul_len] at hx
  rw [ap_mul hx]
  have h1 := ap_lt ha hx
  have h2 : ap a x < b.length := by rw [← hl]; exact h1
  have h3 := ap_lt hb h2
  rw [ap_mul (by rw [inv_len]; exact h3), ap_inv hb h2, ap_inv ha hx]
/-- one walk after the other -/
theorem eff_app {ls : List Nat} (ve : VE n es) (hp : p < n) (w : Wlk es p ks) (w2 : Wlk es (plcS es p ks) ls) (hq : plcS es p ks < n) : eff es p (ks ++ ls) = mul (eff es p ks) (eff es (plcS es p ks) ls) := by
  unfold eff
  rw [sgm_app w w2, inv_mul2 (sgm_isP ve hq w2) (sgm_isP ve hp w) (by rw [sgm_len, sgm_len])]
theorem eff_len : (eff es p ks).length = es.length + 1 := by unfold eff; rw [inv_len, sgm_len]
theorem eff_isP (ve : VE n es) (hp : p < n) (w : Wlk es p ks) : IsP (eff es p ks) := isP_inv (sgm_isP ve hp w)
theorem inv_range (m : Nat) : inv (List.range m) = List.range m := by
  refine (inv_of (isP_range m) rfl fun x hx => ?_).symm
  rw [List.length_range] at hx
  rw [ap_range hx, ap_range hx]
theorem eff_nil : eff es p [] = List.range (es.length + 1) := inv_range _
/-- a step -/
theorem sgm_one {e : Nat} (he : e < es.length) : sgm es p [e] = sw (es.length + 1) e es.length := by
  show swp (List.range (es.length + 1)) e = _
  refine ext_ap (by rw [swp_len, List.length_range, sw_len]) fun x hx => ?_
  rw [swp_len, List.length_range] at hx
  have l0 : (List.range (es.length + 1)).length - 1 = es.length := by rw [List.length_range]; rfl
  rw [swp_ap (by rw [List.length_range]; omega) (by rw [List.length_range]; exact hx), l0, ap_sw hx, ap_range (swi_lt (Nat.lt_succ_self _) (Nat.lt_succ_of_lt he) hx)]
  unfold swi swF
  by_cases h1 : x = es.length
  · subst h1
    rw [if_pos rfl, if_neg (by omega), if_pos rfl]
  · rw [if_neg h1]
    by_cases h2 : x = e
    · rw [if_pos h2, if_pos h2]
    · rw [if_neg h2, if_neg h2, if_neg h1]
theorem even_one {e : Nat} (hl : es.length ≤ 16) (he : e < es.length) : evenP (sgm es p [e]) = false := by
  rw [sgm_one he, even_sw (by omega) (by omega) (by omega), decide_eq_false (by omega)]
/-- a walk is even as its number of steps -/
theorem even_sgm (ve : VE n es) (hl : es.length ≤ 16) (hp : p < n) : ∀ {ks : List Nat}, Wlk es p ks → evenP (sgm es p ks) = decide (ks.length % 2 = 0) := by
  intro ks
  suffices h : ∀ j, j ≤ ks.length → Wlk es p ks → evenP (sgm es p (ks.take j)) = decide (j % 2 = 0) by
    intro w
    have := h ks.length (Nat.le_refl _) w
    rwa [List.take_length] at this
  intro j
  induction j with
  | zero =>
    intro _ _
    show evenP (List.range (es.length + 1)) = true
    rw [even_sgn (isP_range _) (by rw [List.length_range]; omega), invs_range_all _ (by omega)]
    rfl
  | succ j ih =>
    intro hj w
    have i1 := ih (by omega) w
    obtain ⟨e, he⟩ : ∃ e, ks[j]? = some e := ⟨ks[j], List.getElem?_eq_getElem (by omega)⟩
    have wt : Wlk es p (ks.take j) := (wlk_app.mp (show Wlk es p (ks.take j ++ ks.drop j) by rw [List.take_append_drop]; exact w)).1
    have hd := wlk_get w he
    have hel := (mem_drs.mp hd).1
    have w2 : Wlk es (plcS es p (ks.take j)) [e] := ⟨hd, trivial⟩
    have hq : plcS es p (ks.take j) < n := by
      rw [← runS_fst es (ks.take j) (p, List.range (es.length + 1))]
      exact (runS_is ve (is_id hp) wt).1
    have et : ks.take (j + 1) = ks.take j ++ [e] := by rw [List.take_add_one, he]; rfl
    rw [et, sgm_app wt w2, even_mul (sgm_isP ve hq w2) (sgm_isP ve hp wt) (by rw [sgm_len, sgm_len]) (by rw [sgm_len]; omega), even_one hl hel, i1]
    by_cases z : j % 2 = 0
    · rw [decide_eq_true z, decide_eq_false (by omega)]
      rfl
    · rw [decide_eq_false z, decide_eq_true (by omega)]
      rfl
theorem even_eff (ve : VE n es) (hl : es.length ≤ 16) (hp : p < n) (w : Wlk es p ks) : evenP (eff es p ks) = decide (ks.length % 2 = 0) := by
  unfold eff
  rw [even_inv (sgm_isP ve hp w) (by rw [sgm_len]; omega)]
  exact even_sgm ve hl hp w
/-- there and back -/
theorem eff_there (ve : VE n es) (hp : p < n) (w : Wlk es p ks) {q : List Nat} (hq : q.length = es.length + 1) {x : Nat} (hx : x < es.length + 1) : ap (runS es (p, q) ks).2 (ap (eff es p ks) x) = ap q x := by
  have hs := sgm_isP ve hp w
  have h1 : ap (eff es p ks) x < (sgm es p ks).length := by
    have := ap_lt (eff_isP ve hp w) (x := x) (by rw [eff_len]; exact hx)
    rw [eff_len] at this
    rw [sgm_len]; exact this
  rw [run_sgm hq w, ap_mul h1]
  have := ap_inv' hs (y := x) (by rw [sgm_len]; exact hx)
  unfold eff
  rw [this]
end
end Hw

/-! A def with a star parameter that is called by the names of its other parameters. -/
namespace Hw
open PySem PySem.Spec PyProof.Rows L2
section
variable {P : Program} {w : World} {K : PySem.W.Frag} {mg : Str → Option Value} {base : Heap}
/-- what such a call promises -/
def FnRK (P : Program) (w : World) (K : PySem.W.Frag) (mg : Str → Option Value) (base : Heap) (k : Nat) (f : Addr) (ks : List Str) (sp : Sp) : Prop :=
  ∀ (A : Around) (outer : List Env) (s : Shared) (H : Hp) (us : List Value) (vs : List V) (Q : VK) (E : XK), Room k A → Env0 P w K mg base A outer s H → Vals vs us → vs.length = ks.length → sp vs H Q E →
    codeAny (model P w) A (.call (.ref f) ⟨[], ks.zip us⟩) (CR CX0 outer P w H s Q E) s
theorem fn_starK {k : Nat} {f : Addr} {oc : Value} {od an : Option Addr} {osl : Array (Option Value)} {kV doc pm cdv ct dV : Value} {name qual : Str} {params : Arguments} {body : List Stmt} {scope : Scope} {N ps : List Str} {sp : Sp} {pv : Str} {ks : List Str}
    (lk : K.lookup f = some ⟨oc, od, .func (PySem.W.fnOf name qual params body scope dV kV doc pm an cdv ct), osl⟩) (hcd : PySem.W.codeIn K cdv qual = true) (S : FnScope N (ps ++ [pv]) scope) (hkl : ks.length = ps.length)
    (hb : ∀ us : List Value, us.length = ps.length → bindArgs (PySem.W.fnOf name qual params body scope dV kV doc pm an cdv ct) ⟨[], ks.zip us⟩ = (newTuple [] >>= fun t => pure (ps.zip us ++ [(pv, t)])))
    (hbody : ∀ (A : Around) (outer : List Env) (s : Shared) (H : Hp) (vs : List V) (Q : VK) (E : XK), Room k (A.deeper (envOfC qual scope s.heap.objs.size f cdv)) → sp vs H Q E →
      ∃ t, PSs (cxOf CX0 P w K mg base N qual scope f cdv A outer s H E) body t ∧ t { nx := fun _ H' => Q .non H', rt := Q } (start N vs) H) :
    FnRK P w K mg base (k + 1) f ks (fun vs H Q E => ∀ p, H p = Option.none → sp (vs ++ [V.ref p]) (upd H p (.tup [])) Q E) := by
  intro A outer s H us vs Q E hr e0 r hl hq
  have hn : H s.heap.objs.size = Option.none := e0.hok.fresh (Nat.le_refl _)
  have hl0 : vs.length = ps.length := hl.trans hkl
  have hl1 : us.length = ps.length := by rw [← r.length]; exact hl0
  refine StX.run_bnd lk hcd S hr e0 (G := fun xs H2 => ∃ p, H p = Option.none ∧ xs = vs ++ [V.ref p] ∧ H2 = upd H p (.tup [])) (fun A' Ex Q' h => ?_) fun s2 H2 xs ⟨p, hp, ex, eH⟩ hr' => ?_
  · rw [hb us hl1]
    refine wpAny_bind (wpAny_newTuple (wpAny_pure ?_) (Nat.zero_le _))
    have new : ObjOk P w (upd H s.heap.objs.size (.tup [])) (s.heap.push ({ cls := .type "tuple", data := .seq ([] : List Value).toArray } : Obj)) s.heap.objs.size (.tup []) := ⟨Nat.zero_le _, [], .nil, ⟨_, Heap.get?_push_size _ rfl, rfl, _, rfl⟩⟩
    have un := StX.un_laid (fs := frs outer) (s := s) (o := ({ cls := .type "tuple", data := .seq ([] : List Value).toArray } : Obj)) (u := .tup []) hn
    have z := h _ _ (vs ++ [V.ref s.heap.objs.size]) (us ++ [Value.ref s.heap.objs.size]) (StX.env0_laid e0 new) un rfl (fun e s' z => z) (r.append (.cons rfl .nil))
      (by rw [List.length_append, List.length_append, hl0] <;> rfl) ⟨_, hn, rfl, rfl⟩
    rw [List.zip_append hl1.symm] at z
    exact z
  · subst ex eH
    exact hbody A outer s2 _ _ Q E hr' (hq p hp)
/-- such a def, by its name -/
structure CalK (P : Program) (w : World) (K : PySem.W.Frag) (mg : Str → Option Value) (base : Heap) (x : Str) (k : Nat) (ks : List Str) (sp : Sp) : Prop where
  ex : ∃ f : Addr, mg x = some (.ref f) ∧ PySem.W.keepIn K (.ref f) = true ∧ FnRK P w K mg base k f ks sp
end
section
variable {X : Cx}
theorem pe_calK {k : Nat} {sp : Sp} {ks : List Str} {x : Str} {p pos : Pos} {kws : List Keyword} {tk : TA} (c : CalK X.prog X.w X.K X.mg X.base x k ks sp) (hr : Room k X.A) (hg : Gl X x) (hkw : PK X kws tk) (hdb : (x == ("__debug__" : Str)) = false := by decide)
    (hall : (backToKw pos (keywordEach kws X.env)).all (·.1.isSome) = true := by rfl) (hks : (backToKw pos (keywordEach kws X.env)).filterMap (·.1) = ks := by rfl)
    (hpl : ((backTo pos (starEach [] X.env)).any (·.1) || (backToKw pos (keywordEach kws X.env)).any (·.1.isNone)) = false := by rfl) :
    PE X (.Call (.Name x p) [] kws pos) (fun σ H Q => tk σ H fun zs H2 => zs.length = ks.length ∧ sp zs H2 Q E0) := by
  obtain ⟨f, hm, hk, F⟩ := c.ex
  refine ⟨fun pins s σ H Q I h => wpAny_Call_Name_kw (ld_glob I hg hm ?_ hdb)⟩
  refine PySem.W.callWith_KW0 (first := []) (h₀ := X.base) I.ok.mod.kin hk hall ?_ hpl
  refine thn (hkw.run pos pins s σ H _ I h) fun ws s2 ⟨zs, H2, I2, rz, l2, q2⟩ => ⟨I2.kIn, ?_⟩
  rw [hks]
  refine wpAny_call (codeAny_mono (F X.A X.stack s2 H2 ws zs Q E0 hr I2.env0 rz l2 q2) fun r s' hq => ?_)
  cases r with
  | error e => exact False.elim hq
  | ok fl =>
    cases fl with
    | ret u => exact I2.after hq
    | next => exact False.elim hq
    | brk => exact False.elim hq
    | cont => exact False.elim hq
end
end Hw

namespace Hw
open PySem PySem.Spec PyProof.Rows L2 ClX
theorem eff_back {n : Nat} {es : List Ed} {p : Nat} {ks : List Nat} (ve : VE n es) (hp : p < n) (w : Wlk es p ks) : eff es (plcS es p ks) ks.reverse = inv (eff es p ks) := by
  have b := back_walk ve (is_id (es := es) hp) w
  rw [runS_fst] at b
  have hq : plcS es p ks < n := by
    rw [← runS_fst es ks (p, List.range (es.length + 1))]
    exact (runS_is ve (is_id hp) w).1
  have e1 : sgm es p (ks ++ ks.reverse) = List.range (es.length + 1) := by
    unfold sgm
    rw [runS_app, b.2]
  rw [sgm_app w b.1] at e1
  have ha := sgm_isP ve hq b.1
  have hb := sgm_isP ve hp w
  have e2 : sgm es (plcS es p ks) ks.reverse = inv (sgm es p ks) := by
    have : mul (mul (sgm es (plcS es p ks) ks.reverse) (sgm es p ks)) (inv (sgm es p ks)) = mul (List.range (es.length + 1)) (inv (sgm es p ks)) := by rw [e1]
    rw [mul_assoc' ha (by rw [sgm_len, sgm_len]), mul_inv hb, mul_range_left (by rw [inv_len, sgm_len]), mul_range_right ha (by rw [sgm_len, sgm_len])] at this
    exact this
  unfold eff
  rw [e2]
theorem eff_twice {n : Nat} {es : List Ed} {p e : Nat} (ve : VE n es) (hp : p < n) (he : e ∈ drs es p) : mul (eff es p [e]) (eff es p [e]) = List.range (es.length + 1) := by
  have w : Wlk es p [e] := ⟨he, trivial⟩
  have h := eff_back ve hp w
  have el := (mem_drs.mp he).1
  have e1 : eff es (plcS es p [e]) ([e] : List Nat).reverse = eff es p [e] := by
    unfold eff
    show inv (sgm es (plcS es p [e]) [e]) = _
    rw [sgm_one el, sgm_one el]
  rw [e1] at h
  have := mul_inv (eff_isP ve hp w)
  rw [← h, eff_len] at this
  exact this
section
variable {P : Program} {w : World} {K : PySem.W.Frag} {mg : Str → Option Value} {base : Heap}
def spEff0 (C : Addr) : Sp := fun vs H Q _ => ∃ (x t : Addr) (p n : Nat) (es : List Ed) (ks : List Nat), vs = [.ref x, .int (p : Int), .ref t] ∧ NetAt5 C H x n es ∧ NetX C H x n es ∧ VE n es ∧ p < n ∧ Tp H t ks ∧ Wlk es p ks ∧ es.length ≤ 16 ∧ ks.length < 100000 ∧
  ∀ H' r, Same H H' → Tp H' r (eff es p ks) → Q (.ref r) H'
def spEff (C : Addr) : Sp := fun vs H Q _ => ∃ (x : Addr) (p n : Nat) (es : List Ed) (ks : List Nat), vs = [.ref x, .int (p : Int)] ++ NV ks ∧ NetAt5 C H x n es ∧ NetX C H x n es ∧ VE n es ∧ p < n ∧ Wlk es p ks ∧ es.length ≤ 16 ∧ ks.length < 100000 ∧
  ∀ H' r, Same H H' → Tp H' r (eff es p ks) → Q (.ref r) H'
def spEffK (C : Addr) : Sp := fun vs H Q _ => ∃ (x : Addr) (p n : Nat) (es : List Ed), vs = [.ref x, .int (p : Int)] ∧ NetAt5 C H x n es ∧ NetX C H x n es ∧ VE n es ∧ p < n ∧ es.length ≤ 16 ∧
  ∀ H' r, Same H H' → Tp H' r (eff es p []) → Q (.ref r) H'
abbrev nEf : List Str := ["network", "place", "steps", "_", "things", "first", "arrived"]
theorem scEf : FnScope nEf (([("network" : Str), "place"] : List Str) ++ [("steps" : Str)]) (defScope sEffectP) := ⟨rfl, rfl, rfl, by decide +kernel, rfl, by decide +kernel, by decide +kernel⟩
structure EfC (P : Program) (w : World) (K : PySem.W.Frag) (mg : Str → Option Value) (base : Heap) (C : Addr) : Prop where
  cl : Cls K C
  pl : PrG P w K mg base C "places" "_places"
  st : PrG P w K mg base C "start" "_start"
  index : Cal P w K mg base "is_index" 2 spIndex
  inv : Cal P w K mg base "inverse" 5 spInverse
  af : Cal P w K mg base "after" 7 (spAfter C)
theorem body_effect {C : Addr} (T : Txt mg) (G : EfC P w K mg base C) {f : Addr} {cdv : Value} {A : Around} {outer : List Env} {s0 : Shared} {H : Hp} {vs : List V} {Q : VK} {E : XK} (hr : Room 7 (A.deeper (envOfC "effect" (defScope sEffectP) s0.heap.objs.size f cdv))) (h : spEff0 C vs H Q E) :
    ∃ t, PSs (cxOf CX0 P w K mg base nEf "effect" (defScope sEffectP) f cdv A outer s0 H E) (defBody sEffectP) t ∧ t { nx := fun _ H' => Q .non H', rt := Q } (start nEf vs) H := by
  have nd := scEf.nd
  obtain ⟨x, t, p, n, es, ks, rfl, net, nx, ve, hp, ht, wl, hl, kl, q⟩ := h
  have hr2 := hr.mono (show 2 ≤ 7 by decide)
  have hr5 := hr.mono (show 5 ≤ 7 by decide)
  obtain ⟨fa, ma, ka, Fa⟩ := G.af.ex
  refine ⟨_, PSs.nox (pss_cons (ps_if (pt_not (pt_val (pe_cl G.index hr2 (by rfl) (pa_cons (pv 1) (pa_cons (pe_prp G.pl G.cl hr2 (pv 0)) pa_nil))))) (pss_one ps_never) pss_nil)
    <| pss_cons (ps_asg (pe_prp G.st G.cl hr2 (pv 0)) (pg_tup rfl (pgs_cons (pg_name (i := 3) nd rfl (.inl rfl)) (pgs_cons (pg_name (i := 4) nd rfl (.inl rfl)) pgs_nil))))
    <| pss_cons (ps_set (i := 5) nd rfl (.inl rfl) (pe_tup (pa_cons (pv 1) (pa_cons (pv 4) pa_nil))))
    <| pss_cons (ps_asg (StX.pe_callS2 Fa hr ka (by rfl) ma pass0 (pa_cons (pv 0) (pa_cons (pv 5) (StX.pa_star (pv 2) pa_nil)))) (pg_tup rfl (pgs_cons (pg_name (i := 3) nd rfl (.inl rfl)) (pgs_cons (pg_name (i := 6) nd rfl (.inl rfl)) pgs_nil))))
    <| pss_one (ps_ret (pe_cl G.inv hr5 (by rfl) (pa_cons (pv 6) pa_nil)))), ?_⟩
  obtain ⟨dx, fs, aa, ee, h1, h2, h3, h4, h5, h6, h7⟩ := id net
  obtain ⟨dx', fs', sa, ta, ba, ca, g1, g2, g3, g4, g5, g6, g7, g8⟩ := id nx
  have e : decide (0 ≤ (p : Int) ∧ (p : Int) < (n : Int)) = true := decide_eq_true ⟨by omega, by omega⟩
  refine ⟨_, rfl, _, rfl, x, dx, fs, _, rfl, h1, h2, _, _, rfl, _, rfl, ?_⟩
  rw [e]
  refine iteF ?_
  refine ⟨_, rfl, x, dx', fs', _, rfl, g1, g2, sa, _, rfl, sq_of g5, rfl, _, _, rfl, _, _, rfl, rfl, ?_⟩
  refine ⟨_, rfl, _, rfl, (show 2 ≤ sizeLine by decide), fun t1 nt1 => ?_⟩
  have s1 := same_upd (o := .tup [V.int (p : Int), V.ref ta]) nt1
  have st1 : StT (upd H t1 (.tup [V.int (p : Int), V.ref ta])) t1 (p, List.range (es.length + 1)) := ⟨ta, upd_same, s1 _ _ g6⟩
  have ht1 := s1 _ _ ht
  have net1 := net.same s1
  generalize upd H t1 (.tup [V.int (p : Int), V.ref ta]) = H1 at *
  refine ⟨_, rfl, _, rfl, _, rfl, t, NV ks, rfl, .inl (sq_of ht1), ?_⟩
  refine ⟨x, t1, n, es, (p, List.range (es.length + 1)), ks, by rw [List.append_nil]; rfl, net1, ve, st1, is_id hp, wl, hl, kl, fun H2 r s2 st2 => ?_⟩
  obtain ⟨q2, k1, k2⟩ := st2
  refine ⟨r, _, rfl, sq_of k1, rfl, _, _, rfl, _, _, rfl, rfl, ?_⟩
  refine ⟨_, rfl, q2, sgm es p ks, rfl, k2, sgm_isP ve hp wl, by rw [sgm_len]; omega, fun H3 r' s3 tp => q H3 r' ((s1.trans s2).trans s3) tp⟩
theorem cal_eff {C : Addr} (T : Txt mg) (G : EfC P w K mg base C) (D : DfS K mg "effect" sEffectP) : Cal P w K mg base "effect" 8 (spEff C) := by
  obtain ⟨f, fd, F, g⟩ := D.ex
  obtain ⟨oc, od, kV, doc, pm, an, cdv, ct, osl, rfl, lk, hcd⟩ := F.ex
  have R := StX.fn_star (P := P) (w := w) (K := K) (mg := mg) (base := base) (CX := CX0) (k := 7) (ps := ["network", "place"]) (pv := "steps") (sp := spEff0 C) lk hcd scEf StX.cxUp_none
    (StX.bind_star2 (B := fun l => bindArgs (PySem.W.fnOf "effect" "effect" (defArgs sEffectP) (defBody sEffectP) (defScope sEffectP) .none kV doc pm an cdv ct) ⟨l, []⟩) (p1 := "network") (p2 := "place") (pv := "steps") (fun a b => rfl) (fun a b r rs => by kernel_rfl))
    (fun A outer s0 H vs Q E hr h => body_effect T G hr h)
  refine ⟨f, g, F.kp, R.imp ?_⟩
  rintro vs H Q E ⟨x, p, n, es, ks, rfl, net, nx, ve, hp, wl, hl, kl, q⟩
  refine ⟨[.ref x, .int (p : Int)], NV ks, rfl, rfl, by rw [NV_len]; exact Nat.le_trans (Nat.le_of_lt kl) (by decide), fun t nt => ?_⟩
  have z := same_upd (o := .tup (NV ks)) nt
  exact ⟨x, t, p, n, es, ks, rfl, net.same z, nx.same z, ve, hp, upd_same, wl, hl, kl, fun H' r sm => q H' r (z.trans sm)⟩
theorem cal_effK {C : Addr} (T : Txt mg) (G : EfC P w K mg base C) (D : DfS K mg "effect" sEffectP) : CalK P w K mg base "effect" 8 ["network", "place"] (spEffK C) := by
  obtain ⟨f, fd, F, g⟩ := D.ex
  obtain ⟨oc, od, kV, doc, pm, an, cdv, ct, osl, rfl, lk, hcd⟩ := F.ex
  have R := fn_starK (P := P) (w := w) (K := K) (mg := mg) (base := base) (k := 7) (ps := ["network", "place"]) (pv := "steps") (ks := ["network", "place"]) (sp := spEff0 C) lk hcd scEf rfl
    (fun us hl => match us, hl with | [_, _], _ => by kernel_rfl)
    (fun A outer s0 H vs Q E hr h => body_effect T G hr h)
  refine ⟨f, g, F.kp, fun A outer s H us vs Q E hr e0 r hl h => R A outer s H us vs Q E hr e0 r hl fun t nt => ?_⟩
  obtain ⟨x, p, n, es, rfl, net, nx, ve, hp, hl2, q⟩ := h
  have z := same_upd (o := .tup []) nt
  exact ⟨x, t, p, n, es, [], rfl, net.same z, nx.same z, ve, hp, upd_same, trivial, hl2, (show 0 < 100000 by decide), fun H' r sm => q H' r (z.trans sm)⟩
end
end Hw

/-! t.index(i) of a tuple of integers. -/
namespace Hw
open PySem PySem.Spec PyProof.Rows L2
theorem flat_ints (ys : List Int) : (ys.map V.int).all flatV = true := by
  rw [List.all_map]
  exact List.all_eq_true.mpr fun _ _ => rfl
/-- the first place at which z stands -/
def rTupIx (K : PySem.W.Frag) : V → List V → Hp → VK → Prop := fun x xs H Q => ∃ (p : Addr) (ys : List Int) (z : Int) (j : Nat), x = .ref p ∧ xs = [.int z] ∧ SqT K H p (ys.map V.int) ∧ ys[j]? = some z ∧ (∀ m, m < j → ys[m]? ≠ some z) ∧ Q (.int (j : Nat)) H
theorem mt_tup_ix {X : Cx} : MtR X "tuple.index" (rTupIx X.K) := by
  intro pins st σ H x xs v us Q I rx rs h
  obtain ⟨p, ys, z, j, rfl, rfl, hq, hy, hno, q⟩ := h
  cases rx
  obtain ⟨u, rfl, t, rfl⟩ := vals1 rs
  obtain ⟨its, r, pl, hz⟩ := I.tuple hq
  obtain ⟨⟨cls, dd, dt, sl⟩, ho, hc, n, hd⟩ := pl
  simp only at hc hd
  subst hc
  subst hd
  have many : its.toArray.size = ys.length := by rw [List.size_toArray, ← r.length, List.length_map]
  have inside : j < its.toArray.size := by rw [many]; exact (List.getElem?_eq_some_iff.mp hy).1
  have stands : ∀ (m : Nat) (hm : m < its.toArray.size), ∃ y t', ys[m]? = some y ∧ its.toArray[m] = Value.int y t' := by
    intro m hm
    have hm' : m < ys.length := by rw [← many]; exact hm
    obtain ⟨w, hw, t', hw'⟩ := r.get (i := m) (x := .int ys[m]) (by simp [hm'])
    refine ⟨ys[m], t', List.getElem?_eq_getElem hm', ?_⟩
    have same := (List.getElem?_eq_some_iff.mp hw).2
    rw [← hw', ← same]
    simp
  have found := TI.tuple_indexAt p its.toArray n dd sl (.int z t) (eqU (.int z)) j inside
    (by
      obtain ⟨y, t', h1, h2⟩ := stands j inside
      rw [hy] at h1
      cases h1
      rw [h2]
      show (z == z) = true
      exact beq_self_eq_true z)
    (by
      intro m hm hmj
      obtain ⟨y, t', h1, h2⟩ := stands m hm
      rw [h2]
      show (y == z) = false
      exact beq_eq_false_iff_ne.mpr fun same => hno m hmj (same ▸ h1))
  exact call_meets PySem.F.slot_tuple_index ⟨_, ho, rfl⟩ PySem.F.entry_tuple_index (PySem.F.args_tuple_index_2 _ _) found
    ⟨ho, fun w hw => mem_eqAt (x := .int z) ⟨t, rfl⟩ rfl r (flat_ints ys) w (by simpa using hw), ⟨.int (j : Nat), H, I.tok _, ⟨_, rfl⟩, q⟩⟩
end Hw

/-! Tuples that are known to have no dict of their own, and their methods. -/
namespace Hw
open PySem PySem.Spec PyProof.Rows L2
/-- a tuple without a dict of its own -/
def FrT (H : Hp) (a : Addr) (xs : List V) : Prop := ∃ o : Obj, H a = some (.frz o (.tup xs)) ∧ o.cls = .type "tuple" ∧ o.dict = none
abbrev TpF (H : Hp) (a : Addr) (p : List Nat) : Prop := FrT H a (NV p)
theorem FrT.same {H H' : Hp} {a : Addr} {xs : List V} (h : FrT H a xs) (z : Same H H') : FrT H' a xs := by
  obtain ⟨o, e, r⟩ := h
  exact ⟨o, z _ _ e, r⟩
theorem FrT.sq {K : PySem.W.Frag} {H : Hp} {a : Addr} {xs : List V} (h : FrT H a xs) : SqT K H a xs := by
  obtain ⟨o, e, _⟩ := h
  exact .inl (.inr ⟨o, e⟩)
/-- a new tuple, made of a list -/
def rTupF (K : PySem.W.Frag) : List V → Hp → VK → Prop := fun xs H Q => ∃ p ys, xs = [.ref p] ∧ SqL K H p ys ∧ ∀ l o, H l = none → o.cls = .type "tuple" → o.dict = none → Q (.ref l) (upd H l (.frz o (.tup ys)))
section
variable {X : Cx}
theorem call_tuple_ofF : CallR X (.type "tuple") (rTupF X.K) := by
  intro pins st σ H xs us Q I r h
  obtain ⟨p, ys, rfl, hq, q⟩ := h
  obtain ⟨u, rfl, rx⟩ := vals1 r
  cases rx
  obtain ⟨its, rl, pl, hz⟩ := I.list hq
  have many := rl.length
  refine call_tuple_list pl.isList (fun h' kp => ?_) (by simp only [List.size_toArray] <;> omega)
  have J1 : L2.Inv X pins σ H { st with heap := h' } := I.kept (t' := st.toks) kp
  have made : (h'.push { cls := .type "tuple", data := .seq its.toArray }).get? h'.objs.size = some ({ cls := .type "tuple", data := .seq its.toArray } : Obj) := Heap.get?_push_size _ rfl
  have J2 : L2.Inv X pins σ (upd H h'.objs.size (.frz { cls := .type "tuple", data := .seq its.toArray } (.tup ys))) { st with heap := h'.push { cls := .type "tuple", data := .seq its.toArray } } :=
    J1.laid (t' := st.toks) (fun b o e => Heap.get?_push_of_some _ e) (Nat.le_refl _) ⟨made, hz, its, rl, IsTup.new _ _⟩
  exact ⟨.ref h'.objs.size, _, J2, rfl, q _ _ (J1.hok.fresh (Nat.le_refl _)) rfl rfl⟩
/-- tuple(range(..)) -/
def tTupRgF (te : L2.St → Hp → (Int → Int → Hp → Prop) → Prop) : TE := fun σ H Q => te σ H fun a b H1 => RgOk a b ∧ ∀ l o, H1 l = none → o.cls = .type "tuple" → o.dict = none → Q (.ref l) (upd H1 l (.frz o (.tup (rgV a b))))
theorem pe_tupRgF {e : Expr} {te : L2.St → Hp → (Int → Int → Hp → Prop) → Prop} {p pos : Pos} (hc : X.calm = true) (hg : Gl X "tuple") (hm : X.mg "tuple" = none) (he : PRg X e te) (na : starEach [e] X.env = (false, eval e X.env) :: starEach [] X.env := by rfl) :
    PE X (.Call (.Name "tuple" p) [e] [] pos) (tTupRgF te) := by
  constructor
  intro pins st σ H Q I want
  refine Call_ (ld_blt I hg hm boot_tuple (PyProof.Rows.callWith_type1 (args_cons (thn (he pins st σ H _ I want) fun x s1 ⟨r, a, b, t, u, v, H1, ex, hr, J1, ok, q⟩ => args_nil ?_) na) na))
  subst ex
  obtain ⟨b1, b2, b3, b4, b5⟩ := ok
  refine call_tuple_range (n := (b - a).toNat) (J1.ok.hd hc) hr (small_one b1 b2 b3 b4) (rangeSize_nat a b) b5 fun h' tk acc hk hi => ?_
  have J2 : L2.Inv X pins σ H1 { s1 with heap := h', toks := tk } := J1.kept hk
  have fits : (rgV a b).length ≤ sizeLine := by rw [rgV_length, sizeLine_eq]; omega
  have made : (h'.push { cls := .type "tuple", data := .seq acc }).get? h'.objs.size = some ({ cls := .type "tuple", data := .seq acc } : Obj) := Heap.get?_push_size _ rfl
  have new : ObjOk X.prog X.w (upd H1 h'.objs.size (.frz { cls := .type "tuple", data := .seq acc } (.tup (rgV a b)))) (h'.push { cls := .type "tuple", data := .seq acc }) h'.objs.size (.frz { cls := .type "tuple", data := .seq acc } (.tup (rgV a b))) :=
    ⟨made, fits, acc.toList, vals_rg hi, by rw [Array.toArray_toList]; exact IsTup.new _ _⟩
  exact ⟨.ref h'.objs.size, _, J2.laid (t' := tk) (fun c o e => Heap.get?_push_of_some _ e) (Nat.le_refl _) new, rfl, q _ _ (J2.hok.fresh (Nat.le_refl _)) rfl rfl⟩
/-- t.m(..) of such a tuple -/
def tBMF (r : V → List V → Hp → VK → Prop) (to : TE) (t : TA) : TE := fun σ H Q => to σ H fun x H1 => (∃ p xs, x = .ref p ∧ FrT H1 p xs) ∧ t σ H1 fun xs H2 => r x xs H2 Q
theorem pe_bmF {o e : Expr} {es : List Expr} {to : TE} {t : TA} {name : Str} {apos cpos : Pos} {id : String} {r : V → List V → Hp → VK → Prop} (slot : Slot "tuple" name id) (hty : typeOf (.builtin id) = pure (.type "method_descriptor")) (hm : MtR X id r) (ho : PE X o to) (ha : PA X (e :: es) t)
    (hbase : attributeBase o name X.env (eval o X.env) = eval o X.env := by rfl)
    (hfew : ((backTo cpos (starEach (e :: es) X.env)).all (fun x => !x.1) && (backToKw cpos (keywordEach [] X.env)).all (fun x => x.1.isSome)
      && decide ((e :: es).length + ([] : List Keyword).length + (if ([] : List Keyword).isEmpty then 0 else 1) < 30)) = true := by rfl)
    (hline : (apos.endLine == cpos.line) = true := by rfl) (hs : starEach (e :: es) X.env = (false, eval e X.env) :: starEach es X.env := by rfl) (hplain : (backTo cpos (starEach es X.env)).any (·.1) = false := by rfl) :
    PE X (.Call (.Attribute o name apos) (e :: es) [] cpos) (tBMF r to t) := by
  constructor
  intro pins st σ H Q I want
  refine wpAny_Call_method_late hbase hfew hline rfl (thn (ho.run pins st σ H _ I want) fun v s1 ⟨x, H1, J1, r1, ⟨p, xs, ex, o1, eo, ec, ed⟩, q1⟩ => ?_)
  subst ex
  obtain rfl : v = Value.ref p := r1
  have there := (J1.hok p _ eo).1
  refine ⟨"tuple", id, PySem.F.plainAttrs_tuple, slot, hty, ⟨o1, there, ec⟩, fun a ea => ?_, ?_⟩
  · obtain rfl : p = a := Value.ref.inj ea
    exact ⟨o1, there, ed⟩
  have hA := ha.run cpos pins s1 σ H1 _ J1 q1
  rw [hs] at hA ⊢
  refine Calls.callWith_builtin (by show (false || (backTo cpos (starEach es X.env)).any (·.1)) = false; rw [hplain] <;> rfl) (Calls.evalArgs_plain ?_)
  exact thn hA fun us s2 ⟨vs, H2, J2, r2, q2⟩ => hm pins s2 σ H2 (.ref p) vs (.ref p) us Q J2 rfl r2 q2
end
end Hw

namespace Hw
open PySem PySem.Spec PyProof.Rows L2 ClX
/-- a state whose things have no dict of their own -/
def StF (H : Hp) (t : Addr) (s : Sta) : Prop := ∃ q, H t = some (.tup [.int (s.1 : Int), .ref q]) ∧ TpF H q s.2
theorem StF.same {H H' : Hp} {t : Addr} {s : Sta} (h : StF H t s) (z : Same H H') : StF H' t s := by
  obtain ⟨q, h1, h2⟩ := h
  exact ⟨q, z _ _ h1, h2.same z⟩
section
variable {P : Program} {w : World} {K : PySem.W.Frag} {mg : Str → Option Value} {base : Heap}
/-! ### moved -/
def spMovedF : Sp := fun vs H Q _ => ∃ (a q1 : Addr) (es : List Ed) (p e : Nat) (xs : List Nat), vs = [.ref a, .int (p : Int), .ref q1, .int (e : Int)] ∧ EdT H a es ∧ TpF H q1 xs ∧ xs.length = es.length + 1 ∧ e ∈ drs es p ∧ es.length ≤ 100 ∧
  ∀ H' r, Same H H' → H r = none → StF H' r (stpS es (p, xs) e) → Q (.ref r) H'
theorem cal_movedF (T : Txt mg) (D : Df K mg "_law_moved" sMoved ["_law_ties_here", "_law_here", "_law_things", "_law_at"]) : Cal P w K mg base "_law_moved" 1 spMovedF := by
  have nd := scMv.nd
  refine cal_of D scMv (fun vs H Q E h => ?_) (fun f cdv A outer s0 H vs Q E hr h => ?_)
  · obtain ⟨a, q1, es, p, e, xs, rfl, _⟩ := h
    rfl
  · obtain ⟨a, q1, es, p, e, xs, rfl, ed, hq, xl, he, hl, q⟩ := h
    refine ⟨_, pss_cons (ps_set (i := 4) nd rfl (.inl rfl) (pe_callTy call_list_of (by rfl) T.list (by decide +kernel) (pa_cons (pv 2) pa_nil)))
      <| pss_cons (ps_asg (pe_tup (pa_cons (pe_ix (r := rIxL K) ix_list (pv 4) (pe_un un_neg pe_int) (fun _ _ => rfl)) (pa_cons (pe_ix (r := rIxL K) ix_list (pv 4) (pv 3) (fun _ _ => rfl)) pa_nil)))
          (pg_tup rfl (pgs_cons (pg_sub (pv 4) (pv 3) set_list) (pgs_cons (pg_sub (pv 4) (pe_un un_neg pe_int) set_list) pgs_nil))))
      <| pss_one (ps_ret (pe_tup (pa_cons (pe_op op_sub (pe_op op_add (pe_ix (r := rIxT K) ix_tup (pe_ix (r := rIxT K) ix_tup (pv 0) (pv 3) (fun _ _ => rfl)) pe_int (fun _ _ => rfl)) (pe_ix (r := rIxT K) ix_tup (pe_ix (r := rIxT K) ix_tup (pv 0) (pv 3) (fun _ _ => rfl)) pe_int (fun _ _ => rfl))) (pv 1))
          (pa_cons (pe_callTy (r := rTupF K) call_tuple_ofF (by rfl) T.tuple (by decide +kernel) (pa_cons (pv 4) pa_nil)) pa_nil)))), ?_⟩
    obtain ⟨el, em⟩ := mem_drs.mp he
    have e2 : e < xs.length := by omega
    have l2 : xs.length - 1 < xs.length := by omega
    refine ⟨_, rfl, q1, _, rfl, .inr hq.sq, fun l nl => ?_⟩
    have s1 := same_upd (o := .lst (NV xs)) nl
    have hl1 : upd H l (.lst (NV xs)) l = some (.lst (NV xs)) := upd_same
    generalize upd H l (.lst (NV xs)) = H1 at *
    refine ⟨_, rfl, _, rfl, l, _, _, _, rfl, rfl, sl_of hl1, at_last (by rw [NV_len]; exact NV_ap l2), ?_⟩
    refine ⟨_, rfl, _, rfl, l, _, _, _, rfl, rfl, sl_of hl1, atI_nat (NV_ap e2), by show 2 ≤ sizeLine; decide, fun u nu => ?_⟩
    have s2 := same_upd (o := .tup [V.int ((ap xs (xs.length - 1) : Nat) : Int), V.int ((ap xs e : Nat) : Int)]) nu
    have hu2 : upd H1 u (.tup [V.int ((ap xs (xs.length - 1) : Nat) : Int), V.int ((ap xs e : Nat) : Int)]) u = some (.tup [V.int ((ap xs (xs.length - 1) : Nat) : Int), V.int ((ap xs e : Nat) : Int)]) := upd_same
    have hl2 := s2 _ _ hl1
    generalize upd H1 u (.tup [V.int ((ap xs (xs.length - 1) : Nat) : Int), V.int ((ap xs e : Nat) : Int)]) = H2 at *
    refine ⟨u, _, rfl, sq_of hu2, rfl, _, _, rfl, ?_⟩
    refine ⟨_, rfl, _, rfl, l, _, _, e, rfl, rfl, hl2, by rw [NV_len]; exact ix_at e2 rfl, _, _, rfl, ?_⟩
    rw [NV_set]
    refine ⟨_, rfl, 1, rfl, l, _, _, xs.length - 1, rfl, rfl, upd_same, ?_, rfl, ?_⟩
    · rw [NV_len, List.length_set]
      exact ix_last (by omega)
    rw [NV_set]
    have sw : (xs.set e (ap xs (xs.length - 1))).set (xs.length - 1) (ap xs e) = swp xs e := rfl
    rw [sw]
    have s3 : Same H (upd (upd H2 l (.lst (NV (xs.set e (ap xs (xs.length - 1)))))) l (.lst (NV (swp xs e)))) := fun b o eb => by
      have nb : b ≠ l := ne_of_none eb nl
      rw [upd_ne nb, upd_ne nb]
      exact s2 _ _ (s1 _ _ eb)
    have hl3 : upd (upd H2 l (.lst (NV (xs.set e (ap xs (xs.length - 1)))))) l (.lst (NV (swp xs e))) l = some (.lst (NV (swp xs e))) := upd_same
    generalize upd (upd H2 l (.lst (NV (xs.set e (ap xs (xs.length - 1)))))) l (.lst (NV (swp xs e))) = H3 at *
    obtain ⟨ks, b, k1, k2, k3⟩ := edt_at (ed.same s3) el
    refine ⟨_, rfl, _, rfl, a, _, _, _, rfl, rfl, sq_of k1, k2, b, _, _, _, rfl, rfl, sq_of k3, rfl, ?_⟩
    refine ⟨_, rfl, _, rfl, a, _, _, _, rfl, rfl, sq_of k1, k2, b, _, _, _, rfl, rfl, sq_of k3, rfl, _, _, rfl, rfl, ?_⟩
    refine ⟨_, rfl, _, _, rfl, rfl, ?_⟩
    refine ⟨_, rfl, l, _, rfl, sl_of hl3, fun v ov nv oc od => ?_⟩
    have s4 := same_upd (o := .frz ov (.tup (NV (swp xs e)))) nv
    have hv4 : upd H3 v (.frz ov (.tup (NV (swp xs e)))) v = some (.frz ov (.tup (NV (swp xs e)))) := upd_same
    generalize upd H3 v (.frz ov (.tup (NV (swp xs e)))) = H4 at *
    refine ⟨by show 2 ≤ sizeLine; decide, fun r nr => ?_⟩
    show Q (V.ref r) (upd H4 r (.tup [V.int (((es.getD e (0, 0)).1 : Int) + ((es.getD e (0, 0)).2 : Int) - (p : Int)), .ref v]))
    rw [oth_int em]
    have s5 := same_upd (o := .tup [V.int ((oth (es.getD e (0, 0)) p : Nat) : Int), .ref v]) nr
    exact q _ r ((s3.trans s4).trans s5) ((s3.trans s4).free nr) ⟨v, upd_same, ov, s5 _ _ hv4, oc, od⟩
/-! ### the law's own after -/
def spLAfterF (K : PySem.W.Frag) : Sp := fun vs H Q _ => ∃ (a t l : Addr) (n : Nat) (es : List Ed) (s : Sta) (ks : List Nat), vs = [.ref a, .ref t, .ref l] ∧ EdT H a es ∧ VE n es ∧ StF H t s ∧ IsS n es.length s ∧ SqL K H l (NV ks) ∧ Wlk es s.1 ks ∧ es.length ≤ 100 ∧
  ∀ H' r, Same H H' → H r = none → StF H' r (runS es s ks) → Q (.ref r) H'
theorem cal_lafterF (T : Txt mg) (GM : Cal P w K mg base "_law_moved" 1 spMovedF) (D : Df K mg "_law_after" sAfter ["_law_ties_here", "_law_base", "_law_road_here"]) : Cal P w K mg base "_law_after" 2 (spLAfterF K) := by
  have nd := scLa.nd
  refine cal_of D scLa (fun vs H Q E h => ?_) (fun f cdv A outer s0 H vs Q E hr h => ?_)
  · obtain ⟨a, t, l, n, es, s, ks, rfl, _⟩ := h
    rfl
  · obtain ⟨a, t, l, n, es, s, ks, rfl, ed, ve, ⟨q1, ht, hq⟩, is, hl, wl, el, q⟩ := h
    refine ⟨_, pss_cons (ps_asg (pv 1) (pg_tup rfl (pgs_cons (pg_name (i := 3) nd rfl (.inl rfl)) (pgs_cons (pg_name (i := 4) nd rfl (.inl rfl)) pgs_nil))))
      <| pss_cons (ps_for PassesOwn.never rfl (pi_list (pv 2)) (pg_name (i := 5) nd rfl (.inl rfl))
          (pss_one (ps_asg (pe_cl GM hr (by rfl) (pa_cons (pv 0) (pa_cons (pv 3) (pa_cons (pv 4) (pa_cons (pv 5) pa_nil))))) (pg_tup rfl (pgs_cons (pg_name (i := 3) nd rfl (.inl rfl)) (pgs_cons (pg_name (i := 4) nd rfl (.inl rfl)) pgs_nil))))))
      <| pss_one (ps_ret (pe_tup (pa_cons (pv 3) (pa_cons (pv 4) pa_nil)))), ?_⟩
    refine ⟨_, rfl, t, _, rfl, sq_of ht, rfl, _, _, rfl, _, _, rfl, rfl, ?_⟩
    refine ⟨_, rfl, l, rfl, ⟨_, hl⟩, ?_⟩
    refine for_it (walk_list (xs := NV ks)) (fun i σ H' => ∃ u v5, σ = [some (.ref a), some (.ref t), some (.ref l), some (.int ((runS es s (ks.take i)).1 : Int)), some (.ref u), v5] ∧ Same H H' ∧ TpF H' u (runS es s (ks.take i)).2) ⟨q1, _, rfl, fun _ _ z => z, hq⟩ (fun i σ H' _ ⟨_, _, _, sm, _⟩ => sm.seq hl) ?_ ?_
    · rintro i y σ _ H2 hi ⟨u, v5, rfl, sm, hu⟩ ⟨rfl, hy⟩
      obtain ⟨e, he, rfl⟩ := NV_get' hy
      have hd := wlk_get wl he
      rw [← runS_fst es (ks.take i) s] at hd
      have is2 : IsS n es.length (runS es s (ks.take i)) := runS_is ve is (by
        have := wl
        rw [← List.take_append_drop i ks, wlk_app] at this
        exact this.1)
      refine ⟨_, rfl, _, rfl, _, rfl, _, rfl, a, u, es, _, e, _, rfl, ed.same sm, hu, is2.2.2, hd, el, fun H3 r s3 nr ⟨q2, h1, h2⟩ => ?_⟩
      refine ⟨r, _, rfl, sq_of h1, rfl, _, _, rfl, _, _, rfl, rfl, q2, some (.int (e : Int)), ?_, sm.trans s3, ?_⟩
      · rw [List.take_add_one, he, runS_app]
        rfl
      · rw [List.take_add_one, he, runS_app]
        exact h2
    · rintro σ H2 ⟨u, v5, rfl, sm, hu⟩
      rw [NV_len, List.take_length] at *
      refine ⟨_, rfl, _, rfl, by show 2 ≤ sizeLine; decide, fun r nr => ?_⟩
      have z := same_upd (o := .tup [V.int ((runS es s ks).1 : Int), .ref u]) nr
      exact q _ r (sm.trans z) (sm.free nr) ⟨u, upd_same, hu.same z⟩
end
end Hw

namespace Hw
open PySem PySem.Spec PyProof.Rows L2 ClX
theorem nv_iv (ks : List Nat) : NV ks = (ks.map fun k : Nat => (k : Int)).map V.int := by unfold NV; rw [List.map_map]; rfl
theorem dp_nl {K : PySem.W.Frag} {H : Hp} {a : Addr} {ks : List Nat} (h : H a = some (.lst (NV ks))) : Dp K H (.ref a) (.list ((NI ks).map PyData.int)) := by
  rw [nv_iv] at h
  exact dp_li (sl_of h)
section
variable {P : Program} {w : World} {K : PySem.W.Frag} {mg : Str → Option Value} {base : Heap}
/-! ### due -/
def spDue : Sp := fun vs H Q _ => ∃ (a l : Addr) (p n : Nat) (es : List Ed) (ks : List Nat), vs = [.ref a, .int (p : Int), .ref l] ∧ EdT H a es ∧ VE n es ∧ p < n ∧ H l = some (.lst (NV ks)) ∧ Wlk es p ks ∧ es.length ≤ 16 ∧
  ∀ H' r, Same H H' → H r = none → Tp H' r (eff es p ks) → Q (.ref r) H'
abbrev nDu : List Str := ["_law_ties_here", "_law_spot", "_law_road_here", "_law_things", "_law_n"]
theorem scDu : FnScope nDu ["_law_ties_here", "_law_spot", "_law_road_here"] (defScope sDue) := ⟨rfl, rfl, rfl, by decide +kernel, rfl, by decide +kernel, by decide +kernel⟩
theorem cal_due (T : Txt mg) (GA : Cal P w K mg base "_law_after" 2 (spLAfterF K)) (D : Df K mg "_law_due" sDue ["_law_ties_here", "_law_spot", "_law_road_here"]) : Cal P w K mg base "_law_due" 3 spDue := by
  have nd := scDu.nd
  refine cal_of D scDu (fun vs H Q E h => ?_) (fun f cdv A outer s0 H vs Q E hr h => ?_)
  · obtain ⟨a, l, p, n, es, ks, rfl, _⟩ := h
    rfl
  · obtain ⟨a, l, p, n, es, ks, rfl, ed, ve, hp, hL, wl, hl, q⟩ := h
    refine ⟨_, pss_cons (ps_set (i := 3) nd rfl (.inr rfl) (pe_ix (r := rIxT K) ix_tup (pe_cl GA hr (by rfl) (pa_cons (pv 0) (pa_cons (pe_tup (pa_cons (pv 1) (pa_cons (pe_tupRgF (by rfl) (by rfl) T.tuple (prg_1 (by rfl) T.range (pe_op op_add (pe_callB cr_len (by rfl) T.len PySem.boot_len (pa_cons (pv 0) pa_nil)) pe_int))) pa_nil))) (pa_cons (pv 2) pa_nil)))) pe_int (fun _ _ => rfl)))
      <| pss_one (ps_ret (pe_callTy call_tuple_of (by rfl) T.tuple (by decide +kernel) (pa_cons (pe_lc (own := [("_law_n", 4)]) (g := gName 4) (te := tBMF (rTupIx K) (tVar 3) (tCons (tVar 4) tNil)) (by rfl) nd (pi_range1 (by rfl) T.range (pa_cons (pe_callB cr_len (by rfl) T.len PySem.boot_len (pa_cons (pv 3) pa_nil)) pa_nil))
          (blkOk_by (own := [("_law_n", 4)]) (N := nDu) (sc := defScope sDue) (by decide +kernel)) (fun _ _ _ _ _ => pg_name (i := 4) nd rfl (.inl rfl)) (fun _ _ _ _ _ => pts_nil)
          (fun _ _ _ _ _ => pe_bmF PySem.F.slot_tuple_index PySem.F.type_tuple_index mt_tup_ix (pv 3) (pa_cons (pv 4) pa_nil))) pa_nil))), ?_⟩
    obtain ⟨js, k1, k2, k3⟩ := id ed
    have kl := ed_len k2
    refine ⟨_, rfl, _, rfl, _, rfl, a, _, rfl, .inr (sq_of k1), _, _, rfl, rfl, ((es.length + 1 : Nat) : Int), by rw [nv_len, kl]; rfl, RgOk.of_le (by omega) (by omega) (by omega) (by omega), fun t0 ot nt0 oc od => ?_⟩
    rw [NV_range]
    have s1 := same_upd (o := .frz ot (.tup (NV (List.range (es.length + 1))))) nt0
    have ht0 : TpF (upd H t0 (.frz ot (.tup (NV (List.range (es.length + 1)))))) t0 (List.range (es.length + 1)) := ⟨ot, upd_same, oc, od⟩
    have ed1 := ed.same s1
    have hL1 := s1 _ _ hL
    generalize upd H t0 (.frz ot (.tup (NV (List.range (es.length + 1))))) = H1 at *
    refine ⟨(show 2 ≤ sizeLine by decide), fun t1 nt1 => ?_⟩
    have s2 := same_upd (o := .tup [V.int (p : Int), V.ref t0]) nt1
    have st : StF (upd H1 t1 (.tup [V.int (p : Int), V.ref t0])) t1 (p, List.range (es.length + 1)) := ⟨t0, upd_same, ht0.same s2⟩
    have ed2 := ed1.same s2
    have hL2 := s2 _ _ hL1
    generalize upd H1 t1 (.tup [V.int (p : Int), V.ref t0]) = H2 at *
    refine ⟨_, rfl, a, t1, l, n, es, (p, List.range (es.length + 1)), ks, rfl, ed2, ve, st, is_id hp, sl_of hL2, wl, by omega, fun H3 r s3 _ st3 => ?_⟩
    obtain ⟨q3, g1, g2⟩ := st3
    have g2' : TpF H3 q3 (sgm es p ks) := g2
    refine ⟨r, _, _, _, rfl, rfl, sq_of g1, rfl, ?_⟩
    have isg := sgm_isP ve hp wl
    have lsg : (sgm es p ks).length = es.length + 1 := sgm_len
    have sm3 := (s1.trans s2).trans s3
    refine ⟨_, rfl, q3, _, rfl, .inr g2'.sq, ((es.length + 1 : Nat) : Int), by rw [NV_len, lsg], by omega, by omega, ?_⟩
    rw [Int.toNat_natCast]
    refine fun Dl nD => lc_it walk_rg0 (fun i H' => Same H3 H' ∧ H' Dl = some (.lst (NV ((eff es p ks).take i)))) ⟨same_upd nD, upd_same⟩ (fun _ _ _ _ => trivial) ?_ ?_
    · rintro i x _ H4 hi ⟨sm4, hD⟩ ⟨rfl, rfl⟩
      have h4 := g2'.same sm4
      have el : (eff es p ks).length = es.length + 1 := eff_len
      have gi : (eff es p ks)[i]? = some (ap (eff es p ks) i) := ap_get (by omega)
      have jl : ap (eff es p ks) i < (sgm es p ks).length := by
        have := ap_lt (eff_isP ve hp wl) (x := i) (by omega)
        omega
      have hj : ap (sgm es p ks) (ap (eff es p ks) i) = i := ap_inv' isg (by omega)
      have h4' : SqT K H4 q3 (((sgm es p ks).map fun k : Nat => (k : Int)).map V.int) := by rw [← nv_iv]; exact h4.sq
      refine ⟨rfl, _, rfl, ⟨q3, _, rfl, h4⟩, _, rfl, q3, _, (i : Int), ap (eff es p ks) i, rfl, rfl, h4', ?_, fun m hm hz => ?_, ?_⟩
      · rw [List.getElem?_map, ap_get jl, hj]
        rfl
      · rw [List.getElem?_map] at hz
        have ml : m < (sgm es p ks).length := by omega
        rw [ap_get ml] at hz
        have e1 : ((ap (sgm es p ks) m : Nat) : Int) = (i : Int) := Option.some.inj hz
        have e2 := ap_inj isg ml jl (by rw [hj]; omega)
        omega
      · refine ⟨_, hD, ?_, fun b o eb => ?_, ?_⟩
        · rw [NV_len, List.length_take]
          exact small1000 (by omega)
        · rw [upd_ne (ne_of_none eb nD)]
          exact sm4 _ _ eb
        · rw [upd_same, List.take_add_one, gi]
          show _ = some (HO.lst (NV ((eff es p ks).take i ++ [ap (eff es p ks) i])))
          rw [NV_snoc]
    · rintro H4 ⟨sm4, hD⟩
      have el : (eff es p ks).length = es.length + 1 := eff_len
      rw [← el, List.take_length] at hD
      exact ⟨Dl, _, rfl, .inl ⟨sl_of hD, fun r nr => q _ r ((sm3.trans sm4).trans (same_upd nr)) ((sm3.trans sm4).free nr) upd_same⟩⟩
end
end Hw

namespace Hw
open PySem PySem.Spec PyProof.Rows L2 ClX
section
variable {P : Program} {w : World} {K : PySem.W.Frag} {mg : Str → Option Value} {base : Heap}
/-! ### told -/
def spTold (C : Addr) : Sp := fun vs H Q _ => ∃ (x a : Addr) (p n : Nat) (es : List Ed) (ks : List Nat), vs = [.ref x, .int (p : Int), .ref a] ∧ NetAt5 C H x n es ∧ NetX C H x n es ∧ VE n es ∧ p < n ∧ H a = some (.lst (NV ks)) ∧ Wlk es p ks ∧ es.length ≤ 16 ∧ ks.length ≤ 6 ∧
  ∀ H' r, Same H H' → Tp H' r (eff es p ks) → Q (.ref r) H'
abbrev nTo : List Str := ["_law_net", "_law_spot", "_law_road_here"]
theorem scTo : FnScope nTo nTo (defScope sTold) := ⟨rfl, rfl, rfl, by decide +kernel, rfl, by decide +kernel, by decide +kernel⟩
theorem cal_told {C : Addr} (T : Txt mg) (GE : Cal P w K mg base "effect" 8 (spEff C)) (D : Df K mg "_law_told" sTold nTo) : Cal P w K mg base "_law_told" 9 (spTold C) := by
  have nd := scTo.nd
  refine cal_of D scTo (fun vs H Q E h => ?_) (fun f cdv A outer s0 H vs Q E hr h => ?_)
  · obtain ⟨x, a, p, n, es, ks, rfl, _⟩ := h
    rfl
  · obtain ⟨x, a, p, n, es, ks, rfl, net, nx, ve, hp, hL, wl, he, hl, q⟩ := h
    have hu := hr.units
    refine ⟨_, pss_cons (ps_if (pt_cmpR op_lt (pe_callB cr_len (by rfl) T.len PySem.boot_len (pa_cons (pv 2) pa_nil)) pe_int (nomark _)) (pss_one (ps_ret (pe_ifExp (pt_cmpR (op_eqD hu) (pv 2) (pe_lst pa_nil) (nomark _)) (pe_cl GE hr (by rfl) (pa_cons (pv 0) (pa_cons (pv 1) pa_nil))) (pe_cl GE hr (by rfl) (pa_cons (pv 0) (pa_cons (pv 1) (pa_cons (pe_ix (r := rIxL K) ix_list (pv 2) pe_int (fun _ _ => rfl)) pa_nil))))))) pss_nil)
      <| pss_cons (ps_if (pt_cmpR op_lt (pe_callB cr_len (by rfl) T.len PySem.boot_len (pa_cons (pv 2) pa_nil)) pe_int (nomark _)) (pss_cons (ps_if (pt_cmpR op_eq (pe_callB cr_len (by rfl) T.len PySem.boot_len (pa_cons (pv 2) pa_nil)) pe_int (nomark _)) (pss_one (ps_ret (pe_cl GE hr (by rfl) (pa_cons (pv 0) (pa_cons (pv 1) (pa_cons (pe_ix (r := rIxL K) ix_list (pv 2) pe_int (fun _ _ => rfl)) (pa_cons (pe_ix (r := rIxL K) ix_list (pv 2) pe_int (fun _ _ => rfl)) pa_nil))))))) pss_nil) <| pss_one (ps_ret (pe_cl GE hr (by rfl) (pa_cons (pv 0) (pa_cons (pv 1) (pa_cons (pe_ix (r := rIxL K) ix_list (pv 2) pe_int (fun _ _ => rfl)) (pa_cons (pe_ix (r := rIxL K) ix_list (pv 2) pe_int (fun _ _ => rfl)) (pa_cons (pe_ix (r := rIxL K) ix_list (pv 2) pe_int (fun _ _ => rfl)) pa_nil)))))))) pss_nil)
      <| pss_cons (ps_if (pt_cmpR op_eq (pe_callB cr_len (by rfl) T.len PySem.boot_len (pa_cons (pv 2) pa_nil)) pe_int (nomark _)) (pss_one (ps_ret (pe_cl GE hr (by rfl) (pa_cons (pv 0) (pa_cons (pv 1) (pa_cons (pe_ix (r := rIxL K) ix_list (pv 2) pe_int (fun _ _ => rfl)) (pa_cons (pe_ix (r := rIxL K) ix_list (pv 2) pe_int (fun _ _ => rfl)) (pa_cons (pe_ix (r := rIxL K) ix_list (pv 2) pe_int (fun _ _ => rfl)) (pa_cons (pe_ix (r := rIxL K) ix_list (pv 2) pe_int (fun _ _ => rfl)) pa_nil))))))))) pss_nil)
      <| pss_cons (ps_if (pt_cmpR op_eq (pe_callB cr_len (by rfl) T.len PySem.boot_len (pa_cons (pv 2) pa_nil)) pe_int (nomark _)) (pss_one (ps_ret (pe_cl GE hr (by rfl) (pa_cons (pv 0) (pa_cons (pv 1) (pa_cons (pe_ix (r := rIxL K) ix_list (pv 2) pe_int (fun _ _ => rfl)) (pa_cons (pe_ix (r := rIxL K) ix_list (pv 2) pe_int (fun _ _ => rfl)) (pa_cons (pe_ix (r := rIxL K) ix_list (pv 2) pe_int (fun _ _ => rfl)) (pa_cons (pe_ix (r := rIxL K) ix_list (pv 2) pe_int (fun _ _ => rfl)) (pa_cons (pe_ix (r := rIxL K) ix_list (pv 2) pe_int (fun _ _ => rfl)) pa_nil)))))))))) pss_nil)
      <| pss_one (ps_ret (pe_cl GE hr (by rfl) (pa_cons (pv 0) (pa_cons (pv 1) (pa_cons (pe_ix (r := rIxL K) ix_list (pv 2) pe_int (fun _ _ => rfl)) (pa_cons (pe_ix (r := rIxL K) ix_list (pv 2) pe_int (fun _ _ => rfl)) (pa_cons (pe_ix (r := rIxL K) ix_list (pv 2) pe_int (fun _ _ => rfl)) (pa_cons (pe_ix (r := rIxL K) ix_list (pv 2) pe_int (fun _ _ => rfl)) (pa_cons (pe_ix (r := rIxL K) ix_list (pv 2) pe_int (fun _ _ => rfl)) (pa_cons (pe_ix (r := rIxL K) ix_list (pv 2) pe_int (fun _ _ => rfl)) pa_nil)))))))))), ?_⟩
    match ks, hL, wl, hl, q with
    | [], hL, wl, _, q =>
      refine ⟨_, rfl, a, _, rfl, .inl (sl_of hL), _, _, rfl, rfl, _, rfl, iteT ⟨_, rfl, Nat.zero_le _, fun l0 nl0 => ?_⟩⟩
      have z1 := same_upd (o := .lst []) nl0
      have hl0 : upd H l0 (.lst []) l0 = some (.lst (NV [])) := upd_same
      have hL1 := z1 _ _ hL
      refine ⟨_, _, dp_nl hL1, dp_nl hl0, shaped_li _, shaped_li _, _, rfl, ?_⟩
      rw [eqv_li]
      exact iteT ⟨_, rfl, _, rfl, x, p, n, es, [], rfl, (net.same z1), (nx.same z1), ve, hp, wl, he, (show 0 < 100000 by decide), fun H' r sm tp => q H' r (z1.trans sm) tp⟩
    | [x0], hL, wl, _, q =>
      refine ⟨_, rfl, a, _, rfl, .inl (sl_of hL), _, _, rfl, rfl, _, rfl, iteT ⟨_, rfl, Nat.zero_le _, fun l0 nl0 => ?_⟩⟩
      have z1 := same_upd (o := .lst []) nl0
      have hl0 : upd H l0 (.lst []) l0 = some (.lst (NV [])) := upd_same
      have hL1 := z1 _ _ hL
      refine ⟨_, _, dp_nl hL1, dp_nl hl0, shaped_li _, shaped_li _, _, rfl, ?_⟩
      rw [eqv_li]
      exact iteF ⟨_, rfl, _, rfl, _, rfl, a, _, _, _, rfl, rfl, sl_of hL1, rfl, x, p, n, es, [x0], rfl, (net.same z1), (nx.same z1), ve, hp, wl, he, (show 1 < 100000 by decide), fun H' r sm tp => q H' r (z1.trans sm) tp⟩
    | [x0, x1], hL, wl, _, q => exact ⟨_, rfl, a, _, rfl, .inl (sl_of hL), _, _, rfl, rfl, _, rfl, iteF ⟨_, rfl, a, _, rfl, .inl (sl_of hL), _, _, rfl, rfl, _, rfl, iteT ⟨_, rfl, a, _, rfl, .inl (sl_of hL), rfl, _, rfl, iteT ⟨_, rfl, _, rfl, _, rfl, a, _, _, _, rfl, rfl, sl_of hL, rfl, _, rfl, a, _, _, _, rfl, rfl, sl_of hL, rfl, x, p, n, es, [x0, x1], rfl, net, nx, ve, hp, wl, he, (show 2 < 100000 by decide), fun H' r sm tp => q H' r sm tp⟩⟩⟩⟩
    | [x0, x1, x2], hL, wl, _, q => exact ⟨_, rfl, a, _, rfl, .inl (sl_of hL), _, _, rfl, rfl, _, rfl, iteF ⟨_, rfl, a, _, rfl, .inl (sl_of hL), _, _, rfl, rfl, _, rfl, iteT ⟨_, rfl, a, _, rfl, .inl (sl_of hL), rfl, _, rfl, iteF ⟨_, rfl, _, rfl, _, rfl, a, _, _, _, rfl, rfl, sl_of hL, rfl, _, rfl, a, _, _, _, rfl, rfl, sl_of hL, rfl, _, rfl, a, _, _, _, rfl, rfl, sl_of hL, rfl, x, p, n, es, [x0, x1, x2], rfl, net, nx, ve, hp, wl, he, (show 3 < 100000 by decide), fun H' r sm tp => q H' r sm tp⟩⟩⟩⟩
    | [x0, x1, x2, x3], hL, wl, _, q => exact ⟨_, rfl, a, _, rfl, .inl (sl_of hL), _, _, rfl, rfl, _, rfl, iteF ⟨_, rfl, a, _, rfl, .inl (sl_of hL), _, _, rfl, rfl, _, rfl, iteF ⟨_, rfl, a, _, rfl, .inl (sl_of hL), rfl, _, rfl, iteT ⟨_, rfl, _, rfl, _, rfl, a, _, _, _, rfl, rfl, sl_of hL, rfl, _, rfl, a, _, _, _, rfl, rfl, sl_of hL, rfl, _, rfl, a, _, _, _, rfl, rfl, sl_of hL, rfl, _, rfl, a, _, _, _, rfl, rfl, sl_of hL, rfl, x, p, n, es, [x0, x1, x2, x3], rfl, net, nx, ve, hp, wl, he, (show 4 < 100000 by decide), fun H' r sm tp => q H' r sm tp⟩⟩⟩⟩
    | [x0, x1, x2, x3, x4], hL, wl, _, q => exact ⟨_, rfl, a, _, rfl, .inl (sl_of hL), _, _, rfl, rfl, _, rfl, iteF ⟨_, rfl, a, _, rfl, .inl (sl_of hL), _, _, rfl, rfl, _, rfl, iteF ⟨_, rfl, a, _, rfl, .inl (sl_of hL), rfl, _, rfl, iteF ⟨_, rfl, a, _, rfl, .inl (sl_of hL), rfl, _, rfl, iteT ⟨_, rfl, _, rfl, _, rfl, a, _, _, _, rfl, rfl, sl_of hL, rfl, _, rfl, a, _, _, _, rfl, rfl, sl_of hL, rfl, _, rfl, a, _, _, _, rfl, rfl, sl_of hL, rfl, _, rfl, a, _, _, _, rfl, rfl, sl_of hL, rfl, _, rfl, a, _, _, _, rfl, rfl, sl_of hL, rfl, x, p, n, es, [x0, x1, x2, x3, x4], rfl, net, nx, ve, hp, wl, he, (show 5 < 100000 by decide), fun H' r sm tp => q H' r sm tp⟩⟩⟩⟩⟩
    | [x0, x1, x2, x3, x4, x5], hL, wl, _, q => exact ⟨_, rfl, a, _, rfl, .inl (sl_of hL), _, _, rfl, rfl, _, rfl, iteF ⟨_, rfl, a, _, rfl, .inl (sl_of hL), _, _, rfl, rfl, _, rfl, iteF ⟨_, rfl, a, _, rfl, .inl (sl_of hL), rfl, _, rfl, iteF ⟨_, rfl, a, _, rfl, .inl (sl_of hL), rfl, _, rfl, iteF ⟨_, rfl, _, rfl, _, rfl, a, _, _, _, rfl, rfl, sl_of hL, rfl, _, rfl, a, _, _, _, rfl, rfl, sl_of hL, rfl, _, rfl, a, _, _, _, rfl, rfl, sl_of hL, rfl, _, rfl, a, _, _, _, rfl, rfl, sl_of hL, rfl, _, rfl, a, _, _, _, rfl, rfl, sl_of hL, rfl, _, rfl, a, _, _, _, rfl, rfl, sl_of hL, rfl, x, p, n, es, [x0, x1, x2, x3, x4, x5], rfl, net, nx, ve, hp, wl, he, (show 6 < 100000 by decide), fun H' r sm tp => q H' r sm tp⟩⟩⟩⟩⟩
    | _ :: _ :: _ :: _ :: _ :: _ :: _ :: _, _, _, hl, _ => exact absurd hl (by simp)
/-! ### kept -/
def spKept (C : Addr) : Sp := fun vs H Q _ => ∃ (x t a : Addr) (n : Nat) (es : List Ed) (s : Sta) (ks : List Nat), vs = [.ref x, .ref t, .ref a] ∧ NetAt5 C H x n es ∧ VE n es ∧ StT H t s ∧ IsS n es.length s ∧ H a = some (.lst (NV ks)) ∧ Wlk es s.1 ks ∧ es.length ≤ 16 ∧
  ∀ H' r, Same H H' → StT H' r (runS es s ks) → Q (.ref r) H'
abbrev nKe : List Str := ["_law_net", "_law_base", "_law_road_here", "_law_at"]
theorem scKe : FnScope nKe ["_law_net", "_law_base", "_law_road_here"] (defScope sKept) := ⟨rfl, rfl, rfl, by decide +kernel, rfl, by decide +kernel, by decide +kernel⟩
theorem wlk_pre {es : List Ed} {p : Nat} {ks : List Nat} (h : Wlk es p ks) (j : Nat) : Wlk es p (ks.take j) := (wlk_app.mp (show Wlk es p (ks.take j ++ ks.drop j) by rw [List.take_append_drop]; exact h)).1
theorem cal_kept {C : Addr} (T : Txt mg) (GA : Cal P w K mg base "after" 7 (spAfter C)) (D : Df K mg "_law_kept" sKept ["_law_net", "_law_base", "_law_road_here"]) : Cal P w K mg base "_law_kept" 8 (spKept C) := by
  have nd := scKe.nd
  refine cal_of D scKe (fun vs H Q E h => ?_) (fun f cdv A outer s0 H vs Q E hr h => ?_)
  · obtain ⟨x, t, a, n, es, s, ks, rfl, _⟩ := h
    rfl
  · obtain ⟨x, t, a, n, es, s, ks, rfl, net, ve, ht, is, hL, wl, he, q⟩ := h
    refine ⟨_, pss_cons (ps_for PassesOwn.never rfl (pi_list (pv 2)) (pg_name (i := 3) nd rfl (.inl rfl))
          (pss_one (ps_set (i := 1) nd rfl (.inl rfl) (pe_cl GA hr (by rfl) (pa_cons (pv 0) (pa_cons (pv 1) (pa_cons (pv 3) pa_nil)))))))
      <| pss_one (ps_ret (pv 1)), ?_⟩
    refine ⟨_, rfl, a, rfl, ⟨_, sl_of hL⟩, ?_⟩
    refine for_it (walk_list (xs := NV ks)) (fun i σ H' => ∃ u v3, σ = [some (.ref x), some (.ref u), some (.ref a), v3] ∧ Same H H' ∧ StT H' u (runS es s (ks.take i))) ⟨t, _, rfl, fun _ _ z => z, ht⟩ (fun i σ H' _ ⟨_, _, _, sm, _⟩ => sl_of (sm _ _ hL)) ?_ ?_
    · rintro i y σ _ H2 hi ⟨u, v3, rfl, sm, hu⟩ ⟨rfl, hy⟩
      obtain ⟨e, hee, rfl⟩ := NV_get' hy
      have hd := wlk_get wl hee
      rw [← runS_fst es (ks.take i) s] at hd
      have is2 : IsS n es.length (runS es s (ks.take i)) := runS_is ve is (wlk_pre wl i)
      refine ⟨_, rfl, _, rfl, _, rfl, x, u, n, es, runS es s (ks.take i), [e], rfl, net.same sm, ve, hu, is2, ⟨hd, trivial⟩, he, (show 1 < 100000 by decide), fun H3 r s3 st => ?_⟩
      refine ⟨r, some (.int (e : Int)), rfl, sm.trans s3, ?_⟩
      rw [List.take_add_one, hee, runS_app]
      exact st
    · rintro σ H2 ⟨u, v3, rfl, sm, hu⟩
      rw [NV_len, List.take_length] at hu
      exact ⟨_, rfl, q H2 u sm hu⟩
end
end Hw

namespace Hw
open PySem PySem.Spec PyProof.Rows L2 ClX
theorem NetAt5.kp {C m lg lc x : Addr} {H H' : Hp} {s n : Nat} {es : List Ed} (h : NetAt5 C H x n es) (k : Kp m lg H H') (M : MOk H m lg lc s) : NetAt5 C H' x n es := by
  obtain ⟨dx, fs, a, e, h1, h2, h3, h4, h5, h6, ks, a1, b, c⟩ := h
  obtain ⟨cs, gs, m1, m2, m3, _⟩ := id M
  exact ⟨dx, fs, a, e, k x _ (ne_of h1 m1 (by intro q; cases q)) (ne_of h1 m3 (by intro q; cases q)) h1, h2, h3, h4, h5, h6.kp k M, ks, k.tup M a1, b, fun y hy => k.tup M (c y hy)⟩
theorem NetX.kp {C m lg lc x : Addr} {H H' : Hp} {s n : Nat} {es : List Ed} (h : NetX C H x n es) (k : Kp m lg H H') (M : MOk H m lg lc s) : NetX C H' x n es := by
  obtain ⟨dx, fs, sa, t, b, c, h1, h2, h3, h4, h5, h6, h7, ks, a1, b1, c1⟩ := h
  obtain ⟨cs, gs, m1, m2, m3, _⟩ := id M
  exact ⟨dx, fs, sa, t, b, c, k x _ (ne_of h1 m1 (by intro q; cases q)) (ne_of h1 m3 (by intro q; cases q)) h1, h2, h3, h4, k.tup M h5, k.tup M h6, k.tup M h7, ks, k.tup M a1, b1, fun y hy => k.tup M (c1 y hy)⟩
theorem sm1_nat {a : Nat} (h : a < 1000) : Sm1 (a : Int) := .inr ⟨by omega, Int.lt_of_lt_of_le (show (a : Int) < 1000 by omega) (by decide)⟩
theorem tpI_of {H : Hp} {a : Addr} {p : List Nat} (h : Tp H a p) : TpI H a (p.map fun k : Nat => (k : Int)) := by
  show H a = some (.tup ((p.map fun k : Nat => (k : Int)).map V.int))
  rw [← nv_iv]
  exact h
theorem smI_of {p : List Nat} (h : ∀ x ∈ p, x < 1000) : SmI (p.map fun k : Nat => (k : Int)) := fun z hz => by
  obtain ⟨k, hk, rfl⟩ := List.mem_map.mp hz
  exact sm1_nat (h k hk)
theorem isP_small {p : List Nat} (h : IsP p) (l : p.length ≤ 17) : ∀ x ∈ p, x < 1000 := fun x hx => by
  have := h.2 x hx
  omega
theorem NV_rev (p : List Nat) : (NV p).reverse = NV p.reverse := by unfold NV; rw [List.map_reverse]
theorem NV_app (p q : List Nat) : NV p ++ NV q = NV (p ++ q) := by unfold NV; rw [List.map_append]
theorem muls_two {p q : List Nat} {n : Nat} (hp : p.length = n) : muls n [p, q] = mul p q := by
  show mul (mul (List.range n) p) q = _
  rw [mul_range_left hp]
section
variable {P : Program} {w : World} {K : PySem.W.Frag} {mg : Str → Option Value} {base : Heap}
/-- a statement may be read more coarsely -/
theorem _root_.L2.PS.imp {X : Cx} {st : Stmt} {t t' : TS} (p : PS X st t) (h : ∀ D σ H, t' D σ H → t D σ H) : PS X st t' := ⟨fun pins s σ H D I z => p.run pins s σ H D I (h D σ H z)⟩
/-! ### short_right -/
def spSR (C : Addr) : Sp := fun vs H Q _ => ∃ (m lg lc x a l : Addr) (s p n : Nat) (es : List Ed) (ks : List Nat), vs = [.ref m, .ref x, .ref a, .int (p : Int), .ref l] ∧ MOk H m lg lc s ∧ s ≤ 90000 ∧ NetAt5 C H x n es ∧ NetX C H x n es ∧ EdT H a es ∧ CN n es ∧ p < n ∧ l ≠ lg ∧ H l = some (.lst (NV ks)) ∧ Wlk es p ks ∧ es.length ≤ 16 ∧ ks.length ≤ 6 ∧
  ∀ H' s', Kp m lg H H' → MOk H' m lg lc s' → s' ≤ s + 10 → Q (.bl true) H'
structure SrC (P : Program) (w : World) (K : PySem.W.Frag) (mg : Str → Option Value) (base : Heap) (C : Addr) : Prop where
  due : Cal P w K mg base "_law_due" 3 spDue
  after : Cal P w K mg base "_law_after" 2 (spLAfter K)
  told : Cal P w K mg base "_law_told" 9 (spTold C)
  effK : CalK P w K mg base "effect" 8 ["network", "place"] (spEffK C)
  inv : Cal P w K mg base "inverse" 5 spInverse
  even : Cal P w K mg base "is_even" 6 spEven
  back : Cal P w K mg base "back" 1 spBack
  road : Cal P w K mg base "_law_road" 3 spRoad
  comp : Cal P w K mg base "compose" 5 spCompose
/-- the text of the way back, if it has three steps -/
def tSkip : TS := fun D σ H => ∃ (l tt : Addr) (ks : List Nat), σ[4]? = some (some (.ref l)) ∧ σ[7]? = some (some (.ref tt)) ∧ H l = some (.lst (NV ks)) ∧ Tp H tt ks.reverse ∧ (∀ x ∈ ks, x < 1000) ∧ ∀ H', Same H H' → D.nx σ H'
abbrev pSr : List Str := ["_law_m", "_law_net", "_law_ties_here", "_law_spot", "_law_road_here"]
abbrev nSr : List Str := ["_law_m", "_law_net", "_law_ties_here", "_law_spot", "_law_road_here", "_law_due_here", "_law_far", "_law_turned", "_law_rest"]
theorem scSr : FnScope nSr pSr (defScope sShortRight) := ⟨rfl, rfl, rfl, by decide +kernel, rfl, by decide +kernel, by decide +kernel⟩
theorem cal_sr {C : Addr} (T : Txt mg) (G : SrC P w K mg base C) (D : Df K mg "_law_short_right" sShortRight pSr) : CalG P w K mg base "_law_short_right" 10 pSr (spSR C) := by
  have nd := scSr.nd
  refine calG_of D scSr (fun vs H Q E h => ?_) (fun f cdv A outer s0 H vs Q E hg hr h => ?_)
  · obtain ⟨m, lg, lc, x, a, l, s, p, n, es, ks, rfl, _⟩ := h
    rfl
  · obtain ⟨m, lg, lc, x, a, l, s, p, n, es, ks, rfl, M, hs, net, nx, ed, cn, hp, nlg, hL, wl, hl, kl, q⟩ := h
    have hr1 := hr.mono (show 1 ≤ 9 by decide)
    have hr2 := hr.mono (show 2 ≤ 9 by decide)
    have hr3 := hr.mono (show 3 ≤ 9 by decide)
    have hr5 := hr.mono (show 5 ≤ 9 by decide)
    have hr6 := hr.mono (show 6 ≤ 9 by decide)
    have hr8 := hr.mono (show 8 ≤ 9 by decide)
    have hu := hr.units
    refine ⟨_, pss_cons (ps_par (i := 5) (j := 6) (by rfl) nd rfl rfl (by decide) rfl rfl (pa_cons (pe_cl G.due hr3 (by rfl) (pa_cons (pv 2) (pa_cons (pv 3) (pa_cons (pv 4) pa_nil))))
          (pa_cons (pe_ix (r := rIxT K) ix_tup (pe_cl G.after hr2 (by rfl) (pa_cons (pv 2) (pa_cons (pe_tup (pa_cons (pv 3) (pa_cons (pe_tupRg (by rfl) (by rfl) T.tuple (prg_1 (by rfl) T.range (pe_op op_add (pe_callB cr_len (by rfl) T.len PySem.boot_len (pa_cons (pv 2) pa_nil)) pe_int))) pa_nil))) (pa_cons (pv 4) pa_nil)))) pe_int (fun _ _ => rfl)) pa_nil)) (by rfl))
      <| pss_cons (ps_if (pt_cmpR op_ne (pe_callB (cr_reprD (hg.deeper _) hu) (by rfl) T.repr (by decide +kernel) (pa_cons (pe_lst (pa_cons (pe_cl G.told hr (by rfl) (pa_cons (pv 1) (pa_cons (pv 3) (pa_cons (pv 4) pa_nil)))) (pa_cons (pe_calK G.effK hr8 (by rfl) (pk_cons (pv 1) (pk_cons (pv 3) pk_nil))) pa_nil))) pa_nil))
          (pe_callB (cr_reprD (hg.deeper _) hu) (by rfl) T.repr (by decide +kernel) (pa_cons (pe_lst (pa_cons (pv 5) (pa_cons (pe_tupRg (by rfl) (by rfl) T.tuple (prg_1 (by rfl) T.range (pe_callB cr_len (by rfl) T.len PySem.boot_len (pa_cons (pv 5) pa_nil)))) pa_nil))) pa_nil)) (nomark _)) (pss_one ps_never) pss_nil)
      <| pss_cons (ps_if (PW.pt (pw_or (pt_cmpR (op_neD hu) (pe_cl G.told hr (by rfl) (pa_cons (pv 1) (pa_cons (pv 6) (pa_cons (pe_revL (pv 4)) pa_nil)))) (pe_cl G.inv hr5 (by rfl) (pa_cons (pv 5) pa_nil)) (nomark _))
          (pw_or1 (pt_cmpR op_ne (pe_cl G.even hr6 (by rfl) (pa_cons (pv 5) pa_nil)) (pe_cmpR op_eq (pe_op op_mod (pe_callB cr_len (by rfl) T.len PySem.boot_len (pa_cons (pv 4) pa_nil)) pe_int) pe_int (nomark _)) (nomark _))))) (pss_one ps_never) pss_nil)
      <| pss_cons (ps_set (i := 7) nd rfl (.inl rfl) (pe_callTy call_tuple_of (by rfl) T.tuple (by decide +kernel) (pa_cons (pe_revL (pv 4)) pa_nil)))
      <| pss_cons (PS.imp (t' := tSkip) (ps_if (PW.pt (pw_and (pt_cmpR op_eq (pe_callB cr_len (by rfl) T.len PySem.boot_len (pa_cons (pv 4) pa_nil)) pe_int (nomark _))
          (pw_and1 (pt_cmpR op_ne (pe_callB (cr_reprD (hg.deeper _) hu) (by rfl) T.repr (by decide +kernel) (pa_cons (pe_cl G.back hr1 (by rfl) (pa_cons (pe_ix (r := rIxL K) ix_list (pv 4) pe_int (fun _ _ => rfl)) (pa_cons (pe_ix (r := rIxL K) ix_list (pv 4) pe_int (fun _ _ => rfl)) (pa_cons (pe_ix (r := rIxL K) ix_list (pv 4) pe_int (fun _ _ => rfl)) pa_nil)))) pa_nil))
            (pe_callB (cr_reprD (hg.deeper _) hu) (by rfl) T.repr (by decide +kernel) (pa_cons (pv 7) pa_nil)) (nomark _))))) (pss_one ps_never) pss_nil) (fun D σ H h => ?skip))
      <| pss_cons (ps_set (i := 8) nd rfl (.inl rfl) (pe_cl G.road hr3 (by rfl) (pa_cons (pv 0) (pa_cons (pv 2) (pa_cons (pv 6) (pa_cons (pe_op op_sub pe_int (pe_callB cr_len (by rfl) T.len PySem.boot_len (pa_cons (pv 4) pa_nil))) pa_nil))))))
      <| pss_one (ps_ret (pe_cmpR (op_eqD hu) (pe_cl G.told hr (by rfl) (pa_cons (pv 1) (pa_cons (pv 3) (pa_cons (pe_op op_cat (pv 4) (pv 8)) pa_nil))))
          (pe_cl G.comp hr5 (by rfl) (pa_cons (pv 5) (pa_cons (pe_cl G.told hr (by rfl) (pa_cons (pv 1) (pa_cons (pv 6) (pa_cons (pv 8) pa_nil)))) pa_nil))) (nomark _))), ?_⟩
    case skip =>
      obtain ⟨l, tt, ks, e4, e7, hL, ht, sm, q⟩ := h
      refine ⟨_, e4, l, _, rfl, .inl (sl_of hL), rfl, _, rfl, ite2 (fun c => ?_) (fun c => q H fun _ _ z => z)⟩
      have l3 : ks.length = 3 := by
        have c' : decide (V.int ((NV ks).length : Int) = V.int 3) = true := c
        have c2 := of_decide_eq_true c'
        rw [NV_len] at c2
        have := V.int.inj c2
        omega
      obtain ⟨x0, x1, x2, rfl⟩ : ∃ x0 x1 x2, ks = [x0, x1, x2] := by
        match ks, l3 with
        | [p, q, r], _ => exact ⟨p, q, r, rfl⟩
      have sI : SmI ([x0, x1, x2].reverse.map fun k : Nat => (k : Int)) := smI_of fun z hz => sm z (List.mem_reverse.mp hz)
      refine ⟨_, e4, l, _, _, _, rfl, rfl, sl_of hL, rfl, _, e4, l, _, _, _, rfl, rfl, sl_of hL, rfl, _, e4, l, _, _, _, rfl, rfl, sl_of hL, rfl, [(x0 : Int), (x1 : Int), (x2 : Int)], rfl, (show 3 < 100000 by decide), fun H1 u s1 _ hu => ?_⟩
      have hu' : TpI H1 u ([x0, x1, x2].reverse.map fun k : Nat => (k : Int)) := hu
      refine ⟨u, dTi ([x0, x1, x2].reverse.map fun k : Nat => (k : Int)), rfl, dp_ti (sq_of hu'), sh_dTi sI (show 3 ≤ 100 by decide), ?_⟩
      have ht1 := tpI_of (s1 _ _ ht)
      refine ⟨_, e7, tt, dTi ([x0, x1, x2].reverse.map fun k : Nat => (k : Int)), rfl, dp_ti (sq_of ht1), sh_dTi sI (show 3 ≤ 100 by decide), rfl, _, rfl, ?_⟩
      rw [show decide (V.str (dTi ([x0, x1, x2].reverse.map fun k : Nat => (k : Int))).shown = V.str (dTi ([x0, x1, x2].reverse.map fun k : Nat => (k : Int))).shown) = true from decide_eq_true rfl]
      exact iteF (q H1 s1)
    have ve := cn.2.1
    obtain ⟨js, k1, k2, k3⟩ := id ed
    have kl0 := ed_len k2
    have isE := eff_isP ve hp wl
    have lE : (eff es p ks).length = es.length + 1 := eff_len
    have smE : SmI ((eff es p ks).map fun k : Nat => (k : Int)) := smI_of (isP_small isE (by omega))
    have bw := back_walk ve (is_id (es := es) hp) wl
    have isR := runS_is ve (is_id (es := es) hp) wl
    have efb := eff_back ve hp wl
    have eapp := fun ls (w2 : Wlk es (plcS es p ks) ls) => eff_app ve hp wl w2 (by rw [← runS_fst es ks (p, List.range (es.length + 1))]; exact isR.1)
    refine ⟨_, rfl, _, rfl, _, rfl, a, l, p, n, es, ks, rfl, ed, ve, hp, hL, wl, hl, fun H1 du s1 _ hd => ?_⟩
    have ed1 := ed.same s1
    have hL1 := s1 _ _ hL
    obtain ⟨js1, k11, k21, k31⟩ := id ed1
    have kl1 := ed_len k21
    refine ⟨_, rfl, _, rfl, _, rfl, a, _, rfl, .inr (sq_of k11), _, _, rfl, rfl, ((es.length + 1 : Nat) : Int), by rw [nv_len, kl1]; rfl, RgOk.of_le (by omega) (by omega) (by omega) (by omega), fun t0 nt0 => ?_⟩
    rw [NV_range]
    have s2 := same_upd (o := .tup (NV (List.range (es.length + 1)))) nt0
    have ht0 : Tp (upd H1 t0 (.tup (NV (List.range (es.length + 1))))) t0 (List.range (es.length + 1)) := upd_same
    generalize upd H1 t0 (.tup (NV (List.range (es.length + 1)))) = H2 at *
    refine ⟨(show 2 ≤ sizeLine by decide), fun t1 nt1 => ?_⟩
    have s3 := same_upd (o := .tup [V.int (p : Int), V.ref t0]) nt1
    have st3 : StT (upd H2 t1 (.tup [V.int (p : Int), V.ref t0])) t1 (p, List.range (es.length + 1)) := ⟨t0, upd_same, s3 _ _ ht0⟩
    have s13 := s2.trans s3
    generalize upd H2 t1 (.tup [V.int (p : Int), V.ref t0]) = H3 at *
    refine ⟨_, rfl, a, t1, l, n, es, (p, List.range (es.length + 1)), ks, rfl, ed1.same s13, ve, st3, is_id hp, sl_of (s13 _ _ hL1), wl, by omega, fun H4 r4 s4 _ st4 => ?_⟩
    obtain ⟨q4, g41, g42⟩ := st4
    have s14 := s13.trans s4
    refine ⟨r4, _, _, _, rfl, rfl, sq_of g41, rfl, _, _, rfl, ?_⟩
    have hpl : (runS es (p, List.range (es.length + 1)) ks).1 = plcS es p ks := runS_fst es ks _
    rw [hpl] at bw ⊢
    have hp' : plcS es p ks < n := by rw [← hpl]; exact (runS_is ve (is_id (es := es) hp) wl).1
    have wapp : ∀ ls, Wlk es (plcS es p ks) ls → Wlk es p (ks ++ ls) := fun ls w2 => wlk_app.mpr ⟨wl, w2⟩
    clear hpl isR
    generalize plcS es p ks = p' at *
    have sm4 := s1.trans s14
    have hd4 := s14 _ _ hd
    have M4 := M.same sm4
    have hL4 := sm4 _ _ hL
    -- the texts
    refine ⟨_, rfl, _, rfl, _, rfl, x, l, p, n, es, ks, rfl, net.same sm4, nx.same sm4, ve, hp, hL4, wl, hl, kl, fun H5 u5 s5 tp5 => ?_⟩
    have sm5 := sm4.trans s5
    refine ⟨_, rfl, _, rfl, rfl, x, p, n, es, rfl, net.same sm5, nx.same sm5, ve, hp, hl, fun H6 u6 s6 tp6 => ?_⟩
    have e0 : eff es p [] = List.range (es.length + 1) := eff_nil
    rw [e0] at tp6
    refine ⟨(show 2 ≤ sizeLine by decide), fun l1 nl1 => ?_⟩
    have s7 := same_upd (o := .lst [V.ref u5, V.ref u6]) nl1
    have smR : SmI ((List.range (es.length + 1)).map fun k : Nat => (k : Int)) := smI_of fun z hz => by have := List.mem_range.mp hz; omega
    have two : ∀ c ∈ [(eff es p ks).map (fun k : Nat => (k : Int)), (List.range (es.length + 1)).map (fun k : Nat => (k : Int))], SmI c ∧ c.length ≤ 20 := fun c hc => by
      rcases List.mem_cons.mp hc with rfl | hc
      · exact ⟨smE, by rw [List.length_map]; omega⟩
      · rw [List.mem_singleton.mp hc]; exact ⟨smR, by rw [List.length_map, List.length_range]; omega⟩
    have tp2 : ∀ {H' : Hp} {u v : Addr}, Tp H' u (eff es p ks) → Tp H' v (List.range (es.length + 1)) → ∀ k ∈ [(u, (eff es p ks).map (fun k : Nat => (k : Int))), (v, (List.range (es.length + 1)).map (fun k : Nat => (k : Int)))], TpI H' k.1 k.2 := fun hu hv k hk => by
      rcases List.mem_cons.mp hk with rfl | hk
      · exact tpI_of hu
      · rw [List.mem_singleton.mp hk]; exact tpI_of hv
    have hl7 : upd H6 l1 (.lst [V.ref u5, V.ref u6]) l1 = some (.lst ([(u5, (eff es p ks).map (fun k : Nat => (k : Int))), (u6, (List.range (es.length + 1)).map (fun k : Nat => (k : Int)))].map fun k => V.ref k.1)) := upd_same
    have h75 := s7 _ _ (s6 _ _ tp5)
    have h76 := s7 _ _ tp6
    have s57 := (s5.trans s6).trans s7
    generalize upd H6 l1 (.lst [V.ref u5, V.ref u6]) = H7 at *
    have hd7 := s57 _ _ hd4
    refine ⟨l1, dLT [(eff es p ks).map (fun k : Nat => (k : Int)), (List.range (es.length + 1)).map (fun k : Nat => (k : Int))], rfl, dp_dLT (ks := [(u5, (eff es p ks).map (fun k : Nat => (k : Int))), (u6, (List.range (es.length + 1)).map (fun k : Nat => (k : Int)))]) (sl_of hl7) (tp2 h75 h76), sh_dLT two (show 2 ≤ 20 by decide), ?_⟩
    refine ⟨_, rfl, _, rfl, du, _, rfl, .inr (sq_of hd7), ((es.length + 1 : Nat) : Int), by rw [NV_len, lE], RgOk.of_le (by omega) (by omega) (by omega) (by omega), fun t8 nt8 => ?_⟩
    rw [NV_range]
    have s8 := same_upd (o := .tup (NV (List.range (es.length + 1)))) nt8
    have ht8 : Tp (upd H7 t8 (.tup (NV (List.range (es.length + 1))))) t8 (List.range (es.length + 1)) := upd_same
    have hd8 := s8 _ _ hd7
    have s48 := s57.trans s8
    generalize upd H7 t8 (.tup (NV (List.range (es.length + 1)))) = H8 at *
    refine ⟨(show 2 ≤ sizeLine by decide), fun l2 nl2 => ?_⟩
    have s9 := same_upd (o := .lst [V.ref du, V.ref t8]) nl2
    have hl9 : upd H8 l2 (.lst [V.ref du, V.ref t8]) l2 = some (.lst ([(du, (eff es p ks).map (fun k : Nat => (k : Int))), (t8, (List.range (es.length + 1)).map (fun k : Nat => (k : Int)))].map fun k => V.ref k.1)) := upd_same
    have hd9 := s9 _ _ hd8
    have ht9 := s9 _ _ ht8
    have s49 := s48.trans s9
    generalize upd H8 l2 (.lst [V.ref du, V.ref t8]) = H9 at *
    refine ⟨l2, dLT [(eff es p ks).map (fun k : Nat => (k : Int)), (List.range (es.length + 1)).map (fun k : Nat => (k : Int))], rfl, dp_dLT (ks := [(du, (eff es p ks).map (fun k : Nat => (k : Int))), (t8, (List.range (es.length + 1)).map (fun k : Nat => (k : Int)))]) (sl_of hl9) (tp2 hd9 ht9), sh_dLT two (show 2 ≤ 20 by decide), rfl, _, rfl, ?_⟩
    generalize dLT [(eff es p ks).map (fun k : Nat => (k : Int)), (List.range (es.length + 1)).map (fun k : Nat => (k : Int))] = DD at *
    rw [show decide (V.str DD.shown = V.str DD.shown) = true from decide_eq_true rfl]
    refine iteF ?_
    have sm9 := sm4.trans s49
    have hL9 := sm9 _ _ hL
    -- the way back
    refine ⟨_, rfl, _, rfl, _, rfl, l, _, rfl, sl_of hL9, fun rv nrv => ?_⟩
    rw [NV_rev]
    have s10 := same_upd (o := .lst (NV ks.reverse)) nrv
    have hrv : upd H9 rv (.lst (NV ks.reverse)) rv = some (.lst (NV ks.reverse)) := upd_same
    have hd10 := s10 _ _ hd9
    have sm10 := sm9.trans s10
    generalize upd H9 rv (.lst (NV ks.reverse)) = H10 at *
    refine ⟨x, rv, p', n, es, ks.reverse, rfl, net.same sm10, nx.same sm10, ve, hp', hrv, bw.1, hl, by rw [List.length_reverse]; exact kl, fun H11 u11 s11 tp11 => ?_⟩
    have hd11 := s11 _ _ hd10
    have sm11 := sm10.trans s11
    refine ⟨_, rfl, du, eff es p ks, rfl, hd11, isE, by omega, fun H12 u12 s12 tp12 => ?_⟩
    have hd12 := s12 _ _ hd11
    have sm12 := sm11.trans s12
    rw [efb] at tp11
    refine ⟨_, _, dp_tp (s12 _ _ tp11), dp_tp tp12, shaped_ti _, shaped_ti _, _, rfl, ?_⟩
    rw [eqv_tp, decide_eq_true rfl]
    refine iteF ?_
    refine ⟨_, rfl, du, eff es p ks, rfl, hd12, isE, by omega, fun H13 s13' => ?_⟩
    have hd13 := s13' _ _ hd12
    have sm13 := sm12.trans s13'
    have hL13 := sm13 _ _ hL
    refine ⟨_, rfl, l, _, rfl, .inl (sl_of hL13), _, _, rfl, rfl, (show (0 : Int) < 2 by decide), rfl, rfl, _, rfl, ?_⟩
    refine ite2 (fun c => ?_) (fun _ => ?_)
    · exfalso
      have c' : (!decide (V.bl (evenP (eff es p ks)) = V.bl (decide (V.int (((NV ks).length : Int) % 2) = V.int 0)))) = true := c
      rw [even_eff ve hl hp wl, NV_len] at c'
      by_cases z : ks.length % 2 = 0
      · have z' : ((ks.length : Int) % 2) = 0 := by omega
        rw [z', decide_eq_true z] at c'
        simp at c'
      · have z' : ¬ V.int ((ks.length : Int) % 2) = V.int 0 := fun e => by
          have := V.int.inj e
          omega
        rw [decide_eq_false z, decide_eq_false z'] at c'
        simp at c'
    -- turned
    refine ⟨_, rfl, l, _, rfl, sl_of hL13, fun rv2 nrv2 => ?_⟩
    rw [NV_rev]
    have s14' := same_upd (o := .lst (NV ks.reverse)) nrv2
    have hrv2 : upd H13 rv2 (.lst (NV ks.reverse)) rv2 = some (.lst (NV ks.reverse)) := upd_same
    have sm14 := sm13.trans s14'
    have hd14 := s14' _ _ hd13
    generalize upd H13 rv2 (.lst (NV ks.reverse)) = H14 at *
    refine ⟨rv2, _, rfl, .inl ⟨sl_of hrv2, fun tt ntt => ?_⟩⟩
    have s15 := same_upd (o := .tup (NV ks.reverse)) ntt
    have htt : Tp (upd H14 tt (.tup (NV ks.reverse))) tt ks.reverse := upd_same
    have sm15 := sm14.trans s15
    have hd15 := s15 _ _ hd14
    generalize upd H14 tt (.tup (NV ks.reverse)) = H15 at *
    refine ⟨l, tt, ks, rfl, rfl, sm15 _ _ hL, htt, fun z hz => by have := wlk_lt wl z hz; omega, fun H16 s16 => ?_⟩
    have sm16 := sm15.trans s16
    have hd16 := s16 _ _ hd15
    have hL16 := sm16 _ _ hL
    have M16 := M.same sm16
    -- a further road
    refine ⟨_, rfl, _, rfl, _, rfl, _, rfl, l, _, rfl, .inl (sl_of hL16), _, _, rfl, rfl, ?_⟩
    refine ⟨m, lg, lc, a, s, n, p', 6 - ks.length, es, ?_, M16, by omega, ed.same sm16, cn, hp', hl, by omega, fun H17 r17 rs s17 nr17 nr17g kp17 hr17 wl17 len17 hs17 M17 => ?_⟩
    · show [V.ref m, V.ref a, V.int (p' : Int), V.int (6 - ((NV ks).length : Int))] = _
      rw [NV_len, show (6 : Int) - (ks.length : Int) = ((6 - ks.length : Nat) : Int) by omega]
    have rl : ks.length + rs.length ≤ 6 := by
      rcases len17 with z | ⟨_, z⟩
      · omega
      · rw [z]; simpa using kl
    have kp0 : Kp m lg H H17 := (Kp.same sm16).trans kp17
    have net17 := (net.same sm16).kp kp17 M16
    have nx17 := (nx.same sm16).kp kp17 M16
    have hd17 : Tp H17 du (eff es p ks) := kp17.tup M16 hd16
    have hL17 := kp17.lst M16 nlg hL16
    -- one after the other
    refine ⟨_, rfl, _, rfl, _, rfl, _, rfl, l, r17, _, _, rfl, rfl, hL17, hr17, ?_, fun c18 nc18 => ?_⟩
    · rw [NV_len, NV_len]
      exact Nat.le_of_lt (small1000 (by omega))
    rw [NV_app]
    have s18 := same_upd (o := .lst (NV (ks ++ rs))) nc18
    have hc18 : upd H17 c18 (.lst (NV (ks ++ rs))) c18 = some (.lst (NV (ks ++ rs))) := upd_same
    have hd18 := s18 _ _ hd17
    have hr18 := s18 _ _ hr17
    have net18 := net17.same s18
    have nx18 := nx17.same s18
    have M18 := M17.same s18
    generalize upd H17 c18 (.lst (NV (ks ++ rs))) = H18 at *
    refine ⟨x, c18, p, n, es, ks ++ rs, rfl, net18, nx18, ve, hp, hc18, wapp rs wl17, hl, by rw [List.length_append]; exact rl, fun H19 u19 s19 tp19 => ?_⟩
    have hd19 := s19 _ _ hd18
    refine ⟨_, rfl, _, rfl, _, rfl, _, rfl, x, r17, p', n, es, rs, rfl, net18.same s19, nx18.same s19, ve, hp', s19 _ _ hr18, wl17, hl, by omega, fun H20 u20 s20 tp20 => ?_⟩
    have hd20 := s20 _ _ hd19
    have l2 : (eff es p' rs).length = es.length + 1 := eff_len
    refine ⟨[(du, eff es p ks), (u20, eff es p' rs)], es.length + 1, rfl, fun c hc => ?_, by omega, (show 2 ≤ 1000 by decide), fun h => (by cases h), fun H21 u21 s21 tp21 => ?_⟩
    · rcases List.mem_cons.mp hc with rfl | hc
      · exact ⟨hd20, isE, lE⟩
      · rw [List.mem_singleton.mp hc]
        exact ⟨tp20, eff_isP ve hp' wl17, l2⟩
    have tp21' : Tp H21 u21 (mul (eff es p ks) (eff es p' rs)) := by
      have z : Tp H21 u21 (muls (es.length + 1) [eff es p ks, eff es p' rs]) := tp21
      rw [muls_two lE] at z
      exact z
    rw [← eapp rs wl17] at tp21'
    refine ⟨_, _, dp_tp (s21 _ _ (s20 _ _ tp19)), dp_tp tp21', shaped_ti _, shaped_ti _, ?_⟩
    rw [eqv_tp, decide_eq_true rfl]
    exact q H21 s17 (kp0.trans (Kp.same (((s18.trans s19).trans s20).trans s21))) (((M18.same s19).same s20).same s21) (by omega)
end
end Hw

namespace Hw
open PySem PySem.Spec PyProof.Rows L2 ClX
section
variable {P : Program} {w : World} {K : PySem.W.Frag} {mg : Str → Option Value} {base : Heap}
/-! ### long_right -/
def spLR (C : Addr) : Sp := fun vs H Q _ => ∃ (x a l : Addr) (p n : Nat) (es : List Ed) (ks : List Nat), vs = [.ref x, .ref a, .int (p : Int), .ref l] ∧ NetAt5 C H x n es ∧ NetX C H x n es ∧ EdT H a es ∧ CN n es ∧ p < n ∧ H l = some (.lst (NV ks)) ∧ Wlk es p ks ∧ es.length ≤ 16 ∧
  ∀ H', Same H H' → Q (.bl true) H'
structure LrC (P : Program) (w : World) (K : PySem.W.Frag) (mg : Str → Option Value) (base : Heap) (C : Addr) : Prop where
  due : Cal P w K mg base "_law_due" 3 spDue
  eff : Cal P w K mg base "effect" 8 (spEff C)
  even : Cal P w K mg base "is_even" 6 spEven
  comp : Cal P w K mg base "compose" 5 spCompose
abbrev pLr : List Str := ["_law_net", "_law_ties_here", "_law_spot", "_law_road_here"]
abbrev nLr : List Str := ["_law_net", "_law_ties_here", "_law_spot", "_law_road_here", "_law_total", "_law_here", "_law_at", "_law_one_step"]
theorem scLr : FnScope nLr pLr (defScope sLongRight) := ⟨rfl, rfl, rfl, by decide +kernel, rfl, by decide +kernel, by decide +kernel⟩
theorem cal_lr {C : Addr} (T : Txt mg) (G : LrC P w K mg base C) (D : Df K mg "_law_long_right" sLongRight pLr) : Cal P w K mg base "_law_long_right" 9 (spLR C) := by
  have nd := scLr.nd
  refine cal_of D scLr (fun vs H Q E h => ?_) (fun f cdv A outer s0 H vs Q E hr h => ?_)
  · obtain ⟨x, a, l, p, n, es, ks, rfl, _⟩ := h
    rfl
  · obtain ⟨x, a, l, p, n, es, ks, rfl, net, nx, ed, cn, hp, hL, wl, hl, q⟩ := h
    have hr3 := hr.mono (show 3 ≤ 8 by decide)
    have hr5 := hr.mono (show 5 ≤ 8 by decide)
    have hr6 := hr.mono (show 6 ≤ 8 by decide)
    have hu := hr.units
    refine ⟨_, pss_cons (ps_par (i := 4) (j := 5) (by rfl) nd rfl rfl (by decide) rfl rfl (pa_cons (pe_tupRg (by rfl) (by rfl) T.tuple (prg_1 (by rfl) T.range (pe_op op_add (pe_callB cr_len (by rfl) T.len PySem.boot_len (pa_cons (pv 1) pa_nil)) pe_int))) (pa_cons (pv 2) pa_nil)) (by rfl))
      <| pss_cons (ps_for PassesOwn.never rfl (pi_list (pv 3)) (pg_name (i := 6) nd rfl (.inl rfl))
          (pss_cons (ps_set (i := 7) nd rfl (.inl rfl) (pe_cl G.eff hr (by rfl) (pa_cons (pv 0) (pa_cons (pv 5) (pa_cons (pv 6) pa_nil)))))
          <| pss_cons (ps_if (PW.pt (pw_or (pt_val (pe_cl G.even hr6 (by rfl) (pa_cons (pv 7) pa_nil))) (pw_or1 (pt_cmpR (op_neD hu) (pe_cl G.comp hr5 (by rfl) (pa_cons (pv 7) (pa_cons (pv 7) pa_nil))) (pe_tupRg (by rfl) (by rfl) T.tuple (prg_1 (by rfl) T.range (pe_op op_add (pe_callB cr_len (by rfl) T.len PySem.boot_len (pa_cons (pv 1) pa_nil)) pe_int))) (nomark _))))) (pss_one ps_never) pss_nil)
          <| pss_cons (ps_set (i := 4) nd rfl (.inl rfl) (pe_cl G.comp hr5 (by rfl) (pa_cons (pv 4) (pa_cons (pv 7) pa_nil))))
          <| pss_one (ps_set (i := 5) nd rfl (.inl rfl) (pe_op op_sub (pe_op op_add (pe_ix (r := rIxT K) ix_tup (pe_ix (r := rIxT K) ix_tup (pv 1) (pv 6) (fun _ _ => rfl)) pe_int (fun _ _ => rfl)) (pe_ix (r := rIxT K) ix_tup (pe_ix (r := rIxT K) ix_tup (pv 1) (pv 6) (fun _ _ => rfl)) pe_int (fun _ _ => rfl))) (pv 5)))))
      <| pss_one (ps_ret (pe_cmpR (op_eqD hu) (pv 4) (pe_cl G.due hr3 (by rfl) (pa_cons (pv 1) (pa_cons (pv 2) (pa_cons (pv 3) pa_nil)))) (nomark _))), ?_⟩
    have ve := cn.2.1
    obtain ⟨js, k1, k2, k3⟩ := id ed
    have kl := ed_len k2
    refine ⟨_, rfl, a, _, rfl, .inr (sq_of k1), _, _, rfl, rfl, ((es.length + 1 : Nat) : Int), by rw [nv_len, kl]; rfl, RgOk.of_le (by omega) (by omega) (by omega) (by omega), fun t0 nt0 => ?_⟩
    rw [NV_range]
    have s1 := same_upd (o := .tup (NV (List.range (es.length + 1)))) nt0
    have ht0 : Tp (upd H t0 (.tup (NV (List.range (es.length + 1))))) t0 (eff es p []) := by rw [eff_nil]; exact upd_same
    generalize upd H t0 (.tup (NV (List.range (es.length + 1)))) = H1 at *
    refine ⟨_, rfl, _, _, rfl, ?_⟩
    refine ⟨_, rfl, l, rfl, ⟨_, sl_of (s1 _ _ hL)⟩, ?_⟩
    refine for_it (walk_list (xs := NV ks)) (fun i σ H' => ∃ u v6 v7, σ = [some (.ref x), some (.ref a), some (.int (p : Int)), some (.ref l), some (.ref u), some (.int (plcS es p (ks.take i) : Int)), v6, v7] ∧ Same H H' ∧ Tp H' u (eff es p (ks.take i))) ⟨t0, none, none, rfl, s1, ht0⟩ (fun i σ H' _ ⟨_, _, _, _, sm, _⟩ => sl_of (sm _ _ hL)) ?_ ?_
    · rintro i y σ _ H2 hi ⟨u, v6, v7, rfl, sm, hu2⟩ ⟨rfl, hy⟩
      obtain ⟨e, hee, rfl⟩ := NV_get' hy
      have hd := wlk_get wl hee
      have el := (mem_drs.mp hd).1
      have em := (mem_drs.mp hd).2
      have wt := wlk_pre wl i
      have w1 : Wlk es (plcS es p (ks.take i)) [e] := ⟨hd, trivial⟩
      have hp' : plcS es p (ks.take i) < n := by
        rw [← runS_fst es (ks.take i) (p, List.range (es.length + 1))]
        exact (runS_is ve (is_id hp) wt).1
      have eapp := eff_app ve hp wt w1 hp'
      have etw := eff_twice ve hp' hd
      have ev1 := even_eff ve hl hp' w1
      have is1 := eff_isP ve hp' w1
      have l1 : (eff es (plcS es p (ks.take i)) [e]).length = es.length + 1 := eff_len
      have l0 : (eff es p (ks.take i)).length = es.length + 1 := eff_len
      have isT := eff_isP ve hp wt
      have epl : plcS es p (ks.take (i + 1)) = oth (es.getD e (0, 0)) (plcS es p (ks.take i)) := by
        rw [List.take_add_one, hee]
        show plcS es p (ks.take i ++ [e]) = _
        unfold plcS
        rw [List.foldl_append]
        rfl
      rw [epl]
      have et : ks.take (i + 1) = ks.take i ++ [e] := by rw [List.take_add_one, hee]; rfl
      rw [et, eapp]
      generalize plcS es p (ks.take i) = p' at *
      refine ⟨_, rfl, _, rfl, _, rfl, x, p', n, es, [e], rfl, net.same sm, nx.same sm, ve, hp', w1, hl, (show 1 < 100000 by decide), fun H3 o3 s3 tp3 => ?_⟩
      refine ⟨_, rfl, o3, _, rfl, tp3, is1, by omega, fun H4 s4 => ⟨_, rfl, ?_⟩⟩
      rw [ev1]
      refine iteF ?_
      have tp4 := s4 _ _ tp3
      refine ⟨_, rfl, _, rfl, [(o3, eff es p' [e]), (o3, eff es p' [e])], es.length + 1, rfl, fun c hc => ?_, by omega, (show 2 ≤ 1000 by decide), fun h => (by cases h), fun H5 u5 s5 tp5 => ?_⟩
      · rcases List.mem_cons.mp hc with rfl | hc
        · exact ⟨tp4, is1, l1⟩
        · rw [List.mem_singleton.mp hc]
          exact ⟨tp4, is1, l1⟩
      have tp5' : Tp H5 u5 (List.range (es.length + 1)) := by
        have z : Tp H5 u5 (muls (es.length + 1) [eff es p' [e], eff es p' [e]]) := tp5
        rw [muls_two l1, etw] at z
        exact z
      have sm5 := ((sm.trans s3).trans s4).trans s5
      obtain ⟨js5, k15, k25, k35⟩ := id (ed.same sm5)
      have kl5 := ed_len k25
      refine ⟨_, rfl, a, _, rfl, .inr (sq_of k15), _, _, rfl, rfl, ((es.length + 1 : Nat) : Int), by rw [nv_len, kl5]; rfl, RgOk.of_le (by omega) (by omega) (by omega) (by omega), fun t6 nt6 => ?_⟩
      rw [NV_range]
      have s6 := same_upd (o := .tup (NV (List.range (es.length + 1)))) nt6
      have ht6 : Tp (upd H5 t6 (.tup (NV (List.range (es.length + 1))))) t6 (List.range (es.length + 1)) := upd_same
      generalize upd H5 t6 (.tup (NV (List.range (es.length + 1)))) = H6 at *
      refine ⟨_, _, dp_tp (s6 _ _ tp5'), dp_tp ht6, shaped_ti _, shaped_ti _, _, rfl, ?_⟩
      rw [eqv_tp, decide_eq_true rfl]
      refine iteF ?_
      have s36 := ((s3.trans s4).trans s5).trans s6
      have tp6 := s6 _ _ (s5 _ _ tp4)
      refine ⟨_, rfl, _, rfl, [(u, eff es p (ks.take i)), (o3, eff es p' [e])], es.length + 1, rfl, fun c hc => ?_, by omega, (show 2 ≤ 1000 by decide), fun h => (by cases h), fun H7 u7 s7 tp7 => ?_⟩
      · rcases List.mem_cons.mp hc with rfl | hc
        · exact ⟨s36 _ _ hu2, isT, l0⟩
        · rw [List.mem_singleton.mp hc]
          exact ⟨tp6, is1, l1⟩
      have tp7' : Tp H7 u7 (mul (eff es p (ks.take i)) (eff es p' [e])) := by
        have z : Tp H7 u7 (muls (es.length + 1) [eff es p (ks.take i), eff es p' [e]]) := tp7
        rw [muls_two l0] at z
        exact z
      have sm7 := (sm.trans s36).trans s7
      obtain ⟨ks7, b, q1, q2, q3⟩ := edt_at (ed.same sm7) el
      refine ⟨_, rfl, _, rfl, a, _, _, _, rfl, rfl, sq_of q1, q2, b, _, _, _, rfl, rfl, sq_of q3, rfl, ?_⟩
      refine ⟨_, rfl, _, rfl, a, _, _, _, rfl, rfl, sq_of q1, q2, b, _, _, _, rfl, rfl, sq_of q3, rfl, _, _, rfl, rfl, ?_⟩
      refine ⟨_, rfl, _, _, rfl, rfl, u7, some (.int (e : Int)), some (.ref o3), ?_, sm7, tp7'⟩
      rw [← oth_int em]
      rfl
    · rintro σ H2 ⟨u, v6, v7, rfl, sm, hu2⟩
      rw [NV_len, List.take_length] at hu2
      refine ⟨_, rfl, _, rfl, _, rfl, _, rfl, a, l, p, n, es, ks, rfl, ed.same sm, ve, hp, sm _ _ hL, wl, hl, fun H3 r3 s3 _ tp3 => ?_⟩
      refine ⟨_, _, dp_tp (s3 _ _ hu2), dp_tp tp3, shaped_ti _, shaped_ti _, ?_⟩
      rw [eqv_tp, decide_eq_true rfl]
      exact q H3 (sm.trans s3)
end
end Hw

namespace Hw
open PySem PySem.Spec PyProof.Rows L2 ClX
/-! ### states as data -/
abbrev dSt (s : Sta) : PyData := .tuple [.int (s.1 : Int), .tuple ((NI s.2).map PyData.int)]
theorem dp_st {K : PySem.W.Frag} {H : Hp} {t : Addr} {s : Sta} (h : StT H t s) : Dp K H (.ref t) (dSt s) := by
  obtain ⟨q, h1, h2⟩ := h
  exact .tup (sq_of h1) (.cons (dpa_ints (K := K) (H := H) [(s.1 : Int)] |> fun z => by cases z with | cons a _ => exact a) (.cons (dp_tp h2) (dpa_ints (K := K) (H := H) [])))
theorem lay_st (s : Sta) : (dSt s).canLay0 = true := by
  show (PyData.canLay0 (.int (s.1 : Int)) && (PyData.canLayAll0 ((NI s.2).map PyData.int) && true)) = true
  rw [lay_ints]
  rfl
theorem depth_st (s : Sta) : (dSt s).depth ≤ 2 := by
  show max (PyData.depth (.int (s.1 : Int))) (max (PyData.depthAll ((NI s.2).map PyData.int) + 1) 0) + 1 ≤ 2
  rw [depth_ints]
  show max 0 (max (0 + 1) 0) + 1 ≤ 2
  decide
theorem shaped_st (s : Sta) : SeqAt.shaped (dSt s) = true := by
  unfold SeqAt.shaped
  have d : (dSt s).depth ≤ 64 := Nat.le_trans (depth_st s) (by decide)
  rw [lay_st, decide_eq_true d]
  rfl
theorem eqv_st (s : Sta) : PyData.eqv (dSt s) (dSt s) = true := SeqAt.eqv_refl _ (lay_st s)
theorem ni_map (p : List Nat) : (NI p) = p.map fun k : Nat => (k : Int) := rfl
theorem sh_st {s : Sta} (h1 : s.1 < 1000) (h2 : ∀ x ∈ s.2, x < 1000) (l : s.2.length ≤ 20) : ShD (dSt s) := by
  obtain ⟨a, b, c⟩ := all_int (smI_of h2)
  have s1 := sm1_nat h1
  have w1 := sm1_weight s1
  have l1 := sm1_log s1
  refine shD_mk (lay_st s) ?_ ?_ (Nat.le_trans (depth_st s) (by decide)) ?_
  · show (decide ((s.1 : Int).natAbs.log2 < 1920) && (PyData.showableAll ((NI s.2).map PyData.int) && true)) = true
    rw [decide_eq_true (by omega), ni_map, a]
    rfl
  · show (decide ((PyData.shown (.int (s.1 : Int))).length ≤ 40) && (PyData.leavesShortAll 40 ((NI s.2).map PyData.int) && true)) = true
    rw [decide_eq_true (sm1_len s1), ni_map, b]
    rfl
  · show PyData.weight (.int (s.1 : Int)) + 1 + (PyData.weightAll ((NI s.2).map PyData.int) + 1 + 0) ≤ 100000
    rw [List.length_map] at c
    rw [ni_map]
    omega
section
variable {P : Program} {w : World} {K : PySem.W.Frag} {mg : Str → Option Value} {base : Heap}
/-! ### arrangement_right -/
def spAR (C : Addr) : Sp := fun vs H Q _ => ∃ (x a t l : Addr) (n : Nat) (es : List Ed) (s : Sta) (ks : List Nat), vs = [.ref x, .ref a, .ref t, .ref l] ∧ NetAt5 C H x n es ∧ EdT H a es ∧ CN n es ∧ n ≤ 12 ∧ StT H t s ∧ IsS n es.length s ∧ H l = some (.lst (NV ks)) ∧ Wlk es s.1 ks ∧ es.length ≤ 16 ∧
  ∀ H', Same H H' → Q (.bl true) H'
structure ArC (P : Program) (w : World) (K : PySem.W.Frag) (mg : Str → Option Value) (base : Heap) (C : Addr) : Prop where
  due : Cal P w K mg base "_law_due" 3 spDue
  kept : Cal P w K mg base "_law_kept" 8 (spKept C)
  lafter : Cal P w K mg base "_law_after" 2 (spLAfter K)
  after : Cal P w K mg base "after" 7 (spAfter C)
/-- the first step twice, if there is one -/
def tTwice (C : Addr) : TS := fun D σ H => ∃ (x a t l : Addr) (n : Nat) (es : List Ed) (s : Sta) (ks : List Nat), σ[0]? = some (some (.ref x)) ∧ σ[1]? = some (some (.ref a)) ∧ σ[2]? = some (some (.ref t)) ∧ σ[3]? = some (some (.ref l)) ∧
  NetAt5 C H x n es ∧ EdT H a es ∧ VE n es ∧ StT H t s ∧ IsS n es.length s ∧ H l = some (.lst (NV ks)) ∧ Wlk es s.1 ks ∧ es.length ≤ 16 ∧ ∀ H', Same H H' → D.nx σ H'
abbrev pAr : List Str := ["_law_net", "_law_ties_here", "_law_base", "_law_road_here"]
abbrev nAr : List Str := ["_law_net", "_law_ties_here", "_law_base", "_law_road_here", "_law_due_here", "_law_there", "_law_n"]
theorem scAr : FnScope nAr pAr (defScope sArrangementRight) := ⟨rfl, rfl, rfl, by decide +kernel, rfl, by decide +kernel, by decide +kernel⟩
theorem cal_ar {C : Addr} (T : Txt mg) (G : ArC P w K mg base C) (D : Df K mg "_law_arrangement_right" sArrangementRight pAr) : CalG P w K mg base "_law_arrangement_right" 9 pAr (spAR C) := by
  have nd := scAr.nd
  refine calG_of D scAr (fun vs H Q E h => ?_) (fun f cdv A outer s0 H vs Q E hg hr h => ?_)
  · obtain ⟨x, a, t, l, n, es, s, ks, rfl, _⟩ := h
    rfl
  · obtain ⟨x, a, t, l, n, es, s, ks, rfl, net, ed, cn, hn, ht, is, hL, wl, hl, q⟩ := h
    have hr2 := hr.mono (show 2 ≤ 8 by decide)
    have hr3 := hr.mono (show 3 ≤ 8 by decide)
    have hr7 := hr.mono (show 7 ≤ 8 by decide)
    have hu := hr.units
    refine ⟨_, pss_cons (ps_asg (pe_tup (pa_cons (pe_cl G.due hr3 (by rfl) (pa_cons (pv 1) (pa_cons (pe_ix (r := rIxT K) ix_tup (pv 2) pe_int (fun _ _ => rfl)) (pa_cons (pv 3) pa_nil)))) (pa_cons (pe_cl G.kept hr (by rfl) (pa_cons (pv 0) (pa_cons (pv 2) (pa_cons (pv 3) pa_nil)))) pa_nil)))
          (pg_tup rfl (pgs_cons (pg_name (i := 4) nd rfl (.inr rfl)) (pgs_cons (pg_name (i := 5) nd rfl (.inr rfl)) pgs_nil))))
      <| pss_cons (ps_if (pt_cmpR op_ne (pe_callB (cr_reprD (hg.deeper _) hu) (by rfl) T.repr (by decide +kernel) (pa_cons (pv 5) pa_nil))
          (pe_callB (cr_reprD (hg.deeper _) hu) (by rfl) T.repr (by decide +kernel) (pa_cons (pe_cl G.lafter hr2 (by rfl) (pa_cons (pv 1) (pa_cons (pv 2) (pa_cons (pv 3) pa_nil)))) pa_nil)) (nomark _)) (pss_one ps_never) pss_nil)
      <| pss_cons (ps_if (pt_cmpR (op_neD hu) (pe_lc (own := [("_law_n", 6)]) (g := gName 6) (by rfl) nd (pi_range1 (by rfl) T.range (pa_cons (pe_callB cr_len (by rfl) T.len PySem.boot_len (pa_cons (pv 4) pa_nil)) pa_nil))
            (blkOk_by (own := [("_law_n", 6)]) (N := nAr) (sc := defScope sArrangementRight) (by decide +kernel)) (fun _ _ _ _ _ => pg_name (i := 6) nd rfl (.inl rfl))
            (fun _ _ _ _ _ => pts_one (pt_cmpR op_ne (pe_ix (r := rIxT K) ix_tup (pe_ix (r := rIxT K) ix_tup (pv 5) pe_int (fun _ _ => rfl)) (pe_ix (r := rIxT K) ix_tup (pv 4) (pv 6) (fun _ _ => rfl)) (fun _ _ => rfl))
              (pe_ix (r := rIxT K) ix_tup (pe_ix (r := rIxT K) ix_tup (pv 2) pe_int (fun _ _ => rfl)) (pv 6) (fun _ _ => rfl)) (nomark _))) (fun _ _ _ _ _ => pv 6)) (pe_lst pa_nil) (nomark _)) (pss_one ps_never) pss_nil)
      <| pss_cons (PS.imp (t' := tTwice C) (ps_if (PW.pt (pw_and (pt_cmpR (op_neD hu) (pv 1) (pe_tup pa_nil) (nomark _)) (pw_and (pt_cmpR (op_neD hu) (pv 3) (pe_lst pa_nil) (nomark _))
          (pw_and1 (pt_cmpR (op_neD hu) (pe_cl G.after hr7 (by rfl) (pa_cons (pv 0) (pa_cons (pv 2) (pa_cons (pe_ix (r := rIxL K) ix_list (pv 3) pe_int (fun _ _ => rfl)) (pa_cons (pe_ix (r := rIxL K) ix_list (pv 3) pe_int (fun _ _ => rfl)) pa_nil))))) (pv 2) (nomark _)))))) (pss_one ps_never) pss_nil) (fun D σ H h => ?twice))
      <| pss_one (ps_ret (pe_cmpR (op_eqD hu) (pe_cl G.kept hr (by rfl) (pa_cons (pv 0) (pa_cons (pv 5) (pa_cons (pe_revL (pv 3)) pa_nil)))) (pv 2) (nomark _))), ?_⟩
    case twice =>
      obtain ⟨x, a, t, l, n, es, s, ks, e0, e1, e2, e3, net, ed, ve, ht, is, hL, wl, hl, q⟩ := h
      refine ⟨_, e1, Nat.zero_le _, fun t0 nt0 => ?_⟩
      have z0 := same_upd (o := .tup []) nt0
      have ht0 : Tp (upd H t0 (.tup [])) t0 [] := upd_same
      obtain ⟨dd, d1, d2, d3⟩ := dp_ed (K := K) (ed.same z0)
      generalize upd H t0 (.tup []) = H0 at *
      refine ⟨dd, .tuple ((NI []).map PyData.int), d1, dp_tp ht0, d2, shaped_ti _, _, rfl, ?_⟩
      have d3' : PyData.eqv dd (.tuple ((NI []).map PyData.int)) = decide (es = []) := d3
      rw [d3']
      by_cases hes : es = []
      · rw [decide_eq_true hes]
        exact iteF (iteF (q _ z0))
      rw [decide_eq_false hes]
      refine iteT ⟨_, e3, Nat.zero_le _, fun l0 nl0 => ?_⟩
      have z1 := same_upd (o := .lst []) nl0
      have hl0 : upd H0 l0 (.lst []) l0 = some (.lst (NV [])) := upd_same
      have z01 := z0.trans z1
      generalize upd H0 l0 (.lst []) = H1 at *
      have hL1 := z01 _ _ hL
      refine ⟨_, _, dp_nl hL1, dp_nl hl0, shaped_li _, shaped_li _, _, rfl, ?_⟩
      rw [eqv_li]
      cases ks with
      | nil => exact iteF (iteF (q _ z01))
      | cons k0 rest =>
        refine iteT ?_
        have w1 : Wlk es s.1 [k0] := ⟨wl.1, trivial⟩
        have b1 := back_walk ve is w1
        have b2 : k0 ∈ drs es (oth (es.getD k0 (0, 0)) s.1) := b1.1.1
        have w2 : Wlk es s.1 [k0, k0] := ⟨wl.1, b2, trivial⟩
        refine ⟨_, e0, _, e2, _, e3, l, _, _, _, rfl, rfl, sl_of hL1, atI_nat (j := 0) (NV_get (p := k0 :: rest) (x := k0) rfl), _, e3, l, _, _, _, rfl, rfl, sl_of hL1, atI_nat (j := 0) (NV_get (p := k0 :: rest) (x := k0) rfl), x, t, n, es, s, [k0, k0], rfl, net.same z01, ve, ht.same z01, is, w2, hl, (show 2 < 100000 by decide), fun H2 r s2 st2 => ?_⟩
        have b3 : runS es s [k0, k0] = s := b1.2
        rw [b3] at st2
        refine ⟨_, e2, _, _, dp_st st2, dp_st ((ht.same z01).same s2), shaped_st _, shaped_st _, _, rfl, ?_⟩
        rw [eqv_st]
        exact iteF (q _ (z01.trans s2))
    have ve := cn.2.1
    have hp : s.1 < n := is.1
    have bw := back_walk ve is wl
    have isR := runS_is ve is wl
    have eth := fun x hx => eff_there (es := es) (p := s.1) (ks := ks) ve hp wl (q := s.2) is.2.2 (x := x) hx
    obtain ⟨q0, g01, g02⟩ := id ht
    refine ⟨_, rfl, _, rfl, t, _, _, _, rfl, rfl, sq_of g01, rfl, _, rfl, a, l, s.1, n, es, ks, rfl, ed, ve, hp, hL, wl, hl, fun H1 du s1 _ hd => ?_⟩
    refine ⟨_, rfl, _, rfl, _, rfl, x, t, l, n, es, s, ks, rfl, net.same s1, ve, ht.same s1, is, s1 _ _ hL, wl, hl, fun H2 th s2 st2 => ?_⟩
    refine ⟨(show 2 ≤ sizeLine by decide), fun T1 nT => ?_⟩
    have s3 := same_upd (o := .tup [V.ref du, V.ref th]) nT
    have hT : upd H2 T1 (.tup [V.ref du, V.ref th]) T1 = some (.tup [V.ref du, V.ref th]) := upd_same
    have sm3 := (s1.trans s2).trans s3
    have hd3 := s3 _ _ (s2 _ _ hd)
    have st3 := st2.same s3
    generalize upd H2 T1 (.tup [V.ref du, V.ref th]) = H3 at *
    refine ⟨T1, _, rfl, sq_of hT, rfl, _, _, rfl, _, _, rfl, rfl, ?_⟩
    have shR : ShD (dSt (runS es s ks)) := sh_st (by have := isR.1; omega) (isP_small isR.2.1 (by rw [isR.2.2]; omega)) (by rw [isR.2.2]; omega)
    refine ⟨_, rfl, th, _, rfl, dp_st st3, shR, ?_⟩
    refine ⟨_, rfl, _, rfl, _, rfl, a, t, l, n, es, s, ks, rfl, ed.same sm3, ve, ht.same sm3, is, sl_of (sm3 _ _ hL), wl, by omega, fun H4 r4 s4 _ st4 => ?_⟩
    refine ⟨r4, _, rfl, dp_st st4, shR, rfl, _, rfl, ?_⟩
    rw [show decide (V.str (dSt (runS es s ks)).shown = V.str (dSt (runS es s ks)).shown) = true from decide_eq_true rfl]
    refine iteF ?_
    have sm4 := sm3.trans s4
    have hd4 := s4 _ _ hd3
    have st4' := st3.same s4
    obtain ⟨q2, g21, g22⟩ := id st4'
    have g01' := sm4 _ _ g01
    have g02' : Tp H4 q0 s.2 := sm4 _ _ g02
    have lE : (eff es s.1 ks).length = es.length + 1 := eff_len
    have isE := eff_isP ve hp wl
    refine ⟨_, rfl, du, _, rfl, .inr (sq_of hd4), ((es.length + 1 : Nat) : Int), by rw [NV_len, lE], by omega, by omega, ?_⟩
    rw [Int.toNat_natCast]
    refine fun Dl nD => lc_it walk_rg0 (fun i H' => Same H4 H' ∧ H' Dl = some (.lst (NV []))) ⟨same_upd nD, upd_same⟩ (fun _ _ _ _ => trivial) ?_ ?_
    · rintro i y _ H5 hi ⟨sm5, hD⟩ ⟨rfl, rfl⟩
      have a1 : ap (eff es s.1 ks) i < (runS es s ks).2.length := by
        have := ap_lt isE (x := i) (by omega)
        rw [isR.2.2]
        omega
      have v1 : ap (runS es s ks).2 (ap (eff es s.1 ks) i) = ap s.2 i := eth i hi
      refine ⟨rfl, _, rfl, th, _, _, _, rfl, rfl, sq_of (sm5 _ _ g21), rfl, _, rfl, _, rfl, du, _, _, _, rfl, rfl, sq_of (sm5 _ _ hd4), atI_nat (NV_ap (i := i) (by omega)), q2, _, _, _, rfl, rfl, sq_of (sm5 _ _ g22), atI_nat (NV_ap a1), ?_⟩
      refine ⟨_, rfl, t, _, _, _, rfl, rfl, sq_of (sm5 _ _ g01'), rfl, _, rfl, q0, _, _, _, rfl, rfl, sq_of (sm5 _ _ g02'), atI_nat (NV_ap (i := i) (by rw [is.2.2]; exact hi)), rfl, _, rfl, ?_⟩
      rw [v1]
      refine ite2 (fun c => ?_) (fun _ => ⟨sm5, hD⟩)
      exfalso
      have c' : (!decide (V.int ((ap s.2 i : Nat) : Int) = V.int ((ap s.2 i : Nat) : Int))) = true := c
      rw [decide_eq_true rfl] at c'
      cases c'
    rintro H5 ⟨s5, hD5⟩
    refine ⟨Nat.zero_le _, fun e1 ne1 => ?_⟩
    have s6 := same_upd (o := .lst []) ne1
    have he6 : upd H5 e1 (.lst []) e1 = some (.lst (NV [])) := upd_same
    have hD6 := s6 _ _ hD5
    have s46 := s5.trans s6
    generalize upd H5 e1 (.lst []) = H6 at *
    refine ⟨_, _, dp_nl hD6, dp_nl he6, shaped_li _, shaped_li _, _, rfl, ?_⟩
    rw [eqv_li, decide_eq_true rfl]
    refine iteF ?_
    have sm6 := sm4.trans s46
    refine ⟨x, a, t, l, n, es, s, ks, rfl, rfl, rfl, rfl, net.same sm6, ed.same sm6, ve, ht.same sm6, is, sm6 _ _ hL, wl, hl, fun H7 s7 => ?_⟩
    have sm7 := sm6.trans s7
    have st7 := (st4'.same s46).same s7
    refine ⟨_, rfl, _, rfl, _, rfl, l, _, rfl, sl_of (sm7 _ _ hL), fun rv nrv => ?_⟩
    rw [NV_rev]
    have s8 := same_upd (o := .lst (NV ks.reverse)) nrv
    have hrv : upd H7 rv (.lst (NV ks.reverse)) rv = some (.lst (NV ks.reverse)) := upd_same
    have sm8 := sm7.trans s8
    have st8 := st7.same s8
    generalize upd H7 rv (.lst (NV ks.reverse)) = H8 at *
    refine ⟨x, th, rv, n, es, runS es s ks, ks.reverse, rfl, net.same sm8, ve, st8, isR, hrv, bw.1, hl, fun H9 r9 s9 st9 => ?_⟩
    rw [bw.2] at st9
    refine ⟨_, rfl, _, _, dp_st st9, dp_st ((ht.same sm8).same s9), shaped_st _, shaped_st _, ?_⟩
    rw [eqv_st]
    exact q H9 (sm8.trans s9)
end
end Hw

namespace Hw
open PySem PySem.Spec PyProof.Rows L2 ClX
theorem cn_one : CN 1 [] := by
  refine ⟨Nat.le_refl _, fun e m => ?_, fun v hv => ?_⟩
  · cases m
  · obtain rfl : v = 0 := by omega
    exact Rch.refl _
section
variable {P : Program} {w : World} {K : PySem.W.Frag} {mg : Str → Option Value} {base : Heap}
/-! ### a network is made -/
structure NetO (P : Program) (w : World) (K : PySem.W.Frag) (mg : Str → Option Value) (base : Heap) (C : Addr) : Prop where
  cl : Cls K C
  gC : mg "Network" = some (.ref C)
  made : ∃ (f : Addr) (fd : FuncData), Mk K C f ∧ FnOk P w K mg base CX0 6 f fd ["self", "places", "passages"] (spInit5 C) ∧ L2.Binds K fd ["self", "places", "passages"] []
def tNetO (C : Addr) (t : TA) : TE := fun σ H Q => t σ H fun vs H1 => ∃ (a : Addr) (n : Nat) (es : List Ed), vs = [.int (n : Int), .ref a] ∧ EdT H1 a es ∧ CN n es ∧ n ≤ 12 ∧ es.length ≤ 16 ∧ ∀ H' x, Same H1 H' → H1 x = none → NetAt5 C H' x n es → NetX C H' x n es → Q (.ref x) H'
end
section
variable {X : Cx} {C : Addr} {o e : Expr} {es : List Expr} {kws : List Keyword} {p pos apos : Pos} {t tk : TA} {ta : TE}
theorem pe_netO (N : NetO X.prog X.w X.K X.mg X.base C) (hr : Room 7 X.A) (hg : Gl X "Network") (ha : PA X (e :: es) t) (he : starEach (e :: es) X.env = (false, eval e X.env) :: starEach es X.env := by rfl)
    (hpl : (backTo pos (starEach es X.env)).any (·.1) = false := by rfl) : PE X (.Call (.Name "Network" p) (e :: es) [] pos) (tNetO C t) := by
  obtain ⟨f, fd, M, F, b⟩ := N.made
  refine ⟨fun pins s σ H Q I h => ?_⟩
  refine wpAny_Call_Name_kw (ld_glob I hg N.gC ?_ (by decide))
  refine PySem.W.callWith_K (h₀ := X.base) I.ok.mod.kin M.kp (thn (ha.run pos pins s σ H _ I h) fun us s1 ⟨vs, H1, I1, r, q⟩ => ⟨I1.kIn, ?_⟩) he hpl
  obtain ⟨a, n, es, rfl, ed, cn, hn, hl, q⟩ := q
  refine run_make M F hr b .nil pass0 I1 r fun x dx nx ndx nex => ?_
  have s0 : Same H1 (upd (upd H1 dx (.own x)) x (.ins C dx [])) := fun b o e => by
    rw [upd_ne (ne_of_none e nx), upd_ne (ne_of_none e ndx)]
    exact e
  exact ⟨x, dx, a, n, es, rfl, upd_same, ed.same s0, cn, hn, hl, fun H' kx net nx2 => ⟨rfl, q H' x (fun b o e => kx b o (ne_of_none e nx) (s0 b o e)) nx net nx2⟩⟩
/-- x(), where no repr is under way -/
theorem pe_clG0 {k : Nat} {sp : Sp} {x : Str} (c : CalG X.prog X.w X.K X.mg X.base x k [] sp) (g : NoG X.A) (hr : Room k X.A) (hg : Gl X x) (hdb : (x == ("__debug__" : Str)) = false := by decide) :
    PE X (.Call (.Name x p) [] [] pos) (fun σ H Q => sp [] H Q E0) := by
  obtain ⟨f, fd, hm, hk, b, ln, F⟩ := c.ex
  refine ⟨fun pins st σ H Q I q => ?_⟩
  refine wpAny_Call_Name_kw (ld_glob I hg hm ?_ hdb)
  refine PySem.W.callWith_K0 I.kIn hk (wpAny_call ?_)
  have bd : BindsTo st fd ⟨[], []⟩ (([] : List Str).zip []) := by
    have z := b st [] I.kIn rfl
    rw [List.append_nil] at z
    exact z
  refine codeAny_mono (F X.A g hr X.stack st H ⟨[], []⟩ [] [] Q E0 I.env0 bd .nil q) fun rs s2 hq => ?_
  cases rs with
  | error er => exact (hq : False).elim
  | ok fl =>
    cases fl with
    | ret u => exact I.after hq
    | next => exact (hq : False).elim
    | brk => exact (hq : False).elim
    | cont => exact (hq : False).elim
end
section
variable {P : Program} {w : World} {K : PySem.W.Frag} {mg : Str → Option Value} {base : Heap}
/-! ### bare_right -/
def spBR : Sp := fun vs H Q _ => vs = [] ∧ ∀ H', Same H H' → Q (.bl true) H'
theorem scBr : FnScope ["_law_bare"] ([] : List Str) (defScope sBareRight) := ⟨rfl, rfl, rfl, by decide +kernel, rfl, by decide +kernel, by decide +kernel⟩
abbrev dBr : PyData := .list [.tuple [.int 0], .tuple [.int 0, .tuple [.int 0]]]
theorem sh_dBr : ShD dBr := shD_mk (by decide +kernel) (by decide +kernel) (by decide +kernel) (by decide +kernel) (by decide +kernel)
theorem cal_br {C : Addr} (T : Txt mg) (N : NetO P w K mg base C) (GE : Cal P w K mg base "effect" 8 (spEff C)) (GA : Cal P w K mg base "after" 7 (spAfter C)) (D : Df K mg "_law_bare_right" sBareRight []) : CalG P w K mg base "_law_bare_right" 9 [] spBR := by
  have nd := scBr.nd
  refine calG_of D scBr (fun vs H Q E h => ?_) (fun f cdv A outer s0 H vs Q E hg hr h => ?_)
  · obtain ⟨rfl, _⟩ := h
    rfl
  · obtain ⟨rfl, q⟩ := h
    have hr7 := hr.mono (show 7 ≤ 8 by decide)
    have hu := hr.units
    refine ⟨_, pss_cons (ps_set (i := 0) nd rfl (.inl rfl) (pe_netO N hr7 (by rfl) (pa_cons pe_int (pa_cons (pe_tup pa_nil) pa_nil))))
      <| pss_one (ps_ret (pe_cmpR op_eq (pe_callB (cr_reprD (hg.deeper _) hu) (by rfl) T.repr (by decide +kernel) (pa_cons (pe_lst (pa_cons (pe_cl GE hr (by rfl) (pa_cons (pv 0) (pa_cons pe_int pa_nil))) (pa_cons (pe_cl GA hr7 (by rfl) (pa_cons (pv 0) (pa_cons (pe_tup (pa_cons pe_int (pa_cons (pe_tup (pa_cons pe_int pa_nil)) pa_nil))) pa_nil))) pa_nil))) pa_nil))
          (pe_callB (cr_reprD (hg.deeper _) hu) (by rfl) T.repr (by decide +kernel) (pa_cons (pe_lst (pa_cons (pe_tup (pa_cons pe_int pa_nil)) (pa_cons (pe_tup (pa_cons pe_int (pa_cons (pe_tup (pa_cons pe_int pa_nil)) pa_nil))) pa_nil))) pa_nil)) (nomark _))), ?_⟩
    refine ⟨Nat.zero_le _, fun t0 nt0 => ?_⟩
    have z0 := same_upd (o := .tup []) nt0
    refine ⟨t0, 1, [], rfl, ⟨[], upd_same, rfl, fun k hk => nomatch hk⟩, cn_one, by decide, by decide, fun H1 x s1 nx net netx => ?_⟩
    have sm1 := z0.trans s1
    have is0 : IsS 1 ([] : List Ed).length (0, [0]) := ⟨(show 0 < 1 by decide), isP_range 1, rfl⟩
    refine ⟨_, rfl, x, 0, 1, [], [], rfl, net, netx, cn_one.2.1, by decide, trivial, by decide, by decide, fun H2 u2 s2 tp2 => ?_⟩
    have e0 : eff [] 0 [] = [0] := eff_nil
    rw [e0] at tp2
    refine ⟨_, rfl, (show 1 ≤ sizeLine by decide), fun a1 na1 => ?_⟩
    have z3 := same_upd (o := .tup [V.int 0]) na1
    have ha1 : Tp (upd H2 a1 (.tup [V.int 0])) a1 [0] := upd_same
    have tp3 := z3 _ _ tp2
    have s23 := s2.trans z3
    generalize upd H2 a1 (.tup [V.int 0]) = H3 at *
    refine ⟨(show 2 ≤ sizeLine by decide), fun a2 na2 => ?_⟩
    have z4 := same_upd (o := .tup [V.int 0, V.ref a1]) na2
    have st4 : StT (upd H3 a2 (.tup [V.int 0, V.ref a1])) a2 (0, [0]) := ⟨a1, upd_same, z4 _ _ ha1⟩
    have tp4 := z4 _ _ tp3
    have s24 := s23.trans z4
    generalize upd H3 a2 (.tup [V.int 0, V.ref a1]) = H4 at *
    refine ⟨x, a2, 1, [], (0, [0]), [], rfl, net.same s24, cn_one.2.1, st4, is0, trivial, by decide, by decide, fun H5 r5 s5 st5 => ?_⟩
    have st5' : StT H5 r5 (0, [0]) := st5
    have tp5 : TpI H5 u2 [0] := s5 _ _ tp4
    refine ⟨(show 2 ≤ sizeLine by decide), fun l1 nl1 => ?_⟩
    have z6 := same_upd (o := .lst [V.ref u2, V.ref r5]) nl1
    have hl1 : upd H5 l1 (.lst [V.ref u2, V.ref r5]) l1 = some (.lst [V.ref u2, V.ref r5]) := upd_same
    have tp6 : TpI (upd H5 l1 (.lst [V.ref u2, V.ref r5])) u2 [0] := z6 _ _ tp5
    have st6 := st5'.same z6
    have sm6 := ((sm1.trans s24).trans s5).trans z6
    generalize upd H5 l1 (.lst [V.ref u2, V.ref r5]) = H6 at *
    refine ⟨l1, dBr, rfl, .lst (sl_of hl1) (.cons (dp_ti (sq_of tp6)) (.cons (dp_st st6) (dpa_ints (K := K) (H := H6) []))), sh_dBr, ?_⟩
    refine ⟨(show 1 ≤ sizeLine by decide), fun b1 nb1 => ?_⟩
    have z7 := same_upd (o := .tup [V.int 0]) nb1
    have hb1 : TpI (upd H6 b1 (.tup [V.int 0])) b1 [0] := upd_same
    generalize upd H6 b1 (.tup [V.int 0]) = H7 at *
    refine ⟨(show 1 ≤ sizeLine by decide), fun b2 nb2 => ?_⟩
    have z8 := same_upd (o := .tup [V.int 0]) nb2
    have hb2 : Tp (upd H7 b2 (.tup [V.int 0])) b2 [0] := upd_same
    have hb1' := z8 _ _ hb1
    generalize upd H7 b2 (.tup [V.int 0]) = H8 at *
    refine ⟨(show 2 ≤ sizeLine by decide), fun b3 nb3 => ?_⟩
    have z9 := same_upd (o := .tup [V.int 0, V.ref b2]) nb3
    have st9 : StT (upd H8 b3 (.tup [V.int 0, V.ref b2])) b3 (0, [0]) := ⟨b2, upd_same, z9 _ _ hb2⟩
    have hb1'' := z9 _ _ hb1'
    generalize upd H8 b3 (.tup [V.int 0, V.ref b2]) = H9 at *
    refine ⟨(show 2 ≤ sizeLine by decide), fun l2 nl2 => ?_⟩
    have z10 := same_upd (o := .lst [V.ref b1, V.ref b3]) nl2
    have hl2 : upd H9 l2 (.lst [V.ref b1, V.ref b3]) l2 = some (.lst [V.ref b1, V.ref b3]) := upd_same
    have tp10 : TpI (upd H9 l2 (.lst [V.ref b1, V.ref b3])) b1 [0] := z10 _ _ hb1''
    have st10 := st9.same z10
    have s610 := ((z7.trans z8).trans z9).trans z10
    generalize upd H9 l2 (.lst [V.ref b1, V.ref b3]) = H10 at *
    refine ⟨l2, dBr, rfl, .lst (sl_of hl2) (.cons (dp_ti (sq_of tp10)) (.cons (dp_st st10) (dpa_ints (K := K) (H := H10) []))), sh_dBr, rfl, ?_⟩
    rw [show decide (V.str dBr.shown = V.str dBr.shown) = true from decide_eq_true rfl]
    exact q H10 (sm6.trans s610)
/-! ### law -/
def spLaw (K : PySem.W.Frag) : Sp := fun vs H Q _ => ∃ (a : Addr) (ns : List Int), vs = [.ref a] ∧ SqL K H a (ns.map V.int) ∧ ns.length ≤ 63 ∧ ∀ H', Q (.bl true) H'
abbrev nLaw : List Str := ["_law_script", "_law_m", "_law_again", "_law_many", "_law_ties_here", "_law_net", "_law_spot", "_law_n", "_law_road_here", "_law_things"]
theorem scLaw : FnScope nLaw ["_law_script"] (defScope sLaw) := ⟨rfl, rfl, rfl, by decide +kernel, rfl, by decide +kernel, by decide +kernel⟩
structure LwC (P : Program) (w : World) (K : PySem.W.Frag) (mg : Str → Option Value) (base : Heap) (C : Addr) : Prop where
  net : NetO P w K mg base C
  begun : Cal P w K mg base "_law_begun" 2 (spBegun K)
  draw : Cal P w K mg base "_law_draw" 2 spDraw
  ties : Cal P w K mg base "_law_ties" 5 spTies
  road : Cal P w K mg base "_law_road" 3 spRoad
  mixedUp : Cal P w K mg base "_law_mixed_up" 3 (spMixedUp K)
  br : CalG P w K mg base "_law_bare_right" 9 [] spBR
  sr : CalG P w K mg base "_law_short_right" 10 pSr (spSR C)
  lr : Cal P w K mg base "_law_long_right" 9 (spLR C)
  ar : CalG P w K mg base "_law_arrangement_right" 9 pAr (spAR C)
theorem ok_law {C : Addr} {f : Addr} {fd : FuncData} (T : Txt mg) (G : LwC P w K mg base C) (F : Fun K "law" "law" sLaw f fd) : FnG P w K mg base 11 f fd ["_law_script"] (spLaw K) := by
  have nd := scLaw.nd
  refine okG F scLaw (fun vs H Q E h => ?_) (fun cdv A outer s0 H vs Q E hg hr h => ?_)
  · obtain ⟨a, ns, rfl, _⟩ := h
    rfl
  · obtain ⟨a, ns, rfl, ha, hl, q⟩ := h
    have hr2 := hr.mono (show 2 ≤ 10 by decide)
    have hr3 := hr.mono (show 3 ≤ 10 by decide)
    have hr5 := hr.mono (show 5 ≤ 10 by decide)
    have hr7 := hr.mono (show 7 ≤ 10 by decide)
    have hr9 := hr.mono (show 9 ≤ 10 by decide)
    have hu := hr.units
    refine ⟨_, pss_cons (ps_set (i := 1) nd rfl (.inl rfl) (pe_cl G.begun hr2 (by rfl) (pa_cons (pv 0) pa_nil)))
      <| pss_cons (ps_if (pt_not (pt_val (pe_clG0 G.br (hg.deeper _) hr9 (by rfl)))) (pss_one ps_never) pss_nil)
      <| pss_cons (ps_for PassesOwn.never rfl (pi_range1 (by rfl) T.range (pa_cons (pe_op op_add pe_int (pe_callB (call_min2 rfl) (by rfl) T.min (by decide +kernel) (pa_cons pe_int (pa_cons (pe_op op_fdiv (pe_callB cr_len (by rfl) T.len PySem.boot_len (pa_cons (pv 0) pa_nil)) pe_int) pa_nil)))) pa_nil)) (pg_name (i := 2) nd rfl (.inl rfl))
          (pss_cons (ps_asg (pe_cl G.ties hr5 (by rfl) (pa_cons (pv 1) (pa_cons (pe_op op_add pe_int (pe_cl G.draw hr2 (by rfl) (pa_cons (pv 1) (pa_cons pe_int pa_nil)))) (pa_cons (pe_cl G.draw hr2 (by rfl) (pa_cons (pv 1) (pa_cons pe_int pa_nil))) (pa_cons (pe_cl G.draw hr2 (by rfl) (pa_cons (pv 1) (pa_cons pe_int pa_nil))) pa_nil)))))
              (pg_tup rfl (pgs_cons (pg_name (i := 3) nd rfl (.inl rfl)) (pgs_cons (pg_name (i := 4) nd rfl (.inl rfl)) pgs_nil))))
          <| pss_cons (ps_par (i := 5) (j := 6) (by rfl) nd rfl rfl (by decide) rfl rfl (pa_cons (pe_netO G.net hr7 (by rfl) (pa_cons (pv 3) (pa_cons (pv 4) pa_nil))) (pa_cons (pe_cl G.draw hr2 (by rfl) (pa_cons (pv 1) (pa_cons (pv 3) pa_nil))) pa_nil)) (by rfl))
          <| pss_cons (ps_for PassesOwn.never rfl (pi_range1 (by rfl) T.range (pa_cons pe_int pa_nil)) (pg_name (i := 7) nd rfl (.inl rfl))
              (pss_one (ps_if (pt_not (pt_val (pe_clG G.sr (hg.deeper _) hr (by rfl) (pa_cons (pv 1) (pa_cons (pv 5) (pa_cons (pv 4) (pa_cons (pv 6) (pa_cons (pe_cl G.road hr3 (by rfl) (pa_cons (pv 1) (pa_cons (pv 4) (pa_cons (pv 6) (pa_cons (pe_cl G.draw hr2 (by rfl) (pa_cons (pv 1) (pa_cons pe_int pa_nil))) pa_nil))))) pa_nil)))))))) (pss_one ps_never) pss_nil)))
          <| pss_cons (ps_set (i := 8) nd rfl (.inl rfl) (pe_cl G.road hr3 (by rfl) (pa_cons (pv 1) (pa_cons (pv 4) (pa_cons (pv 6) (pa_cons (pe_cl G.draw hr2 (by rfl) (pa_cons (pv 1) (pa_cons pe_int pa_nil))) pa_nil))))))
          <| pss_cons (ps_if (pt_not (pt_val (pe_cl G.lr hr9 (by rfl) (pa_cons (pv 5) (pa_cons (pv 4) (pa_cons (pv 6) (pa_cons (pv 8) pa_nil))))))) (pss_one ps_never) pss_nil)
          <| pss_one (ps_for PassesOwn.never rfl (pi_range1 (by rfl) T.range (pa_cons pe_int pa_nil)) (pg_name (i := 7) nd rfl (.inl rfl))
              (pss_cons (ps_set (i := 9) nd rfl (.inl rfl) (pe_callTy call_tuple_of (by rfl) T.tuple (by decide +kernel) (pa_cons (pe_cl G.mixedUp hr3 (by rfl) (pa_cons (pv 1) (pa_cons (pe_listRg (by rfl) (by rfl) T.list (prg_1 (by rfl) T.range (pe_op op_add (pe_callB cr_len (by rfl) T.len PySem.boot_len (pa_cons (pv 4) pa_nil)) pe_int))) pa_nil))) pa_nil)))
              <| pss_one (ps_if (pt_not (pt_val (pe_clG G.ar (hg.deeper _) hr9 (by rfl) (pa_cons (pv 5) (pa_cons (pv 4) (pa_cons (pe_tup (pa_cons (pv 6) (pa_cons (pv 9) pa_nil))) (pa_cons (pv 8) pa_nil))))))) (pss_one ps_never) pss_nil)))))
      <| pss_one (ps_ret pe_bl), ?_⟩
    refine ⟨_, rfl, a, ns, rfl, ha, hl, fun H1 m lg lc s1 M1 => ?_⟩
    refine ⟨rfl, fun H2 s2 => ⟨_, rfl, iteF ?_⟩⟩
    have ha2 := (s1.trans s2).seq ha
    have M2 := M1.same s2
    refine ⟨_, rfl, a, _, rfl, .inl ha2, _, _, rfl, rfl, ⟨by decide, by decide⟩, _, _, rfl, _, _, rfl, rfl, ?_⟩
    obtain ⟨k, hk, k4⟩ : ∃ k : Nat, (1 + if (((ns.map V.int).length : Int) / 6) < 3 then (((ns.map V.int).length : Int) / 6) else 3) = (k : Int) ∧ k ≤ 4 := by
      rw [List.length_map]
      by_cases z : ((ns.length : Int) / 6) < 3
      · rw [if_pos z]
        exact ⟨(1 + (ns.length : Int) / 6).toNat, by omega, by omega⟩
      · rw [if_neg z]
        exact ⟨4, rfl, by decide⟩
    refine ⟨(k : Int), congrArg (fun z : Int => [V.int z]) hk, by omega, by omega, ?_⟩
    rw [Int.toNat_natCast]
    refine for_it (walk_rg0 (n := k)) (fun i σ H' => ∃ v2 v3 v4 v5 v6 v7 v8 v9 s', σ = [some (.ref a), some (.ref m), v2, v3, v4, v5, v6, v7, v8, v9] ∧ MOk H' m lg lc s' ∧ s' ≤ 1000 * i) ⟨none, none, none, none, none, none, none, none, 0, rfl, M2, by omega⟩ (fun _ _ _ _ _ => trivial) ?_ ?_
    · rintro i y σ _ H3 hi ⟨v2, v3, v4, v5, v6, v7, v8, v9, s, rfl, M3, hs⟩ ⟨rfl, rfl⟩
      refine ⟨_, rfl, _, rfl, m, lg, lc, s, 3, rfl, M3, by omega, by omega, by omega, fun H4 d1 hd1 kp4 M4 => ?_⟩
      refine ⟨_, _, rfl, rfl, _, rfl, m, lg, lc, s + 1, 3, rfl, M4, by omega, by omega, by omega, fun H5 d2 hd2 kp5 M5 => ?_⟩
      refine ⟨_, rfl, m, lg, lc, s + 2, 2, rfl, M5, by omega, by omega, by omega, fun H6 d3 hd3 kp6 M6 => ?_⟩
      have e1 : (1 : Int) + (d1 : Int) = ((1 + d1 : Nat) : Int) := by omega
      dsimp only
      rw [e1]
      refine ⟨m, lg, lc, s + 3, 1 + d1, d2, d3, rfl, M6, by omega, by omega, by omega, by omega, by omega, fun H7 t r n es s7 cn hn hl' kp7 nt nr ht hr7' hs7 M7 => ?_⟩
      refine ⟨t, _, rfl, sq_of ht, rfl, _, _, rfl, _, _, rfl, rfl, ?_⟩
      refine ⟨_, rfl, _, rfl, r, n, es, rfl, hr7', cn, hn, hl', fun H8 x s8 nx8 net netx => ?_⟩
      have M8 := M7.same s8
      refine ⟨_, rfl, _, rfl, m, lg, lc, s7, n, rfl, M8, by omega, cn.1, by omega, fun H9 p hp kp9 M9 => ?_⟩
      have net9 := net.kp kp9 M8
      have nx9 := netx.kp kp9 M8
      have ed9 := (hr7'.same s8).kp kp9 M8
      refine ⟨_, _, rfl, ?_⟩
      refine ⟨4, rfl, by decide, by decide, ?_⟩
      refine for_it (walk_rg0 (n := 4)) (fun j σ H' => ∃ v7 s', σ = [some (.ref a), some (.ref m), some (.int (i : Int)), some (.int (n : Int)), some (.ref r), some (.ref x), some (.int (p : Int)), v7, v8, v9] ∧ MOk H' m lg lc s' ∧ s' ≤ s7 + 1 + 20 * j ∧ NetAt5 C H' x n es ∧ NetX C H' x n es ∧ EdT H' r es)
        ⟨v7, s7 + 1, rfl, M9, by omega, net9, nx9, ed9⟩ (fun _ _ _ _ _ => trivial) ?_ ?_
      · rintro j y2 σ _ HA hj ⟨w7, sA, rfl, MA, hsA, netA, nxA, edA⟩ ⟨rfl, rfl⟩
        refine ⟨_, rfl, _, rfl, _, rfl, _, rfl, _, rfl, _, rfl, _, rfl, _, rfl, m, lg, lc, sA, 7, rfl, MA, by omega, by decide, by decide, fun HB d hd kpB MB => ?_⟩
        refine ⟨m, lg, lc, r, sA + 1, n, p, d, es, rfl, MB, by omega, edA.kp kpB MA, cn, hp, hl', by omega, fun HC rd ks sC nrC rdg kpC hrd wl len hsC MC => ?_⟩
        have kl : ks.length ≤ 6 := by
          rcases len with z | ⟨_, z⟩
          · omega
          · rw [z]; exact Nat.zero_le _
        have netC := (netA.kp kpB MA).kp kpC MB
        have nxC := (nxA.kp kpB MA).kp kpC MB
        have edC := (edA.kp kpB MA).kp kpC MB
        refine ⟨m, lg, lc, x, r, rd, sC, p, n, es, ks, rfl, MC, by omega, netC, nxC, edC, cn, hp, rdg, hrd, wl, hl', kl, fun HD sD kpD MD hsD => ⟨_, rfl, iteF ?_⟩⟩
        exact ⟨_, sD, rfl, MD, by omega, netC.kp kpD MC, nxC.kp kpD MC, edC.kp kpD MC⟩
      rintro σ HA ⟨w7, sA, rfl, MA, hsA, netA, nxA, edA⟩
      refine ⟨_, rfl, _, rfl, _, rfl, _, rfl, m, lg, lc, sA, 41, rfl, MA, by omega, by decide, by decide, fun HB d hd kpB MB => ?_⟩
      refine ⟨m, lg, lc, r, sA + 1, n, p, d, es, rfl, MB, by omega, edA.kp kpB MA, cn, hp, hl', by omega, fun HC rd ks sC nrC rdg kpC hrd wl len hsC MC => ?_⟩
      have netC := (netA.kp kpB MA).kp kpC MB
      have nxC := (nxA.kp kpB MA).kp kpC MB
      have edC := (edA.kp kpB MA).kp kpC MB
      refine ⟨_, rfl, _, rfl, _, rfl, _, rfl, x, r, rd, p, n, es, ks, rfl, netC, nxC, edC, cn, hp, hrd, wl, hl', fun HD sD => ⟨_, rfl, iteF ?_⟩⟩
      refine ⟨3, rfl, by decide, by decide, ?_⟩
      refine for_it (walk_rg0 (n := 3)) (fun j σ H' => ∃ v7 v9 s', σ = [some (.ref a), some (.ref m), some (.int (i : Int)), some (.int (n : Int)), some (.ref r), some (.ref x), some (.int (p : Int)), v7, some (.ref rd), v9] ∧ MOk H' m lg lc s' ∧ s' ≤ sC + 20 * j ∧ NetAt5 C H' x n es ∧ EdT H' r es ∧ H' rd = some (.lst (NV ks)))
        ⟨w7, v9, sC, rfl, MC.same sD, by omega, netC.same sD, edC.same sD, sD _ _ hrd⟩ (fun _ _ _ _ _ => trivial) ?_ ?_
      · rintro j y2 σ _ HE hj ⟨u7, u9, sE, rfl, ME, hsE, netE, edE, hrE⟩ ⟨rfl, rfl⟩
        obtain ⟨js, k1, k2, k3⟩ := id edE
        have jl := ed_len k2
        refine ⟨_, rfl, _, rfl, r, _, rfl, .inr (sq_of k1), _, _, rfl, rfl, ((es.length + 1 : Nat) : Int), by rw [nv_len, jl]; rfl, RgOk.of_le (by omega) (by omega) (by omega) (by omega), fun l0 nl0 => ?_⟩
        rw [NV_range]
        have sF := same_upd (o := .lst (NV (List.range (es.length + 1)))) nl0
        have hl0 : upd HE l0 (.lst (NV (List.range (es.length + 1)))) l0 = some (.lst (NV (List.range (es.length + 1)))) := upd_same
        have MF := ME.same sF
        generalize upd HE l0 (.lst (NV (List.range (es.length + 1)))) = HF at *
        refine ⟨m, lg, lc, l0, sE, NV (List.range (es.length + 1)), rfl, MF, .inl (sl_of hl0), by rw [NV_len, List.length_range]; omega, by rw [NV_len, List.length_range]; omega, fun HG r3 ys hperm kpG nr3 hr3' MG => ?_⟩
        rw [NV_len, List.length_range] at MG
        obtain ⟨pm, rfl, pp⟩ := perm_NV hperm
        obtain ⟨ip, pl'⟩ := isP_of_perm pp
        refine ⟨r3, _, rfl, .inl ⟨sl_of hr3', fun t1 nt1 => ?_⟩⟩
        have sH := same_upd (o := .tup (NV pm)) nt1
        have ht1 : Tp (upd HG t1 (.tup (NV pm))) t1 pm := upd_same
        have MH := MG.same sH
        have netH := ((netE.same sF).kp kpG MF).same sH
        have edH := ((edE.same sF).kp kpG MF).same sH
        have hrH := sH _ _ (kpG.lst MF rdg (sF _ _ hrE))
        generalize upd HG t1 (.tup (NV pm)) = HH at *
        refine ⟨_, rfl, _, rfl, _, rfl, _, rfl, (show 2 ≤ sizeLine by decide), fun tb ntb => ?_⟩
        have sI := same_upd (o := .tup [V.int (p : Int), V.ref t1]) ntb
        have stb : StT (upd HH tb (.tup [V.int (p : Int), V.ref t1])) tb (p, pm) := ⟨t1, upd_same, sI _ _ ht1⟩
        have MI := MH.same sI
        have netI := netH.same sI
        have edI := edH.same sI
        have hrI := sI _ _ hrH
        generalize upd HH tb (.tup [V.int (p : Int), V.ref t1]) = HI at *
        refine ⟨_, rfl, x, r, tb, rd, n, es, (p, pm), ks, rfl, netI, edI, cn, hn, stb, ⟨hp, ip, pl'⟩, hrI, wl, hl', fun HJ sJ => ⟨_, rfl, iteF ?_⟩⟩
        exact ⟨_, _, sE + (es.length + 1), rfl, MI.same sJ, by omega, netI.same sJ, edI.same sJ, sJ _ _ hrI⟩
      · rintro σ HE ⟨u7, u9, sE, rfl, ME, hsE, netE, edE, hrE⟩
        exact ⟨_, _, _, _, _, _, _, _, sE, rfl, ME, by omega⟩
    · rintro σ H3 ⟨v2, v3, v4, v5, v6, v7, v8, v9, s, rfl, M3, hs⟩
      exact q _
end
end Hw

/-! The law's end for a promise that is kept where no repr is under way. -/
namespace Hw
open PySem PySem.Spec PyProof.Rows L2
section
variable {P : Program} {w : World} {K : PySem.W.Frag} {mg mb : Str → Option Value} {k : Nat} {fa a : Addr} {fd : FuncData} {x : Str} {sp : Sp} {st : Shared} {vs : List Value} {ns : List Int}
/-- what the law's call must end with -/
def EndOk (P : Program) (w : World) (fa a : Addr) (st : Shared) : Prop :=
  codeAny (model P w) callerA (.call (.ref fa) ⟨[.ref a], []⟩) (fun r s2 => r = .ok (.ret (.bool true)) ∧ OldK st.heap s2.heap ∧ s2.os = st.os ∧ AllBare s2.gens) st
theorem callerA_g : NoG callerA := rfl
/-- with a heap in which at most the script is told -/
theorem end_core (KX : K.In st.heap) (nsM : st.heap.Ns mainGlobals mg) (nsB : st.heap.Ns builtinsNs mb) (blt : ∀ y : Str, y ≠ "__name__" → mb y = bootBuiltins y) (lim : st.heap.NoLimit) (gen0 : st.gens = #[])
    (at_ : st.heap.get? a = some { cls := .type "list", data := .seq vs.toArray }) (rm : Room k callerA) (F : ∀ base : Heap, K.In base → base.Ns mainGlobals mg → FnG P w K mg base k fa fd [x] sp)
    (bnd : ∀ (s : Shared) (u : Value), BindsTo s fd ⟨[u], []⟩ [(x, u)]) {H : Hp} (only : Only H) (prom : sp [.ref a] H (fun v _ => v = .bl true) fun _ _ _ => False) (hok : HOk P w H st.heap)
    (one : ∀ b, H b ≠ none → b = a) (own : H a ≠ none → K.lookup a = none) : EndOk P w fa a st := by
  have free : ∀ b, b ≠ a → H b = none := fun b n => Classical.byContradiction fun q => n (one b q)
  have dictFree : ∀ (b : Addr) (o : Obj) (es : Array DictEntry) (ep : Nat), st.heap.get? b = some o → o.data = .dict es ep → H b = none := by
    intro b o es ep e d
    refine free b fun q => ?_
    subst q
    rw [at_] at e
    obtain rfl := Option.some.inj e
    exact nomatch d
  have nsT : ∀ (b : Addr) (m : Str → Option Value), st.heap.Ns b m → (hidT st.heap H).Ns b m := by
    rintro b m ⟨o, es, ep, e, d, r⟩
    exact ⟨o, es, ep, hidT_get e (dictFree b o es ep e d), d, r⟩
  have KT : K.In (hidT st.heap H) := by
    intro b o e
    refine hidT_get (KX b o e) (Classical.byContradiction fun q => ?_)
    obtain rfl := one b q
    rw [own q] at e
    cases e
  obtain ⟨mc, l1, l2⟩ := lim
  have md : Mod K mg (hidT st.heap H) := ⟨KT, nsT _ _ nsM, ⟨mb, nsT _ _ nsB, blt⟩, ⟨mc, nsT _ _ l1, l2⟩⟩
  have noFr : ∀ b : Addr, b ∉ frs ([] : List Env) := fun b z => by
    have z' : b ∈ ([] : List Addr) := z
    cases z'
  have e0 : Env0 P w K mg (hidT st.heap H) callerA [] st H :=
    { frames := rfl, mod := md, bs := fun b o e => of_hidT e, bsz := Nat.le_of_eq (hidT_size _ _), funs := trivial, frf := fun b z => absurd z (noFr b), hok := hok, bare := .of_eq gen0 }
  have go := F _ KT (nsT _ _ nsM) callerA callerA_g rm [] st H ⟨[.ref a], []⟩ [.ref a] [.ref a] _ _ e0 (bnd st (.ref a)) (.cons rfl .nil) prom
  refine codeAny_mono go fun r s2 h => ?_
  match r, h with
  | .error _, h => exact (h : False).elim
  | .ok .next, h => exact (h : False).elim
  | .ok .brk, h => exact (h : False).elim
  | .ok .cont, h => exact (h : False).elim
  | .ok (.ret u), h =>
    obtain ⟨v, H2, os, bare, un, hok2, rv, q⟩ := h
    obtain rfl : v = .bl true := q
    obtain rfl : u = Value.bool true := rv
    refine ⟨rfl, OldK.of_keep fun b o e => ?_, os, bare⟩
    rcases only b with z | ⟨ob, xs, z⟩
    · exact un.keep b o e z (noFr b) (by simp)
    · have e2 := (hok b _ z).1
      rw [e] at e2
      cases e2
      exact (hok2 b _ (un.frzs b _ _ z)).1
theorem end_call (KX : K.In st.heap) (nsM : st.heap.Ns mainGlobals mg) (nsB : st.heap.Ns builtinsNs mb) (blt : ∀ y : Str, y ≠ "__name__" → mb y = bootBuiltins y) (lim : st.heap.NoLimit) (gen0 : st.gens = #[])
    (at_ : st.heap.get? a = some { cls := .type "list", data := .seq vs.toArray }) (iA : IntsAre vs ns) (len : ns.length ≤ sizeLine) (rm : Room k callerA) (F : ∀ base : Heap, K.In base → base.Ns mainGlobals mg → FnG P w K mg base k fa fd [x] sp)
    (bnd : ∀ (s : Shared) (u : Value), BindsTo s fd ⟨[u], []⟩ [(x, u)]) (prom : ∀ H : Hp, Only H → SqL K H a (ns.map V.int) → sp [.ref a] H (fun v _ => v = .bl true) fun _ _ _ => False) : EndOk P w fa a st := by
  have rv := vals_ints iA
  cases hk : K.lookup a with
  | some o =>
    have e := KX a o hk
    rw [at_] at e
    obtain rfl := Option.some.inj e
    have em : Only (fun _ => none) := fun _ => .inl rfl
    have sq : SqL K (fun _ => none) a (ns.map V.int) := .inr ⟨_, vs.toArray, _, hk, rfl, rfl, rfl, by rw [List.size_toArray, iA.length]; exact len, by simpa using rv⟩
    exact end_core KX nsM nsB blt lim gen0 at_ rm F bnd em (prom _ em sq) (fun b u z => nomatch (show (none : Option HO) = some u from z)) (fun b z => absurd rfl z) fun z => absurd rfl z
  | none =>
    let H : Hp := fun b => if b = a then some (.frz { cls := .type "list", data := .seq vs.toArray } (.lst (ns.map V.int))) else none
    have Ha : H a = some (.frz { cls := .type "list", data := .seq vs.toArray } (.lst (ns.map V.int))) := if_pos rfl
    have Hn : ∀ b, b ≠ a → H b = none := fun b n => if_neg n
    have em : Only H := fun b => by
      by_cases z : b = a
      · subst z
        exact .inr ⟨_, _, Ha⟩
      · exact .inl (Hn b z)
    refine end_core KX nsM nsB blt lim gen0 at_ rm F bnd em (prom H em (.inl (.inr ⟨_, Ha⟩))) (fun b u z => ?_) (fun b z => Classical.byContradiction fun q => z (Hn b q)) fun _ => hk
    by_cases hb : b = a
    · subst hb
      rw [Ha] at z
      obtain rfl := Option.some.inj z
      exact ⟨at_, by rw [List.length_map]; exact len, vs, _, rv, at_⟩
    · rw [Hn b hb] at z
      cases z
end
theorem walk_G {l : PySem.W.OpenLaw} {n k : Nat} {q : Program} {loose : List Str} {XP : (Str → Option Value) → Heap → Prop} {YP : World → Heap → Prop} {d : DefRec} {K : Params → PySem.W.Frag} {sp : World → Sp} {x : Str}
    (most : l.most = some n) (le : n ≤ sizeLine) (df0 : d.params.defaults = []) (rm : Room k callerA) (hY : ∀ (w : World) (h : Heap), YP w h → (K w.params).In h)
    (F : ∀ (w : World) (mg : Str → Option Value) (fa : Addr) (h : Heap), (K w.params).In h → h.Ns mainGlobals mg → mg d.name = some (.ref fa) →
      ∃ fd : FuncData, (∀ (s : Shared) (u : Value), BindsTo s fd ⟨[u], []⟩ [(x, u)]) ∧ ∀ base : Heap, (K w.params).In base → base.Ns mainGlobals mg → FnG l.prog w (K w.params) mg base k fa fd [x] (sp w))
    (prom : ∀ (w : World) (H : Hp) (a : Addr) (ns : List Int), ns.length ≤ n → Only H → SqL (K w.params) H a (ns.map V.int) → sp w [.ref a] H (fun v _ => v = .bl true) fun _ _ _ => False) :
    PySem.W.WalkO q loose XP YP l.row.toRowW d [] (fun f vs => PySem.call f vs) :=
  Att.attach_call most df0 fun w _ s₁ mg _ fa _ _ _ _ a _ ns G Y _ _ _ hmg obj iA len g0 =>
    let ⟨_, bnd, hF⟩ := F w mg fa _ (hY w _ Y) G.T.g hmg
    end_call (hY w _ Y) G.T.g G.T.b G.T.builtins G.T.nolimit g0 obj iA (Nat.le_trans len le) rm hF bnd fun H hO hS => prom w H a ns len hO hS
end Hw

namespace Hw
open PySem PySem.Spec PyProof.Rows L2 ClX
theorem df_mk {K : PySem.W.Frag} {h : Heap} {mg : Str → Option Value} (X : K.In h) (G : h.Ns mainGlobals mg) {x : Str} {st : Stmt} {ps : List Str} {f : Addr} {oc : Value} {od an : Option Addr} {osl : Array (Option Value)} {kV doc pm cdv ct : Value}
    (a : PySem.W.nsIn K mainGlobals x = some (some (.ref f))) (l : K.lookup f = some ⟨oc, od, .func (PySem.W.fnOf x x (defArgs st) (defBody st) (defScope st) .none kV doc pm an cdv ct), osl⟩) (c : PySem.W.codeIn K cdv x = true) (k : PySem.W.keepIn K (.ref f) = true)
    (hb : ∀ (kV doc pm : Value) (an : Option Addr) (cdv ct : Value) (us : List Value), us.length = ps.length → bindArgs (PySem.W.fnOf x x (defArgs st) (defBody st) (defScope st) .none kV doc pm an cdv ct) ⟨us, []⟩ = pure (ps.zip us)) : Df K mg x st ps := by
  have F := fun_mk (st := st) l c k
  exact ⟨f, _, F, F.binds hb, PySem.W.mg_of X G a⟩
theorem dfs_mk {K : PySem.W.Frag} {h : Heap} {mg : Str → Option Value} (X : K.In h) (G : h.Ns mainGlobals mg) {x : Str} {st : Stmt} {f : Addr} {oc : Value} {od an : Option Addr} {osl : Array (Option Value)} {kV doc pm cdv ct : Value}
    (a : PySem.W.nsIn K mainGlobals x = some (some (.ref f))) (l : K.lookup f = some ⟨oc, od, .func (PySem.W.fnOf x x (defArgs st) (defBody st) (defScope st) .none kV doc pm an cdv ct), osl⟩) (c : PySem.W.codeIn K cdv x = true) (k : PySem.W.keepIn K (.ref f) = true) : DfS K mg x st :=
  ⟨f, _, fun_mk (st := st) l c k, PySem.W.mg_of X G a⟩
/-- a method, from what stands in the text -/
theorem dm_mk {K : PySem.W.Frag} {C f : Addr} {m qual : Str} {st : Stmt} {ps : List Str} {oc : Value} {od an : Option Addr} {osl : Array (Option Value)} {kV doc pm cdv ct : Value}
    (a : PySem.W.findIn K (.ref C) m = some (some (.ref f))) (i : PySem.W.isFn K (.ref f) = true) (l : K.lookup f = some ⟨oc, od, .func (PySem.W.fnOf m qual (defArgs st) (defBody st) (defScope st) .none kV doc pm an cdv ct), osl⟩) (c : PySem.W.codeIn K cdv qual = true) (k : PySem.W.keepIn K (.ref f) = true)
    (hb : ∀ (kV doc pm : Value) (an : Option Addr) (cdv ct : Value) (us : List Value), us.length = ps.length → bindArgs (PySem.W.fnOf m qual (defArgs st) (defBody st) (defScope st) .none kV doc pm an cdv ct) ⟨us, []⟩ = pure (ps.zip us)) : Dm K C m qual st ps := by
  have F := fun_mk (st := st) l c k
  exact ⟨f, _, F, F.binds hb, ⟨a, i, k⟩⟩
/-- a property, from what stands in the text -/
structure PrD (K : PySem.W.Frag) (C : Addr) (f q : Str) (st : Stmt) : Prop where
  ex : ∃ (p g : Addr) (fd : FuncData), PropOf K C f p g ∧ Fun K f q st g fd ∧ L2.Binds K fd ["self"] []
theorem prd_mk {K : PySem.W.Frag} {C pB gB : Addr} {f q : Str} {st : Stmt} {rB : List Value} {oc : Value} {od an : Option Addr} {osl : Array (Option Value)} {kV doc pm cdv ct : Value}
    (b1 : PySem.W.findIn K (.ref C) f = some (some (.ref pB))) (b2 : PySem.W.specialIn K (.ref pB) "__get__" = some (some (.builtin "property.__get__"))) (b3 : PySem.W.takesIn K (.ref pB) = some true) (b4 : PySem.W.recIn K pB "property" = some (.ref gB :: rB))
    (l : K.lookup gB = some ⟨oc, od, .func (PySem.W.fnOf f q (defArgs st) (defBody st) (defScope st) .none kV doc pm an cdv ct), osl⟩) (c : PySem.W.codeIn K cdv q = true) (k : PySem.W.keepIn K (.ref gB) = true)
    (hb : ∀ (kV doc pm : Value) (an : Option Addr) (cdv ct : Value) (us : List Value), us.length = 1 → bindArgs (PySem.W.fnOf f q (defArgs st) (defBody st) (defScope st) .none kV doc pm an cdv ct) ⟨us, []⟩ = pure (([("self" : Str)] : List Str).zip us)) : PrD K C f q st := by
  have F := fun_mk (st := st) l c k
  exact ⟨pB, gB, _, ⟨b1, b2, b3, ⟨rB, b4⟩⟩, F, F.binds hb⟩
abbrev sGetPl : Stmt := inClass sNetwork 5
abbrev sGetPa : Stmt := inClass sNetwork 6
abbrev sGetSt : Stmt := inClass sNetwork 7
/-- all the defs of the text -/
structure Ds (K : PySem.W.Frag) (mg : Str → Option Value) : Prop where
  whole : Df K mg "is_whole" sWhole ["value"]
  index : Df K mg "is_index" sIndex ["value", "count"]
  isPerm : Df K mg "is_permutation" sIsPerm ["value"]
  ckP : Df K mg "_check" sCheckPerm ["value"]
  inverse : Df K mg "inverse" sInverse ["permutation"]
  cycles : Df K mg "cycles" sCycles ["permutation"]
  even : Df K mg "is_even" sEven ["permutation"]
  ck : Df K mg "check_state" sCheckState ["network", "state"]
  isStep : Df K mg "is_step" sIsStep ["network", "place", "value"]
  afS : Df K mg "after_step" sAfterStep ["network", "state", "step"]
  isPassage : Df K mg "_is_passage" sIsPassage ["value", "places"]
  firstWrong : Df K mg "_first_wrong" sFirstWrong ["values", "places"]
  least : Df K mg "_least_joined" sLeast ["places", "passages"]
  conn : Df K mg "_is_connected" sConn ["places", "passages"]
  fault : Df K mg "_fault" sFault ["places", "passages"]
  bridges : Df K mg "_find_bridges" sBridges ["places", "passages"]
  cells : Df K mg "_find_cells" sCells ["places", "passages", "bridges"]
  exits : Df K mg "_find_exits" sExits ["places", "passages"]
  mixed : Df K mg "_law_mixed" sMixed ["_law_cell", "_law_n"]
  folded : Df K mg "_law_folded" sFolded ["_law_script"]
  draw : Df K mg "_law_draw" sDraw ["_law_m", "_law_top_here"]
  begun : Df K mg "_law_begun" sBegun ["_law_script"]
  mixedUp : Df K mg "_law_mixed_up" sMixedUp ["_law_m", "_law_things"]
  tie : Df K mg "_law_tie" sTie ["_law_one", "_law_far"]
  tree : Df K mg "_law_tree" sTree ["_law_m", "_law_many", "_law_low"]
  ring : Df K mg "_law_ring" sRing ["_law_spots"]
  core : Df K mg "_law_core" sCore ["_law_m"]
  shifted : Df K mg "_law_shifted" sShifted ["_law_ties_here", "_law_low", "_law_hinge"]
  top : Df K mg "_law_top" sTop ["_law_ties_here"]
  renamed : Df K mg "_law_renamed" sRenamed ["_law_m", "_law_many", "_law_ties_here"]
  ties : Df K mg "_law_ties" sTies ["_law_m", "_law_cores", "_law_tails", "_law_more"]
  doors : Df K mg "_law_doors" sDoors ["_law_ties_here", "_law_here"]
  moved : Df K mg "_law_moved" sMoved ["_law_ties_here", "_law_here", "_law_things", "_law_at"]
  lafter : Df K mg "_law_after" sAfter ["_law_ties_here", "_law_base", "_law_road_here"]
  road : Df K mg "_law_road" sRoad ["_law_m", "_law_ties_here", "_law_here", "_law_many"]
  told : Df K mg "_law_told" sTold ["_law_net", "_law_spot", "_law_road_here"]
  due : Df K mg "_law_due" sDue ["_law_ties_here", "_law_spot", "_law_road_here"]
  kept : Df K mg "_law_kept" sKept ["_law_net", "_law_base", "_law_road_here"]
  sr : Df K mg "_law_short_right" sShortRight ["_law_m", "_law_net", "_law_ties_here", "_law_spot", "_law_road_here"]
  lr : Df K mg "_law_long_right" sLongRight ["_law_net", "_law_ties_here", "_law_spot", "_law_road_here"]
  ar : Df K mg "_law_arrangement_right" sArrangementRight ["_law_net", "_law_ties_here", "_law_base", "_law_road_here"]
  br : Df K mg "_law_bare_right" sBareRight []
structure Ss (K : PySem.W.Frag) (mg : Str → Option Value) : Prop where
  compose : DfS K mg "compose" sCompose
  trace : DfS K mg "trace" sTraceP
  after : DfS K mg "after" sAfterP
  back : DfS K mg "back" sBackP
  effect : DfS K mg "effect" sEffectP
/-- the methods -/
structure Ms (K : PySem.W.Frag) (C : Addr) : Prop where
  len : Dm K C "__len__" "Network.__len__" sLenP ["self"]
  far : Dm K C "far_end" "Network.far_end" sFarEnd ["self", "passage", "place"]
  across : Dm K C "_across" "Network._across" sAcross ["self", "passage", "place"]
  pl : PrD K C "places" "Network.places" sGetPl
  pa : PrD K C "passages" "Network.passages" sGetPa
  st : PrD K C "start" "Network.start" sGetSt
/-- the class's own -/
structure NetD (K : PySem.W.Frag) (mg : Str → Option Value) (C : Addr) : Prop where
  N : NetC K mg C (.type "type")
  init : ∃ (f : Addr) (fd : FuncData), Mk K C f ∧ Fun K "__init__" "Network.__init__" sInit f fd ∧ L2.Binds K fd ["self", "places", "passages"] []
theorem scGetPl : FnScope ["self"] ["self"] (defScope sGetPl) := ⟨rfl, rfl, rfl, by decide +kernel, rfl, by decide +kernel, by decide +kernel⟩
theorem scGetSt : FnScope ["self"] ["self"] (defScope sGetSt) := ⟨rfl, rfl, rfl, by decide +kernel, rfl, by decide +kernel, by decide +kernel⟩
theorem scGetPa : FnScope ["self"] ["self"] (defScope sGetPa) := ⟨rfl, rfl, rfl, by decide +kernel, rfl, by decide +kernel, by decide +kernel⟩
section
variable {P : Program} {w : World} {K : PySem.W.Frag} {mg : Str → Option Value} {base : Heap}
theorem ok_getPl {C : Addr} (cl : Cls K C) (n : NoAttr K C "_places") (D : PrD K C "places" "Network.places" sGetPl) : PrG P w K mg base C "places" "_places" := by
  obtain ⟨p, g, fd, h, F, b⟩ := D.ex
  refine ⟨p, g, fd, h, F.ok scGetPl (fun vs H Q E h => ?_) (fun cdv A outer s H vs Q E hr h => ?_), b⟩
  · obtain ⟨a, dx, fs, v, rfl, _⟩ := h
    rfl
  · obtain ⟨a, dx, fs, v, rfl, ea, l, q⟩ := h
    exact ⟨_, pss_one (ps_ret (pe_fld (pv 0) rfl)), _, rfl, a, C, dx, fs, v, rfl, ea, cl, n, l, q⟩
theorem ok_getPa {C : Addr} (cl : Cls K C) (n : NoAttr K C "_passages") (D : PrD K C "passages" "Network.passages" sGetPa) : PrG P w K mg base C "passages" "_passages" := by
  obtain ⟨p, g, fd, h, F, b⟩ := D.ex
  refine ⟨p, g, fd, h, F.ok scGetPa (fun vs H Q E h => ?_) (fun cdv A outer s H vs Q E hr h => ?_), b⟩
  · obtain ⟨a, dx, fs, v, rfl, _⟩ := h
    rfl
  · obtain ⟨a, dx, fs, v, rfl, ea, l, q⟩ := h
    exact ⟨_, pss_one (ps_ret (pe_fld (pv 0) rfl)), _, rfl, a, C, dx, fs, v, rfl, ea, cl, n, l, q⟩
theorem ok_getSt {C : Addr} (cl : Cls K C) (n : NoAttr K C "_start") (D : PrD K C "start" "Network.start" sGetSt) : PrG P w K mg base C "start" "_start" := by
  obtain ⟨p, g, fd, h, F, b⟩ := D.ex
  refine ⟨p, g, fd, h, F.ok scGetSt (fun vs H Q E h => ?_) (fun cdv A outer s H vs Q E hr h => ?_), b⟩
  · obtain ⟨a, dx, fs, v, rfl, _⟩ := h
    rfl
  · obtain ⟨a, dx, fs, v, rfl, ea, l, q⟩ := h
    exact ⟨_, pss_one (ps_ret (pe_fld (pv 0) rfl)), _, rfl, a, C, dx, fs, v, rfl, ea, cl, n, l, q⟩
theorem lw_of {C : Addr} (T : Txt mg) (D : Ds K mg) (S : Ss K mg) (M : Ms K C) (N : NetD K mg C) : LwC P w K mg base C := by
  have c1 : Cal P w K mg base "is_whole" 1 spWhole := cal_whole T D.whole
  have c2 : Cal P w K mg base "is_index" 2 spIndex := cal_index T c1 D.index
  have c3 : Cal P w K mg base "_is_passage" 3 spIsPassage := cal_isPassage T c2 D.isPassage
  have c4 : Cal P w K mg base "_first_wrong" 4 spFirstWrong := cal_firstWrong T c3 D.firstWrong
  have c5 : Cal P w K mg base "_least_joined" 1 spLeast := cal_least T D.least
  have c6 : Cal P w K mg base "_is_connected" 2 spConn := cal_conn T c5 D.conn
  have c7 : Cal P w K mg base "_fault" 5 spFault := cal_fault T N.N c1 c4 c6 D.fault
  have c8 : Cal P w K mg base "_find_bridges" 3 spBridges := cal_bridges T c6 D.bridges
  have c9 : Cal P w K mg base "_find_cells" 2 spCells := cal_cells T c5 D.cells
  have c10 : Cal P w K mg base "_find_exits" 1 spExits5 := cal_exits5 T D.exits
  have NF : NetF P w K mg base := ⟨c7, c8, c9, c10⟩
  obtain ⟨f, fd, Mk1, F, b⟩ := N.init
  have ma : MC P w K mg base CX0 C "_across" 1 (spAcross C) := mc_across T N.N M.across
  have mf : MC P w K mg base CX0 C "far_end" 3 (spFar C) := mc_far T N.N c2 c1 ma M.far
  have ml : MC P w K mg base CX0 C "__len__" 1 (spLenM C) := mc_len T N.N M.len
  have NO : NetO P w K mg base C := ⟨N.N.cl, N.N.gC, ⟨f, fd, Mk1, ok_init5 T N.N NF F, b⟩⟩
  have pm : Cal P w K mg base "is_permutation" 3 spIsPerm := cal_isPerm T c2 D.isPerm
  have MV : MvC P w K mg base C := ⟨N.N.cl, ok_getPl N.N.cl N.N.n1 M.pl, ok_getPa N.N.cl N.N.n2 M.pa, ml, mf, c2, pm⟩
  have TR : TrC P w K mg base C := ⟨cal_ckS T MV D.ck, cal_isStep T MV D.isStep, cal_afS T MV D.afS⟩
  have tr_ : CalX P w K mg base "trace" 5 (spTrace C) := calx_trace T TR S.trace
  have af : Cal P w K mg base "after" 7 (spAfter C) := cal_after T tr_ S.after
  have bk : Cal P w K mg base "back" 1 spBack := cal_back S.back
  have cp : Cal P w K mg base "_check" 4 spCkP := cal_ckP pm D.ckP
  have iv : Cal P w K mg base "inverse" 5 spInverse := cal_inverse T cp D.inverse
  have cy : Cal P w K mg base "cycles" 5 spCycles := cal_cycles T cp D.cycles
  have ev : Cal P w K mg base "is_even" 6 spEven := cal_even T cy D.even
  have cm : Cal P w K mg base "compose" 5 spCompose := cal_compose T cp S.compose
  have EF : EfC P w K mg base C := ⟨N.N.cl, MV.pl, ok_getSt N.N.cl N.N.n3 M.st, c2, iv, af⟩
  have ef : Cal P w K mg base "effect" 8 (spEff C) := cal_eff T EF S.effect
  have ek : CalK P w K mg base "effect" 8 ["network", "place"] (spEffK C) := cal_effK T EF S.effect
  have mx : Cal P w K mg base "_law_mixed" 1 spMixed := cal_mixed D.mixed
  have fo : Cal P w K mg base "_law_folded" 1 (spFolded K) := cal_folded T D.folded
  have dr : Cal P w K mg base "_law_draw" 2 spDraw := cal_draw T mx D.draw
  have bg : Cal P w K mg base "_law_begun" 2 (spBegun K) := cal_begun T fo D.begun
  have mu : Cal P w K mg base "_law_mixed_up" 3 (spMixedUp K) := cal_mixedUp T dr D.mixedUp
  have ti : Cal P w K mg base "_law_tie" 1 spTie := cal_tie T D.tie
  have tr : Cal P w K mg base "_law_tree" 3 spTree := cal_tree T ti dr D.tree
  have ri : Cal P w K mg base "_law_ring" 2 (spRing K) := cal_ring T ti D.ring
  have co : Cal P w K mg base "_law_core" 3 spCore := cal_core T dr ri D.core
  have sh : Cal P w K mg base "_law_shifted" 2 spShifted := cal_shifted T ti D.shifted
  have tp : Cal P w K mg base "_law_top" 1 spTop := cal_top T D.top
  have rn : Cal P w K mg base "_law_renamed" 4 spRenamed := cal_renamed T ti mu D.renamed
  have ts : Cal P w K mg base "_law_ties" 5 spTies := cal_ties T ⟨ti, dr, tp, co, sh, tr, rn⟩ D.ties
  have ds : Cal P w K mg base "_law_doors" 1 spDoors := cal_doors T D.doors
  have mv : Cal P w K mg base "_law_moved" 1 spMoved := cal_moved T D.moved
  have la : Cal P w K mg base "_law_after" 2 (spLAfter K) := cal_lafter T mv D.lafter
  have ro : Cal P w K mg base "_law_road" 3 spRoad := cal_road T ds dr D.road
  have mvF : Cal P w K mg base "_law_moved" 1 spMovedF := cal_movedF T D.moved
  have laF : Cal P w K mg base "_law_after" 2 (spLAfterF K) := cal_lafterF T mvF D.lafter
  have to : Cal P w K mg base "_law_told" 9 (spTold C) := cal_told T ef D.told
  have du : Cal P w K mg base "_law_due" 3 spDue := cal_due T laF D.due
  have ke : Cal P w K mg base "_law_kept" 8 (spKept C) := cal_kept T af D.kept
  exact ⟨NO, bg, dr, ts, ro, mu, cal_br T NO ef af D.br, cal_sr T ⟨du, la, to, ek, iv, ev, bk, ro, cm⟩ D.sr, cal_lr T ⟨du, ef, ev, cm⟩ D.lr, cal_ar T ⟨du, ke, la, af⟩ D.ar⟩
end
theorem law_mk {l : PySem.W.OpenLaw} {w : World} {K : PySem.W.Frag} {h : Heap} {mg : Str → Option Value} {fa f : Addr} {C : Addr} (X : K.In h) (G : h.Ns mainGlobals mg) (hfa : mg "law" = some (.ref fa)) {oc : Value} {od an : Option Addr} {osl : Array (Option Value)} {kV doc pm cdv ct : Value}
    (a : PySem.W.nsIn K mainGlobals "law" = some (some (.ref f))) (l1 : K.lookup f = some ⟨oc, od, .func (PySem.W.fnOf "law" "law" (defArgs sLaw) (defBody sLaw) (defScope sLaw) .none kV doc pm an cdv ct), osl⟩) (c : PySem.W.codeIn K cdv "law" = true) (k : PySem.W.keepIn K (.ref f) = true)
    (T : Txt mg) (N : NetD K mg C) (M : Ms K C) (D : Ds K mg) (S : Ss K mg) :
    ∃ fd : FuncData, (∀ (s : Shared) (v : Value), BindsTo s fd ⟨[v], []⟩ [("_law_script", v)]) ∧ ∀ base : Heap, K.In base → base.Ns mainGlobals mg → FnG l.prog w K mg base 11 fa fd ["_law_script"] (spLaw K) := by
  have e := hfa.symm.trans (PySem.W.mg_of X G a)
  cases e
  exact ⟨_, fun s v => .of_eq rfl, fun base _ _ => ok_law T (lw_of T D S M N) (fun_mk (st := sLaw) l1 c k)⟩
/-- the class, from what stands in the text -/
theorem netd_mk {K : PySem.W.Frag} {h : Heap} {mg : Str → Option Value} (X : K.In h) (G : h.Ns mainGlobals mg) {C f : Addr} {t1 t2 : Tok}
    {oc : Value} {od an : Option Addr} {osl : Array (Option Value)} {kV doc pm cdv ct : Value}
    (a : PySem.W.nsIn K mainGlobals "Network" = some (some (.ref C)))
    (rd : PySem.W.readsIn K C (.type "type") = true) (ga : PySem.W.specialIn K (.ref C) "__getattribute__" = some (some (.builtin "type.__getattribute__")))
    (mp : PySem.W.findCls K (.ref C) (.type "type") "MAX_PLACES" = some (.val (.int 12 t1))) (ms : PySem.W.findCls K (.ref C) (.type "type") "MAX_PASSAGES" = some (.val (.int 16 t2)))
    (pg : PySem.W.plainGet K C Str.empty = true) (hd : PySem.W.hasDictIn K C = true) (po : PySem.W.plainOver K C = true) (sa : PySem.W.findIn K (.ref C) "__setattr__" = some (some (.builtin "object.__setattr__")))
    (n1 : PySem.W.findIn K (.ref C) "_places" = some none) (n2 : PySem.W.findIn K (.ref C) "_passages" = some none) (n3 : PySem.W.findIn K (.ref C) "_start" = some none)
    (n4 : PySem.W.findIn K (.ref C) "_bridges" = some none) (n5 : PySem.W.findIn K (.ref C) "_cells" = some none) (n6 : PySem.W.findIn K (.ref C) "_exits" = some none)
    (m1 : PySem.W.makesIn K C = true) (m2 : PySem.W.findIn K (.ref C) "__init__" = some (some (.ref f))) (m3 : PySem.W.isFn K (.ref f) = true) (m4 : PySem.W.keepIn K (.ref C) = true)
    (l1 : K.lookup f = some ⟨oc, od, .func (PySem.W.fnOf "__init__" "Network.__init__" (defArgs sInit) (defBody sInit) (defScope sInit) .none kV doc pm an cdv ct), osl⟩) (c1 : PySem.W.codeIn K cdv "Network.__init__" = true) (k1 : PySem.W.keepIn K (.ref f) = true) : NetD K mg C := by
  have F1 := fun_mk (st := sInit) l1 c1 k1
  refine ⟨⟨PySem.W.mg_of X G a, ⟨rd, ga⟩, ⟨_, mp, ⟨_, rfl⟩⟩, ⟨_, ms, ⟨_, rfl⟩⟩, ⟨pg, hd, po, sa⟩, n1, n2, n3, n4, n5, n6⟩, ⟨f, _, ⟨m1, m2, m3, m4⟩, F1, F1.binds fun _ _ _ _ _ _ us hl => ?_⟩⟩
  exact match us, hl with | [_, _, _], _ => rfl
end Hw

open PySem PySem.W PyProof.Rows
set_option maxHeartbeats 0 in
theorem PySem.Challenge.cw_handwalk_k10_whole_effects_do_not_depend_holds : PySem.Challenge.rw_handwalk_k10_whole_effects_do_not_depend.Holds := by
  w_on; o_law; k_head; (case hw => w_witness2)
  k_fill
  refine Hw.walk_G (l := PySem.Challenge.rw_handwalk_k10_whole_effects_do_not_depend) (n := 63) (k := 11) (x := "_law_script") (sp := fun w => Hw.spLaw _) rfl (by decide) rfl ⟨rfl, by decide, by decide⟩ (fun w h Y => PySem.W.kIn_of Y) ?F (fun _ _ a ns hl _ hS => ⟨a, ns, rfl, hS, hl, fun _ => rfl⟩)
  case F =>
    intro w mg fa h KX G hmg
    refine' Hw.law_mk KX G hmg ?a1 ?l1 ?c1 ?k1 ?T ?netd ?meths ?D ?S
    (case a1 => k_is); (case l1 => k_is); (case c1 => k_is); (case k1 => k_is)
    case T =>
      refine' ⟨PySem.W.mg_none_of KX G ?z1, PySem.W.mg_none_of KX G ?z2, PySem.W.mg_none_of KX G ?z3, PySem.W.mg_none_of KX G ?z4, PySem.W.mg_none_of KX G ?z5, PySem.W.mg_none_of KX G ?z6, PySem.W.mg_none_of KX G ?z7, PySem.W.mg_none_of KX G ?z8, PySem.W.mg_none_of KX G ?z9, PySem.W.mg_none_of KX G ?z10, PySem.W.mg_none_of KX G ?z11, PySem.W.mg_none_of KX G ?z12, PySem.W.mg_none_of KX G ?z13, PySem.W.mg_none_of KX G ?z14, PySem.W.mg_none_of KX G ?z15, PySem.W.mg_none_of KX G ?z16⟩
      all_goals k_is
    case netd =>
      refine' Hw.netd_mk KX G ?na ?nrd ?nga ?nmp ?nms ?npg ?nhd ?npo ?nsa ?nn1 ?nn2 ?nn3 ?nn4 ?nn5 ?nn6 ?nm1 ?nm2 ?nm3 ?nm4 ?nl1 ?nc1 ?nk1
      (case na => k_is)
      (case nrd => k_is)
      (case nga => k_is)
      (case nmp => k_is)
      (case nms => k_is)
      (case npg => k_is)
      (case nhd => k_is)
      (case npo => k_is)
      (case nsa => k_is)
      (case nn1 => k_is)
      (case nn2 => k_is)
      (case nn3 => k_is)
      (case nn4 => k_is)
      (case nn5 => k_is)
      (case nn6 => k_is)
      (case nm1 => k_is)
      (case nm2 => k_is)
      (case nm3 => k_is)
      (case nm4 => k_is)
      (case nl1 => k_is)
      (case nc1 => k_is)
      (case nk1 => k_is)
    case meths =>
      refine' ⟨Hw.dm_mk ?ma1 ?mi1 ?ml1 ?mc1 ?mk1 ?mb1, Hw.dm_mk ?ma2 ?mi2 ?ml2 ?mc2 ?mk2 ?mb2, Hw.dm_mk ?ma3 ?mi3 ?ml3 ?mc3 ?mk3 ?mb3, Hw.prd_mk ?pa1 ?pg1 ?pt1 ?pr1 ?pl1 ?pc1 ?pk1 ?pb1, Hw.prd_mk ?pa2 ?pg2 ?pt2 ?pr2 ?pl2 ?pc2 ?pk2 ?pb2, Hw.prd_mk ?pa3 ?pg3 ?pt3 ?pr3 ?pl3 ?pc3 ?pk3 ?pb3⟩
      (case ma1 => k_is); (case mi1 => k_is); (case ml1 => k_is); (case mc1 => k_is); (case mk1 => k_is); (case mb1 => exact fun _ _ _ _ _ _ us hl => match us, hl with | [_], _ => rfl)
      (case ma2 => k_is); (case mi2 => k_is); (case ml2 => k_is); (case mc2 => k_is); (case mk2 => k_is); (case mb2 => exact fun _ _ _ _ _ _ us hl => match us, hl with | [_, _, _], _ => rfl)
      (case ma3 => k_is); (case mi3 => k_is); (case ml3 => k_is); (case mc3 => k_is); (case mk3 => k_is); (case mb3 => exact fun _ _ _ _ _ _ us hl => match us, hl with | [_, _, _], _ => rfl)
      (case pa1 => k_is); (case pg1 => k_is); (case pt1 => k_is); (case pr1 => k_is); (case pl1 => k_is); (case pc1 => k_is); (case pk1 => k_is); (case pb1 => exact fun _ _ _ _ _ _ us hl => match us, hl with | [_], _ => rfl)
      (case pa2 => k_is); (case pg2 => k_is); (case pt2 => k_is); (case pr2 => k_is); (case pl2 => k_is); (case pc2 => k_is); (case pk2 => k_is); (case pb2 => exact fun _ _ _ _ _ _ us hl => match us, hl with | [_], _ => rfl)
      (case pa3 => k_is); (case pg3 => k_is); (case pt3 => k_is); (case pr3 => k_is); (case pl3 => k_is); (case pc3 => k_is); (case pk3 => k_is); (case pb3 => exact fun _ _ _ _ _ _ us hl => match us, hl with | [_], _ => rfl)
    case D =>
      refine' ⟨Hw.df_mk KX G ?a2 ?l2 ?c2 ?k2 ?b2, Hw.df_mk KX G ?a3 ?l3 ?c3 ?k3 ?b3, Hw.df_mk KX G ?a4 ?l4 ?c4 ?k4 ?b4, Hw.df_mk KX G ?a5 ?l5 ?c5 ?k5 ?b5, Hw.df_mk KX G ?a6 ?l6 ?c6 ?k6 ?b6, Hw.df_mk KX G ?a7 ?l7 ?c7 ?k7 ?b7, Hw.df_mk KX G ?a8 ?l8 ?c8 ?k8 ?b8, Hw.df_mk KX G ?a9 ?l9 ?c9 ?k9 ?b9, Hw.df_mk KX G ?a10 ?l10 ?c10 ?k10 ?b10, Hw.df_mk KX G ?a11 ?l11 ?c11 ?k11 ?b11, Hw.df_mk KX G ?a12 ?l12 ?c12 ?k12 ?b12, Hw.df_mk KX G ?a13 ?l13 ?c13 ?k13 ?b13, Hw.df_mk KX G ?a14 ?l14 ?c14 ?k14 ?b14, Hw.df_mk KX G ?a15 ?l15 ?c15 ?k15 ?b15, Hw.df_mk KX G ?a16 ?l16 ?c16 ?k16 ?b16, Hw.df_mk KX G ?a17 ?l17 ?c17 ?k17 ?b17, Hw.df_mk KX G ?a18 ?l18 ?c18 ?k18 ?b18, Hw.df_mk KX G ?a19 ?l19 ?c19 ?k19 ?b19, Hw.df_mk KX G ?a20 ?l20 ?c20 ?k20 ?b20, Hw.df_mk KX G ?a21 ?l21 ?c21 ?k21 ?b21, Hw.df_mk KX G ?a22 ?l22 ?c22 ?k22 ?b22, Hw.df_mk KX G ?a23 ?l23 ?c23 ?k23 ?b23, Hw.df_mk KX G ?a24 ?l24 ?c24 ?k24 ?b24, Hw.df_mk KX G ?a25 ?l25 ?c25 ?k25 ?b25, Hw.df_mk KX G ?a26 ?l26 ?c26 ?k26 ?b26, Hw.df_mk KX G ?a27 ?l27 ?c27 ?k27 ?b27, Hw.df_mk KX G ?a28 ?l28 ?c28 ?k28 ?b28, Hw.df_mk KX G ?a29 ?l29 ?c29 ?k29 ?b29, Hw.df_mk KX G ?a30 ?l30 ?c30 ?k30 ?b30, Hw.df_mk KX G ?a31 ?l31 ?c31 ?k31 ?b31, Hw.df_mk KX G ?a32 ?l32 ?c32 ?k32 ?b32, Hw.df_mk KX G ?a33 ?l33 ?c33 ?k33 ?b33, Hw.df_mk KX G ?a34 ?l34 ?c34 ?k34 ?b34, Hw.df_mk KX G ?a35 ?l35 ?c35 ?k35 ?b35, Hw.df_mk KX G ?a36 ?l36 ?c36 ?k36 ?b36, Hw.df_mk KX G ?a37 ?l37 ?c37 ?k37 ?b37, Hw.df_mk KX G ?a38 ?l38 ?c38 ?k38 ?b38, Hw.df_mk KX G ?a39 ?l39 ?c39 ?k39 ?b39, Hw.df_mk KX G ?a40 ?l40 ?c40 ?k40 ?b40, Hw.df_mk KX G ?a41 ?l41 ?c41 ?k41 ?b41, Hw.df_mk KX G ?a42 ?l42 ?c42 ?k42 ?b42, Hw.df_mk KX G ?a43 ?l43 ?c43 ?k43 ?b43⟩
      (case a2 => k_is); (case l2 => k_is); (case c2 => k_is); (case k2 => k_is); (case b2 => exact fun _ _ _ _ _ _ us hl => match us, hl with | [_], _ => rfl)
      (case a3 => k_is); (case l3 => k_is); (case c3 => k_is); (case k3 => k_is); (case b3 => exact fun _ _ _ _ _ _ us hl => match us, hl with | [_, _], _ => rfl)
      (case a4 => k_is); (case l4 => k_is); (case c4 => k_is); (case k4 => k_is); (case b4 => exact fun _ _ _ _ _ _ us hl => match us, hl with | [_], _ => rfl)
      (case a5 => k_is); (case l5 => k_is); (case c5 => k_is); (case k5 => k_is); (case b5 => exact fun _ _ _ _ _ _ us hl => match us, hl with | [_], _ => rfl)
      (case a6 => k_is); (case l6 => k_is); (case c6 => k_is); (case k6 => k_is); (case b6 => exact fun _ _ _ _ _ _ us hl => match us, hl with | [_], _ => rfl)
      (case a7 => k_is); (case l7 => k_is); (case c7 => k_is); (case k7 => k_is); (case b7 => exact fun _ _ _ _ _ _ us hl => match us, hl with | [_], _ => rfl)
      (case a8 => k_is); (case l8 => k_is); (case c8 => k_is); (case k8 => k_is); (case b8 => exact fun _ _ _ _ _ _ us hl => match us, hl with | [_], _ => rfl)
      (case a9 => k_is); (case l9 => k_is); (case c9 => k_is); (case k9 => k_is); (case b9 => exact fun _ _ _ _ _ _ us hl => match us, hl with | [_, _], _ => rfl)
      (case a10 => k_is); (case l10 => k_is); (case c10 => k_is); (case k10 => k_is); (case b10 => exact fun _ _ _ _ _ _ us hl => match us, hl with | [_, _, _], _ => rfl)
      (case a11 => k_is); (case l11 => k_is); (case c11 => k_is); (case k11 => k_is); (case b11 => exact fun _ _ _ _ _ _ us hl => match us, hl with | [_, _, _], _ => rfl)
      (case a12 => k_is); (case l12 => k_is); (case c12 => k_is); (case k12 => k_is); (case b12 => exact fun _ _ _ _ _ _ us hl => match us, hl with | [_, _], _ => rfl)
      (case a13 => k_is); (case l13 => k_is); (case c13 => k_is); (case k13 => k_is); (case b13 => exact fun _ _ _ _ _ _ us hl => match us, hl with | [_, _], _ => rfl)
      (case a14 => k_is); (case l14 => k_is); (case c14 => k_is); (case k14 => k_is); (case b14 => exact fun _ _ _ _ _ _ us hl => match us, hl with | [_, _], _ => rfl)
      (case a15 => k_is); (case l15 => k_is); (case c15 => k_is); (case k15 => k_is); (case b15 => exact fun _ _ _ _ _ _ us hl => match us, hl with | [_, _], _ => rfl)
      (case a16 => k_is); (case l16 => k_is); (case c16 => k_is); (case k16 => k_is); (case b16 => exact fun _ _ _ _ _ _ us hl => match us, hl with | [_, _], _ => rfl)
      (case a17 => k_is); (case l17 => k_is); (case c17 => k_is); (case k17 => k_is); (case b17 => exact fun _ _ _ _ _ _ us hl => match us, hl with | [_, _], _ => rfl)
      (case a18 => k_is); (case l18 => k_is); (case c18 => k_is); (case k18 => k_is); (case b18 => exact fun _ _ _ _ _ _ us hl => match us, hl with | [_, _, _], _ => rfl)
      (case a19 => k_is); (case l19 => k_is); (case c19 => k_is); (case k19 => k_is); (case b19 => exact fun _ _ _ _ _ _ us hl => match us, hl with | [_, _], _ => rfl)
      (case a20 => k_is); (case l20 => k_is); (case c20 => k_is); (case k20 => k_is); (case b20 => exact fun _ _ _ _ _ _ us hl => match us, hl with | [_, _], _ => rfl)
      (case a21 => k_is); (case l21 => k_is); (case c21 => k_is); (case k21 => k_is); (case b21 => exact fun _ _ _ _ _ _ us hl => match us, hl with | [_], _ => rfl)
      (case a22 => k_is); (case l22 => k_is); (case c22 => k_is); (case k22 => k_is); (case b22 => exact fun _ _ _ _ _ _ us hl => match us, hl with | [_, _], _ => rfl)
      (case a23 => k_is); (case l23 => k_is); (case c23 => k_is); (case k23 => k_is); (case b23 => exact fun _ _ _ _ _ _ us hl => match us, hl with | [_], _ => rfl)
      (case a24 => k_is); (case l24 => k_is); (case c24 => k_is); (case k24 => k_is); (case b24 => exact fun _ _ _ _ _ _ us hl => match us, hl with | [_, _], _ => rfl)
      (case a25 => k_is); (case l25 => k_is); (case c25 => k_is); (case k25 => k_is); (case b25 => exact fun _ _ _ _ _ _ us hl => match us, hl with | [_, _], _ => rfl)
      (case a26 => k_is); (case l26 => k_is); (case c26 => k_is); (case k26 => k_is); (case b26 => exact fun _ _ _ _ _ _ us hl => match us, hl with | [_, _, _], _ => rfl)
      (case a27 => k_is); (case l27 => k_is); (case c27 => k_is); (case k27 => k_is); (case b27 => exact fun _ _ _ _ _ _ us hl => match us, hl with | [_], _ => rfl)
      (case a28 => k_is); (case l28 => k_is); (case c28 => k_is); (case k28 => k_is); (case b28 => exact fun _ _ _ _ _ _ us hl => match us, hl with | [_], _ => rfl)
      (case a29 => k_is); (case l29 => k_is); (case c29 => k_is); (case k29 => k_is); (case b29 => exact fun _ _ _ _ _ _ us hl => match us, hl with | [_, _, _], _ => rfl)
      (case a30 => k_is); (case l30 => k_is); (case c30 => k_is); (case k30 => k_is); (case b30 => exact fun _ _ _ _ _ _ us hl => match us, hl with | [_], _ => rfl)
      (case a31 => k_is); (case l31 => k_is); (case c31 => k_is); (case k31 => k_is); (case b31 => exact fun _ _ _ _ _ _ us hl => match us, hl with | [_, _, _], _ => rfl)
      (case a32 => k_is); (case l32 => k_is); (case c32 => k_is); (case k32 => k_is); (case b32 => exact fun _ _ _ _ _ _ us hl => match us, hl with | [_, _, _, _], _ => rfl)
      (case a33 => k_is); (case l33 => k_is); (case c33 => k_is); (case k33 => k_is); (case b33 => exact fun _ _ _ _ _ _ us hl => match us, hl with | [_, _], _ => rfl)
      (case a34 => k_is); (case l34 => k_is); (case c34 => k_is); (case k34 => k_is); (case b34 => exact fun _ _ _ _ _ _ us hl => match us, hl with | [_, _, _, _], _ => rfl)
      (case a35 => k_is); (case l35 => k_is); (case c35 => k_is); (case k35 => k_is); (case b35 => exact fun _ _ _ _ _ _ us hl => match us, hl with | [_, _, _], _ => rfl)
      (case a36 => k_is); (case l36 => k_is); (case c36 => k_is); (case k36 => k_is); (case b36 => exact fun _ _ _ _ _ _ us hl => match us, hl with | [_, _, _, _], _ => rfl)
      (case a37 => k_is); (case l37 => k_is); (case c37 => k_is); (case k37 => k_is); (case b37 => exact fun _ _ _ _ _ _ us hl => match us, hl with | [_, _, _], _ => rfl)
      (case a38 => k_is); (case l38 => k_is); (case c38 => k_is); (case k38 => k_is); (case b38 => exact fun _ _ _ _ _ _ us hl => match us, hl with | [_, _, _], _ => rfl)
      (case a39 => k_is); (case l39 => k_is); (case c39 => k_is); (case k39 => k_is); (case b39 => exact fun _ _ _ _ _ _ us hl => match us, hl with | [_, _, _], _ => rfl)
      (case a40 => k_is); (case l40 => k_is); (case c40 => k_is); (case k40 => k_is); (case b40 => exact fun _ _ _ _ _ _ us hl => match us, hl with | [_, _, _, _, _], _ => rfl)
      (case a41 => k_is); (case l41 => k_is); (case c41 => k_is); (case k41 => k_is); (case b41 => exact fun _ _ _ _ _ _ us hl => match us, hl with | [_, _, _, _], _ => rfl)
      (case a42 => k_is); (case l42 => k_is); (case c42 => k_is); (case k42 => k_is); (case b42 => exact fun _ _ _ _ _ _ us hl => match us, hl with | [_, _, _, _], _ => rfl)
      (case a43 => k_is); (case l43 => k_is); (case c43 => k_is); (case k43 => k_is); (case b43 => exact fun _ _ _ _ _ _ us hl => match us, hl with | [], _ => rfl)
    case S =>
      refine' ⟨Hw.dfs_mk KX G ?sa1 ?sl1 ?sc1 ?sk1, Hw.dfs_mk KX G ?sa2 ?sl2 ?sc2 ?sk2, Hw.dfs_mk KX G ?sa3 ?sl3 ?sc3 ?sk3, Hw.dfs_mk KX G ?sa4 ?sl4 ?sc4 ?sk4, Hw.dfs_mk KX G ?sa5 ?sl5 ?sc5 ?sk5⟩
      (case sa1 => k_is); (case sl1 => k_is); (case sc1 => k_is); (case sk1 => k_is)
      (case sa2 => k_is); (case sl2 => k_is); (case sc2 => k_is); (case sk2 => k_is)
      (case sa3 => k_is); (case sl3 => k_is); (case sc3 => k_is); (case sk3 => k_is)
      (case sa4 => k_is); (case sl4 => k_is); (case sc4 => k_is); (case sk4 => k_is)
      (case sa5 => k_is); (case sl5 => k_is); (case sc5 => k_is); (case sk5 => k_is)
#print axioms PySem.Challenge.cw_handwalk_k10_whole_effects_do_not_depend_holds
